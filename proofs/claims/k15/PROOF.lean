import PyProof.Rows.All
import Wide.All
import OpenK.AllK
import Wide.FinOn
import Lean
import PyProof.EqAt
import PyProof.EqKinds
import PyProof.TupleCall
import PyProof.NeKinds
import PyProof.DictRoadsH
import KE.KIntText
import PyProof.StrLawsTight
import PyProof.CompFree
import PyProof.CompUse
import KE.KDictSum
import PyProof.Draws
import PyProof.EnumMake
import PyProof.EnumFor
import KE.KSortTup
import PyProof.TupleOfSeq
import KE.LcSums
import PyProof.ZipIter
import KE.KRevIter
import KE.KStateDown
import PyProof.ListRange
import KE.KMinKey
import KE.KRevSl
import PyProof.Conv_int_bool
import PyProof.AutoListH
import PyProof.Rows.StrItems
import KE.KLam
import PySem.Challenge.RW_pairtests_k15_next_tests
noncomputable section
set_option Elab.async false
set_option linter.all false
set_option bootstrap.genMatcherCode false
set_option compiler.extract_closed false
set_option maxRecDepth 100000
set_option maxHeartbeats 4000000
abbrev w4:=List (PySem.Addr × PySem.Obj)
abbrev w8:=PySem.Str->Option PySem.Value
abbrev zb:=PySem.Value->PySem.Shared->Prop
abbrev zd:=PySem.W.Frag
abbrev ze:=List (List Nat)
abbrev zg:=List PySem.Value
abbrev zi:=List Nat
abbrev zk:=List PySem.Str
abbrev zl:=List PySem.Expr
abbrev zn:=List PySem.Stmt
abbrev zt:=Array PySem.Value
abbrev zv:=Option PySem.Addr
abbrev zw:=Array (Option PySem.Value)
abbrev z0:=@PySem.wpAny_bind
abbrev ve:=@PySem.wpAny_pure
abbrev vi:=@List.mem_cons_of_mem
abbrev vj:=@List.mem_cons_self
abbrev vk:=@List.mem_append_left
abbrev vn:=@List.mem_append_right
abbrev vw:=@PySem.Heap.get?_push_of_some
abbrev vy:=@PySem.Heap.get?_push_size
abbrev vz:=@PySem.Heap.lt_size
abbrev vE:=@Nat.le_refl
abbrev vF:=@Nat.ne_of_lt
abbrev vS:=@Nat.ne_of_gt
abbrev vT:=@Nat.le_trans
abbrev v3:=@Nat.zero_le
abbrev v4:=@Nat.lt_of_lt_of_le
abbrev v6:=@decide_eq_true
abbrev ya:=@decide_eq_false
abbrev yb:=@PySem.Heap.get?_update_other
abbrev ye:=@PySem.Heap.get?_update_self
abbrev yf:=@List.length_filter_le
abbrev yk:=@Nat.lt_irrefl
abbrev vV:=@List.mem_cons
abbrev yi:=@List.getElem?_eq_some_iff
abbrev yl:=@List.mem_map
abbrev ym:=@List.mem_append
abbrev yn:=@List.mem_singleton
abbrev yo:=@Option.isSome_iff_exists
abbrev yv:=@List.all_eq_true
abbrev yy:=@List.mem_flatMap
abbrev yz:=@List.mem_filter
abbrev yA:=@List.mem_range
abbrev yB:=@PySem.wpAny_call_entry
abbrev yM:=@PySem.wpAny_callSpecial?_slot
abbrev yT:=@PyProof.Rows.callWith_type1
abbrev yY:=@PySem.wpAny_truthy_bool
abbrev yZ:=@PySem.wpAny_field
abbrev y0:=@Option.some.inj
abbrev y4:=@False.elim
abbrev y6:=@PySem.Heap.SameBut.update
abbrev y8:=@PySem.mem_of_lookup
abbrev y9:=@PySem.wpAny_setField
abbrev jb:=@PySem.wpAny_newObj_type
abbrev jh:=@PySem.wpAny_dictEntries
abbrev jn:=@PySem.wpAny_dictEpoch
abbrev jv:=@Nat.lt_succ_self
namespace L2
open PySem PySem.Spec PyProof.Rows
noncomputable def eE (s:Stmt):Arguments:=match s with
 | .FunctionDef _ a _ _ _ _ _ _ _ _=>a
 | _=>{ posonlyargs:=[],args:=[],vararg:=none,kwonlyargs:=[],kw_defaults:=[],kwarg:=none,defaults:=[] }
noncomputable def cT (s:Stmt):zn:=match s with
 | .FunctionDef _ _ b _ _ _ _ _ _ _=>b
 | _=>[]
noncomputable def aM (s:Stmt):Scope:=match s with
 | .FunctionDef _ _ _ _ _ _ sc _ _ _=>sc
 | _=>{ kind:=.function,names:=[],isGenerator:=false,isCoroutine:=false }
end L2
namespace Mi
open PySem L2
noncomputable abbrev gS (x:String) (k:Nat):Value:=.str (Str.ofString x) k
noncomputable abbrev gE (P:Params) (x:String) (k:Nat) (v:Value):DictEntry:=⟨PyData.keyHash P (Str.ofString x),.str (Str.ofString x) k,v⟩
def fO (x:Str) (st:Stmt) (m:Value) (a:Addr):Obj:=⟨.type "function",none,.func (PySem.W.fnOf x x (eE st) (cT st) (aM st) .none .none .none m none (.ref (a - 1)) .none),#[]⟩
end Mi
namespace Hs
open PySem PySem.W PySem.Calls PyProof.Rows
end Hs
namespace eQ
open PySem L2 Mi
noncomputable def top (i:Nat):Stmt:=PySem.Challenge.pw_pairtests_k15_next_tests.main.body.getD i (.Pass ⟨0,0,0,0⟩)
noncomputable def NB:zk:=[("is_whole":Str),("is_tuple":Str),("are_levels":Str),("is_setting":Str),("is_meeting":Str),("is_book":Str),("checked":Str),("meets":Str),("meets_any":Str),("all_rows":Str),("all_tests":Str),("is_row":Str),("is_test":Str),("check_tests":Str),("most_strength":Str),("check_book_and_strength":Str),("is_behind":Str),("meetings_among":Str),("meetings_of":Str),("met_by":Str),("possible":Str),("check_all":Str),("places_by_meeting":Str),("are_results":Str),("suspects":Str),("next_place":Str),("next_test":Str),("lists_by_results":Str),("parted":Str),("most_looked":Str),("_law_cell":Str),("_law_mix":Str),("_law_book":Str),("_law_rows":Str),("_law_meets":Str),("_law_tests":Str),("_law_meetings":Str),("_law_possible":Str),("_law_drawn":Str),("_law_strength":Str),("_law_next":Str),("law":Str)]
def FH:zk:=NB ++ [("check_list":Str)]
noncomputable def rv (k:Nat) (p r:zk):Nat × zk × zk:=(k,p,r)
def rws:List (Nat × zk × zk):=[rv 12 ["thing","least","most"] [],rv 13 ["thing","least","most"] [],rv 14 ["thing"] ["rows","level"],rv 15 ["levels","thing"] [],rv 16 ["levels","thing"] ["behind","pair"],rv 17 ["thing"] ["ban"],rv 18 ["book"] [],rv 19 ["row","meeting"] ["pair"],rv 20 ["row","meetings"] ["meeting"],rv 21 ["levels"] ["rows","level","longer","row","setting"],rv 22 ["book"] ["row"],rv 23 ["levels","thing"] ["setting","level"],rv 24 ["book","thing"] [],rv 26 ["book","tests"] [],rv 28 ["book"] [],rv 29 ["book","strength"] [],rv 30 ["pair","meeting"] [],rv 31 ["pairs","many"] ["meetings","step","longer","meeting","pair"],rv 32 ["test","strength"] [],rv 33 ["tests","strength"] ["met","test","meeting"],rv 34 ["book","strength"] [],rv 36 ["book","strength","tests"] [],rv 37 ["tests","strength"] ["places","place","test","meeting"],rv 39 ["tests","thing"] ["result"],rv 40 ["book","strength","tests","results"] ["places","faulty","place","result","meeting"],rv 41 ["meetings","places"] [],rv 42 ["book","strength","tests","results"] ["meetings","every","place"],rv 43 ["book","strength","tests"] ["places","lists","meeting"],rv 44 ["lists","places"] ["parts","meetings","place","meeting"],rv 45 ["book","strength","tests"] ["places","many","lists"],rv 47 ["_law_script","_law_k"] [],rv 48 ["_law_cell_here","_law_prime","_law_many"] [],rv 49 ["_law_script","_law_at"] ["_law_cell_here","_law_many","_law_levels","_law_k","_law_bans","_law_most","_law_seed","_law_things","_law_thing"],rv 50 ["_law_levels"] ["_law_found","_law_level","_law_more","_law_row","_law_setting"],rv 51 ["_law_test","_law_meeting"] ["_law_pair"],rv 52 ["_law_book_here"] ["_law_found","_law_row","_law_ban"],rv 53 ["_law_book_here","_law_strength_here"] ["_law_found","_law_row","_law_some","_law_thing","_law_setting","_law_one"],rv 54 ["_law_book_here","_law_strength_here"] ["_law_tests_here","_law_found","_law_one","_law_test"],rv 55 ["_law_script","_law_at","_law_book_here","_law_most"] ["_law_tests_here","_law_found","_law_k"],rv 56 ["_law_book_here","_law_cell_here"] [],rv 57 ["_law_some","_law_tests_here"] ["_law_best","_law_test","_law_many","_law_worst","_law_one"],rv 58 ["_law_script"] ["_law_book_here","_law_strength_here","_law_asked","_law_tests_here","_law_some","_law_fault","_law_results","_law_left","_law_most","_law_one","_law_mine","_law_rest","_law_many","_law_test","_law_other","_law_ban"]]
def IJ (i:Nat):Nat × zk × zk:=rws.getD i (25,[],[])
def An (i:Nat):Stmt:=top (IJ i).1
def view:Program:={ PySem.Challenge.pw_pairtests_k15_next_tests with main:={ PySem.Challenge.pw_pairtests_k15_next_tests.main with body:=[top 1,top 2,top 3,top 4,top 5,top 7,top 8,top 9,top 10,top 11,top 12,top 13,top 14,top 15,top 16,top 17,top 18,top 19,top 20,top 21,top 22,top 23,top 24,top 25,top 26,top 28,top 29,top 30,top 31,top 32,top 33,top 34,top 36,top 37,top 39,top 40,top 41,top 42,top 43,top 44,top 45,top 47,top 48,top 49,top 50,top 51,top 52,top 53,top 54,top 55,top 56,top 57,top 58] } }
noncomputable def w_:Stmt->Str
 | .FunctionDef x _ _ _ _ _ _ _ _ _=>x
 | _=>""
abbrev kC (i t a k:Nat):Obj:=⟨.type "code",none,.fields #[.str (w_ (top i)) t,.str (w_ (top i)) (t+1),gS "/claim/cut.py" (t+2),.int ((top i).pos.line:Nat) 0,.int ((L2.eE (top i)).args.length:Nat) 0,.int 0 0,.int 0 0,.int 3 0,.ref a,.bool true,.int 181 0,.ref (a+1),.none,.ref (a+2),.ref (a+3),.ref (a+4),.int (t+3+k:Nat) 0,.int ((top i).pos.line:Nat) 0,gS "/claim/cut.py" (t+4+k)],#[]⟩
abbrev kD (i t a:Nat):Obj:=⟨.type "code",none,.fields #[.str (w_ (top i)) t,.str (w_ (top i)) (t+1),gS "/claim/cut.py" (t+2),.int ((top i).pos.line:Nat) 0,.int ((L2.eE (top i)).args.length:Nat) 0,.int 0 0,.int 0 0,.int 3 0,.ref a,.bool true,.int 181 0,.ref (a+1),.none,.none,.none,.ref (a+2),.int (t+3:Nat) 0,.int ((top i).pos.line:Nat) 0,gS "/claim/cut.py" (t+4)],#[]⟩
noncomputable def ad (i:Nat):Addr:=[89,96,103,110,117,122,129,134,139,144,149,154,161,175,182,189,196,201,208,215,222,229,236,241,246,253,260,267,272,279,286,293,298,303,308,313,318,323,330,337,342,347,168].getD i 0
def QA (i:Nat):Value:=if i < 14 then gS "pairtests.books" 280 else if i < 21 then gS "pairtests.meetings" 407 else if i < 23 then gS "pairtests.covers" 465 else if i < 30 then gS "pairtests.faults" 488 else if i < 42 then gS "law_pairtests_k15_next_tests" 558 else gS "pairtests.books" 280
def oo (i:Nat):Obj:=fO (FH.getD i "law") (An i) (QA i) (ad i)
def heap (P:Params):zd:=[(3,⟨.type "dict",none,.dict #[gE P "__name__" 165 (gS "law_pairtests_k15_next_tests" 558),gE P "__doc__" 166 .none,gE P "__package__" 167 .none,gE P "__loader__" 168 (.builtin "__main__.__loader__#opaque"),gE P "__spec__" 169 .none,gE P "__annotations__" 170 (.ref 6),gE P "__builtins__" 171 (.ref 4),gE P "__file__" 173 (gS "/claim/cut.py" 172),gE P "__cached__" 174 .none,gE P "TestError" 206 (.ref 24),gE P "BadBook" 222 (.ref 37),gE P "BadStrength" 238 (.ref 49),gE P "BadTests" 263 (.ref 68),gE P "BadResults" 279 (.ref 80),gE P "MOST_THINGS" 283 (.int 6 282),gE P "MOST_SETTINGS" 285 (.int 4 284),gE P "MOST_ROWS" 287 (.int 400 286),gE P "MOST_BANS" 289 (.int 12 288),gE P "MOST_IN_MEETING" 291 (.int 3 290),gE P "is_whole" 300 (.ref 89),gE P "is_tuple" 309 (.ref 96),gE P "are_levels" 318 (.ref 103),gE P "is_setting" 326 (.ref 110),gE P "is_meeting" 336 (.ref 117),gE P "is_book" 342 (.ref 122),gE P "checked" 349 (.ref 129),gE P "meets" 355 (.ref 134),gE P "meets_any" 361 (.ref 139),gE P "all_rows" 367 (.ref 144),gE P "all_tests" 373 (.ref 149),gE P "is_row" 379 (.ref 154),gE P "is_test" 387 (.ref 161),gE P "check_list" 397 (.ref 168),gE P "check_tests" 406 (.ref 175),gE P "most_strength" 415 (.ref 182),gE P "check_book_and_strength" 423 (.ref 189),gE P "is_behind" 431 (.ref 196),gE P "meetings_among" 437 (.ref 201),gE P "meetings_of" 445 (.ref 208),gE P "met_by" 456 (.ref 215),gE P "possible" 464 (.ref 222),gE P "check_all" 475 (.ref 229),gE P "places_by_meeting" 487 (.ref 236),gE P "are_results" 495 (.ref 241),gE P "suspects" 501 (.ref 246),gE P "next_place" 514 (.ref 253),gE P "next_test" 527 (.ref 260),gE P "lists_by_results" 539 (.ref 267),gE P "parted" 545 (.ref 272),gE P "most_looked" 557 (.ref 279),gE P "_law_cell" 567 (.ref 286),gE P "_law_mix" 576 (.ref 293),gE P "_law_book" 582 (.ref 298),gE P "_law_rows" 588 (.ref 303),gE P "_law_meets" 594 (.ref 308),gE P "_law_tests" 600 (.ref 313),gE P "_law_meetings" 606 (.ref 318),gE P "_law_possible" 612 (.ref 323),gE P "_law_drawn" 625 (.ref 330),gE P "_law_strength" 633 (.ref 337),gE P "_law_next" 639 (.ref 342),gE P "law" 645 (.ref 347)] 62,#[]⟩),(23,⟨.type "dict",none,.dict #[gE P "__module__" 196 (gS "pairtests.errors" 187),gE P "__firstlineno__" 200 (.int 2 199),gE P "__static_attributes__" 201 (.ref 22),gE P "__weakref__" 203 (.ref 25),gE P "__doc__" 204 .none] 3,#[]⟩),(24,⟨.type "type",none,.cls { name:=(Str.ofString "TestError"),bases:=[.type "ValueError"],mro:=[.ref 24,.type "ValueError",.type "Exception",.type "BaseException",.type "object"],ns:=23,qualname:=(Str.ofString "TestError"),hasDict:=true,slotNames:=[],subclasses:=[.ref 37,.ref 49,.ref 68,.ref 80],abstract:=false,collection:=none,hasDel:=false },#[some (.ref 15),none,some (gS "TestError" 189),some (gS "TestError" 197),some (.builtin "ValueError.__new__"),some (.bool true)]⟩),(88,kC 12 292 83 3),(89,oo 0),(95,kC 13 301 90 3),(96,oo 1),(102,kC 14 310 97 3),(103,oo 2),(109,kC 15 319 104 2),(110,oo 3),(116,kC 16 327 111 4),(117,oo 4),(121,kD 17 337 118),(122,oo 5),(128,kC 18 343 123 1),(129,oo 6),(133,kD 19 350 130),(134,oo 7),(138,kD 20 356 135),(139,oo 8),(143,kD 21 362 140),(144,oo 9),(148,kD 22 368 145),(149,oo 10),(153,kD 23 374 150),(154,oo 11),(160,kC 24 380 155 2),(161,oo 12),(167,kC 25 388 162 4),(168,oo 42),(174,kC 26 398 169 3),(175,oo 13),(181,kC 28 409 176 1),(182,oo 14),(188,kC 29 416 183 2),(189,oo 15),(195,kC 30 424 190 2),(196,oo 16),(200,kD 31 432 197),(201,oo 17),(207,kC 32 438 202 2),(208,oo 18),(214,kC 33 446 209 5),(215,oo 19),(221,kC 34 457 216 2),(222,oo 20),(228,kC 36 467 223 3),(229,oo 21),(235,kC 37 476 230 6),(236,oo 22),(240,kD 39 490 237),(241,oo 23),(245,kD 40 496 242),(246,oo 24),(252,kC 41 502 247 7),(253,oo 25),(259,kC 42 515 254 7),(260,oo 26),(266,kC 43 528 261 6),(267,oo 27),(271,kD 44 540 268),(272,oo 28),(278,kC 45 546 273 6),(279,oo 29),(285,kC 47 560 280 2),(286,oo 30),(292,kC 48 568 287 3),(293,oo 31),(297,kD 49 577 294),(298,oo 32),(302,kD 50 583 299),(303,oo 33),(307,kD 51 589 304),(308,oo 34),(312,kD 52 595 309),(313,oo 35),(317,kD 53 601 314),(318,oo 36),(322,kD 54 607 319),(323,oo 37),(329,kC 55 613 324 7),(330,oo 38),(336,kC 56 626 331 2),(337,oo 39),(341,kD 57 634 338),(342,oo 40),(346,kD 58 640 343),(347,oo 41)]
noncomputable def QE:List Addr:=[3,23,24,88,89,95,96,102,103,109,110,116,117,121,122,128,129,133,134,138,139,143,144,148,149,153,154,160,161,167,168,174,175,181,182,188,189,195,196,200,201,207,208,214,215,221,222,228,229,235,236,240,241,245,246,252,253,259,260,266,267,271,272,278,279,285,286,292,293,297,298,302,303,307,308,312,313,317,318,322,323,329,330,336,337,341,342,346,347]
def hook:PySem.W.Hook:=PySem.W.kHook heap QE (fun _=>rfl)
theorem left:PySem.W.LeftO PySem.Challenge.pw_pairtests_k15_next_tests view [] (fun s=>PySem.W.xlAt eQ.view [] s && PySem.W.recOk (PySem.W.RowW.records (PySem.W.OpenRow.toRowW PySem.Challenge.rw_pairtests_k15_next_tests.row)) s) (PySem.W.Hook.obs hook) (PySem.W.Hook.val hook) 4976:=fun w=>by kernel_rfl
end eQ
set_option genInjectivity false
set_option genSizeOfSpec false
namespace L2
open PySem PySem.Spec PyProof.Rows
noncomputable abbrev Key:=Sum Int Str
noncomputable def uy:Key->Value->Bool
 | .inl k,v=>Value.isInt k v
 | .inr x,v=>Value.isStrOf x v
noncomputable def QH (w:World):Key->Int
 | .inl k=>hashInt k
 | .inr x=>hashStr w x
theorem cZ:∀ {k:Key}{v:Value},uy k v=true->(∃ i t,k=Sum.inl i/\v=Value.int i t)\/(∃ x t,k=Sum.inr x/\v=Value.str x t)
 | .inl i,v,h=>by
  obtain ⟨t,e⟩:=Value.isInt_shape (k:=i) (v:=v) h;exact .inl ⟨i,t,rfl,e⟩
 | .inr x,v,h=>by
  obtain ⟨t,e⟩:=Value.isStrOf_shape (x:=x) (v:=v) h;exact .inr ⟨x,t,rfl,e⟩
def Qi (i:Int) (t:Tok):uy (.inl i) (.int i t)=true:=by simp [uy,Value.isInt]
def Pg (x:Str) (t:Tok):uy (.inr x) (.str x t)=true:=by simp [uy,Value.isStrOf]
def Zh (a b:Int):decide ((Sum.inl a:Key)=Sum.inl b)=(a == b):=by
 by_cases e:a=b
 .subst e;simp
 .have h:¬ (Sum.inl a:Key)=Sum.inl b:=fun q=>e (Sum.inl.inj q)
  rw [decide_eq_false h];exact (beq_eq_false_iff_ne.mpr e).symm
def Ye (a b:Str):decide ((Sum.inr a:Key)=Sum.inr b)=decide (a=b):=by
 by_cases e:a=b
 .subst e;simp
 .have h:¬ (Sum.inr a:Key)=Sum.inr b:=fun q=>e (Sum.inr.inj q)
  rw [decide_eq_false h,decide_eq_false e]
def Yx (a:Int) (b:Str):decide ((Sum.inl a:Key)=Sum.inr b)=false:=ya (fun q=>nomatch q)
def Yd (a:Str) (b:Int):decide ((Sum.inr a:Key)=Sum.inl b)=false:=ya (fun q=>nomatch q)
def cU (prog:Program) (w:World):PySem.KeyKind prog w Key where
 is:=uy
 hash:=QH w
 inj:=fun v a b ha hb=>by
  rcases cZ ha with ⟨i,t,rfl,rfl⟩ | ⟨x,t,rfl,rfl⟩
  .rcases cZ hb with ⟨j,u,rfl,e⟩ | ⟨y,u,rfl,e⟩
   .injection e with e1 _;rw [e1]
   .exact nomatch e
  .rcases cZ hb with ⟨j,u,rfl,e⟩ | ⟨y,u,rfl,e⟩
   .exact nomatch e
   .injection e with e1 _;rw [e1]
 byValue:=fun k v h=>by
  rcases cZ h with ⟨i,t,rfl,rfl⟩ | ⟨x,t,rfl,rfl⟩ <;> rfl
 pyHash:=fun hv h=>by
  rcases cZ hv with ⟨i,t,rfl,rfl⟩ | ⟨x,t,rfl,rfl⟩
  .exact wpAny_pyHash_int h
  .exact wpAny_pyHash_str h
 eqBool:=fun hu hv h=>by
  rcases cZ hu with ⟨i,t,rfl,rfl⟩ | ⟨x,t,rfl,rfl⟩
  .rcases cZ hv with ⟨j,u,rfl,rfl⟩ | ⟨y,u,rfl,rfl⟩
   .rw [Zh] at h;exact wpAny_eqBool_int h
   .rw [Yx] at h;exact SeqAt.EqAt.int_str i t y u _ _ _ _ h
  .rcases cZ hv with ⟨j,u,rfl,rfl⟩ | ⟨y,u,rfl,rfl⟩
   .rw [Yd] at h;exact SeqAt.EqAt.str_int x t j u _ _ _ _ h
   .rw [Ye] at h;exact wpAny_eqBool_str h
 «strs»:=fun k x t v h=>by
  rcases cZ h with ⟨i,u,rfl,e⟩ | ⟨y,u,rfl,e⟩
  .exact nomatch e
  .injection e with e1 _;subst e1;cases v <;> rfl
def Jh (prog:Program) (w:World) (i:Int) (t:Tok):(cU prog w).is (.inl i) (.int i t)=true:=Qi i t
def IW (prog:Program) (w:World) (x:Str) (t:Tok):(cU prog w).is (.inr x) (.str x t)=true:=Pg x t
inductive V where
 | ai | bl (b:Bool) | int (i:Int) | str (x:Str) | CI (b:Array UInt8) | BY (b:UInt64) | ref (a:Addr) | ty (n:String)
 deriving DecidableEq
def RelV:V->Value->Prop
 | .ai,u=>u=Value.none
 | .bl b,u=>u=Value.bool b
 | .int i,u=>∃ t,u=Value.int i t
 | .str x,u=>∃ t,u=Value.str x t
 | .CI b,u=>∃ t,u=Value.bytes b t
 | .BY b,u=>∃ t,u=Value.float b t
 | .ref a,u=>u=Value.ref a
 | .ty n,u=>u=Value.type n
abbrev Vals:List V->zg->Prop:=Paired RelV
variable {xs:List V}{us:zg}
def Vals.length (r:Vals xs us):xs.length=us.length:=Paired.length r
theorem Vals.get:∀ {xs:List V}{us:zg}{i:Nat}{x:V},Vals xs us->xs[i]?=some x->∃ u,us[i]?=some u/\RelV x u
 | _,_,_,_,.nil,e=>by simp at e
 | _,_,0,_,.cons r _,e=>by simp at e;subst e;exact ⟨_,rfl,r⟩
 | _,_,i+1,x,.cons _ t,e=>by
  obtain ⟨u,h1,h2⟩:=Vals.get (i:=i) (x:=x) t (by simpa using e);exact ⟨u,by simpa using h1,h2⟩
theorem Vals.append:∀ {xs ys:List V}{us ws:zg},Vals xs us->Vals ys ws->Vals (xs++ys) (us++ws)
 | _,_,_,_,.nil,s=>s
 | _,_,_,_,.cons r t,s=>.cons r (Vals.append t s)
theorem Vals.take:∀ {xs:List V}{us:zg} (n:Nat),Vals xs us->Vals (xs.take n) (us.take n)
 | _,_,0,_=>.nil
 | _,_,_+1,.nil=>.nil
 | _,_,n+1,.cons r t=>.cons r (Vals.take n t)
theorem Vals.drop:∀ {xs:List V}{us:zg} (n:Nat),Vals xs us->Vals (xs.drop n) (us.drop n)
 | _,_,0,r=>r
 | _,_,_+1,.nil=>.nil
 | _,_,n+1,.cons _ t=>Vals.drop n t
def mj:Option V->Option Value->Prop
 | some v,some u=>RelV v u
 | none,none=>True
 | _,_=>False
def KV {κ:Type}:List (κ × V)->List (κ × Value)->Prop:=Paired fun (p:κ × V) (q:κ × Value)=>p.1=q.1/\RelV p.2 q.2
noncomputable def kV:Key->V
 | .inl i=>.int i
 | .inr x=>.str x
inductive HO where
 /-- a list -/
 | lst (xs:List V)
 /-- a tuple (never changes) -/
 | tup (xs:List V)
 /-- a dict CL keys are ints and texts;one CL keys are tuples of ints and texts (Ap empty one is both) -/
 | dK (ah:List (Key × V)) | dT (ah:List (List Key × V))
 /-- a set of ints: its members,its size -/
 | set (S:Int->Bool) (n:Nat)
 /-- an instance of Ap class at C,its dict at dx,its attributes -/
 | ins (C dx:Addr) (fs:List (Str × V))
 /-- Ap dict of Ap instance at x -/
 | own (x:Addr)
 /-- Ap dict of an exception -/
 | xd (fs:List (Str × V))
 /-- a bound method,f of x -/
 | met (f x:Addr)
 /-- a range object lo,lo+1,.. below hi -/
 | jS (lo hi:Int)
 /-- a CM QI is known to Ap object (Ap IL;a dict while a loop walks it): read,never written while it is so -/
 | br (o:Obj) (u:HO)
 /-- a code CS table -/
 | kz (ps:zt)
 /-- any other CM,by QN is true of its one object (a def of NC own: QO a S n:=HO.ext fun h=>..) -/
 | ext (φ:Heap->Prop)
abbrev Hp:=Addr->Option HO
noncomputable def upd (H:Hp) (a:Addr) (o:HO):Hp:=fun b=>if b=a then some o else H b
variable {H:Hp}{a:Addr}{o:HO}
def aC :upd H a o a=some o:=by unfold upd;rw [if_pos rfl]
variable {b:Addr}
def ak (h:b≠a):upd H a o b=H b:=by unfold upd;rw [if_neg h]
def Cu {u:HO}:upd (upd H a o) a u=upd H a u:=by
 funext b;unfold upd;split <;> rfl
def Eo {u:HO} (h:H a=some o) (h':H b=some u) (d:o≠u):a≠b:=by
 intro e;subst e;rw [h] at h';exact d (y0 h')
def aq (h:H a=some o) (h':H b=none):a≠b:=by
 intro e;subst e;rw [h] at h';cases h'
def Ly (o:Obj):Prop:=∀ vs,o.data=.fields vs->o.cls≠.none
noncomputable def fC:Str:=Str.ofString "check_tests.<locals>.<lambda>"
noncomputable def fZ:Str:=Str.ofString "next_place.<locals>.<lambda>"
def UJ (n Q:Str):Prop:=(n="check_tests" /\ Q=fC) \/ (n="next_place" /\ Q=fZ)
def fg (Q:Str) (o:Obj):Prop:=∃ vs t,o.data=.fields vs/\vs[1]?=some (.str Q t)
def jV (o:Obj):Prop:=∃ Q,fg Q o
def mF (q:zt) (Q:Str):Prop:=q[0]?=some (.str Q 0)
def WY {q m:zt}{Q:Str} (h:mF q Q):mF (q++m) Q:=by
 unfold mF at h ⊢;rw [Array.getElem?_append_left (Array.getElem?_eq_some_iff.mp h).1];exact h
section
variable (P:Program) (w:World)
def bO (H:Hp) (h:Heap) (a:Addr):HO->Prop
 | .lst xs=>xs.length <= sizeLine /\ ∃ (its:zg) (n:Nat),Vals xs its /\ h.get? a=some { cls:=.type "list",data:=.seq its.toArray n }
 | .tup xs=>xs.length<=sizeLine/\∃ its:zg,Vals xs its/\IsTup h a its.toArray
 | .dK ah=>ah.length<=sizeLine/\(a == sysModules)=false/\∃ vs,KV ah vs/\h.DictOf (cU P w) a vs
 | .dT ah=>ah.length<=sizeLine/\(a == sysModules)=false/\∃ xs:List (List Key × Addr × Value),
   Paired (fun (p:List Key × V) (q:List Key × Addr × Value)=>p.1=q.1/\H q.2.1=some (.tup (p.1.map kV))/\RelV p.2 q.2.2) ah xs /\
   ∃ o es ep,h.get? a=some o/\o.ExactDict/\o.data=.dict es ep/\es.toList=xs.map (entryOfKey (tupleKind (cU P w)))/\(xs.map (·.1)).Nodup
 | .set S n=>h.SetOf (intKind P w) a S n
 | .ins C dx fs=>H dx=some (.own a)/\fs.length<=1000/\dx≠a/\h.get? a=some (PySem.W.instObj C dx) /\
   ∃ mA,h.Ns1 dx mA/\(∀ f,mj (fs.lookup f) (mA f))/\PySem.Within mA (fs.map (·.1))
 | .own _=>∃ o,h.get? a=some o
 | .xd fs=>∃ mA,h.Ns1 a mA/\∀ f,mj (fs.lookup f) (mA f)
 | .jS lo hi=>∃ t u v,h.get? a=some { cls:=.type "range",data:=.fields #[.int lo t,.int hi u,.int 1 v] }
 | .br o u=>h.get? a=some o/\bO H h a u
 | .kz q=>∃ ps:zt,h.get? a=some { cls:=.none,data:=.fields ps }/\TriplesOk ps.toList/\∀ pos v,codeAmong pos ps.toList=some v->∃ c o Q,v=.ref c/\H c=some (.br o (.ext fun _=>True))/\fg Q o/\mF q Q
 | .met f x=>h.get? a=some (PySem.W.methodObj (.ref f) (.ref x))
 | .ext φ=>φ h/\(∃ o,h.get? a=some o)/\∀ h1 h2:Heap,φ h1->(∀ o,h1.get? a=some o->h2.get? a=some o)->φ h2
def c6 (H:Hp) (h:Heap):Prop:=∀ a o,H a=some o->bO P w H h a o
end
section
variable {P:Program}{w:World}{H H':Hp}{h h':Heap}{a:Addr}{o:HO}
def bO.lt (x:bO P w H h a o):a < h.objs.size:=by
 cases o with
 | lst xs=>obtain ⟨_,_,_,_,e⟩:=x;exact vz e
 | tup xs=>obtain ⟨_,_,_,p⟩:=x;exact p.lt
 | dK ah=>obtain ⟨_,_,_,_,o,_,_,e,_⟩:=x;exact vz e
 | dT ah=>obtain ⟨_,_,_,_,o,_,_,e,_⟩:=x;exact vz e
 | set S n=>obtain ⟨o,_,_,_,e,_⟩:=x;exact vz e
 | ins C dx fs=>obtain ⟨_,_,_,e,_⟩:=x;exact vz e
 | own y=>obtain ⟨_,e⟩:=x;exact vz e
 | xd fs=>obtain ⟨_,⟨_,_,_,e,_⟩,_⟩:=x;exact vz e
 | jS lo hi=>obtain ⟨_,_,_,e⟩:=x;exact vz e
 | br ob u=>obtain ⟨e,_⟩:=x;exact vz e
 | kz ps=>obtain ⟨_,e,_⟩:=x;exact vz e
 | met f y=>exact vz (show h.get? a=some _ from x)
 | ext φ=>obtain ⟨_,⟨_,e⟩,_⟩:=x;exact vz e
theorem Paired.As {α β:Type}{F G:α->β->Prop}:∀ {CU:List α}{CY:List β},Paired F CU CY->(∀ a b,F a b->G a b)->Paired G CU CY
 | _,_,.nil,_=>.nil
 | _,_,.cons r t,f=>.cons (f _ _ r) (Paired.As t f)
def bO.fE (x:bO P w H h a o) (k:∀ b u,(b=a\/H b=some (.own a))->h.get? b=some u->h'.get? b=some u)
  (ho:∀ b,H b=some (.own a)->H' b=some (.own a)) (ht:∀ b xs,H b=some (.tup xs)->H' b=some (.tup xs)) (hf:∀ b o,H b=some (.br o (.ext fun _=>True))->jV o->H' b=some (.br o (.ext fun _=>True)):=by intro _ _ q _;exact q):bO P w H' h' a o:=by
 induction o with
 | lst xs=>obtain ⟨z,its,n,r,e⟩:=x;exact ⟨z,its,n,r,k _ _ (.inl rfl) e⟩
 | tup xs=>obtain ⟨z,its,r,ob,e,c⟩:=x;exact ⟨z,its,r,ob,k _ _ (.inl rfl) e,c⟩
 | dK ah=>obtain ⟨z,y,vs,r,ob,es,ep,e,c⟩:=x;exact ⟨z,y,vs,r,ob,es,ep,k _ _ (.inl rfl) e,c⟩
 | dT ah =>
  obtain ⟨z,y,xs,r,ob,es,ep,e,c⟩:=x;exact ⟨z,y,xs,Paired.As r fun p q z=>⟨z.1,ht _ _ z.2.1,z.2.2⟩,ob,es,ep,k _ _ (.inl rfl) e,c⟩
 | set S n=>obtain ⟨ob,es,ep,t,e,c⟩:=x;exact ⟨ob,es,ep,t,k _ _ (.inl rfl) e,c⟩
 | ins C dx fs =>
  obtain ⟨d,z,ne,e,mA,⟨od,es,ep,e2,c⟩,r⟩:=x;exact ⟨ho _ d,z,ne,k _ _ (.inl rfl) e,mA,⟨od,es,ep,k _ _ (.inr d) e2,c⟩,r⟩
 | own y=>obtain ⟨ob,e⟩:=x;exact ⟨ob,k _ _ (.inl rfl) e⟩
 | xd fs=>obtain ⟨mA,⟨od,es,ep,e,c⟩,r⟩:=x;exact ⟨mA,⟨od,es,ep,k _ _ (.inl rfl) e,c⟩,r⟩
 | jS lo hi=>obtain ⟨t,u,v,e⟩:=x;exact ⟨t,u,v,k _ _ (.inl rfl) e⟩
 | br ob u ih=>obtain ⟨e,q⟩:=x;exact ⟨k _ _ (.inl rfl) e,ih q⟩
 | kz qs =>
  obtain ⟨ps,e,tr,g⟩:=x;refine ⟨ps,k a _ (.inl rfl) e,tr,fun pos v hc=>?_⟩;obtain ⟨c,o,Q,e1,g1,g2,g3⟩:=g pos v hc;exact ⟨c,o,Q,e1,hf c o g1 ⟨Q,g2⟩,g2,g3⟩
 | met f y =>
  have e:h.get? a=some (PySem.W.methodObj (.ref f) (.ref y)):=x;show h'.get? a=some (PySem.W.methodObj (.ref f) (.ref y))
  exact k a _ (.inl rfl) e
 | ext φ=>obtain ⟨p,⟨o,e⟩,st⟩:=x;exact ⟨st _ _ p fun o q=>k _ _ (.inl rfl) q,⟨o,k _ _ (.inl rfl) e⟩,st⟩
def c6.lt (x:c6 P w H h) (e:H a=some o):a < h.objs.size:=(x a o e).lt
def c6.fresh (x:c6 P w H h) (e:h.objs.size<=a):H a=none:=by
 cases q:H a with
 | none=>rfl
 | some u=>exact absurd (v4 (x.lt q) e) (yk _)
def c6.kept (x:c6 P w H h) (k:∀ b u,h.get? b=some u->h'.get? b=some u):c6 P w H h':=fun a o e =>
 (x a o e).fE (fun b u _ q=>k b u q) (fun _ q=>q) fun _ _ q=>q
def c6.laid (x:c6 P w H h) (k:∀ b u,h.get? b=some u->h'.get? b=some u) (hp:h.objs.size<=a) (new:bO P w (upd H a o) h' a o):c6 P w (upd H a o) h':=fun b u e=>by
 have hn:=x.fresh hp;by_cases hb:b=a
 .subst hb;rw [aC] at e;cases e;exact new
 .rw [ak hb] at e;exact (x b u e).fE (fun c v _ q=>k c v q) (fun c q=>by rw [ak (aq q hn)];exact q) (fun c xs q=>by rw [ak (aq q hn)];exact q) (fun c ob q _=>by rw [ak (aq q hn)];exact q)
end
def Rd (H:Hp) (a:Addr) (u:HO):Prop:=H a=some u\/∃ o,H a=some (.br o u)
variable {P:Program}{w:World}{h:Heap}
def Rd.ok {u:HO} (r:Rd H a u) (x:c6 P w H h):bO P w H h a u:=by
 rcases r with r | ⟨o,r⟩
 .exact x a u r
 .obtain ⟨_,q⟩:=x a _ r;exact q
def Au:Option HO->Prop
 | some (.lst _)=>True
 | some (.dK _)=>True
 | some (.dT _)=>True
 | some (.set _ _)=>True
 | some (.ins _ _ _)=>True
 | some (.ext _)=>True
 | _=>False
section
variable {P:Program}{w:World}{H:Hp}{h h':Heap}{x e:Addr}{o':HO}
def c6.write (ok:c6 P w H h) (mu:Au (H x)) (he:e=x\/H e=some (.own x)) (k:∀ b u,b≠e->h.get? b=some u->h'.get? b=some u) (xa:∃ u,h'.get? e=some u)
  (new:bO P w (upd H x o') h' x o'):c6 P w (upd H x o') h':=fun b u q=>by
 have C0:∀ c y,H c=some (.own y)->c≠x:=fun c y r z=>by subst z;rw [r] at mu;exact mu
 have IM:∀ c xs,H c=some (.tup xs)->c≠x:=fun c xs r z=>by subst z;rw [r] at mu;exact mu
 by_cases hb:b=x
 .subst hb;rw [aC] at q;cases q;exact new
 .rw [ak hb] at q;by_cases k8:b=e
  .have q':H b=some (.own x):=by
    rcases he with z | z
    .exact absurd (k8.trans z) hb
    .rw [k8];exact z
   rw [q] at q';cases q';obtain ⟨v,hv⟩:=xa;exact ⟨v,by rw [k8];exact hv⟩
  .refine (ok b u q).fE (fun c v hc r=>k c v ?_ r) (fun c r=>by rw [ak (C0 c b r)];exact r) (fun c xs r=>by rw [ak (IM c xs r)];exact r) (fun c ob r _=>by rw [ak (fun z=>by subst z;rw [r] at mu;exact mu)];exact r);rcases hc with rfl | hc
   .exact k8
   .rintro rfl;rcases he with z | z
    .exact C0 c b hc z
    .rw [hc] at z;cases z;exact hb rfl
end
structure Un (fs ex:List Addr) (H H':Hp) (h h':Heap):Prop where
 keep:∀ b o,h.get? b=some o->H b=none->b ∉ fs->b ∉ ex->h'.get? b=some o
 slot:∀ b o,h.get? b=some o->H b=none->b∈fs->b ∉ ex->∃ sl,h'.get? b=some { o with slots:=sl }
 free:∀ b o,h.get? b=some o->H b=none->b ∉ ex->H' b=none
 there:∀ b o,h.get? b=some o->b ∉ ex->∃ o',h'.get? b=some o'
 ig:∀ b xs,H b=some (.tup xs)->H' b=some (.tup xs)
 gp:∀ b o u,H b=some (.br o u)->H' b=some (.br o u)
 gr:∀ b ps,H b=some (.kz ps)->∃ more,H' b=some (.kz (ps++more))
section
variable {fs QP ex Tl:List Addr}{H H1 H2:Hp}{h h1 h2 h':Heap}{a x e:Addr}{o:HO}
def Un.any (u:Un fs ex H H1 h h1) {ob:Obj} (q:h.get? b=some ob) (n:H b=none) (hx:b ∉ ex):∃ sl,h1.get? b=some { ob with slots:=sl }:=by
 by_cases hb:b∈fs
 .exact u.slot b ob q n hb hx
 .exact ⟨ob.slots,u.keep b ob q n hb hx⟩
def Un.kept (k:∀ b u,h.get? b=some u->h'.get? b=some u):Un fs ex H H h h' :=
 ⟨fun b ob q _ _ _=>k b ob q,fun b ob q _ _ _=>⟨ob.slots,k b ob q⟩,fun _ _ _ n _=>n,fun b ob q _=>⟨ob,k b ob q⟩,fun _ _ q=>q,fun _ _ _ q=>q,fun _ ps q=>⟨#[],by rw [q];simp⟩⟩
def Un.refl:Un fs ex H H h h:=Un.kept fun _ _ q=>q
def Un.laid (k:∀ b u,h.get? b=some u->h'.get? b=some u) (hp:h.objs.size<=a) (hn:H a=none):Un fs ex H (upd H a o) h h' where
 keep:=fun b u q _ _ _=>k b u q
 slot:=fun b u q _ _ _=>⟨u.slots,k b u q⟩
 free:=fun b u q n _=>by rw [ak (Nat.ne_of_lt (Nat.lt_of_lt_of_le (Heap.lt_size q) hp))];exact n
 there:=fun b u q _=>⟨u,k b u q⟩
 ig:=fun b xs q=>by rw [ak (aq q hn)];exact q
 gp:=fun b u xs q=>by rw [ak (aq q hn)];exact q
 gr:=fun b ps q=>⟨#[],by rw [ak (aq q hn),q];simp⟩
def Un.write (mu:Au (H x)) (he:e=x\/H e=some (.own x)) (k:∀ b u,b≠e->h.get? b=some u->h'.get? b=some u) (xa:∃ u,h'.get? e=some u):Un fs ex H (upd H x o) h h':=by
 have hx:∀ b,H b=none->b≠x:=fun b n z=>by subst z;rw [n] at mu;exact mu
 have hb:∀ b,H b=none->b≠e:=fun b n z=>by
  subst z;rcases he with r | r
  .exact hx b n r
  .rw [n] at r;cases r
 have hm:∀ b u,H b=some u->¬ Au (some u)->b≠x:=fun b u q nm z=>by subst z;rw [q] at mu;exact nm mu
 refine ⟨fun b u q n _ _=>k b u (hb b n) q,fun b u q n _ _=>⟨u.slots,k b u (hb b n) q⟩,fun b u q n _=>by rw [ak (hx b n)];exact n,fun b u q _=>?_,
  fun b xs q=>by rw [ak (hm b _ q fun z=>z)];exact q,fun b u xs q=>by rw [ak (hm b _ q fun z=>z)];exact q,fun b ps q=>⟨#[],by rw [ak (hm b _ q fun z=>z),q];simp⟩⟩
 by_cases k8:b=e
 .subst k8;exact xa
 .exact ⟨u,k b u k8 q⟩
end
noncomputable def FI (h:Heap) (H:Hp):List Addr:=(List.range h.objs.size).filter fun a=>(H a).isSome
def rO (h:Heap) (H:Hp):Heap:=PySem.W.hideAll h (FI h H)
def Ny (h:Heap) (H:Hp):(rO h H).objs.size=h.objs.size:=PySem.W.hideAll_size _ _
def RV {o:Obj} (e:h.get? b=some o) (n:H b=none):(rO h H).get? b=some o :=
 PySem.W.hideAll_get _ e fun hm=>by
  have q:(H b).isSome=true:=(yz.mp hm).2;rw [n] at q;simp at q
def Wj {o:Obj} (e:(rO h H).get? b=some o):h.get? b=some o/\H b=none:=by
 have e':h.get? b=some o:=PySem.W.of_hideAll (FI h H) e;refine ⟨e',?_⟩;cases q:H b with
 | none=>rfl
 | some x =>
  have hm:b∈FI h H:=yz.mpr ⟨yA.mpr (vz e'),by simp [q]⟩;have z:(rO h H).get? b=none:=PySem.W.hideAll_none (FI h H) hm;rw [z] at e;cases e
structure Mod (K:zd) (mg:w8) (base:Heap):Prop where
 C1:K.In base
 glob:base.Ns mainGlobals mg
 blt:∃ mb,base.Ns builtinsNs mb /\ ∀ x:Str,x ≠ "__name__" -> mb x=bootBuiltins x
 nolimit:base.NoLimit
 bm:∃ bm ob,mg "__builtins__"=some (.ref bm) /\ bm ≠ builtinsNs /\ bm ≠ mainGlobals /\ base.get? bm=some ob /\ ob.cls=.type "module" /\ ob.dict=some builtinsNs /\ ob.data=.plain
def nJ (K:zd) (mg:w8) (H:Hp):Prop:=∀ n Q,UJ n Q->∀ a o fd c oc vs p,mg n=some (.ref a)->K.lookup a=some o->o.data=.func fd->fd.code=.ref c->K.lookup c=some oc->oc.data=.fields vs->vs[11]?=some (.ref p)->∃ q,H p=some (.kz q)/\mF q Q
variable {K:zd}{mg:w8}{H':Hp}
def nJ.un {fs ex:List Addr}{h':Heap} (x:nJ K mg H) (u:Un fs ex H H' h h'):nJ K mg H':=fun n Q hn a o fd c oc vs p e1 e2 e3 e4 e5 e6 e7 =>
 let ⟨q,e,g⟩:=x n Q hn a o fd c oc vs p e1 e2 e3 e4 e5 e6 e7
 let ⟨m,e'⟩:=u.gr p q e
 ⟨_,e',WY g⟩
structure Cx where
 prog:Program
 w:World
 K:zd
 mg:w8
 base:Heap
 A:Around
 N:zk
 bq:Shared
 kL:Hp
 env:Env
 outer:List Env
 stack:List Env
 ex:List Addr
 fn:Str->Bool
 calm:Bool
 pn:w4
 xe:zb
noncomputable def j0 (l:List Env):List Addr:=l.filterMap (·.frame)
abbrev Cx.fs (X:Cx):List Addr:=j0 X.outer
def nE (sc:Scope) (x:Str):Prop:=sc.names.lookup x=some .local\/sc.names.lookup x=some .cell\/sc.names.lookup x=some .free
def Loc (sc:Scope) (x:Str):Prop:=sc.names.lookup x=some .local\/sc.names.lookup x=some .cell
def Look (env:Env) (h:Heap) (m:w8) (x:Str) (u:Value):Prop :=
 (env.kindOf x=some .local/\m x=some u)\/((env.kindOf x=some .cell\/env.kindOf x=some .free)/\∃ c,env.cells.lookup x=some c/\h.IsCell c (some u))
structure Cx.Ok (X:Cx):Prop where
 mod:Mod X.K X.mg X.base
 kind:X.env.scope.kind=.function
 glob:X.env.globals=mainGlobals
 blt:X.env.builtins=builtinsNs
 above:X.bq.heap.objs.size<=X.env.locals
 inj:∀ x y c,X.env.cells.lookup x=some c->X.env.cells.lookup y=some c->x=y
 has:∀ x,(X.env.kindOf x=some .cell\/X.env.kindOf x=some .free)->∃ c,X.env.cells.lookup x=some c
 AA:∀ x c,X.fn x=true->X.env.cells.lookup x=some c->X.bq.heap.objs.size<=c
 hd:X.calm=true->X.A.handled=none
 frames:X.A.frames=some X.stack
 FK:X.stack=X.outer\/(X.stack=X.env::X.outer/\X.env.frame=some X.env.locals)
 IP:∀ b∈X.ex,b≠X.env.locals/\∀ x c,X.env.cells.lookup x=some c->c≠b
 bs:∀ b o,X.base.get? b=some o->X.bq.heap.get? b=some o/\X.kL b=none
 l8:X.base.objs.size<=X.bq.heap.objs.size
 oC:∀ b o,X.base.get? b=some o->b ∉ X.ex
 oD:∀ b∈X.ex,b ∉ X.fs
 dA:X.bq.heap.FunFrames X.base X.outer
 l9:∀ b∈X.fs,X.kL b=none
 tab:nJ X.K X.mg X.kL
structure Inv (X:Cx) (ab:w4) (Z:List (Option V)) (H:Hp) (s:Shared):Prop where
 ok:X.Ok
 os:s.os=X.bq.os
 bare:AllBare s.gens
 base:Un X.fs X.ex X.kL H X.bq.heap s.heap
 loc:∃ m,s.heap.Ns X.env.locals m/\∀ (i:Nat) (x:Str) (v:V),X.N[i]?=some x->Z[i]?=some (some v)->nE X.env.scope x->∃ u,RelV v u/\Look X.env s.heap m x u
 cell:∀ x c,X.env.cells.lookup x=some c->∃ v,s.heap.IsCell c v
 free:H X.env.locals=none
 cq:∀ x c,X.env.cells.lookup x=some c->H c=none
 pin:∀ p∈X.pn++ab,s.heap.get? p.1=some p.2/\H p.1=none/\p.1≠X.env.locals/\p.1 ∉ X.fs/\∀ v,p.2.data≠.cell v
 az:c6 X.prog X.w H s.heap
 len:Z.length=X.N.length
variable {g':Array GenState}{ch:List Addr}{it:Addr}{N:zk}{i:Nat}{x:Str}{A:Around}{E:zb}{v:V}{u:Value}{Q:Unit->Shared->Prop}{s':Shared}
section
variable {X:Cx}{ab:w4}{Z:List (Option V)}{H H':Hp}{s:Shared}{h':Heap}
def Cx.Ok.IQ (ok:X.Ok) {o:Obj} (e:X.base.get? b=some o):b ∉ X.fs:=fun hb=>by
 have:=(ok.dA.mem hb).1;rw [e] at this;cases this
def Inv.bs (I:Inv X ab Z H s):∀ b o,X.base.get? b=some o->s.heap.get? b=some o/\H b=none:=fun b o e =>
 ⟨I.base.keep b o (I.ok.bs b o e).1 (I.ok.bs b o e).2 (I.ok.IQ e) (I.ok.oC b o e),I.base.free b o (I.ok.bs b o e).1 (I.ok.bs b o e).2 (I.ok.oC b o e)⟩
def Inv.bk (I:Inv X ab Z H s):∀ b o,X.base.get? b=some o->s.heap.get? b=some o:=fun b o e=>(I.bs b o e).1
def Inv.mod (I:Inv X ab Z H s):Mod X.K X.mg X.base:=I.ok.mod
def Inv.gO (I:Inv X ab Z H s):X.K.In s.heap:=I.ok.mod.C1.keeps I.bk
def Inv.fr (I:Inv X ab Z H s):∃ m,Fr X.base X.env.locals s.heap m :=
 let ⟨m,hn,_⟩:=I.loc
 ⟨m,hn,I.bk,vT I.ok.l8 I.ok.above⟩
def Inv.lt (I:Inv X ab Z H s):X.env.locals < s.heap.objs.size:=let ⟨_,hn,_⟩:=I.loc;hn.lt
def Inv.sz (I:Inv X ab Z H s):X.bq.heap.objs.size<=s.heap.objs.size:=vT I.ok.above (Nat.le_of_lt I.lt)
def Inv.IS (I:Inv X ab Z H s)  (h:s.heap.objs.size<=a):a ∉ X.fs:=fun hb=>by
 obtain ⟨_,o,ho,_⟩:=I.ok.dA.mem hb;exact absurd (v4 (vz ho) (vT I.sz h)) (yk _)
def Inv.tv (I:Inv X ab Z H s):∀ x c,X.env.cells.lookup x=some c->c≠X.env.locals:=fun x c e z=>by
 obtain ⟨v,o,ho,hd⟩:=I.cell x c e;obtain ⟨m,⟨o',es,ep,fm,nI,_⟩,_⟩:=I.loc;rw [z,fm] at ho;cases ho;rw [nI] at hd;cases hd
def Inv.dA (I:Inv X ab Z H s):s.heap.FunFrames X.base X.outer:=by
 have all:∀ (l:List Env),(∀ b∈j0 l,b∈X.fs)->X.bq.heap.FunFrames X.base l->s.heap.FunFrames X.base l:=by
  intro l;induction l with
  | nil=>intro _ _;trivial
  | cons env r ih =>
   intro hs hl;obtain ⟨hk,⟨L,o,hf,hn,ho,hd⟩,hr⟩:=hl;have hL:L∈X.fs:=hs L (by unfold j0;rw [List.filterMap_cons,hf];exact vj);obtain ⟨sl,e⟩:=I.base.slot L o ho (I.ok.l9 L hL) hL fun z=>I.ok.oD L z hL
   exact ⟨hk,⟨L,_,hf,hn,e,hd⟩,ih (fun b hb=>hs b (by unfold j0;rw [List.filterMap_cons,hf];exact vi _ hb)) hr⟩
 exact all X.outer (fun _ hb=>hb) I.ok.dA
def Inv.stack (I:Inv X ab Z H s):s.heap.FunFrames X.base X.stack:=by
 rcases I.ok.FK with e | ⟨e,hf⟩
 .rw [e];exact I.dA
 .rw [e];obtain ⟨m,hn,_⟩:=I.loc;refine .cons (by rw [I.ok.kind];decide) hf hn ?_ I.dA;exact Heap.get?_none_of_le (vT I.ok.l8 I.ok.above)
def Inv.ij (I:Inv X ab Z H s):∀ b∈j0 X.stack,b∈X.env.locals::X.fs:=fun b hb=>by
 rcases I.ok.FK with e | ⟨e,hf⟩
 .rw [e] at hb;exact vi _ hb
 .rw [e] at hb;unfold j0 at hb;rw [List.filterMap_cons,hf] at hb;exact hb
def Inv.l_ (I:Inv X ab Z H s):∀ b∈j0 X.stack,H b=none:=fun b hb=>by
 rcases vV.mp (I.ij b hb) with e | hb
 .rw [e];exact I.free
 .obtain ⟨_,o,ho,_⟩:=I.ok.dA.mem hb;exact I.base.free b o ho (I.ok.l9 b hb) fun z=>I.ok.oD b z hb
def Inv.step {t':Nat}{d':Drawn} (I:Inv X ab Z H s)
  (sD:∀ b∈ch,(b∈X.ex\/X.bq.heap.objs.size<=b)/\b≠X.env.locals/\(∀ x c,X.env.cells.lookup x=some c->c≠b)/\∀ p∈X.pn++ab,p.1≠b)
  (keep:∀ b o,b≠X.env.locals->b ∉ X.fs->b ∉ ch->s.heap.get? b=some o->H b=none->h'.get? b=some o)
  (slot:∀ b o,b≠X.env.locals->b∈X.fs->b ∉ ch->s.heap.get? b=some o->H b=none->∃ sl,h'.get? b=some { o with slots:=sl }) (free:∀ b o,b ∉ ch->s.heap.get? b=some o->H b=none->H' b=none)
  (there:∀ b o,b ∉ ch->s.heap.get? b=some o->∃ o',h'.get? b=some o')
  (ig:∀ b xs,H b=some (.tup xs)->H' b=some (.tup xs)) (gp:∀ b o u,H b=some (.br o u)->H' b=some (.br o u)) (gr:∀ b ps,H b=some (.kz ps)->∃ more,H' b=some (.kz (ps++more)))
  (ns:∀ m,s.heap.Ns X.env.locals m->h'.Ns X.env.locals m) (az:c6 X.prog X.w H' h') (hg:AllBare g') :
  Inv X ab Z H' { s with heap:=h',gens:=g',drawn:=d',toks:=t' }:=by
 have ND:∀ b o,X.bq.heap.get? b=some o->b≠X.env.locals:=fun b o e=>vF (v4 (vz e) I.ok.above)
 have FO:∀ b o,X.bq.heap.get? b=some o->b ∉ X.ex->b ∉ ch:=fun b o e hx hb=>by
  rcases (sD b hb).1 with z | z
  .exact hx z
  .exact absurd (v4 (vz e) z) (yk _)
 have cellK:∀ x c,X.env.cells.lookup x=some c->∀ v,s.heap.IsCell c v->h'.IsCell c v:=fun x c e v ⟨o,ho,hd⟩=>by
  have dC:c ∉ ch:=fun z=>(sD c z).2.2.1 x c e rfl
  by_cases hc:c∈X.fs
  .obtain ⟨sl,q⟩:=slot c o (I.tv x c e) hc dC ho (I.cq x c e);exact ⟨_,q,hd⟩
  .exact ⟨o,keep c o (I.tv x c e) hc dC ho (I.cq x c e),hd⟩
 refine ⟨I.ok,I.os,hg,⟨fun b o e n hb hx=>?_,fun b o e n hb hx=>?_,fun b o e n hx=>?_,fun b o e hx=>?_,fun b xs e=>ig b xs (I.base.ig b xs e),fun b o xs e=>gp b o xs (I.base.gp b o xs e),fun b ps e=>?_⟩,?_,fun x c e=>?_,?_,fun x c e=>?_,fun p hp=>?_,az,I.len⟩
 .exact keep b o (ND b o e) hb (FO b o e hx) (I.base.keep b o e n hb hx) (I.base.free b o e n hx)
 .obtain ⟨sl,e1⟩:=I.base.slot b o e n hb hx;obtain ⟨QQ,e2⟩:=slot b _ (ND b o e) hb (FO b o e hx) e1 (I.base.free b o e n hx);exact ⟨QQ,e2⟩
 .obtain ⟨o',e1⟩:=I.base.there b o e hx;exact free b o' (FO b o e hx) e1 (I.base.free b o e n hx)
 .obtain ⟨o',e1⟩:=I.base.there b o e hx;exact there b o' (FO b o e hx) e1
 .obtain ⟨m1,e1⟩:=I.base.gr b ps e;obtain ⟨m2,e2⟩:=gr b _ e1;exact ⟨m1++m2,by rw [e2,Array.append_assoc]⟩
 .obtain ⟨m,hn,hl⟩:=I.loc;refine ⟨m,ns m hn,fun i x v e1 e2 e3=>?_⟩;obtain ⟨u,r,l⟩:=hl i x v e1 e2 e3;refine ⟨u,r,?_⟩;rcases l with l | ⟨k,c,e,z⟩
  .exact .inl l
  .exact .inr ⟨k,c,e,cellK x c e _ z⟩
 .obtain ⟨v,z⟩:=I.cell x c e;exact ⟨v,cellK x c e v z⟩
 .obtain ⟨m,⟨o,_,_,ho,_⟩,_⟩:=I.loc;exact free _ o (fun z=>(sD _ z).2.1 rfl) ho I.free
 .obtain ⟨v,o,ho,hd⟩:=I.cell x c e;exact free c o (fun z=>(sD c z).2.2.1 x c e rfl) ho (I.cq x c e)
 .obtain ⟨e,n,ne,nf,d⟩:=I.pin p hp;have dC:p.1 ∉ ch:=fun z=>(sD p.1 z).2.2.2 p hp rfl
  exact ⟨keep p.1 p.2 ne nf dC e n,free p.1 p.2 dC e n,ne,nf,d⟩
def Inv.un {t':Nat} (I:Inv X ab Z H s) (u:Un X.fs [] H H' s.heap h') (az:c6 X.prog X.w H' h'):Inv X ab Z H' { s with heap:=h',toks:=t' }:=by
 obtain ⟨m,⟨o,es,ep,ho,r⟩,_⟩:=id I.loc;obtain ⟨sl,hL⟩:=u.any ho I.free (by simp);exact I.step (g':=s.gens) (d':=s.drawn) (ch:=[]) (fun _ z=>nomatch z) (fun b o _ hb _ e n=>u.keep b o e n hb (by simp)) (fun b o _ hb _ e n=>u.slot b o e n hb (by simp)) (fun b o _ e n=>u.free b o e n (by simp)) (fun b o _ e=>u.there b o e (by simp)) u.ig u.gp u.gr (fun m' hm=>by
  obtain ⟨o',il,kM,fm,r'⟩:=hm;rw [ho] at fm;cases fm;exact ⟨_,il,kM,hL,r'⟩) az I.bare
def Inv.call {t':Nat}{d':Drawn} (I:Inv X ab Z H s) (u:Un (j0 X.stack) ch H H' s.heap h') (az:c6 X.prog X.w H' h') (hg:AllBare g')
  (sD:∀ b∈ch,(b∈X.ex\/X.bq.heap.objs.size<=b)/\b≠X.env.locals/\(∀ x c,X.env.cells.lookup x=some c->c≠b)/\∀ p∈X.pn++ab,p.1≠b) :
  Inv X ab Z H' { s with heap:=h',gens:=g',drawn:=d',toks:=t' }:=by
 obtain ⟨m,⟨o,es,ep,ho,r⟩,_⟩:=id I.loc;obtain ⟨sl,hL⟩:=u.any ho I.free fun z=>(sD _ z).2.1 rfl
 exact I.step (ch:=ch) sD (fun b o hL hb hc e n=>u.keep b o e n (fun z=>(vV.mp (I.ij b z)).elim hL hb) hc) (fun b o _ _ hc e n=>u.any e n hc) (fun b o hc e n=>u.free b o e n hc) (fun b o hc e=>u.there b o e hc) u.ig u.gp u.gr (fun m' hm=>by
  obtain ⟨o',il,kM,fm,r'⟩:=hm;rw [ho] at fm;cases fm;exact ⟨_,il,kM,hL,r'⟩) az hg
def Inv.turned {t':Nat} (I:Inv X ab Z H s) (k:∀ b o,b≠it->s.heap.get? b=some o->h'.get? b=some o) (hn:H it=none) (hL:it≠X.env.locals)
  (h1:it∈X.ex\/X.bq.heap.objs.size<=it) (h2:∀ x c,X.env.cells.lookup x=some c->c≠it) (h3:∀ p∈X.pn++ab,p.1≠it):Inv X ab Z H { s with heap:=h',toks:=t' }:=by
 have NF:∀ b u,H b=some u->b≠it:=fun b u e z=>by rw [z,hn] at e;cases e
 refine I.step (g':=s.gens) (d':=s.drawn) (ch:=[it]) (fun b hb=>?_) (fun b o _ _ hc e _=>k b o (fun z=>hc (by simp [z])) e) (fun b o _ _ hc e _=>⟨o.slots,k b o (fun z=>hc (by simp [z])) e⟩) (fun _ _ _ _ n=>n)
  (fun b o hc e=>⟨o,k b o (fun z=>hc (by simp [z])) e⟩) (fun _ _ e=>e) (fun _ _ _ e=>e) (fun b ps e=>⟨#[],by rw [e];simp⟩) (fun m hm=>?_) (fun b u e=>?_) I.bare
 .have e:b=it:=by simpa using hb
  subst e;exact ⟨h1,hL,h2,h3⟩
 .obtain ⟨o,es,ep,ho,r⟩:=hm;exact ⟨o,es,ep,k _ o (Ne.symm hL) ho,r⟩
 .refine (I.az b u e).fE (fun c v hc q=>k c v ?_ q) (fun _ q=>q) fun _ _ q=>q
  rcases hc with z | z
  .rw [z];exact NF b u e
  .exact NF c _ z
def Inv.tok (I:Inv X ab Z H s) (t:Nat):Inv X ab Z H { s with toks:=t }:=I.un (h':=s.heap) (t':=t) Un.refl I.az
def Inv.kept {t':Nat} (I:Inv X ab Z H s) (k:∀ b u,s.heap.get? b=some u->h'.get? b=some u):Inv X ab Z H { s with heap:=h',toks:=t' }:=I.un (Un.kept k) (I.az.kept k)
def Inv.laid {t':Nat} (I:Inv X ab Z H s) (k:∀ b u,s.heap.get? b=some u->h'.get? b=some u) (hp:s.heap.objs.size<=a) (new:bO X.prog X.w (upd H a o) h' a o) :
  Inv X ab Z (upd H a o) { s with heap:=h',toks:=t' }:=I.un (Un.laid k hp (I.az.fresh hp)) (I.az.laid k hp new)
def Inv.write {x e:Addr}{t':Nat} (I:Inv X ab Z H s) (mu:Au (H x)) (he:e=x\/H e=some (.own x)) (k:∀ b u,b≠e->s.heap.get? b=some u->h'.get? b=some u) (xa:∃ u,h'.get? e=some u)
  (new:bO X.prog X.w (upd H x o) h' x o):Inv X ab Z (upd H x o) { s with heap:=h',toks:=t' }:=I.un (Un.write mu he k xa) (I.az.write mu he k xa new)
def Inv.weak {a9:List (Option V)} (I:Inv X ab Z H s) (hl:a9.length=Z.length) (w:∀ (i:Nat) v,a9[i]?=some (some v)->Z[i]?=some (some v)):Inv X ab a9 H s :=
 ⟨I.ok,I.os,I.bare,I.base,let ⟨m,hn,fF⟩:=I.loc;⟨m,hn,fun i x v e1 e2 e3=>fF i x v e1 (w i v e2) e3⟩,I.cell,I.free,I.cq,I.pin,I.az,hl.trans I.len⟩
def Inv.hZ {c3:w4} (I:Inv X ab Z H s) (h:∀ p∈c3,s.heap.get? p.1=some p.2/\H p.1=none/\p.1≠X.env.locals/\p.1 ∉ X.fs/\∀ v,p.2.data≠.cell v):Inv X c3 Z H s :=
 ⟨I.ok,I.os,I.bare,I.base,I.loc,I.cell,I.free,I.cq,fun p hp=>(ym.mp hp).elim (fun z=>I.pin p (vk _ z)) (h p),I.az,I.len⟩
def G4 (hN:N.Nodup) {j:Nat} (a:N[i]?=some x) (b:N[j]?=some x):i=j:=by
 obtain ⟨h1,e1⟩:=yi.mp a;obtain ⟨h2,e2⟩:=yi.mp b;exact (List.getElem_inj hN).mp (e1.trans e2.symm)
def Dp {M:Model} (I:Inv X ab Z H s) (hN:X.N.Nodup) (hi:X.N[i]?=some x) (hx:Loc X.env.scope x) (r:RelV v u)
  (h:∀ s',Inv X ab (Z.set i (some v)) H s'->(∃ a,Heap.SameBut a s.heap s'.heap/\(a=X.env.locals\/X.env.cells.lookup x=some a))->Q () s') (hf:X.fn x=true\/X.env.scope.names.lookup x=some .local:=by first | exact .inl rfl | exact .inr rfl | assumption):wpAny M A (storeName X.env x u) Q E s:=by
 obtain ⟨m,hn,hl⟩:=id I.loc;have AB:(X.env.scope.kind == .class || (X.env.scope.kind == .module && X.env.locals != X.env.globals))=false:=by rw [I.ok.kind];rfl
 have C2:i < Z.length:=by rw [I.len];exact (yi.mp hi).1
 have tv:=I.tv;have tracked:∀ {a:Addr}{h':Heap},(∃ o,s.heap.get? a=some o/\H a=none)->Heap.SameBut a s.heap h'->c6 X.prog X.w H h':=fun {a h'} ha hs b ob e=>by
  obtain ⟨_,_,xf⟩:=ha;refine (I.az b ob e).fE (fun c w' hc q=>(hs.2 c ?_).trans q) (fun _ q=>q) fun _ _ q=>q
  rintro rfl;rcases hc with rfl | hc
  .rw [xf] at e;cases e
  .rw [xf] at hc;cases hc
 rcases hx with hk | hk
 .refine wpAny_storeName_local hk hn (fun h' kN hs=>?_) AB;obtain ⟨oL,_,_,C3,_⟩:=id hn;refine h _ ⟨I.ok,I.os,I.bare,⟨fun b o e n hb hx=>?_,fun b o e n hb hx=>?_,I.base.free,fun b o e hx=>?_,I.base.ig,I.base.gp,I.base.gr⟩,⟨_,kN,fun j y v' e1 e2 e3=>?_⟩,fun y c e=>?_,I.free,I.cq,fun p hp=>?_,tracked ⟨oL,C3,I.free⟩ hs,by simpa using I.len⟩ ⟨_,hs,.inl rfl⟩
  .exact (hs.2 b (vF (v4 (vz e) I.ok.above))).trans (I.base.keep b o e n hb hx)
  .obtain ⟨sl,e1⟩:=I.base.slot b o e n hb hx;exact ⟨sl,(hs.2 b (vF (v4 (vz e) I.ok.above))).trans e1⟩
  .obtain ⟨o',e1⟩:=I.base.there b o e hx;exact ⟨o',(hs.2 b (vF (v4 (vz e) I.ok.above))).trans e1⟩
  .by_cases hj:j=i
   .subst hj;rw [hi] at e1;cases e1;rw [List.getElem?_set_self C2] at e2;cases e2;exact ⟨u,r,.inl ⟨hk,by simp⟩⟩
   .rw [List.getElem?_set_ne (Ne.symm hj)] at e2;obtain ⟨u',r',q⟩:=hl j y v' e1 e2 e3;refine ⟨u',r',?_⟩;rcases q with ⟨k,e⟩ | ⟨k,c,e,z⟩
    .refine .inl ⟨k,?_⟩;have:y≠x:=fun e=>hj (G4 hN e1 (e ▸ hi))
     simp [this,e]
    .exact .inr ⟨k,c,e,z.sameBut hs (tv y c e)⟩
  .obtain ⟨w',z⟩:=I.cell y c e;exact ⟨w',z.sameBut hs (tv y c e)⟩
  .obtain ⟨e,n,ne,nf,d⟩:=I.pin p hp;exact ⟨(hs.2 p.1 ne).trans e,n,ne,nf,d⟩
 .have tw:X.fn x=true:=by
   rcases hf with z | z
   .exact z
   .rw [z] at hk;cases hk
  obtain ⟨c,hc⟩:=I.ok.has x (.inl hk);obtain ⟨w',z⟩:=I.cell x c hc;refine wpAny_storeName_cell I.ok.kind hk hc z (fun h' c_ hs=>?_);obtain ⟨oc,oI,IT⟩:=id z;refine h { s with heap:=h' } ⟨I.ok,I.os,I.bare,⟨fun b o e n hb hx=>?_,fun b o e n hb hx=>?_,I.base.free,fun b o e hx=>?_,I.base.ig,I.base.gp,I.base.gr⟩,⟨m,hn.sameBut hs (Ne.symm (tv x c hc)),fun j y v' e1 e2 e3=>?_⟩,fun y c' e=>?_,I.free,I.cq,fun p hp=>?_,tracked ⟨oc,oI,I.cq x c hc⟩ hs,by simpa using I.len⟩ ⟨c,hs,.inr hc⟩
  .exact (hs.2 b (vF (v4 (vz e) (I.ok.AA x c tw hc)))).trans (I.base.keep b o e n hb hx)
  .obtain ⟨sl,e1⟩:=I.base.slot b o e n hb hx;exact ⟨sl,(hs.2 b (vF (v4 (vz e) (I.ok.AA x c tw hc)))).trans e1⟩
  .obtain ⟨o',e1⟩:=I.base.there b o e hx;exact ⟨o',(hs.2 b (vF (v4 (vz e) (I.ok.AA x c tw hc)))).trans e1⟩
  .by_cases hj:j=i
   .subst hj;rw [hi] at e1;cases e1;rw [List.getElem?_set_self C2] at e2;cases e2;exact ⟨u,r,.inr ⟨.inl hk,c,hc,c_⟩⟩
   .rw [List.getElem?_set_ne (Ne.symm hj)] at e2;obtain ⟨u',r',q⟩:=hl j y v' e1 e2 e3;refine ⟨u',r',?_⟩;rcases q with q | ⟨k,c',e,z'⟩
    .exact .inl q
    .refine .inr ⟨k,c',e,z'.sameBut hs ?_⟩;rintro rfl;exact hj (G4 hN e1 (I.ok.inj _ _ _ e hc ▸ hi))
  .by_cases NG:c'=c
   .subst NG;exact ⟨_,c_⟩
   .obtain ⟨w2,z2⟩:=I.cell y c' e;exact ⟨w2,z2.sameBut hs NG⟩
  .obtain ⟨e,n,ne,nf,d⟩:=I.pin p hp;refine ⟨(hs.2 p.1 ?_).trans e,n,ne,nf,d⟩;intro q;rw [q,oI] at e;have q':oc=p.2:=y0 e;exact d w' (by rw [<- q'];exact IT)
def R5 {M:Model} (I:Inv X ab Z H s) (hN:X.N.Nodup) (hi:X.N[i]?=some x) (hx:Loc X.env.scope x) (r:RelV v u)
  (h:∀ s',Inv X ab (Z.set i (some v)) H s'->Q () s') (hf:X.fn x=true\/X.env.scope.names.lookup x=some .local:=by first | exact .inl rfl | exact .inr rfl | assumption):wpAny M A (storeName X.env x u) Q E s :=
 Dp I hN hi hx r (fun s' I' _=>h s' I') hf
def Inv.xh (I:Inv X ab Z H s) (ho:s'.os=s.os) (u:Un (j0 X.stack) ch H H' s.heap s'.heap) (az:c6 X.prog X.w H' s'.heap) (hg:AllBare s'.gens)
  (sD:∀ b∈ch,(b∈X.ex\/X.bq.heap.objs.size<=b)/\b≠X.env.locals/\(∀ x c,X.env.cells.lookup x=some c->c≠b)/\∀ p∈X.pn++ab,p.1≠b):Inv X ab Z H' s':=by
 obtain ⟨h',g',d',t',o'⟩:=s';have e:o'=s.os:=ho;subst e;exact I.call (g':=g') (t':=t') (d':=d') u az hg sD
end
abbrev XK:=Value->zv->Hp->Prop
abbrev St:=List (Option V)
abbrev VK:=V->Hp->Prop
abbrev TE:=St->Hp->VK->Prop
abbrev TT:=St->Hp->(Bool->Hp->Prop)->Prop
abbrev TA:=St->Hp->(List V->Hp->Prop)->Prop
structure Ends where
 nx:St->Hp->Prop
 rt:VK
 bk:St->Hp->Prop:=fun _ _=>False
 ct:St->Hp->Prop:=fun _ _=>False
noncomputable abbrev TS:=Ends->St->Hp->Prop
def EP (X:Cx) (ab:w4) (Z:St) (Q:VK) (u:Value) (s':Shared):Prop:=∃ v H',Inv X ab Z H' s'/\RelV v u/\Q v H'
def TP (X:Cx) (ab:w4) (Z:St) (Q:Bool->Hp->Prop) (b:Bool) (s':Shared):Prop:=∃ H',Inv X ab Z H' s'/\Q b H'
def AP (X:Cx) (ab:w4) (Z:St) (Q:List V->Hp->Prop) (us:zg) (s':Shared):Prop:=∃ vs H',Inv X ab Z H' s'/\Vals vs us/\Q vs H'
def SP (X:Cx) (ab:w4) (D:Ends) (f:Flow) (s':Shared):Prop :=
 match f with
 | .next=>∃ a9 H',Inv X ab a9 H' s'/\D.nx a9 H'
 | .brk=>∃ a9 H',Inv X ab a9 H' s'/\D.bk a9 H'
 | .cont=>∃ a9 H',Inv X ab a9 H' s'/\D.ct a9 H'
 | .ret u=>∃ v a9 H',Inv X ab a9 H' s'/\RelV v u/\D.rt v H'
def PE (X:Cx) (e:Expr) (t:TE):Prop :=
 ∀ (ab:w4) (s:Shared) (Z:St) (H:Hp) (Q:VK),Inv X ab Z H s->t Z H Q->wpAny (model X.prog X.w) X.A (eval e X.env) (EP X ab Z Q) X.xe s
def PT (X:Cx) (e:Expr) (t:TT):Prop :=
 ∀ (ab:w4) (s:Shared) (Z:St) (H:Hp) (Q:Bool->Hp->Prop),Inv X ab Z H s->t Z H Q->wpAny (model X.prog X.w) X.A (isTrue e X.env (eval e X.env)) (TP X ab Z Q) X.xe s
def PW (X:Cx) (e:Expr) (t:TT):Prop :=
 ∀ (whole:Sem Value) (ab:w4) (s:Shared) (Z:St) (H:Hp) (Q:Bool->Hp->Prop),Inv X ab Z H s->t Z H Q->wpAny (model X.prog X.w) X.A (isTrue e X.env whole) (TP X ab Z Q) X.xe s
variable {X:Cx}{e:Expr}
def PW.pt {t:TT} (h:PW X e t):PT X e t:=h _
def PA (X:Cx) (es:zl) (t:TA):Prop :=
 ∀ (pos:Pos) (ab:w4) (s:Shared) (Z:St) (H:Hp) (Q:List V->Hp->Prop),Inv X ab Z H s->t Z H Q->wpAny (model X.prog X.w) X.A (spliced (backTo pos (starEach es X.env))) (AP X ab Z Q) X.xe s
def PS (X:Cx) (st:Stmt) (t:TS):Prop :=
 ∀ (ab:w4) (s:Shared) (Z:St) (H:Hp) (D:Ends),Inv X ab Z H s->t D Z H->wpAny (model X.prog X.w) X.A (exec st X.env) (SP X ab D) X.xe s
def gu (X:Cx) (st:zn) (t:TS):Prop :=
 ∀ (ab:w4) (s:Shared) (Z:St) (H:Hp) (D:Ends),Inv X ab Z H s->t D Z H->wpAny (model X.prog X.w) X.A (execs st X.env) (SP X ab D) X.xe s
variable {s:Shared}
def a7 {α:Type}{t:Sem α}{Q Q':α->Shared->Prop}{M:Model} (h:wpAny M A t Q E s) (hQ:∀ a s,Q a s->Q' a s):wpAny M A t Q' E s:=wpAny_mono h hQ fun _ _ x=>x
variable {ab:w4}{Z:St}{pos:Pos}{op:CmpOp}{t:TE}{c:Expr}
section
variable {X:Cx}
def bin {a b:Expr}{ta tb:TE} (ha:PE X a ta) (hb:PE X b tb) {R:V->V->Hp->Prop} (I:Inv X ab Z H s) (h:ta Z H fun x H1=>tb Z H1 fun y H2=>R x y H2)
  {α:Type}{Q:α->Shared->Prop}{f:Value->Value->Sem α}
  (hf:∀ v u s2 x y H2,Inv X ab Z H2 s2->RelV x v->RelV y u->R x y H2->wpAny (model X.prog X.w) X.A (f v u) Q X.xe s2) :
  wpAny (model X.prog X.w) X.A (eval a X.env) (fun v aS=>wpAny (model X.prog X.w) X.A (eval b X.env) (fun u oJ=>wpAny (model X.prog X.w) X.A (f v u) Q X.xe oJ) X.xe aS) X.xe s:=by
 refine a7 (ha ab s Z H _ I h) fun v s1 ⟨x,H1,I1,r1,q1⟩=>?_
 refine a7 (hb ab s1 Z H1 _ I1 q1) fun u s2 ⟨y,H2,I2,r2,q2⟩=>?_
 exact hf v u s2 x y H2 I2 r1 r2 q2
def Ac (i:Nat):TE:=fun Z H Q=>∃ v,Z[i]?=some (some v)/\Q v H
def tC (v:V):TE:=fun _ H Q=>Q v H
def iM (hN:X.N[i]?=some x) (hv:nE X.env.scope x) (hd:(x == ("__debug__":Str))=false:=by decide) (eJ:(x == ("__classdict__":Str))=false:=by decide):PE X (.Name x pos) (Ac i):=by
 intro ab s Z H Q I h;obtain ⟨v,e,h⟩:=h;obtain ⟨m,hn,hl⟩:=I.loc;obtain ⟨u,r,l⟩:=hl i x v hN e hv;have fin:EP X ab Z Q u s:=⟨v,H,I,r,h⟩;rcases l with ⟨hk,hm⟩ | ⟨hk,c,hc,cw⟩
 .exact wpAny_Name (wpAny_loadName_local I.ok.kind hk hn hm fin) hd
 .rcases hk with hk | hk
  .exact wpAny_Name (wpAny_loadName_cell I.ok.kind hk hc cw fin) hd
  .exact wpAny_Name (wpAny_loadName_free I.ok.kind hk hc cw fin eJ) hd
def Xv {i j pos}:PE X (.Constant (.int i) j pos) (tC (.int i)):=fun _ _ _ H _ I h=>wpAny_Constant_int ⟨.int i,H,I.tok _,⟨_,rfl⟩,h⟩
def QR {b j pos}:PE X (.Constant (.bool b) j pos) (tC (.bl b)):=fun _ _ _ H _ I h=>Constant_bool ⟨.bl b,H,I,rfl,h⟩
def Yb {j pos}:PE X (.Constant .none j pos) (tC .ai):=fun _ _ _ H _ I h=>Constant_none ⟨.ai,H,I,rfl,h⟩
def Gl (X:Cx) (x:Str):Prop:=X.env.kindOf x=some .globalImplicit
def xK {Q:zb} (I:Inv X ab Z H s) (hg:Gl X x) (hm:X.mg x=some u) (h:Q u s)
  (hd:(x == ("__debug__":Str))=false:=by decide):wpAny (model X.prog X.w) X.A (eval (.Name x pos) X.env) Q E s :=
 Calls.Name_function_global I.ok.kind hg (Calls.loadGlobal_global (by rw [I.ok.glob];exact I.mod.glob.keeps I.bk) hm h) hd
def gY {Q:zb} (I:Inv X ab Z H s) (hg:Gl X x) (hm:X.mg x=none) (hv:bootBuiltins x=some u) (h:Q u s)
  (hn:x ≠ "__name__":=by decide) (hd:(x == ("__debug__":Str))=false:=by decide):wpAny (model X.prog X.w) X.A (eval (.Name x pos) X.env) Q E s:=by
 obtain ⟨mb,h1,h2⟩:=I.mod.blt;exact Calls.Name_function_global I.ok.kind hg (Calls.loadGlobal_builtin (by rw [I.ok.glob];exact I.mod.glob.keeps I.bk) hm (by rw [I.ok.blt];exact h1.keeps I.bk) ((h2 x hn).trans hv) h) hd
def Vq (hg:Gl X x) (hm:X.mg x=some u) (r:RelV v u) (hd:(x == ("__debug__":Str))=false:=by decide):PE X (.Name x pos) (tC v) :=
 fun _ _ _ H _ I h=>xK I hg hm ⟨v,H,I,r,h⟩ hd
def xR (hg:Gl X x) (hm:X.mg x=none) (hv:bootBuiltins x=some u) (r:RelV v u) (hn:x ≠ "__name__":=by decide) (hd:(x == ("__debug__":Str))=false:=by decide):PE X (.Name x pos) (tC v) :=
 fun _ _ _ H _ I h=>gY I hg hm hv ⟨v,H,I,r,h⟩ hn hd
variable {a b:Expr}{ta tb:TE}{pos:Pos}
def PC (X:Cx) (op:CmpOp) (a b:Expr) (t:TE):Prop :=
 ∀ (ab:w4) (s:Shared) (Z:St) (H:Hp) (Q:VK),Inv X ab Z H s->t Z H Q ->
  wpAny (model X.prog X.w) X.A (eval a X.env) (fun v aS=>wpAny (model X.prog X.w) X.A (eval b X.env) (fun u oJ=>wpAny (model X.prog X.w) X.A (compareOp op v u) (EP X ab Z Q) X.xe oJ) X.xe aS) X.xe s
def tB (t:TE):TT:=fun Z H Q=>t Z H fun x H1=>∃ c,x=.bl c/\Q c H1
def TD (h:PC X op a b t) (h1:behindInMarks op b=false:=by first | exact C4 _ (by decide) (by decide) | rfl):PT X (.Compare a [op] [b] pos) (tB t):=by
 intro ab s Z H Q I hw;refine wpAny_isTrue_Compare1 (a7 (h ab s Z H _ I hw) fun v s1 h1=>a7 h1 fun u s2 h2=>a7 h2 fun c s3 ⟨x,H1,I1,r1,q1⟩=>?_) h1;obtain ⟨d,rfl,q⟩:=q1;cases r1;exact yY ⟨H1,I1,q⟩
def PJ (h:PE X e t) (he:∀ whole,isTrue e X.env whole=(do let v <- whole;standAt e.pos;holding [v] (truthy v)):=by intro _;rfl):PT X e (tB t):=by
 intro ab s Z H Q I hw;refine isTrue_plain (a7 (h ab s Z H _ I hw) fun v s1 ⟨x,H1,I1,r1,q1⟩=>?_) (he _);obtain ⟨d,rfl,q⟩:=q1;cases r1;exact yY ⟨H1,I1,q⟩
variable {tA FU:TT}{rest:zl}
def QU (t u:TT):TT:=fun Z H Q=>t Z H fun c H1=>if c=true then u Z H1 Q else Q false H1
def QY (t u:TT):TT:=fun Z H Q=>t Z H fun c H1=>if c=true then Q true H1 else u Z H1 Q
def Q1 (t:TT):TT:=fun Z H Q=>t Z H fun c H1=>Q (!c) H1
def WX (ha:PT X a tA):PW X (.BoolOp .And [a] pos) tA:=by
 intro wh ab s Z H Q I h;refine isTrue_and (a7 (ha ab s Z H Q I h) fun c s1 e=>?_);cases c with
 | true=>exact isTrue_and_nil e
 | false=>exact e
def X4 (ha:PT X a tA):PW X (.BoolOp .Or [a] pos) tA:=by
 intro wh ab s Z H Q I h;refine isTrue_or (a7 (ha ab s Z H Q I h) fun c s1 e=>?_);cases c with
 | false=>exact isTrue_or_nil e
 | true=>exact e
def ZR (ha:PT X a tA) (hb:PW X (.BoolOp .And (b::rest) pos) FU):PW X (.BoolOp .And (a::b::rest) pos) (QU tA FU):=by
 intro wh ab s Z H Q I h;refine isTrue_and (a7 (ha ab s Z H _ I h) fun c s1 ⟨H1,I1,q1⟩=>?_);cases c with
 | true=>exact hb wh ab s1 Z H1 Q I1 q1
 | false=>exact ⟨H1,I1,q1⟩
def Q2 (ha:PT X a tA) (hb:PW X (.BoolOp .Or (b::rest) pos) FU):PW X (.BoolOp .Or (a::b::rest) pos) (QY tA FU):=by
 intro wh ab s Z H Q I h;refine isTrue_or (a7 (ha ab s Z H _ I h) fun c s1 ⟨H1,I1,q1⟩=>?_);cases c with
 | true=>exact ⟨H1,I1,q1⟩
 | false=>exact hb wh ab s1 Z H1 Q I1 q1
def Nk (ha:PT X a tA):PT X (.UnaryOp .Not a pos) (Q1 tA):=by
 intro ab s Z H Q I h;exact isTrue_not (ha ab s Z H (fun c H1=>Q (!c) H1) I h)
def Q3 (ta tb:TE):TE:=fun Z H Q=>ta Z H fun x H1=>∃ c,x=.bl c/\if c=true then tb Z H1 Q else Q (.bl false) H1
def Q4 (ta tb:TE):TE:=fun Z H Q=>ta Z H fun x H1=>∃ c,x=.bl c/\if c=true then Q (.bl true) H1 else tb Z H1 Q
def Q_ (ta:TE):TE:=fun Z H Q=>ta Z H fun x H1=>∃ c,x=.bl c/\Q (.bl (!c)) H1
def Qo {op} (h:PE X a t):PE X (.BoolOp op [a] pos) t:=fun ab s Z H Q I hw=>BoolOp_one (h ab s Z H Q I hw)
def XM (ha:PE X a ta) (hb:PE X (.BoolOp .And (b::rest) pos) tb):PE X (.BoolOp .And (a::b::rest) pos) (Q3 ta tb):=by
 intro ab s Z H Q I h;refine BoolOp_and (a7 (ha ab s Z H _ I h) fun v s1 ⟨x,H1,I1,r1,q1⟩=>?_);obtain ⟨c,rfl,q1⟩:=q1;cases r1;refine yY ?_;cases c with
 | true=>exact hb ab s1 Z H1 Q I1 q1
 | false=>exact ⟨.bl false,H1,I1,rfl,q1⟩
def Rc (ha:PE X a ta) (hb:PE X (.BoolOp .Or (b::rest) pos) tb):PE X (.BoolOp .Or (a::b::rest) pos) (Q4 ta tb):=by
 intro ab s Z H Q I h;refine BoolOp_or (a7 (ha ab s Z H _ I h) fun v s1 ⟨x,H1,I1,r1,q1⟩=>?_);obtain ⟨c,rfl,q1⟩:=q1;cases r1;refine yY ?_;cases c with
 | false=>exact hb ab s1 Z H1 Q I1 q1
 | true=>exact ⟨.bl true,H1,I1,rfl,q1⟩
def Yn (ha:PE X a ta):PE X (.UnaryOp .Not a pos) (Q_ ta):=by
 intro ab s Z H Q I h;refine UnaryOp_ (a7 (ha ab s Z H _ I h) fun v s1 ⟨x,H1,I1,r1,q1⟩=>?_);obtain ⟨c,rfl,q1⟩:=q1;cases r1;exact not_of (yY ⟨.bl (!c),H1,I1,rfl,q1⟩)
def Rl (t:TT) (ta tb:TE):TE:=fun Z H Q=>t Z H fun c H1=>if c=true then ta Z H1 Q else tb Z H1 Q
def RD (hc:PT X c tA) (ha:PE X a ta) (hb:PE X b tb):PE X (.IfExp c a b pos) (Rl tA ta tb):=by
 intro ab s Z H Q I h;refine wpAny_IfExp (a7 (hc ab s Z H _ I h) fun d s1 ⟨H1,I1,q1⟩=>?_);cases d with
 | true=>exact ha ab s1 Z H1 Q I1 q1
 | false=>exact hb ab s1 Z H1 Q I1 q1
end
def cm (K:zd) (H:Hp) (a:Addr) (xs:List V):Prop :=
 Rd H a (.lst xs) \/
  ∃ (o:Obj) (its:zt) (n:Nat),K.lookup a=some o /\ o.cls=.type "list" /\ o.dict=none /\ o.data=.seq its n /\ its.size <= sizeLine /\ Vals xs its.toList
def cb (K:zd) (H:Hp) (a:Addr) (xs:List V):Prop :=
 Rd H a (.tup xs) \/
  ∃ (o:Obj) (its:zt) (n:Nat),K.lookup a=some o /\ o.cls=.type "tuple" /\ o.data=.seq its n /\ its.size <= sizeLine /\ Vals xs its.toList
noncomputable def RC:Value->Option V
 | .none=>some .ai
 | .bool b=>some (.bl b)
 | .int i _=>some (.int i)
 | .str x _=>some (.str x)
 | .bytes b _=>some (.CI b)
 | .float b _=>some (.BY b)
 | .ref a=>some (.ref a)
 | .type n=>some (.ty n)
 | _=>none
def RelV.abs {x:V} (r:RelV x u):RC u=some x:=by
 cases x with
 | ai=>cases r;rfl
 | bl _=>cases r;rfl
 | int _=>obtain ⟨t,rfl⟩:=r;rfl
 | str _=>obtain ⟨t,rfl⟩:=r;rfl
 | CI _=>obtain ⟨t,rfl⟩:=r;rfl
 | BY _=>obtain ⟨t,rfl⟩:=r;rfl
 | ref _=>cases r;rfl
 | ty _=>cases r;rfl
variable {y:V}
def RelV.inj {x:V} (r:RelV x u) (q:RelV y u):x=y:=y0 (r.abs.symm.trans q.abs)
theorem Vals.inj:∀ {xs ys:List V}{us:zg},Vals xs us->Vals ys us->xs=ys
 | _,_,_,.nil,.nil=>rfl
 | _,_,_,.cons r t,.cons r' t'=>by rw [r.inj r',Vals.inj t t']
section
variable {X:Cx}{ab:w4}{Z:St}{H:Hp}{s:Shared}{a:Addr}{xs ys:List V}
def cm.of (h:H a=some (.lst xs)):cm K H a xs:=.inl (.inl h)
def cb.of (h:H a=some (.tup xs)):cb K H a xs:=.inl (.inl h)
def Inv.list (I:Inv X ab Z H s) (h:cm X.K H a xs):∃ its:zg,Vals xs its/\PlainL s.heap a its.toArray/\xs.length<=sizeLine:=by
 rcases h with h | ⟨o,its,n,hk,hc,hd,hs,hz,r⟩
 .obtain ⟨z,its,n,r,e⟩:=h.ok I.az;exact ⟨its,r,⟨_,n,e,rfl,rfl,rfl⟩,z⟩
 .refine ⟨its.toList,r,⟨o,n,I.gO a o hk,hc,hd,by simpa using hs⟩,?_⟩;have e:=r.length;simp only [Array.length_toList] at e;omega
def Inv.tuple (I:Inv X ab Z H s) (h:cb X.K H a xs):∃ its:zg,Vals xs its/\IsTup s.heap a its.toArray/\xs.length<=sizeLine:=by
 rcases h with h | ⟨o,its,n,hk,hc,hs,hz,r⟩
 .obtain ⟨z,its,r,p⟩:=h.ok I.az;exact ⟨its,r,p,z⟩
 .refine ⟨its.toList,r,⟨o,I.gO a o hk,hc,n,by simpa using hs⟩,?_⟩;have e:=r.length;simp only [Array.length_toList] at e;omega
def Inv.kP (I:Inv X ab Z H s) (h:cm X.K H a xs) (h':cm X.K H a ys):xs=ys:=by
 obtain ⟨its,r,⟨o,n,e,_,_,d⟩,_⟩:=I.list h;obtain ⟨its',r',⟨o',n',e',_,_,d'⟩,_⟩:=I.list h';rw [e] at e';cases e';rw [d] at d';injection d' with d1 _;have:its=its':=by simpa using congrArg Array.toList d1
 subst this;exact r.inj r'
def Inv.eL (I:Inv X ab Z H s) (h:cb X.K H a xs) (h':cb X.K H a ys):xs=ys:=by
 obtain ⟨its,r,⟨o,e,_,n,d⟩,_⟩:=I.tuple h;obtain ⟨its',r',⟨o',e',_,n',d'⟩,_⟩:=I.tuple h';rw [e] at e';cases e';rw [d] at d';injection d' with d1 _;have:its=its':=by simpa using congrArg Array.toList d1
 subst this;exact r.inj r'
end
noncomputable abbrev Cx.gZ (X:Cx) (E:zb):Cx:={ X with xe:=E }
noncomputable abbrev Cx.tF (X:Cx):Cx:=X.gZ fun _ _=>False
def Cx.Ok.gZ (ok:X.Ok) (E:zb):(X.gZ E).Ok :=
 ⟨ok.mod,ok.kind,ok.glob,ok.blt,ok.above,ok.inj,ok.has,ok.AA,ok.hd,ok.frames,ok.FK,ok.IP,ok.bs,ok.l8,ok.oC,ok.oD,ok.dA,ok.l9,ok.tab⟩
def Cx.Ok.dQ (ok:(X.gZ E).Ok):X.Ok :=
 ⟨ok.mod,ok.kind,ok.glob,ok.blt,ok.above,ok.inj,ok.has,ok.AA,ok.hd,ok.frames,ok.FK,ok.IP,ok.bs,ok.l8,ok.oC,ok.oD,ok.dA,ok.l9,ok.tab⟩
section
variable {X:Cx}{ab:w4}{Z:St}{H:Hp}{s:Shared}{E:zb}
def Inv.gZ (I:Inv X ab Z H s) (E:zb):Inv (X.gZ E) ab Z H s:=⟨I.ok.gZ E,I.os,I.bare,I.base,I.loc,I.cell,I.free,I.cq,I.pin,I.az,I.len⟩
def Inv.dQ (I:Inv (X.gZ E) ab Z H s):Inv X ab Z H s:=⟨I.ok.dQ,I.os,I.bare,I.base,I.loc,I.cell,I.free,I.cq,I.pin,I.az,I.len⟩
def SP.dQ {D:Ends}{f:Flow} (h:SP (X.gZ E) ab D f s'):SP X ab D f s':=by
 cases f with
 | next=>obtain ⟨a9,H',I,q⟩:=h;exact ⟨a9,H',I.dQ,q⟩
 | brk=>obtain ⟨a9,H',I,q⟩:=h;exact ⟨a9,H',I.dQ,q⟩
 | cont=>obtain ⟨a9,H',I,q⟩:=h;exact ⟨a9,H',I.dQ,q⟩
 | ret u=>obtain ⟨v,a9,H',I,r,q⟩:=h;exact ⟨v,a9,H',I.dQ,r,q⟩
def gu.tF {st:zn}{t:TS} (h:gu X.tF st t):gu X st t:=fun ab s Z H D I hw =>
 wpAny_mono (h ab s Z H D (I.gZ _) hw) (fun _ _ q=>q.dQ) fun _ _ z=>y4 z
end
variable {tc:TT}
section
variable {X:Cx}{st:Stmt}{rest:zn}{t u:TS}{e:Expr}{te:TE}{pos:Pos}
def RE:TS:=fun D Z H=>D.nx Z H
def RF (t u:TS):TS:=fun D Z H=>t { D with nx:=u D } Z H
def BR:gu X [] RE:=fun _ _ Z H _ I h=>wpAny_execs_nil ⟨Z,H,I,h⟩
def lg (h1:PS X st t) (h2:gu X rest u):gu X (st::rest) (RF t u):=by
 intro ab s Z H D I h;refine wpAny_execs_cons (a7 (h1 ab s Z H { D with nx:=u D } I h) fun f s1 q=>?_);cases f with
 | next =>
  obtain ⟨a9,H',I',q⟩:=q;exact h2 ab s1 a9 H' D I' q
 | ret v=>exact q
 | brk=>exact q
 | cont=>exact q
def BK (h1:PS X st t):gu X [st] t:=by
 intro ab s Z H D I h;refine wpAny_execs_cons (a7 (h1 ab s Z H D I h) fun f s1 q=>?_);cases f with
 | next=>exact wpAny_execs_nil q
 | ret v=>exact q
 | brk=>exact q
 | cont=>exact q
def Inv.quiet (I:Inv X ab Z H s):interactive X.env=false:=by simp [interactive,I.ok.kind]
def RH (te:TE):TS:=fun D Z H=>te Z H fun _ H1=>D.nx Z H1
def rT (he:PE X e te) (hs:swapsWith e none pos.line X.env=pure false:=by rfl):PS X (.Expr e pos) (RH te):=by
 intro ab s Z H D I h;exact wpAny_Expr_any (a7 (he ab s Z H _ I h) fun v s1 ⟨x,H1,I1,r1,q1⟩=>⟨Z,H1,I1,q1⟩) I.quiet hs
def RI (te:TE):TS:=fun D Z H=>te Z H D.rt
def X7 (he:PE X e te):PS X (.Return (some e) pos) (RI te):=by
 intro ab s Z H D I h;exact wpAny_Return_some (a7 (he ab s Z H _ I h) fun v s1 ⟨x,H1,I1,r1,q1⟩=>⟨x,Z,H1,I1,r1,q1⟩)
def RO:TS:=fun D _ H=>D.rt .ai H
def Wb:PS X (.Return none pos) RO:=fun _ _ Z H _ I h=>wpAny_Return_none ⟨.ai,Z,H,I,rfl,h⟩
def RR (c:TT) (t u:TS):TS:=fun D Z H=>c Z H fun b H1=>if b=true then t D Z H1 else u D Z H1
def U7 {a b:zn} (hc:PT X c tc) (ha:gu X a t) (hb:gu X b u):PS X (.If c a b pos) (RR tc t u):=by
 intro ab s Z H D I h;refine wpAny_If (a7 (hc ab s Z H _ I h) fun d s1 ⟨H1,I1,q1⟩=>?_);cases d with
 | true=>exact ha ab s1 Z H1 D I1 q1
 | false=>exact hb ab s1 Z H1 D I1 q1
def Gi:TS:=fun _ _ _=>False
def Ud:PS X st Gi:=fun _ _ _ _ _ _ h=>h.elim
def CT {sts:zn}:gu X sts Gi:=fun _ _ _ _ _ _ h=>h.elim
end
abbrev TG:=V->St->Hp->(St->Hp->Prop)->Prop
abbrev AD:=List V->St->Hp->(St->Hp->Prop)->Prop
def PG (X:Cx) (target:Expr) (t:TG):Prop :=
 ∀ (ab:w4) (s:Shared) (Z:St) (H:Hp) (v:V) (u:Value) (Q:St->Hp->Prop),Inv X ab Z H s->RelV v u->t v Z H Q ->
  wpAny (model X.prog X.w) X.A (assign target X.env u) (fun _ s'=>∃ a9 H',Inv X ab a9 H' s'/\Q a9 H') X.xe s
def FV (X:Cx) (ts:zl) (t:AD):Prop :=
 ∀ (ab:w4) (s:Shared) (Z:St) (H:Hp) (vs:List V) (us:zg) (Q:St->Hp->Prop),Inv X ab Z H s->Vals vs us->t vs Z H Q ->
  wpAny (model X.prog X.w) X.A (assignInOrder ((assignEach ts X.env).map (·.2)) us) (fun _ s'=>∃ a9 H',Inv X ab a9 H' s'/\Q a9 H') X.xe s
abbrev Mp:=V->V->V->Hp->(Hp->Prop)->Prop
def Uh (X:Cx) (t:Mp):Prop :=
 ∀ (ab:w4) (s:Shared) (Z:St) (H:Hp) (o i v:V) (ov iv u:Value) (Q:Hp->Prop),Inv X ab Z H s->RelV o ov->RelV i iv->RelV v u->t o i v H Q ->
  wpAny (model X.prog X.w) X.A (setItem ov iv u) (fun _ s'=>∃ H',Inv X ab Z H' s'/\Q H') X.xe s
variable {es:zl}{k n:Nat}{tg:Expr}{g:TG}
section
variable {X:Cx}{pos:Pos}
def Ar (i:Nat):TG:=fun v Z H Q=>Q (Z.set i (some v)) H
def Cq (hN:X.N.Nodup) (hi:X.N[i]?=some x) (hx:Loc X.env.scope x) (hf:X.fn x=true\/X.env.scope.names.lookup x=some .local:=by first | exact .inl rfl | exact .inr rfl | assumption):PG X (.Name x pos) (Ar i):=by
 intro ab s Z H v u Q I r h;exact wpAny_assign_Name (R5 I hN hi hx r (fun s' I'=>⟨_,H,I',h⟩) hf)
def Zn:AD:=fun vs Z H Q=>vs=[]/\Q Z H
def Lz (t:TG) (u:AD):AD:=fun vs Z H Q=>∃ v r,vs=v::r/\t v Z H fun a9 H'=>u r a9 H' Q
def Wf:FV X [] Zn:=by
 intro ab s Z H vs us Q I r h;obtain ⟨e,h⟩:=h;subst e;cases r;exact assignInOrder_nil ⟨Z,H,I,h⟩
def HB {t:TG}{u:AD} (h1:PG X e t) (h2:FV X es u)
  (hs:(assignEach (e::es) X.env).map (·.2)=assign e X.env::(assignEach es X.env).map (·.2):=by rfl):FV X (e::es) (Lz t u):=by
 intro ab s Z H vs us Q I r h;obtain ⟨v,vr,e1,h⟩:=h;subst e1;cases r with
 | cons r rr =>
  rw [hs];refine assignInOrder_cons (a7 (h1 ab s Z H _ _ _ I r h) fun _ s1 ⟨nK,H1,I1,q1⟩=>?_);exact h2 ab s1 nK H1 _ _ Q I1 rr q1
def Zu (K:zd) (n:Nat) (t:AD):TG:=fun v Z H Q=>∃ a xs,v=.ref a/\cb K H a xs/\xs.length=n/\t xs Z H Q
def Yw {t:AD} (hc:X.calm=true) (h:FV X es t)
  (hn:(assignEach es X.env).length=n:=by rfl) (ma:(assignEach es X.env).findIdx? (·.1)=none:=by rfl):PG X (.Tuple es k pos) (Zu X.K n t):=by
 intro ab s Z H v u Q I r hw;obtain ⟨a,xs,e1,hq,hl,hw⟩:=hw;subst e1;cases r;obtain ⟨its,rv,ht,hz⟩:=I.tuple hq;refine assign_Tuple_tuple (I.ok.hd hc) ht (by simp [hn,<- hl,rv.length]) ma fun h' hx=>?_
 have I1:Inv X ab Z H { s with heap:=h' }:=I.kept (t':=s.toks) fun b o e=>hx b o (vF (vz e)) e
 exact h ab _ Z H xs _ Q I1 (by simpa using rv) hw
def RS (to ti:TE) (t:Mp):TG:=fun v Z H Q=>to Z H fun o H1=>ti Z H1 fun i H2=>t o i v H2 fun H3=>Q Z H3
def Yu {o i:Expr}{to ti:TE}{t:Mp} (ho:PE X o to) (hi:PE X i ti) (hs:Uh X t)
  (ha:∀ v,assign (.Subscript o i pos) X.env v=(do
   let ov <- holding [v] (eval o X.env)
   let iv <- holding [v,ov] (eval i X.env)
   standAt pos
   holding [v,ov,iv] (setItem ov iv v)
   release [v,ov,iv] []):=by intro _;rfl):PG X (.Subscript o i pos) (RS to ti t):=by
 intro ab s Z H v u Q I r h;rw [ha];refine z0 (wpAny_holding (a7 (ho ab s Z H _ I h) fun ov s1 ⟨x,H1,I1,r1,q1⟩=>?_));refine z0 (wpAny_holding (a7 (hi ab s1 Z H1 _ I1 q1) fun iv s2 ⟨y,H2,I2,r2,q2⟩=>?_));refine z0 (wpAny_standAt (z0 (wpAny_holding (a7 (hs ab s2 Z H2 x y v ov iv u _ I2 r1 r2 r q2) fun _ s3 ⟨H3,I3,q3⟩=>?_))));exact wpAny_release ⟨Z,H3,I3,q3⟩
def Q8 (te:TE) (g:TG):TS:=fun D Z H=>te Z H fun x H1=>g x Z H1 D.nx
def lQ {te:TE} (he:PE X e te) (hg:PG X tg g) (hs:swapsWithSole [tg] e pos.line X.env=pure false:=by rfl) (hw:swappedStores [tg] e X.env=pure none:=by rfl)
  (h1:(assignEach [tg] X.env).map (·.2)=[assign tg X.env]:=by rfl):PS X (.Assign [tg] e pos) (Q8 te g):=by
 intro ab s Z H D I h;refine wpAny_Assign_stores (a7 (he ab s Z H _ I h) fun v s1 ⟨x,H1,I1,r1,q1⟩=>?_) hs hw;rw [h1];exact a7 (hg ab s1 Z H1 x v _ I1 r1 q1) fun _ s2 q=>q
end
variable {body:zn}{tb:TS}
section
variable {X:Cx}{pos:Pos}
def Z7 (c:TT) (tb:TS):TS:=fun D Z H=>∃ W:Nat->St->Hp->Prop,(∃ m,W m Z H)/\∀ m Z H,W m Z H ->
 c Z H fun b H1=>if b=true then ∃ N:St->Hp->Prop,(∀ a9 H',N a9 H'->∃ m',m' < m/\W m' a9 H')/\tb { D with nx:=N,ct:=N,bk:=D.nx } Z H1 else D.nx Z H1
def Q7 (hp:PassesOwn (model X.prog X.w) X.A X.env X.xe) (hc:PT X c tc) (hb:gu X body tb):PS X (.While c body [] pos) (Z7 tc tb):=by
 intro ab s Z H D I h;obtain ⟨W,⟨m0,w0⟩,turn⟩:=h;refine wpAny_While (codeAny_whileLoop (fun n s'=>∃ a9 H',Inv X ab a9 H' s'/\W n a9 H') ?_ m0 ⟨Z,H,I,w0⟩);rintro n s1 ⟨nK,H1,I1,w1⟩;refine wpAny_passesOwn hp (a7 (hc ab s1 nK H1 _ I1 (turn n nK H1 w1)) fun b s2 ⟨H2,I2,q2⟩=>?_);cases b with
 | true =>
  obtain ⟨N,hN,q2⟩:=q2;rw [if_pos rfl];refine wpAny_passesOwn hp (a7 (hb ab s2 nK H2 _ I2 q2) fun f s3 q3=>?_);cases f with
  | next =>
   obtain ⟨oP,H3,I3,n3⟩:=q3;obtain ⟨m',hm,w3⟩:=hN oP H3 n3;exact ⟨m',hm,oP,H3,I3,w3⟩
  | cont =>
   obtain ⟨oP,H3,I3,n3⟩:=q3;obtain ⟨m',hm,w3⟩:=hN oP H3 n3;exact ⟨m',hm,oP,H3,I3,w3⟩
  | brk=>exact q3
  | ret v=>exact q3
 | false =>
  rw [if_neg Bool.false_ne_true];exact wpAny_execs_nil ⟨nK,H2,I2,q2⟩
end
structure It where
 go:Nat->Hp->Prop
 kQ:Nat->Hp->V->Hp->Prop
 stop:Nat->Hp->Prop
def eY (X:Cx) (ab:w4) (H:Hp) (b:Addr):Prop :=
 H b=none/\b≠X.env.locals/\b ∉ X.fs/\(b∈X.ex\/X.bq.heap.objs.size<=b)/\(∀ x c,X.env.cells.lookup x=some c->c≠b)/\∀ p∈X.pn++ab,p.1≠b
def Inv.gw (I:Inv X ab Z H s) (hb:s.heap.objs.size<=b) (hn:H' b=none):eY X ab H' b:=by
 refine ⟨hn,vS (v4 I.lt hb),I.IS hb,.inr (vT I.sz hb),fun x c e z=>?_,fun p hp z=>?_⟩
 .obtain ⟨v,q⟩:=I.cell x c e;exact absurd (v4 q.lt (by rw [z];exact hb)) (yk _)
 .exact absurd (v4 (vz (I.pin p hp).1) (by rw [z];exact hb)) (yk _)
structure Turn (P:Program) (w:World) (K:zd) (tg:Expr) (J:It) (fp:List Addr) (it:Addr) (tn:Nat->Heap->Prop):Prop where
 mem:it∈fp
 obj:∀ i h,tn i h->∀ b∈fp,∃ o,h.get? b=some o/\∀ v,o.data≠.cell v
 keep:∀ i h h',tn i h->(∀ b∈fp,∀ o,h.get? b=some o->h'.get? b=some o)->tn i h'
 item:∀ (X:Cx),X.prog=P->X.w=w->X.K=K->X.calm=true->∀ (i:Nat) (ab:w4) (s:Shared) (Z:St) (H:Hp) (E:zb),Inv X ab Z H s->(∀ b∈fp,eY X ab H b)->tn i s.heap->J.go i H ->
  wpAny (model P w) X.A (pyNext (.ref it)) (fun r s1=>∃ u,r=some u /\
   wpAny (model P w) X.A (letOwnedTupleGo tg (.ref it) u) (fun _ s2=>∃ x H',Inv X ab Z H' s2/\RelV x u/\J.kQ i H x H'/\tn (i+1) s2.heap/\∀ b∈fp,H' b=none) E s1) E s
 done:∀ (X:Cx),X.prog=P->X.w=w->X.K=K->X.calm=true->∀ (i:Nat) (ab:w4) (s:Shared) (Z:St) (H:Hp) (E:zb),Inv X ab Z H s->(∀ b∈fp,eY X ab H b)->tn i s.heap->J.stop i H ->
  wpAny (model P w) X.A (pyNext (.ref it)) (fun r s1=>r=none/\Inv X ab Z H s1) E s
 self:∀ (A:Around) (i:Nat) (s:Shared) (Q:zb) (E:zb),tn i s.heap->Q (.ref it) s->wpAny (model P w) A (pyIter (.ref it)) Q E s
abbrev TI:=St->Hp->(It->Hp->Prop)->Prop
def C5 (X:Cx) (ab:w4) (Z:St) (tg:Expr) (R:It->Hp->Prop) (IU:Value) (s2:Shared):Prop :=
 ∃ (it:Addr) (fp:List Addr) (tn:Nat->Heap->Prop) (J:It) (H':Hp),IU=.ref it/\Inv X ab Z H' s2/\Turn X.prog X.w X.K tg J fp it tn/\tn 0 s2.heap/\(∀ b∈fp,eY X ab H' b)/\R J H'
def PI (X:Cx) (tg iter:Expr) (wi:TI):Prop :=
 ∀ (ab:w4) (s:Shared) (Z:St) (H:Hp) (R:It->Hp->Prop),Inv X ab Z H s->wi Z H R ->
  wpAny (model X.prog X.w) X.A (eval iter X.env) (fun v s1=>wpAny (model X.prog X.w) X.A (pyIter v) (C5 X ab Z tg R) X.xe s1) X.xe s
def Ek {M:Model}{o:Obj}{n:String}{vs:zt} (ho:s.heap.get? it=some o) (hc:o.cls=.type n) (hd:o.data=.fields vs)
  (hn:["enumerate","zip","dict_itemiterator","dict_reverseitemiterator","odict_iterator","itertools.zip_longest","itertools.pairwise"].contains n=false) (hQ:Q () s):wpAny M A (letOwnedTupleGo tg (.ref it) u) Q E s:=by
 unfold letOwnedTupleGo;cases tg <;> first
  | exact ve hQ
  | (cases u <;> first
    | exact ve hQ
    | (refine z0 (wpAny_load ho ?_)
       rw [hc,hd];show wpAny M A (if (["enumerate","zip","dict_itemiterator","dict_reverseitemiterator","odict_iterator","itertools.zip_longest","itertools.pairwise"].contains n && vs[0]? == some (rawInt _))=true then _ else _) Q E s
       rw [if_neg (by intro h;rw [hn,Bool.false_and] at h;cases h)];exact ve hQ))
noncomputable def IX (K:zd) (a:Addr):It :=
 ⟨fun i H=>∃ xs x,cm K H a xs/\xs[i]?=some x,fun i H x H'=>H'=H/\∀ xs,cm K H a xs->xs[i]?=some x,fun i H=>∃ xs,cm K H a xs/\xs.length<=i⟩
noncomputable def IY (K:zd) (a:Addr):It :=
 ⟨fun i H=>∃ xs x,cb K H a xs/\xs[i]?=some x,fun i H x H'=>H'=H/\∀ xs,cb K H a xs->xs[i]?=some x,fun i H=>∃ xs,cb K H a xs/\xs.length<=i⟩
noncomputable def B0 (lo:Int) (n:Nat):It:=⟨fun i _=>i < n,fun i H x H'=>H'=H/\x=.int (lo+i),fun i _=>n<=i⟩
def Py (a it:Addr):Turn P w K tg (IX K a) [it] it (fun i h=>h.IsListIter it a i) where
 mem:=by simp
 obj:=fun i h st b hb=>by
  have e:b=it:=by simpa using hb
  subst e;obtain ⟨o,e,c,d⟩:=st;exact ⟨o,e,fun v z=>by rw [d] at z;cases z⟩
 keep:=fun i h h' st k=>st.at fun o e=>k it (by simp) o e
 item:=by
  intro X hP hw hK hc i ab s Z H E I hf st hg;subst hP hw hK;obtain ⟨xs,x,hq,hx⟩:=hg;obtain ⟨its,rv,p,hz⟩:=I.list hq;obtain ⟨u,hu,ru⟩:=rv.get hx;obtain ⟨f0,f1,f2,f3,f4,f5⟩:=hf it (by simp);refine wpAny_pyNext_list_item st p.isList (x:=u) (by simpa using hu) fun h' h_ sb=>?_
  have I1:Inv X ab Z H { s with heap:=h' }:=I.turned (t':=s.toks) (fun b o hb e=>(sb.2 b hb).trans e) f0 f1 f3 f4 f5;obtain ⟨o,e,c,d⟩:=id h_;exact ⟨u,rfl,Ek (s:={ s with heap:=h' }) e c d (by decide) ⟨x,H,I1,ru,⟨rfl,fun ys hy=>by rw [I.kP hy hq];exact hx⟩,h_,fun b hb=>(hf b hb).1⟩⟩
 done:=by
  intro X hP hw hK hc i ab s Z H E I hf st hg;subst hP hw hK;obtain ⟨xs,hq,hx⟩:=hg;obtain ⟨its,rv,p,hz⟩:=I.list hq;obtain ⟨f0,f1,f2,f3,f4,f5⟩:=hf it (by simp);have hl:=rv.length;exact wpAny_pyNext_list_end (I.ok.hd hc) st p.isList (by simp;omega) fun h' eb=>⟨rfl,I.turned (t':=s.toks) (fun b o hb e=>eb b o hb e) f0 f1 f3 f4 f5⟩
 self:=fun _ _ _ _ _ st h=>wpAny_pyIter_listiter st h
def Mt (a it:Addr):Turn P w K tg (IY K a) [it] it (fun i h=>h.IsTupleIter it a i) where
 mem:=by simp
 obj:=fun i h st b hb=>by
  have e:b=it:=by simpa using hb
  subst e;obtain ⟨o,e,c,d⟩:=st;exact ⟨o,e,fun v z=>by rw [d] at z;cases z⟩
 keep:=fun i h h' st k=>st.at fun o e=>k it (by simp) o e
 item:=by
  intro X hP hw hK hc i ab s Z H E I hf st hg;subst hP hw hK;obtain ⟨xs,x,hq,hx⟩:=hg;obtain ⟨its,rv,p,hz⟩:=I.tuple hq;obtain ⟨u,hu,ru⟩:=rv.get hx;obtain ⟨f0,f1,f2,f3,f4,f5⟩:=hf it (by simp);refine wpAny_pyNext_tuple_item st (show s.heap.IsTuple a its.toArray from p) (x:=u) (by simpa using hu) fun h' h_ sb=>?_
  have I1:Inv X ab Z H { s with heap:=h' }:=I.turned (t':=s.toks) (fun b o hb e=>(sb.2 b hb).trans e) f0 f1 f3 f4 f5;obtain ⟨o,e,c,d⟩:=id h_;exact ⟨u,rfl,Ek (s:={ s with heap:=h' }) e c d (by decide) ⟨x,H,I1,ru,⟨rfl,fun ys hy=>by rw [I.eL hy hq];exact hx⟩,h_,fun b hb=>(hf b hb).1⟩⟩
 done:=by
  intro X hP hw hK hc i ab s Z H E I hf st hg;subst hP hw hK;obtain ⟨xs,hq,hx⟩:=hg;obtain ⟨its,rv,p,hz⟩:=I.tuple hq;obtain ⟨f0,f1,f2,f3,f4,f5⟩:=hf it (by simp);have hl:=rv.length;exact wpAny_pyNext_tuple_end (I.ok.hd hc) st (show s.heap.IsTuple a its.toArray from p) (by simp;omega) fun h' eb=>⟨rfl,I.turned (t':=s.toks) (fun b o hb e=>eb b o hb e) f0 f1 f3 f4 f5⟩
 self:=fun _ _ _ _ _ st h=>wpAny_pyIter_tupleiter st h
def K5 (it:Addr) (lo:Int) (n:Nat):Turn P w K tg (B0 lo n) [it] it (fun i h=>IsRangeIter h it (lo+(i:Nat) * 1) ((n:Int) - (i:Nat)) 1) where
 mem:=by simp
 obj:=fun i h st b hb=>by
  have e:b=it:=by simpa using hb
  subst e;exact ⟨_,st,fun v z=>by
   have z':Data.fields _=Data.cell v:=z;cases z'⟩
 keep:=fun i h h' st k=>k it (by simp) _ st
 item:=by
  intro X hP hw hK hc i ab s Z H E I hf st hg;subst hP hw hK;obtain ⟨f0,f1,f2,f3,f4,f5⟩:=hf it (by simp);have W:=Walks.range (prog:=X.prog) (w:=X.w) (I.ok.hd hc) it lo 1 n;refine W.item i s _ _ hg st fun v h' tk hv h_ kk=>?_
  obtain ⟨t,rfl⟩:=hv;have I1:Inv X ab Z H { s with heap:=h',toks:=tk }:=I.turned (fun b o hb e=>kk b o (by simpa using hb) e) f0 f1 f3 f4 f5;refine ⟨_,rfl,Ek (s:={ s with heap:=h',toks:=tk }) (n:="range_iterator") h_ rfl rfl (by decide) ⟨.int (lo+i),H,I1,⟨t,?_⟩,⟨rfl,rfl⟩,h_,fun b hb=>(hf b hb).1⟩⟩
  rw [Int.mul_one]
 done:=by
  intro X hP hw hK hc i ab s Z H E I hf st hg;subst hP hw hK;obtain ⟨f0,f1,f2,f3,f4,f5⟩:=hf it (by simp);exact wpAny_pyNext_range_end (I.ok.hd hc) st (by have:n<=i:=hg;omega) fun h' eb=>⟨rfl,I.turned (t':=s.toks) (fun b o hb e=>eb b o hb e) f0 f1 f3 f4 f5⟩
 self:=fun _ _ _ _ _ st h=>wpAny_pyIter_rangeiter st h
variable {l:Expr}{tl:TE}{ta:TA}{p:Pos}{fp:List Addr}
section
variable {X:Cx}{tg:Expr}
def RU (K:zd) (tl:TE):TI:=fun Z H R=>tl Z H fun x H1=>∃ a,x=.ref a/\(∃ xs,cm K H1 a xs)/\R (IX K a) H1
def RY (K:zd) (tl:TE):TI:=fun Z H R=>tl Z H fun x H1=>∃ a,x=.ref a/\(∃ xs,cb K H1 a xs)/\R (IY K a) H1
def Wx (hl:PE X l tl):PI X tg l (RU X.K tl):=by
 intro ab s Z H R I h;refine a7 (hl ab s Z H _ I h) fun v s1 ⟨x,H1,I1,r1,q1⟩=>?_
 obtain ⟨a,e,⟨xs,hq⟩,q⟩:=q1;subst e;cases r1;obtain ⟨its,rv,p,hz⟩:=I1.list hq;refine wpAny_pyIter_list p.isList ?_;refine ⟨s1.heap.objs.size,[s1.heap.objs.size],_,_,H1,rfl,I1.kept (t':=s1.toks) fun b o e=>vw _ e,Py a _,⟨_,vy _ rfl,rfl,rfl⟩,fun b hb=>?_,q⟩;have e:b=s1.heap.objs.size:=by simpa using hb
 subst e;exact I1.gw (vE _) (I1.az.fresh (vE _))
def Yk (hl:PE X l tl):PI X tg l (RY X.K tl):=by
 intro ab s Z H R I h;refine a7 (hl ab s Z H _ I h) fun v s1 ⟨x,H1,I1,r1,q1⟩=>?_
 obtain ⟨a,e,⟨xs,hq⟩,q⟩:=q1;subst e;cases r1;obtain ⟨its,rv,p,hz⟩:=I1.tuple hq;refine wpAny_pyIter_tuple (show s1.heap.IsTuple a its.toArray from p) ?_;refine ⟨s1.heap.objs.size,[s1.heap.objs.size],_,_,H1,rfl,I1.kept (t':=s1.toks) fun b o e=>vw _ e,Mt a _,⟨_,vy _ rfl,rfl,rfl⟩,fun b hb=>?_,q⟩;have e:b=s1.heap.objs.size:=by simpa using hb
 subst e;exact I1.gw (vE _) (I1.az.fresh (vE _))
def Ig {R:It->Hp->Prop}{lo hi:Int}{t u v:Tok}{tk:Nat} (I:Inv X ab Z H s) (h1:-(2 ^ 62)<=lo) (h2:lo < 2 ^ 62) (h3:-(2 ^ 62)<=hi) (h4:hi < 2 ^ 62)
  (q:R (B0 lo (hi - lo).toNat) H):wpAny (model X.prog X.w) X.A (pyIter (.ref s.heap.objs.size)) (C5 X ab Z tg R) E { s with heap:=s.heap.push { cls:=.type "range",data:=.fields #[.int lo t,.int hi u,.int 1 v] },toks:=tk }:=by
 refine wpAny_pyIter_range (IsRange.new ..) (small_one h1 h2 h3 h4) ?_;have I1:Inv X ab Z H { s with heap:=s.heap.push { cls:=.type "range",data:=.fields #[.int lo t,.int hi u,.int 1 v] },toks:=tk }:=I.kept fun b o e=>vw _ e
 refine ⟨(s.heap.push { cls:=.type "range",data:=.fields #[.int lo t,.int hi u,.int 1 v] }).objs.size,[(s.heap.push { cls:=.type "range",data:=.fields #[.int lo t,.int hi u,.int 1 v] }).objs.size],_,_,H,rfl,
  I1.kept (t':=tk) fun b o e=>vw _ e,K5 _ lo (hi - lo).toNat,?_,fun b hb=>?_,q⟩
 .have e1:lo+((0:Nat):Int) * 1=lo:=by simp
  have e2:(((hi - lo).toNat:Nat):Int) - ((0:Nat):Int)=Builtin.Range.rangeSize lo hi 1:=by rw [rangeSize_one];split <;> omega
  show IsRangeIter _ _ (lo+((0:Nat):Int) * 1) ((((hi - lo).toNat:Nat):Int) - ((0:Nat):Int)) 1
  rw [e1,e2];exact vy _ rfl
 .have e:b=(s.heap.push { cls:=.type "range",data:=.fields #[.int lo t,.int hi u,.int 1 v] }).objs.size:=by simpa using hb
  subst e;exact I1.gw (vE _) (I1.az.fresh (vE _))
def R1 (ta:TA):TI:=fun Z H R=>ta Z H fun vs H1=>∃ j:Int,vs=[.int j]/\-(2 ^ 62)<=j/\j < 2 ^ 62/\R (B0 0 j.toNat) H1
def R_ (ta:TA):TI:=fun Z H R=>ta Z H fun vs H1=>∃ i j:Int,vs=[.int i,.int j]/\(-(2 ^ 62)<=i/\i < 2 ^ 62/\-(2 ^ 62)<=j/\j < 2 ^ 62)/\R (B0 i (j - i).toNat) H1
def Ol {a:Expr} (hg:Gl X "range") (hm:X.mg "range"=none) (ha:PA X [a] ta) (hs:starEach [a] X.env=[(false,eval a X.env)]:=by rfl):PI X tg (.Call (.Name "range" p) [a] [] pos) (R1 ta):=by
 intro ab s Z H R I h;refine Call_ (gY I hg hm boot_range (yT (a7 (ha pos ab s Z H _ I h) fun us s1 ⟨vs,H1,I1,r1,q1⟩=>?_) hs rfl));obtain ⟨j,e,q1,q2,q⟩:=q1;subst e;cases r1 with
 | cons r rr =>
  cases rr;obtain ⟨t,rfl⟩:=r;exact call_range_1 (Ig I1 (by omega) (by omega) q1 q2 (by simpa using q))
def Oz {a b:Expr} (hg:Gl X "range") (hm:X.mg "range"=none) (ha:PA X [a,b] ta) (hs:starEach [a,b] X.env=[(false,eval a X.env),(false,eval b X.env)]:=by rfl) (B1:starEach [b] X.env=[(false,eval b X.env)]:=by rfl) :
  PI X tg (.Call (.Name "range" p) [a,b] [] pos) (R_ ta):=by
 intro ab s Z H R I h;refine Call_ (gY I hg hm boot_range (yT (a7 (ha pos ab s Z H _ I h) fun us s1 ⟨vs,H1,I1,r1,q1⟩=>?_) (by rw [hs,B1]) (by rw [B1];rfl)));obtain ⟨i,j,e,⟨q1,q2,q3,q4⟩,q⟩:=q1;subst e;cases r1 with
 | cons r rr =>
  cases rr with
  | cons r' rr =>
   cases rr;obtain ⟨t,rfl⟩:=r;obtain ⟨t',rfl⟩:=r';exact call_range_2 (Ig I1 q1 q2 q3 q4 q)
def R' (wi:TI) (g:TG) (tb:TS):TS:=fun D Z H=>wi Z H fun J H1=>∃ W:Nat->Nat->St->Hp->Prop,(∃ m,W 0 m Z H1)/\∀ i m Z H,W i m Z H ->
 (J.stop i H/\D.nx Z H)\/(J.go i H/\∃ N:St->Hp->Prop,(∀ a9 H',N a9 H'->∃ m',m' < m/\W (i+1) m' a9 H')/\∀ x H',J.kQ i H x H'->g x Z H' fun sF H2=>tb { D with nx:=N,ct:=N,bk:=D.nx } sF H2)
noncomputable def vU (fp:List Addr) (h:Heap):w4:=fp.filterMap fun b=>(h.get? b).map fun o=>(b,o)
def nj {o:Obj} (hb:b∈fp) (e:h.get? b=some o):(b,o)∈vU fp h:=List.mem_filterMap.mpr ⟨b,hb,by rw [e];rfl⟩
def Ni {p:Addr × Obj} (hp:p∈vU fp h):p.1∈fp/\h.get? p.1=some p.2:=by
 obtain ⟨b,hb,e⟩:=List.mem_filterMap.mp hp;cases q:h.get? b with
 | none=>rw [q] at e;cases e
 | some o =>
  rw [q] at e;have e':(b,o)=p:=y0 e;subst e';exact ⟨hb,q⟩
def Inv.pinned (I:Inv X ab Z H s) (hf:∀ b∈fp,eY X ab H b) (ho:∀ b∈fp,∃ o,s.heap.get? b=some o/\∀ v,o.data≠.cell v):Inv X (ab++vU fp s.heap) Z H s :=
 I.hZ fun p hp=>(ym.mp hp).elim (fun z=>I.pin p (vn _ z)) fun z=>by
  obtain ⟨hb,e⟩:=Ni z;obtain ⟨f0,f1,f2,_⟩:=hf p.1 hb;obtain ⟨o,e',d⟩:=ho p.1 hb;rw [e] at e';cases e';exact ⟨e,f0,f1,f2,d⟩
def Inv.da {pl:w4} (I:Inv X (ab++pl) Z H s):Inv X ab Z H s:=I.hZ fun p hp=>I.pin p (vn _ (vk _ hp))
def O8 {iter:Expr}{wi:TI} (hp:PassesOwn (model X.prog X.w) X.A X.env X.xe) (hc:X.calm=true) (hi:PI X tg iter wi) (hg:PG X tg g) (hb:gu X body tb)
  (hs:∀ x,foldedSetIterable iter X.env x=pure x:=by intro _;rfl):PS X (.For tg iter body [] pos) (R' wi g tb):=by
 intro ab s Z H D I h;refine wpAny_For (a7 (hi ab s Z H _ I h) fun v s1 h1=>a7 h1 fun IU s2 h2=>?_) hs;obtain ⟨it,fp,tn,J,H2,e,I2,T,FX,f2,W,⟨m0,w0⟩,turn⟩:=h2;subst e;have AE:∀ {H':Hp},(∀ b∈fp,H' b=none)->∀ b∈fp,eY X ab H' b:=fun hn b hb=>⟨hn b hb,(f2 b hb).2⟩
 refine codeAny_forLoop_any (fun n s'=>∃ i a9 H',Inv X ab a9 H' s'/\tn i s'.heap/\(∀ b∈fp,H' b=none)/\W i n a9 H') ?_ m0 ⟨0,Z,H2,I2,FX,fun b hb=>(f2 b hb).1,w0⟩;rintro n s3 ⟨i,oP,H3,I3,NH,NI,w3⟩;rcases turn i n oP H3 w3 with ⟨stop,qn⟩ | ⟨go,N,hN,step⟩
 .refine wpAny_passesOwn hp (a7 (T.done X rfl rfl rfl hc i ab s3 oP H3 X.xe I3 (AE NI) NH stop) fun r s4 ⟨hr,I4⟩=>?_);subst hr;exact wpAny_execs_nil ⟨oP,H3,I4,qn⟩
 .refine wpAny_passesOwn hp (a7 (T.item X rfl rfl rfl hc i ab s3 oP H3 X.xe I3 (AE NI) NH go) fun r s4 ⟨u,hr,h4⟩=>?_);subst hr;refine wpAny_passesOwn hp (a7 h4 fun _ s5 ⟨x,H5,I5,r5,y5,B2,FY⟩=>?_);have Sa:=I5.pinned (AE FY) (T.obj _ _ B2);refine wpAny_passesOwn hp (a7 (hg _ s5 oP H5 x u _ Sa r5 (step x H5 y5)) fun _ s6 ⟨Sb,H6,I6,q6⟩=>?_);refine wpAny_passesOwn hp (a7 (hb _ s6 Sb H6 _ I6 q6) fun f s7 q7=>?_);have again:∀ {oQ:St}{H7:Hp},Inv X (ab++vU fp s5.heap) oQ H7 s7->N oQ H7->∃ m,m < n/\∃ i a9 H',Inv X ab a9 H' s7/\tn i s7.heap/\(∀ b∈fp,H' b=none)/\W i m a9 H':=fun {oQ H7} I7 n7=>by
   obtain ⟨m',hm,w7⟩:=hN oQ H7 n7;refine ⟨m',hm,i+1,oQ,H7,I7.da,T.keep _ _ _ B2 fun b hb o e=>(I7.pin (b,o) (vn _ (vn _ (nj hb e)))).1,fun b hb=>?_,w7⟩;obtain ⟨o,e,d⟩:=T.obj _ _ B2 b hb;exact (I7.pin (b,o) (vn _ (vn _ (nj hb e)))).2.1
  cases f with
  | next=>obtain ⟨oQ,H7,I7,n7⟩:=q7;exact again I7 n7
  | cont=>obtain ⟨oQ,H7,I7,n7⟩:=q7;exact again I7 n7
  | brk=>obtain ⟨oQ,H7,I7,q7⟩:=q7;exact ⟨oQ,H7,I7.da,q7⟩
  | ret v=>obtain ⟨x7,oQ,H7,I7,r7,q7⟩:=q7;exact ⟨x7,oQ,H7,I7.da,r7,q7⟩
end
abbrev R2:=V->V->Hp->VK->Prop
def eR (X:Cx) (f:Value->Value->Sem Value) (r:R2):Prop :=
 ∀ (ab:w4) (s:Shared) (Z:St) (H:Hp) (x y:V) (v u:Value) (Q:VK),Inv X ab Z H s->RelV x v->RelV y u->r x y H Q ->
  wpAny (model X.prog X.w) X.A (f v u) (EP X ab Z Q) X.xe s
def IZ (X:Cx) (f:Value->Sem Value) (r:V->Hp->VK->Prop):Prop :=
 ∀ (ab:w4) (s:Shared) (Z:St) (H:Hp) (x:V) (v:Value) (Q:VK),Inv X ab Z H s->RelV x v->r x H Q ->
  wpAny (model X.prog X.w) X.A (f v) (EP X ab Z Q) X.xe s
def gQ (X:Cx) (f:Value) (r:List V->Hp->VK->Prop):Prop :=
 ∀ (ab:w4) (s:Shared) (Z:St) (H:Hp) (xs:List V) (us:zg) (Q:VK),Inv X ab Z H s->Vals xs us->r xs H Q ->
  wpAny (model X.prog X.w) X.A (call f us) (EP X ab Z Q) X.xe s
def Se (X:Cx) (r:V->Hp->(Bool->Hp->Prop)->Prop):Prop :=
 ∀ (ab:w4) (s:Shared) (Z:St) (H:Hp) (x:V) (v:Value) (Q:Bool->Hp->Prop),Inv X ab Z H s->RelV x v->r x H Q ->
  wpAny (model X.prog X.w) X.A (truthy v) (TP X ab Z Q) X.xe s
def B3 (r:R2) (ta tb:TE):TE:=fun Z H Q=>ta Z H fun x H1=>tb Z H1 fun y H2=>r x y H2 Q
def Sf (r:V->Hp->VK->Prop) (ta:TE):TE:=fun Z H Q=>ta Z H fun x H1=>r x H1 Q
def rI (C:Int->Int->Prop) (g:Int->Int->V):R2:=fun x y H Q=>∃ i j,x=.int i/\y=.int j/\C i j/\Q (g i j) H
def nM (g:Int->Int->V):R2:=fun x y H Q=>∃ i j,x=.int i/\y=.int j/\Q (g i j) H
def rU (g:Int->V):V->Hp->VK->Prop:=fun x H Q=>∃ i,x=.int i/\Q (g i) H
variable {f:Value->Value->Sem Value}{r:R2}
section
variable {X:Cx}{a b c:Expr}{ta tb tc:TE}{pos:Pos}
def RT (ha:PE X a ta) (hb:PE X b tb) {R:V->V->Hp->Prop} (I:Inv X ab Z H s)
  (h:ta Z H fun x H1=>tb Z H1 fun y H2=>R x y H2) {Q:zb}
  (hf:∀ v u s2 x y H2,Inv X ab Z H2 s2->RelV x v->RelV y u->R x y H2->wpAny (model X.prog X.w) X.A (f v u) Q X.xe s2) :
  wpAny (model X.prog X.w) X.A (eval a X.env) (fun v aS=>wpAny (model X.prog X.w) X.A (eval b X.env) (fun u oJ=>wpAny (model X.prog X.w) X.A (f v u) Q X.xe oJ) X.xe aS) X.xe s:=by
 refine a7 (ha ab s Z H _ I h) fun v s1 ⟨x,H1,I1,r1,q1⟩=>?_
 refine a7 (hb ab s1 Z H1 _ I1 q1) fun u s2 ⟨y,H2,I2,r2,q2⟩=>?_
 exact hf v u s2 x y H2 I2 r1 r2 q2
def Uy {op:Operator} (ho:eR X (binaryOp op) r) (ha:PE X a ta) (hb:PE X b tb):PE X (.BinOp a op b pos) (B3 r ta tb):=by
 intro ab s Z H Q I h;exact wpAny_BinOp (RT ha hb I h fun v u s2 x y H2 I2 rx ry q=>ho ab s2 Z H2 x y v u Q I2 rx ry q)
def Si {op:UnaryOp}{r:V->Hp->VK->Prop} (ho:IZ X (unaryOp op) r) (ha:PE X a ta):PE X (.UnaryOp op a pos) (Sf r ta):=by
 intro ab s Z H Q I h;exact UnaryOp_ (a7 (ha ab s Z H _ I h) fun v s1 ⟨x,H1,I1,r1,q1⟩=>ho ab s1 Z H1 x v Q I1 r1 q1)
def NJ {C:Int->Int->Prop}{g:Int->Int->Int}
  (rule:∀ (i j:Int) (t u:Tok) (s:Shared) (Q:zb) (E:zb),C i j->Q (.int (g i j) s.toks) { s with toks:=s.toks+1 }->wpAny (model X.prog X.w) X.A (f (.int i t) (.int j u)) Q E s) :
  eR X f (rI C fun i j=>.int (g i j)):=by
 intro ab s Z H x y v u Q I rx ry h;obtain ⟨i,j,rfl,rfl,hc,q⟩:=h;obtain ⟨t,rfl⟩:=rx;obtain ⟨t',rfl⟩:=ry;exact rule i j t t' s _ _ hc ⟨.int (g i j),H,I.tok _,⟨_,rfl⟩,q⟩
def Z6 {g:Int->Int->Int}
  (rule:∀ (i j:Int) (t u:Tok) (s:Shared) (Q:zb) (E:zb),Q (.int (g i j) s.toks) { s with toks:=s.toks+1 }->wpAny (model X.prog X.w) X.A (f (.int i t) (.int j u)) Q E s) :
  eR X f (nM fun i j=>.int (g i j)):=by
 intro ab s Z H x y v u Q I rx ry h;obtain ⟨i,j,rfl,rfl,q⟩:=h;obtain ⟨t,rfl⟩:=rx;obtain ⟨t',rfl⟩:=ry;exact rule i j t t' s _ _ ⟨.int (g i j),H,I.tok _,⟨_,rfl⟩,q⟩
def Q6 {g:Int->Int->Bool}
  (rule:∀ (i j:Int) (t u:Tok) (s:Shared) (Q:zb) (E:zb),Q (.bool (g i j)) s->wpAny (model X.prog X.w) X.A (f (.int i t) (.int j u)) Q E s) :
  eR X f (nM fun i j=>.bl (g i j)):=by
 intro ab s Z H x y v u Q I rx ry h;obtain ⟨i,j,rfl,rfl,q⟩:=h;obtain ⟨t,rfl⟩:=rx;obtain ⟨t',rfl⟩:=ry;exact rule i j t t' s _ _ ⟨.bl (g i j),H,I,rfl,q⟩
def Lf (i j:Int):Prop:=(-(2 ^ 64) < i/\i < 2 ^ 64)\/(-(2 ^ 64) < j/\j < 2 ^ 64)
def Lf.ok {i j:Int} (h:Lf i j):IntMulOk i j:=by
 rcases h with ⟨h1,h2⟩ | ⟨h1,h2⟩
 .exact .of_left (intBits_le_64 h1 h2)
 .exact .of_right (intBits_le_64 h1 h2)
def Y8:eR X (binaryOp .Add) (nM fun i j=>.int (i+j)):=Z6 fun _ _ _ _ _ _ _ q=>add_int q
def QD:eR X (binaryOp .Sub) (nM fun i j=>.int (i - j)):=Z6 fun _ _ _ _ _ _ _ q=>sub_int q
def Yt:eR X (binaryOp .Mult) (rI Lf fun i j=>.int (i * j)):=NJ fun _ _ _ _ _ _ _ hc q=>mul_int q hc.ok
def Yh:eR X (binaryOp .Mod) (rI (fun _ j=>0 < j) fun i j=>.int (i % j)):=NJ fun i j _ _ _ _ _ hc q=>by
 have h1:(0:Int) < j:=hc;exact mod_int' (by omega) (by rw [Int.fmod_eq_emod_of_nonneg i (by omega)];exact q)
def Sj {f:Value->Sem Value}{g:Int->Int}
  (rule:∀ (i:Int) (t:Tok) (s:Shared) (Q:zb) (E:zb),Q (.int (g i) s.toks) { s with toks:=s.toks+1 }->wpAny (model X.prog X.w) X.A (f (.int i t)) Q E s) :
  IZ X f (rU fun i=>.int (g i)):=by
 intro ab s Z H x v Q I rx h;obtain ⟨i,rfl,q⟩:=h;obtain ⟨t,rfl⟩:=rx;exact rule i t s _ _ ⟨.int (g i),H,I.tok _,⟨_,rfl⟩,q⟩
def Sk:IZ X (unaryOp .USub) (rU fun i=>.int (-i)):=Sj fun _ _ _ _ _ q=>neg_int q
end
variable {r':R2}{B4:CmpOp}
section
variable {X:Cx}{a b c:Expr}{ta tb tc:TE}{pos:Pos}
def M9 {Q:VK}{k k':Bool} (I:Inv X ab Z H s) (q:Q (.bl k) H) (e:k=k'):EP X ab Z Q (.bool k') s:=by
 subst e;exact ⟨.bl k,H,I,rfl,q⟩
def Sl:eR X (compareOp .Lt) (nM fun i j=>.bl (decide (i < j))):=Q6 fun _ _ _ _ _ _ _ q=>lt_int q
def Sm:eR X (compareOp .LtE) (nM fun i j=>.bl (decide (i<=j))):=Q6 fun _ _ _ _ _ _ _ q=>le_int q
def Sn:eR X (compareOp .Gt) (nM fun i j=>.bl (decide (j < i))):=Q6 fun _ _ _ _ _ _ _ q=>gt_int q
def So:eR X (compareOp .Is) (fun x y H Q=>y=.ai/\Q (.bl (decide (x=.ai))) H):=by
 intro ab s Z H x y v u Q I rx ry h;obtain ⟨rfl,q⟩:=h;cases ry;refine is_none_gen (M9 I q ?_);cases x <;> first
  | (cases rx;rfl)
  | (obtain ⟨t,rfl⟩:=rx;rfl)
def Wy:eR X (compareOp .IsNot) (fun x y H Q=>y=.ai/\Q (.bl (!decide (x=.ai))) H):=by
 intro ab s Z H x y v u Q I rx ry h;obtain ⟨rfl,q⟩:=h;cases ry;refine isnot_none_gen (M9 I q ?_);cases x <;> first
  | (cases rx;rfl)
  | (obtain ⟨t,rfl⟩:=rx;rfl)
def eR.or (h:eR X f r) (h':eR X f r'):eR X f (fun x y H Q=>r x y H Q\/r' x y H Q):=by
 intro ab s Z H x y v u Q I rx ry q;rcases q with q | q
 .exact h ab s Z H x y v u Q I rx ry q
 .exact h' ab s Z H x y v u Q I rx ry q
def Wg (ho:eR X (compareOp op) r) (ha:PE X a ta) (hb:PE X b tb) (hm:behindInMarks op b=false):PE X (.Compare a [op] [b] pos) (B3 r ta tb):=by
 intro ab s Z H Q I h;exact wpAny_Compare1 (RT ha hb I h fun v u s2 x y H2 I2 rx ry q=>ho ab s2 Z H2 x y v u Q I2 rx ry q) hm
def U6 (t:TE):TT:=fun Z H Q=>t Z H fun x H'=>∃ k,x=.bl k/\Q k H'
def Wl (ho:eR X (compareOp op) r) (ha:PE X a ta) (hb:PE X b tb) (hm:behindInMarks op b=false):PT X (.Compare a [op] [b] pos) (U6 (B3 r ta tb)):=by
 intro ab s Z H Q I h;refine wpAny_isTrue_Compare1 (a7 (ha ab s Z H _ I h) fun v s1 ⟨x,H1,I1,r1,q1⟩=>a7 (hb ab s1 Z H1 _ I1 q1) fun u s2 ⟨y,H2,I2,r2,q2⟩ =>
  a7 (ho ab s2 Z H2 x y v u _ I2 r1 r2 q2) fun c s3 ⟨z,H3,I3,r3,k,e,q3⟩=>?_) hm
 subst e;cases r3;exact yY ⟨H3,I3,q3⟩
def Hx (r r':R2) (ta tb tc:TE):TE:=fun Z H Q=>ta Z H fun x H1=>tb Z H1 fun y H2=>r x y H2 fun z H3=>∃ k,z=.bl k /\
 (if k=true then tc Z H3 fun w' H4=>r' y w' H4 Q else Q (.bl false) H3)
def RJ (ho:eR X (compareOp op) r) (fm:eR X (compareOp B4) r') (ha:PE X a ta) (hb:PE X b tb) (hc:PE X c tc)
  (hm:lastMarks [op,B4] [b,c]=false:=by with_unfolding_all rfl):PE X (.Compare a [op,B4] [b,c] pos) (Hx r r' ta tb tc):=by
 intro ab s Z H Q I h;refine Compare_chain (a7 (ha ab s Z H _ I h) fun v s1 ⟨x,H1,I1,r1,q1⟩=>chain_link (a7 (hb ab s1 Z H1 _ I1 q1) fun u s2 ⟨y,H2,I2,r2,q2⟩ =>
  a7 (ho ab s2 Z H2 x y v u _ I2 r1 r2 q2) fun d s3 ⟨z,H3,I3,r3,k,e,q3⟩=>?_)) hm
 subst e;cases r3;refine yY ?_;cases k with
 | false=>exact ite_ff ⟨.bl false,H3,I3,rfl,q3⟩
 | true=>exact ite_tt (chain_last (a7 (hc ab s3 Z H3 _ I3 q3) fun w' s4 ⟨z',H4,I4,r4,q4⟩=>fm ab s4 Z H4 y z' u w' Q I4 r2 r4 q4))
def R0 (ho:eR X (compareOp op) r) (fm:eR X (compareOp B4) r') (ha:PE X a ta) (hb:PE X b tb) (hc:PE X c tc)
  (hm:lastMarks [op,B4] [b,c]=false:=by with_unfolding_all rfl):PT X (.Compare a [op,B4] [b,c] pos) (U6 (Hx r r' ta tb tc)):=by
 intro ab s Z H Q I h;refine isTrue_chain (a7 (ha ab s Z H _ I h) fun v s1 ⟨x,H1,I1,r1,q1⟩=>test_link (a7 (hb ab s1 Z H1 _ I1 q1) fun u s2 ⟨y,H2,I2,r2,q2⟩ =>
  a7 (ho ab s2 Z H2 x y v u _ I2 r1 r2 q2) fun d s3 ⟨z,H3,I3,r3,k,e,q3⟩=>?_)) hm
 subst e;cases r3;refine yY ?_;cases k with
 | false =>
  obtain ⟨k',e',q'⟩:=q3;cases e';exact ite_ff ⟨H3,I3,q'⟩
 | true =>
  refine ite_tt (test_last (a7 (hc ab s3 Z H3 _ I3 q3) fun w' s4 ⟨z',H4,I4,r4,q4⟩=>a7 (fm ab s4 Z H4 y z' u w' _ I4 r2 r4 q4) fun d' s5 ⟨z2,H5,I5,r5,k2,e2,q5⟩=>?_));subst e2;cases r5;exact yY ⟨H5,I5,q5⟩
def X8 (K:zd) (x:V) (H:Hp) (k:Bool):Prop :=
 match x with
 | .ai=>k=false
 | .bl b=>k=b
 | .int i=>k=(i != 0)
 | .str y=>y.length<=sizeLine/\k=((y.length:Int) != 0)
 | .CI y=>y.size<=sizeLine/\k=((y.size:Int) != 0)
 | .ref p=>(∃ xs,cm K H p xs/\k=!xs.isEmpty)\/(∃ xs,cb K H p xs/\k=!xs.isEmpty)\/∃ ah,H p=some (.dK ah)/\k=!ah.isEmpty
 | _=>False
def K8 {κ:Type}{ah:List (κ × V)}{vs:List (κ × Value)} (r:KV ah vs):(!vs.isEmpty)=!ah.isEmpty:=by
 cases r <;> rfl
def Ah {its:zg} (r:Vals xs its):(!its.toArray.isEmpty)=!xs.isEmpty:=by
 cases r <;> simp
def Aq:(sizeLine:Nat) < 2 ^ 63:=by rw [sizeLine_eq];decide
def Zv:Se X (fun x H Q=>∃ k,X8 X.K x H k/\Q k H):=by
 intro ab s Z H x v Q I rx h;obtain ⟨k,e,q⟩:=h;have hl:=Aq;have hs:sizeLine=16777216:=sizeLine_eq;cases x with
 | ai =>
  cases rx;have e':k=false:=e;subst e';exact truthy_none ⟨H,I,q⟩
 | bl b =>
  cases rx;have e':k=b:=e;subst e';exact yY ⟨H,I,q⟩
 | int i =>
  obtain ⟨t,rfl⟩:=rx;have e':k=(i != 0):=e;subst e';exact PySem.P.truthy_int ⟨H,I,q⟩
 | str y =>
  obtain ⟨t,rfl⟩:=rx;obtain ⟨hy,e'⟩:y.length<=sizeLine/\k=((y.length:Int) != 0):=e;subst e';exact PySem.P.truthy_str (by omega) ⟨H,I.tok _,q⟩
 | CI y =>
  obtain ⟨t,rfl⟩:=rx;obtain ⟨hy,e'⟩:y.size<=sizeLine/\k=((y.size:Int) != 0):=e;subst e';exact PySem.W.truthy_bytes (by omega) ⟨H,I.tok _,q⟩
 | ref p =>
  cases rx;have e':(∃ xs,cm X.K H p xs/\k=!xs.isEmpty)\/(∃ xs,cb X.K H p xs/\k=!xs.isEmpty)\/∃ ah,H p=some (.dK ah)/\k=!ah.isEmpty:=e;rcases e' with ⟨xs,hx,e'⟩ | ⟨xs,hx,e'⟩ | ⟨ah,hx,e'⟩
  .subst e';obtain ⟨its,r,pl,hz⟩:=I.list hx;have hlen:=r.length;exact wpAny_truthy_list pl.isList (by simp only [List.size_toArray];omega) ⟨H,I.tok _,by rw [Ah r];exact q⟩
  .subst e';obtain ⟨its,r,pl,hz⟩:=I.tuple hx;have hlen:=r.length;exact truthy_tuple pl (by simp only [List.size_toArray];omega) ⟨H,I.tok _,by rw [Ah r];exact q⟩
  .subst e';obtain ⟨hz,hS,vs,r,m⟩:ah.length<=sizeLine/\(p == sysModules)=false/\∃ vs,KV ah vs/\s.heap.DictOf (cU X.prog X.w) p vs:=I.az p _ hx;have hlen:ah.length=vs.length:=Paired.length r;exact wpAny_truthy_dict hS m (by omega) ⟨H,I.tok _,by rw [K8 r];exact q⟩
 | _=>exact (show False from e).elim
def RX (ha:PE X a ta) (he:∀ whole,isTrue a X.env whole=(do let v <- whole;standAt a.pos;holding [v] (truthy v))) :
  PT X a (fun Z H Q=>ta Z H fun x H'=>∃ k,X8 X.K x H' k/\Q k H'):=by
 intro ab s Z H Q I h;exact isTrue_plain (a7 (ha ab s Z H _ I h) fun v s1 ⟨x,H1,I1,r1,q1⟩=>Zv ab s1 Z H1 x v Q I1 r1 q1) (he _)
def vals1 {x:V} (r:Vals [x] us):∃ u,us=[u]/\RelV x u:=by
 cases r with
 | cons r1 r2=>cases r2;exact ⟨_,rfl,r1⟩
def vals2 {x:V} (r:Vals [x,y] us):∃ u w',us=[u,w']/\RelV x u/\RelV y w':=by
 cases r with
 | cons r1 r2 =>
  cases r2 with
  | cons r3 r4=>cases r4;exact ⟨_,_,rfl,r1,r3⟩
def Cy (hc:X.calm=true):gQ X (.builtin "max") (fun xs H Q=>∃ i j,xs=[.int i,.int j] /\ Q (.int (if j > i then j else i)) H):=by
 intro ab s Z H xs us Q I r h;obtain ⟨i,j,rfl,q⟩:=h;obtain ⟨u,w',rfl,⟨t,rfl⟩,⟨t',rfl⟩⟩:=vals2 r;refine max_two_ints (I.ok.hd hc) fun h' tk k=>⟨_,H,I.kept k,?_,q⟩
 by_cases hj:j > i
 .rw [if_pos hj,if_pos hj];exact ⟨_,rfl⟩
 .rw [if_neg hj,if_neg hj];exact ⟨_,rfl⟩
def M5 (hc:X.calm=true):gQ X (.builtin "min") (fun xs H Q=>∃ i j,xs=[.int i,.int j] /\ Q (.int (if j < i then j else i)) H):=by
 intro ab s Z H xs us Q I r h;obtain ⟨i,j,rfl,q⟩:=h;obtain ⟨u,w',rfl,⟨t,rfl⟩,⟨t',rfl⟩⟩:=vals2 r;refine min_two_ints (I.ok.hd hc) fun h' tk k=>⟨_,H,I.kept k,?_,q⟩
 by_cases hj:j < i
 .rw [if_pos hj,if_pos hj];exact ⟨_,rfl⟩
 .rw [if_neg hj,if_neg hj];exact ⟨_,rfl⟩
end
structure AF (h:Heap) (x dx C:Addr) (mA:w8):Prop where
 obj:h.get? x=some (PySem.W.instObj C dx)
 ns:h.Ns1 dx mA
 ne:dx≠x
variable {dx:Addr}{mA:w8}
def Oh (n:h.Ns1 dx mA):∃ od,h.get? dx=some od/\∀ name,PySem.W.lookIn name od=some (mA name):=by
 obtain ⟨o,es,ep,ho,hd,hk,_,hm⟩:=n;refine ⟨o,ho,fun name=>?_⟩;have e:=hm name;unfold nsFind findBy at e;rw [<- Array.find?_toList] at e;unfold PySem.W.lookIn;rw [hd];dsimp only;split
 .rename_i y q;rw [q] at e;exact congrArg some e
 .rename_i q;rw [q] at e;have a:es.toList.any (·.refKey)=false:=by
   rw [List.any_eq_false];intro y hy;obtain ⟨z,t,ll⟩:=hk y (Array.mem_toList_iff.mp hy);simp [DictEntry.refKey,ll]
  have a':¬ es.toList.any (·.refKey)=true:=by rw [a];exact Bool.false_ne_true
  rw [if_neg a'];exact congrArg some e
variable {C:Addr}
def AF.look {x:Addr} (I:AF h x dx C mA):∃ od,PySem.W.InstAt h x (PySem.W.instObj C dx) C (some od)/\∀ name,PySem.W.lookIn name od=some (mA name) :=
 let ⟨od,ho,hl⟩:=Oh I.ns
 ⟨od,⟨I.obj,rfl,rfl,ho⟩,hl⟩
def mj.some_of {o:Option Value} (r:mj (some v) o):∃ u,o=some u/\RelV v u:=by
 cases o with
 | none=>exact (show False from r).elim
 | some u=>exact ⟨u,rfl,r⟩
section
variable {P:Program}{w:World}{H H':Hp}{h h':Heap}{a C dx:Addr}{fs QP:List (Str × V)}
def Vm (az:c6 P w H h) (e:H a=some (.ins C dx fs)):∃ mA,AF h a dx C mA/\(∀ f,mj (fs.lookup f) (mA f))/\PySem.Within mA (fs.map (·.1))/\fs.length<=1000/\H dx=some (.own a):=by
 obtain ⟨d,z,ne,ob,mA,n,r,q⟩:=(show bO P w H h a (.ins C dx fs) from az a _ e);exact ⟨mA,⟨ob,n,ne⟩,r,q,z,d⟩
end
structure I_ (K:zd) (C:Addr):Prop where
 pg:PySem.W.plainGet K C Str.empty=true
 hd:PySem.W.hasDictIn K C=true
 po:PySem.W.plainOver K C=true
 sa:PySem.W.findIn K (.ref C) "__setattr__"=some (some (.builtin "object.__setattr__"))
def I_.get (c:I_ K C) (f:Str):PySem.W.plainGet K C f=true:=c.pg
section
variable {X:Cx}{ab:w4}{Z:St}{H:Hp}{s:Shared}{A:Around}{E:zb}{Q:zb}{c:Value}{b:Bool}
inductive g9 (K:zd) (H:Hp):V->Value->Prop where
 | ai:g9 K H .ai (.type "NoneType")
 | bl (x:Bool):g9 K H (.bl x) (.type "bool")
 | int (i:Int):g9 K H (.int i) (.type "int")
 | str (x:Str):g9 K H (.str x) (.type "str")
 | BY (x:UInt64):g9 K H (.BY x) (.type "float")
 | lst {a:Addr}{xs:List V} (e:H a=some (.lst xs)):g9 K H (.ref a) (.type "list")
 | br {a:Addr}{o:Obj}{xs:List V} (e:H a=some (.br o (.lst xs))):g9 K H (.ref a) (.type "list")
 | tup {a:Addr}{xs:List V} (e:H a=some (.tup xs)):g9 K H (.ref a) (.type "tuple")
 | dK {a:Addr}{ah:List (Key × V)} (e:H a=some (.dK ah)):g9 K H (.ref a) (.type "dict")
 | dT {a:Addr}{ah:List (List Key × V)} (e:H a=some (.dT ah)):g9 K H (.ref a) (.type "dict")
 | ins {a C dx:Addr}{fs:List (Str × V)} (e:H a=some (.ins C dx fs)) (cl:I_ K C) (ha:PySem.W.findIn K (.ref C) "__class__"=some (some (.builtin "object.__class__")))
   (hn:PySem.W.specialIn K (.builtin "object.__class__") "__get__"=some (some (.builtin "getset_descriptor.__get__"))) (NL:PySem.W.takesIn K (.builtin "object.__class__")=some true)
   (hm:PySem.W.mroIn K C (.type "object")=some true):g9 K H (.ref a) (.ref C)
def uR {x:V}{t:Value} (I:Inv X ab Z H s) (rx:RelV x u) (ty:g9 X.K H x t) (e:PySem.W.kitOne X.K t c=some b) (h:∀ tk,Q (.bool b) { s with toks:=tk }) :
  wpAny (model X.prog X.w) A (call (.builtin "isinstance") [u,c]) Q E s:=by
 cases ty with
 | ai=>cases (show u=Value.none from rx);exact PySem.W.kia_one PySem.W.kitx_none I.gO True.intro e (fun z=>nomatch z) h
 | bl y=>cases (show u=Value.bool y from rx);exact PySem.W.kia_one PySem.W.kitx_bool I.gO True.intro e (fun z=>nomatch z) h
 | int i=>obtain ⟨t,q⟩:=(show ∃ t,u=Value.int i t from rx);cases q;exact PySem.W.kia_one PySem.W.kitx_int I.gO True.intro e (fun z=>nomatch z) h
 | str y=>obtain ⟨t,q⟩:=(show ∃ t,u=Value.str y t from rx);cases q;exact PySem.W.kia_one PySem.W.kitx_str I.gO True.intro e (fun z=>nomatch z) h
 | BY y=>obtain ⟨t,q⟩:=(show ∃ t,u=Value.float y t from rx);cases q;exact PySem.W.kia_one PySem.W.kitx_float I.gO True.intro e (fun z=>nomatch z) h
 | @lst a xs ea =>
  cases (show u=Value.ref a from rx);obtain ⟨_,_,n,_,h1⟩:=(show bO X.prog X.w H s.heap a (.lst xs) from I.az a _ ea);exact PySem.W.kia_one PySem.W.kitx_list I.gO ⟨_,h1,rfl⟩ e (fun z=>nomatch z) h
 | @br a ob xs ea =>
  cases (show u=Value.ref a from rx);obtain ⟨_,_,_,n,_,h1⟩:=(show bO X.prog X.w H s.heap a (.br ob (.lst xs)) from I.az a _ ea);exact PySem.W.kia_one PySem.W.kitx_list I.gO ⟨_,h1,rfl⟩ e (fun z=>nomatch z) h
 | @tup a xs ea =>
  cases (show u=Value.ref a from rx);obtain ⟨_,_,_,p⟩:=(show bO X.prog X.w H s.heap a (.tup xs) from I.az a _ ea);obtain ⟨o,h1,h2,_⟩:=p;exact PySem.W.kia_one PySem.W.kitx_tuple I.gO ⟨o,h1,h2⟩ e (fun z=>nomatch z) h
 | @dK a ah ea =>
  cases (show u=Value.ref a from rx);obtain ⟨_,_,vs,_,p⟩:=(show bO X.prog X.w H s.heap a (.dK ah) from I.az a _ ea);obtain ⟨o,es,ep,h1,h2,_⟩:=p;exact PySem.W.kia_one PySem.W.kitx_dict I.gO ⟨o,h1,h2.1⟩ e (fun z=>nomatch z) h
 | @dT a ah ea =>
  cases (show u=Value.ref a from rx);obtain ⟨_,_,xs,_,o,es,ep,h1,h2,_⟩:=(show bO X.prog X.w H s.heap a (.dT ah) from I.az a _ ea);exact PySem.W.kia_one PySem.W.kitx_dict I.gO ⟨o,h1,h2.1⟩ e (fun z=>nomatch z) h
 | @ins a C dx fs ea cl ha hn NL hm =>
  cases (show u=Value.ref a from rx);obtain ⟨mA,O,_⟩:=Vm I.az ea;obtain ⟨od,J,_⟩:=O.look;exact PySem.W.kia_one (PySem.W.kitx_own (cl.get _) cl.hd ha hn NL hm) I.gO J e (fun z=>nomatch z) h
end
structure cO (k:Nat) (A:Around):Prop where
 hd:A.handled=none
 dp:A.depth+3 * k+5 < recursionLimit
 un:A.units+16 * k+200 < cLine
def cO.deeper (r:cO (k+1) A) (env:Env):cO k (A.deeper env) :=
 ⟨r.hd,by have:=r.dp;show A.depth+1+3 * k+5 < _;omega,by have:=r.un;show A.units+3+16 * k+200 < _;omega⟩
def cO.depth (r:cO k A):A.depth < recursionLimit:=by have:=r.dp;omega
def Rv:TA:=fun _ H Q=>Q [] H
def Vb (ta:TE) (tr:TA):TA:=fun Z H Q=>ta Z H fun x H1=>tr Z H1 fun xs H2=>Q (x::xs) H2
section
variable {X:Cx}{e:Expr}{es:zl}{te:TE}{t:TA}{pos:Pos}
def iQ:PA X [] Rv:=fun _ _ _ _ H Q I h=>Calls.spliced_nil ⟨[],H,I,.nil,h⟩
def eF (ha:PE X e te) (hr:PA X es t) (hs:starEach (e::es) X.env=(false,eval e X.env)::starEach es X.env:=by rfl):PA X (e::es) (Vb te t):=by
 intro pos ab s Z H Q I h;rw [hs];show wpAny _ _ (spliced ((false,eval e X.env)::backTo pos (starEach es X.env))) _ _ s
 refine Calls.spliced_cons (a7 (ha ab s Z H _ I h) fun u s1 ⟨x,H1,I1,r1,q1⟩=>?_);exact a7 (hr pos ab s1 Z H1 _ I1 q1) fun us s2 ⟨xs,H2,I2,r2,q2⟩=>⟨x::xs,H2,I2,.cons r1 r2,q2⟩
def Sr (t:TA):TE:=fun Z H Q=>t Z H fun xs H1=>xs.length<=sizeLine/\∀ p,H1 p=none->Q (.ref p) (upd H1 p (.tup xs))
def Su (t:TA):TE:=fun Z H Q=>t Z H fun xs H1=>xs.length<=sizeLine/\∀ p,H1 p=none->Q (.ref p) (upd H1 p (.lst xs))
def ZK {x1} (h:PA X es t):PE X (.Tuple es x1 pos) (Sr t):=by
 intro ab s Z H Q I hq;refine wpAny_Tuple_spliced (a7 (h pos ab s Z H _ I hq) fun us s1 ⟨xs,H1,I1,r,z,q⟩=>⟨by rw [<- r.length];exact z,?_⟩);have hf:H1 s1.heap.objs.size=none:=I1.az.fresh (vE _);refine ⟨.ref s1.heap.objs.size,upd H1 s1.heap.objs.size (.tup xs),I1.laid (t':=s1.toks) (fun b u e=>vw _ e) (vE _) ?_,rfl,q _ hf⟩;exact ⟨z,us,r,⟨_,vy _ rfl,rfl,_,rfl⟩⟩
def GD (h:PA X es t):PE X (.List es pos) (Su t):=by
 intro ab s Z H Q I hq;refine wpAny_List_spliced (a7 (h pos ab s Z H _ I hq) fun us s1 ⟨xs,H1,I1,r,z,q⟩=>⟨by rw [<- r.length];exact z,?_⟩);have hf:H1 s1.heap.objs.size=none:=I1.az.fresh (vE _);refine ⟨.ref s1.heap.objs.size,upd H1 s1.heap.objs.size (.lst xs),I1.laid (t':=s1.toks) (fun b u e=>vw _ e) (vE _) ?_,rfl,q _ hf⟩;exact ⟨z,us,0,r,vy _ rfl⟩
end
abbrev Sp:=List V->Hp->VK->XK->Prop
abbrev sL:=List Env->Hp->Shared->XK->zb
structure ip (P:Program) (w:World) (K:zd) (mg:w8) (base:Heap) (A:Around) (outer:List Env) (s:Shared) (H:Hp):Prop where
 frames:A.frames=some outer
 mod:Mod K mg base
 bs:∀ b o,base.get? b=some o->s.heap.get? b=some o/\H b=none
 l8:base.objs.size<=s.heap.objs.size
 dA:s.heap.FunFrames base outer
 l9:∀ b∈j0 outer,H b=none
 az:c6 P w H s.heap
 bare:AllBare s.gens
 tab:nJ K mg H
def CE (outer:List Env) (P:Program) (w:World) (H:Hp) (s:Shared) (Q:VK) (u:Value) (s':Shared):Prop :=
 ∃ v H',s'.os=s.os/\AllBare s'.gens/\Un (j0 outer) [] H H' s.heap s'.heap/\c6 P w H' s'.heap/\RelV v u/\Q v H'
def CR (CX:sL) (outer:List Env) (P:Program) (w:World) (H:Hp) (s:Shared) (Q:VK) (E:XK) (r:Result) (s':Shared):Prop :=
 match r with
 | .ok (.ret u)=>CE outer P w H s Q u s'
 | .ok _=>False
 | .error e=>CX outer H s E e s'
structure eU (P:Program) (w:World) (K:zd) (mg:w8) (base:Heap) (CX:sL) (k:Nat) (f:Addr) (fd:FuncData) (ps:zk) (sp:Sp):Prop where
 len:∀ vs H Q E,sp vs H Q E->vs.length=ps.length
 run:∀ (A:Around) (outer:List Env) (s:Shared) (H:Hp) (args:Args) (us:zg) (vs:List V) (Q:VK) (E:XK),cO k A->ip P w K mg base A outer s H->BindsTo s fd args (ps.zip us)->Vals vs us->sp vs H Q E ->
  codeAny (model P w) A (.call (.ref f) args) (CR CX outer P w H s Q E) s
section
variable {X:Cx}{ab:w4}{Z:St}{H:Hp}{s s':Shared}
def Inv.mP (I:Inv X ab Z H s):ip X.prog X.w X.K X.mg X.base X.A X.stack s H :=
 ⟨I.ok.frames,I.ok.mod,I.bs,vT I.ok.l8 I.sz,I.stack,I.l_,I.az,I.bare,I.ok.tab.un I.base⟩
def Inv.after {Q:VK} (I:Inv X ab Z H s) (h:CE X.stack X.prog X.w H s Q u s'):EP X ab Z Q u s':=by
 obtain ⟨v,H',os,bare,un,az,r,q⟩:=h;obtain ⟨hh,g,d,t,Sz⟩:=s';obtain rfl:Sz=s.os:=os;exact ⟨v,H',I.call (h':=hh) (g':=g) (d':=d) (t':=t) (ch:=[]) un az bare (fun b z=>absurd z (by simp)),r,q⟩
end
def U3 (sp:Sp) (sM:List V) (E:XK) (t:TA):TE:=fun Z H Q=>t Z H fun vs H1=>sp (vs++sM) H1 Q E
def Binds (K:zd) (fd:FuncData) (ps:zk) (ds:zg):Prop :=
 ∀ (s:Shared) (us:zg),K.In s.heap->(us++ds).length=ps.length->BindsTo s fd ⟨us,[]⟩ (ps.zip (us++ds))
variable {ps:zk}
def Binds.all {fd:FuncData} (h:∀ us:zg,us.length=ps.length->bindArgs fd ⟨us,[]⟩=pure (ps.zip us)):Binds K fd ps []:=fun s us _ hl=>by
 rw [List.append_nil] at hl ⊢;exact .of_eq (h us hl)
def Passes (CX:sL) (X:Cx) (E:XK):Prop:=∀ (ab:w4) (Z:St) (H:Hp) (s:Shared) (e:Value) (s':Shared),Inv X ab Z H s->CX X.stack H s E e s'->X.xe e s'
variable {vs:List V}
section
variable {X:Cx}{CX:sL}{k:Nat}{f C:Addr}{fd:FuncData}{ps:zk}{sp:Sp}{sM:List V}{ds:zg}{E:XK}{x m:Str}{p pos apos:Pos}{e o:Expr}{es:zl}{ta:TE}{t:TA}
def Nm {Q:VK} (F:eU X.prog X.w X.K X.mg X.base CX k f fd ps sp) (hr:cO k X.A) (hb:Binds X.K fd ps ds) (hd:Vals sM ds) (hx:Passes CX X E)
  (I:Inv X ab Z H s) (r:Vals vs us) (h:sp (vs++sM) H Q E):wpAny (model X.prog X.w) X.A (call (.ref f) us) (EP X ab Z Q) X.xe s:=by
 have r2:Vals (vs++sM) (us++ds):=r.append hd;have hl:(us++ds).length=ps.length:=by rw [<- r2.length];exact F.len _ _ _ _ h
 refine wpAny_call (codeAny_mono (F.run X.A X.stack s H ⟨us,[]⟩ (us++ds) (vs++sM) Q E hr I.mP (hb s us I.gO hl) r2 h) fun r s' hq=>?_);cases r with
 | error e=>exact hx ab Z H s e s' I hq
 | ok fl =>
  cases fl with
  | ret u=>exact I.after hq
  | next=>exact y4 hq
  | brk=>exact y4 hq
  | cont=>exact y4 hq
def Xr (F:eU X.prog X.w X.K X.mg X.base CX k f fd ps sp) (hr:cO k X.A) (hg:Gl X x) (hm:X.mg x=some (.ref f)) (hk:PySem.W.keepIn X.K (.ref f)=true) (hb:Binds X.K fd ps ds) (hd:Vals sM ds) (hx:Passes CX X E)
  (ha:PA X (e::es) t) (tJ:(x == ("__debug__":Str))=false:=by decide) (he:starEach (e::es) X.env=(false,eval e X.env)::starEach es X.env:=by rfl) (oS:(backTo pos (starEach es X.env)).any (·.1)=false:=by rfl) :
  PE X (.Call (.Name x p) (e::es) [] pos) (U3 sp sM E t):=by
 intro ab s Z H Q I h;refine wpAny_Call_Name_kw (xK I hg hm ?_ tJ);refine PySem.W.callWith_K (h₀:=X.base) I.ok.mod.C1 hk (a7 (ha pos ab s Z H _ I h) fun us s1 ⟨vs,H1,I1,r,q⟩=>⟨I1.gO,?_⟩) he oS;exact Nm F hr hb hd hx I1 r q
def TF (F:eU X.prog X.w X.K X.mg X.base CX k f fd ps sp) (hr:cO k X.A) (hg:Gl X x) (hm:X.mg x=some (.ref f)) (hk:PySem.W.keepIn X.K (.ref f)=true) (hb:Binds X.K fd ps ds) (hd:Vals sM ds) (hx:Passes CX X E)
  (tJ:(x == ("__debug__":Str))=false:=by decide):PE X (.Call (.Name x p) [] [] pos) (U3 sp sM E Rv):=by
 intro ab s Z H Q I h;refine wpAny_Call_Name_kw (xK I hg hm ?_ tJ);exact PySem.W.callWith_K0 I.gO hk (Nm (us:=[]) F hr hb hd hx I .nil h)
end
structure cS (N P:zk) (sc:Scope):Prop where
 kind:sc.kind=.function
 co:sc.isCoroutine=false
 gen:sc.isGenerator=false
 nd:N.Nodup
 pre:N.take P.length=P
 par:∀ x∈P,sc.names.lookup x=some .local\/sc.names.lookup x=some .cell
 AG:∀ y∈sc.names,y.2≠.free
theorem CZ {kindOf:Str->Option NameKind}{x:Str}:∀ {binds:List (Str × Value)}{m:w8},(∀ v,(x,v) ∉ binds)->bindL kindOf binds m x=m x
 | [],_,_=>rfl
 | (n,v)::r,m,h=>by
  unfold bindL;rw [CZ fun w hw=>h w (List.mem_cons_of_mem _ hw)];split
  .have:x≠n:=by rintro rfl;exact h v vj
   simp [this]
  .rfl
theorem Dr {kindOf:Str->Option NameKind}{x:Str}:∀ {binds:List (Str × Value)}{m:w8},(∀ v,(x,v) ∉ binds)->bindC kindOf binds m x=m x
 | [],_,_=>rfl
 | (n,v)::r,m,h=>by
  unfold bindC;rw [Dr fun w hw=>h w (List.mem_cons_of_mem _ hw)];split
  .rfl
  .have:x≠n:=by rintro rfl;exact h v vj
   simp [this]
theorem Dz {kindOf:Str->Option NameKind}{x:Str}{v:Value}:∀ {P:zk}{vs:zg}{i:Nat}{m:w8},P.Nodup->P[i]?=some x->vs[i]?=some v->kindOf x=some .local ->
  bindL kindOf (P.zip vs) m x=some v
 | [],_,_,_,_,h,_,_=>by simp at h
 | _::_,[],_,_,_,_,h,_=>by simp at h
 | p::P,w::vs,0,m,nd,h1,h2,hk=>by
  simp at h1 h2;subst h1;subst h2;show bindL kindOf ((p,w)::P.zip vs) m p=_
  unfold bindL;rw [CZ fun v hv=>(List.nodup_cons.mp nd).1 (List.of_mem_zip hv).1,if_pos hk];simp
 | p::P,w::vs,i+1,m,nd,h1,h2,hk=>by
  show bindL kindOf ((p,w)::P.zip vs) m x=_
  unfold bindL;exact Dz (i:=i) (List.nodup_cons.mp nd).2 (by simpa using h1) (by simpa using h2) hk
theorem Du {kindOf:Str->Option NameKind}{x:Str}{v:Value}:∀ {P:zk}{vs:zg}{i:Nat}{m:w8},P.Nodup->P[i]?=some x->vs[i]?=some v->kindOf x≠some .local ->
  bindC kindOf (P.zip vs) m x=some v
 | [],_,_,_,_,h,_,_=>by simp at h
 | _::_,[],_,_,_,_,h,_=>by simp at h
 | p::P,w::vs,0,m,nd,h1,h2,hk=>by
  simp at h1 h2;subst h1;subst h2;show bindC kindOf ((p,w)::P.zip vs) m p=_
  unfold bindC;rw [Dr fun v hv=>(List.nodup_cons.mp nd).1 (List.of_mem_zip hv).1,if_neg hk];simp
 | p::P,w::vs,i+1,m,nd,h1,h2,hk=>by
  show bindC kindOf ((p,w)::P.zip vs) m x=_
  unfold bindC;exact Du (i:=i) (List.nodup_cons.mp nd).2 (by simpa using h1) (by simpa using h2) hk
noncomputable def start (N:zk) (vs:List V):St:=vs.map some++List.replicate (N.length - vs.length) none
noncomputable def fG (CX:sL) (P:Program) (w:World) (K:zd) (mg:w8) (base:Heap) (N:zk) (qual:Str) (scope:Scope) (f:Addr) (cd:Value) (A:Around) (outer:List Env) (s:Shared) (H:Hp) (E:XK):Cx where
 prog:=P
 w:=w
 K:=K
 mg:=mg
 base:=base
 A:=A.deeper (envOfC qual scope s.heap.objs.size f cd)
 N:=N
 bq:=s
 kL:=H
 env:=envOfC qual scope s.heap.objs.size f cd
 outer:=outer
 stack:=envOfC qual scope s.heap.objs.size f cd::outer
 ex:=[]
 calm:=true
 fn:=fun _=>true
 pn:=[]
 xe:=fun e s'=>wpAny (model P w) (A.deeper (envOfC qual scope s.heap.objs.size f cd)) (leaving (envOfC qual scope s.heap.objs.size f cd) e) (fun _ F0=>CX outer H s E e F0) (fun e' F0=>CX outer H s E e' F0) s'
def Gm {sc:Scope} (h:sc.names.lookup x=some .cell):∃ c,(cellsFrom n sc.names []).lookup x=some c:=by
 have q:=PySem.W.cellsFrom_some sc.names n [] (.inl h);exact yo.mp q
variable {CX:sL}{base:Heap}{qual:Str}{scope:Scope}
def Dd {f:Addr}{cd:Value}{outer:List Env}{s1:Shared}{E:XK}
  (S:cS N ps scope) (hd:A.handled=none) (e0:ip P w K mg base A outer s H) (hl:vs.length=ps.length) (r:Vals vs us)
  (x:InCallC s s.heap.objs.size (bindL (envOfC qual scope s.heap.objs.size f cd).kindOf (ps.zip us) fun _=>none) (cellsFrom (s.heap.objs.size+1) scope.names []) (bindC (envOfC qual scope s.heap.objs.size f cd).kindOf (ps.zip us) fun _=>none) s1) :
  Inv (fG CX P w K mg base N qual scope f cd A outer s H E) [] (start N vs) H s1:=by
 have oS:ps.length<=N.length:=by have:=congrArg List.length S.pre;rw [List.length_take] at this;omega
 obtain ⟨h1,tk,rfl,hk⟩:=x.done;have mS:∀ b:Addr,b ∉ (fG CX P w K mg base N qual scope f cd A outer s H E).ex:=fun b z=>absurd (show b∈([]:List Addr) from z) (by simp)
 refine ⟨⟨e0.mod,S.kind,rfl,rfl,vE _,fun y z c h1 h2=>?_,fun y hy=>?_,fun y c _ h=>?_,fun _=>hd,Around.frames_deeper e0.frames,.inr ⟨rfl,rfl⟩,fun b z=>absurd z (mS b),e0.bs,e0.l8,fun b _ _=>mS b,fun b z=>absurd z (mS b),e0.dA,e0.l9,e0.tab⟩,
  rfl,e0.bare,Un.kept hk,⟨_,x.toInCall.ns,fun i y v h1 h2 h3=>?_⟩,fun y c h=>⟨_,x.cell y c h⟩,e0.az.fresh (vE _),fun y c h=>?_,fun p hp=>absurd (show p∈([]:w4) from hp) (by simp),e0.az.kept hk,?_⟩
 .exact name_of_addr x.apart (y8 h1) (y8 h2)
 .have hy:scope.names.lookup y=some .cell\/scope.names.lookup y=some .free:=hy;rcases hy with hy | hy
  .exact Gm hy
  .exact absurd rfl (S.AG _ (y8 hy))
 .exact Nat.le_of_lt (x.above y c (y8 h))
 .have hi:i < vs.length:=by
   unfold start at h2;by_cases hi:i < vs.length
   .exact hi
   .rw [List.getElem?_append_right (by simpa using hi)] at h2;rw [List.getElem?_replicate] at h2;split at h2 <;> cases h2
  have ha:vs[i]?=some v:=by
   unfold start at h2;rw [List.getElem?_append_left (by simpa using hi),List.getElem?_map] at h2;cases e:vs[i]? with
   | none=>rw [e] at h2;cases h2
   | some a=>rw [e] at h2;cases h2;rfl
  obtain ⟨u,hu,rv⟩:=r.get ha;have hp:ps[i]?=some y:=by
   rw [<- S.pre,List.getElem?_take_of_lt (by omega)];exact h1
  have NM:ps.Nodup:=by rw [<- S.pre];exact S.nd.sublist (List.take_sublist _ _)
  refine ⟨u,rv,?_⟩;rcases S.par y (List.mem_of_getElem? hp) with k | k
  .exact .inl ⟨k,Dz NM hp hu k⟩
  .obtain ⟨c,e⟩:=Gm (n:=s.heap.objs.size+1) k;refine .inr ⟨.inl k,c,e,?_⟩;have q:=x.cell y c e;rw [Du NM hp hu (by show scope.names.lookup y≠_;rw [k];decide)] at q;exact q
 .exact e0.az.fresh (Nat.le_of_lt (x.above y c (y8 h)))
 .unfold start;show _=N.length
  rw [List.length_append,List.length_map,List.length_replicate];omega
def U5 {f:Addr}{name:Str}{params:Arguments}{dV kV doc pm cdv ct oc:Value}{an od:zv}
  {iO:zw}{sp:Sp} (lk:K.lookup f=some ⟨oc,od,.func (PySem.W.fnOf name qual params body scope dV kV doc pm an cdv ct),iO⟩) (eJ:PySem.W.codeIn K cdv qual=true) (S:cS N ps scope)
  (len:∀ vs H Q E,sp vs H Q E->vs.length=ps.length)
  (d_:∀ (A:Around) (outer:List Env) (s:Shared) (H:Hp) (vs:List V) (Q:VK) (E:XK),cO k (A.deeper (envOfC qual scope s.heap.objs.size f cdv))->sp vs H Q E ->
   ∃ t,gu (fG CX P w K mg base N qual scope f cdv A outer s H E) body t/\t { nx:=fun _ H'=>Q .ai H',rt:=Q } (start N vs) H) :
  eU P w K mg base CX (k+1) f (PySem.W.fnOf name qual params body scope dV kV doc pm an cdv ct) ps sp:=by
 refine ⟨len,fun A outer s H args us vs Q E hr e0 hb r lr=>?_⟩;have hl:=len _ _ _ _ lr;have KX:K.In s.heap:=e0.mod.C1.keeps fun b o e=>(e0.bs b o e).1
 have lim:s.heap.NoLimit:=e0.mod.nolimit.keeps fun b o e=>(e0.bs b o e).1
 have oT:∀ y∈ps.zip us,scope.names.lookup y.1=some .local\/(scope.names.lookup y.1=some .cell/\((cellsFrom (s.heap.objs.size+1) scope.names []).lookup y.1).isSome=true):=fun ⟨n,v⟩ hy=>by
  rcases S.par n (List.of_mem_zip hy).1 with q | q
  .exact .inl q
  .exact .inr ⟨q,PySem.W.cellsFrom_some _ _ _ (.inl q)⟩
 refine codeAny_call_function hr.depth (KX _ _ lk) rfl S.co S.gen rfl (PySem.W.codeRec_of KX eJ) (hb _ _ _ _ ?_);refine wpAny_newFunctionEnv_cells S.kind oT fun env he s1 x=>?_
 subst he;refine ⟨lim.keeps x.toInCall.keep,codeAny_func ?_⟩;obtain ⟨t,ht,hq⟩:=d_ A outer s H vs Q E (hr.deeper _) lr;have I:Inv (fG CX P w K mg base N qual scope f cdv A outer s H E) [] (start N vs) H s1:=Dd S hr.hd e0 hl r x;refine wpAny_mono (ht [] s1 (start N vs) H _ I hq) (fun fl s' hs=>?_) fun e s' hs=>hs
 have fin:∀ {a9:St}{H':Hp}{v:V}{u:Value},Inv (fG CX P w K mg base N qual scope f cdv A outer s H E) [] a9 H' s'->RelV v u->Q v H'->CE outer P w H s Q u s' :=
  fun {a9 H' v u} J rv q=>⟨v,H',J.os,J.bare,J.base,J.az,rv,q⟩
 cases fl with
 | ret u =>
  obtain ⟨v,a9,H',J,rv,q⟩:=hs;exact fin J rv q
 | next =>
  obtain ⟨a9,H',J,q⟩:=hs;exact fin (v:=V.ai) (u:=Value.none) J rfl q
 | brk =>
  obtain ⟨_,_,_,q⟩:=hs;exact y4 q
 | cont =>
  obtain ⟨_,_,_,q⟩:=hs;exact y4 q
section
variable {X:Cx}{x:Str}{p pos:Pos}{e:Expr}{es:zl}{t:TA}{id T:String}{r:List V->Hp->VK->Prop}
def Jn (r:List V->Hp->VK->Prop) (t:TA):TE:=fun Z H Q=>t Z H fun vs H1=>r vs H1 Q
def gM (hc:gQ X (.builtin id) r) (hg:Gl X x) (hm:X.mg x=none) (hv:bootBuiltins x=some (.builtin id)) (ha:PA X (e::es) t) (hn:x ≠ "__name__":=by decide) (tJ:(x == ("__debug__":Str))=false:=by decide)
  (he:starEach (e::es) X.env=(false,eval e X.env)::starEach es X.env:=by rfl) (oS:(backTo pos (starEach es X.env)).any (·.1)=false:=by rfl):PE X (.Call (.Name x p) (e::es) [] pos) (Jn r t):=by
 intro ab s Z H Q I h;refine wpAny_Call_Name_kw (gY I hg hm hv ?_ hn tJ);exact PyProof.Rows.callWith_builtin1 (a7 (ha pos ab s Z H _ I h) fun us s1 ⟨vs,H1,I1,r1,q1⟩=>hc ab s1 Z H1 vs us Q I1 r1 q1) he oS
def Ng (hc:gQ X (.type T) r) (hg:Gl X x) (hm:X.mg x=none) (hv:bootBuiltins x=some (.type T)) (ha:PA X (e::es) t) (hn:x ≠ "__name__":=by decide) (tJ:(x == ("__debug__":Str))=false:=by decide)
  (he:starEach (e::es) X.env=(false,eval e X.env)::starEach es X.env:=by rfl) (oS:(backTo pos (starEach es X.env)).any (·.1)=false:=by rfl):PE X (.Call (.Name x p) (e::es) [] pos) (Jn r t):=by
 intro ab s Z H Q I h;refine wpAny_Call_Name_kw (gY I hg hm hv ?_ hn tJ);exact yT (a7 (ha pos ab s Z H _ I h) fun us s1 ⟨vs,H1,I1,r1,q1⟩=>hc ab s1 Z H1 vs us Q I1 r1 q1) he oS
end
end L2
namespace HT
open PySem PyProof.Rows
theorem Hf (A:Around) (s:Shared) (a:Int) (t:Tok) (c:Int) (u:Tok) (prog:Program) (w:World) (E:zb) (Q:zb) (h:Q (.bool (decide (a < c))) s) :
  wpAny (model prog w) A (richCompare .Lt (.int a t) (.int c u)) Q E s :=
 (PyProof.Rows.lt_int h:wpAny (model prog w) A (compareOp .Lt (.int a t) (.int c u)) Q E s)
variable {t sl:Addr}{Q:zb}{vl vu:Value}{lo hi:Option Int}
section
variable {prog:Program}{w:World}{A:Around}{E:zb}{s:Shared}
def Ws {b:Addr}{vs ws:zg} (ht:IsTup s.heap t vs.toArray) (hb:IsTup s.heap b ws.toArray) (hv:vs≠[])
  (h1:ws=[] -> Q (.ref t) s) (h2:ws ≠ [] -> Q (.ref s.heap.objs.size) { s with heap:=s.heap.push { cls:=.type "tuple",data:=.seq (vs ++ ws).toArray } })
  (hsz:vs.length+ws.length<=sizeLine):wpAny (model prog w) A (binaryOp .Add (.ref t) (.ref b)) Q E s:=by
 obtain ⟨⟨cls,dd,data,sl⟩,ho,hc,n,hd⟩:=id ht;obtain ⟨⟨AH,o6,data2,sN⟩,kR,fq,n2,hd2⟩:=id hb;simp only at hc hd fq hd2;subst hc hd fq hd2;have e:vs.toArray++ws.toArray=(vs++ws).toArray:=by simp
 by_cases hw:ws=[]
 .exact concat_meets ⟨_,ho,rfl⟩ ⟨_,kR,rfl⟩ noFill_tuple_add seq_tuple_add PySem.F.slot_tuple_add PySem.F.entry_tuple_add (PySem.F.args_tuple_add_2 _ _)
   (tuple_addW1 t b vs.toArray ws.toArray n n2 dd o6 sl sN (by simpa using hv) (by simp [hw])) ⟨ho,kR,h1 hw⟩
 .refine concat_meets ⟨_,ho,rfl⟩ ⟨_,kR,rfl⟩ noFill_tuple_add seq_tuple_add PySem.F.slot_tuple_add PySem.F.entry_tuple_add (PySem.F.args_tuple_add_2 _ _)
   (tuple_addW2 t b vs.toArray ws.toArray n n2 dd o6 sl sN (by simpa using hv) (by simpa using hw) (by rw [List.size_toArray,List.size_toArray];exact hsz)) ⟨ho,kR,?_⟩
  rw [e];exact h2 hw
noncomputable def bu (n d:Nat):Option Int->Nat
 | none=>d
 | some v=>if v < 0 then (v+(n:Int)).toNat else min v.toNat n
theorem Tj (n d:Nat):bu n d none=d:=rfl
def WD (n d k:Nat):bu n d (some (k:Int))=min k n:=by
 show (if (k:Int) < 0 then ((k:Int)+(n:Int)).toNat else min (k:Int).toNat n)=min k n
 rw [if_neg (by omega),Int.toNat_natCast]
def Zt (n d:Nat) (hd:d<=n) (o:Option Int):bu n d o<=n:=by
 cases o with
 | none=>exact hd
 | some v =>
  show (if v < 0 then (v+(n:Int)).toNat else min v.toNat n)<=n
  by_cases hv:v < 0
  .rw [if_pos hv];omega
  .rw [if_neg hv];exact Nat.min_le_right _ _
def JX (v:Int) (n d:Nat):(if v < 0 then max (v+(n:Int)) 0 else min v (n:Int))=((bu n d (some v):Nat):Int):=by
 show (if v < 0 then max (v+(n:Int)) 0 else min v (n:Int))=(((if v < 0 then (v+(n:Int)).toNat else min v.toNat n):Nat):Int)
 by_cases hv:v < 0
 .simp only [if_pos hv];omega
 .simp only [if_neg hv];omega
def KZ (lo hi:Option Int) (n:Nat):Builtin.Slice.sliceAdjust lo hi 1 (n:Int)=(((bu n 0 lo:Nat):Int),((bu n n hi:Nat):Int)):=by
 have h1:¬ ((1:Int) < 0):=by omega
 unfold Builtin.Slice.sliceAdjust;simp only [h1,if_false];refine Prod.ext ?_ ?_
 .cases lo with
  | none=>rfl
  | some v=>exact JX v n 0
 .cases hi with
  | none=>rfl
  | some v=>exact JX v n n
def Li (i j:Nat):Builtin.Slice.slicePlaces (i:Int) (j:Int) 1=j - i:=by
 unfold Builtin.Slice.slicePlaces;have h1:(1:Int) > 0:=by omega
 simp only [h1,if_true,Int.ediv_one];split <;> omega
def Bc {v:Value}{o:Option Int}{Q:Option Int->Shared->Prop} (p:IsPart v o) (h:Q o s):wpAny (model prog w) A (Builtin.Slice.slicePartIndex v) Q E s:=by
 cases p with
 | none=>exact slicePart_none h
 | int i t=>exact slicePart_int h
def pC {n:Nat}{Q:Int × Int × Nat->Shared->Prop} (hs:s.heap.IsSliceOf sl vl vu .none) (pl:IsPart vl lo) (pu:IsPart vu hi)
  (h:Q (((bu n 0 lo:Nat):Int),1,bu n n hi - bu n 0 lo) s):wpAny (model prog w) A (Builtin.Slice.sliceApplied (.ref sl) (pure (n:Int))) Q E s:=by
 obtain ⟨os,AI,F_,o_⟩:=id hs;unfold Builtin.Slice.sliceApplied Builtin.Slice.sliceFields;refine z0 (z0 (yZ AI o_ (x:=vl) rfl (z0 (yZ AI o_ (x:=vu) rfl (z0 (yZ AI o_ (x:=.none) rfl (ve ?_)))))));refine z0 (slicePart_none ?_);show wpAny _ _ (if ((1:Int) == 0)=true then _ else _) _ _ s
 rw [if_neg (by decide)];refine z0 (Bc pl (z0 (Bc pu (z0 (ve ?_)))));show wpAny _ _ (match Builtin.Slice.sliceAdjust lo hi 1 (n:Int) with | (lo,hi)=>pure (lo,(1:Int),Builtin.Slice.slicePlaces lo hi 1)) _ _ s
 rw [KZ lo hi n];show wpAny _ _ (pure (((bu n 0 lo:Nat):Int),(1:Int),Builtin.Slice.slicePlaces ((bu n 0 lo:Nat):Int) ((bu n n hi:Nat):Int) 1)) _ _ s
 rw [Li];exact ve h
def Ri (xs:zt) (i k:Nat):((List.range k).filterMap fun (m:Nat)=>xs[((i:Int)+(m:Int) * 1).toNat]?).toArray=((xs.toList.drop i).take k).toArray:=by
 have e:(fun (m:Nat)=>xs[((i:Int)+(m:Int) * 1).toNat]?)=fun m=>xs[i+m]?:=by
  funext m;have:((i:Int)+(m:Int) * 1).toNat=i+m:=by omega
  rw [this]
 rw [e];have:=pick_run xs i k;rw [List.filterMap_map] at this;have e2:((fun x=>xs[x]?) ∘ fun x=>i+x)=fun m=>xs[i+m]?:=rfl
 rw [e2] at this;rw [this]
def xZ {items:zt} (ht:IsTup s.heap t items) (hs:s.heap.IsSliceOf sl vl vu .none) (pl:IsPart vl lo) (pu:IsPart vu hi)
  (hw:¬ (bu items.size 0 lo=0/\bu items.size items.size hi=items.size))
  (h:Q (.ref s.heap.objs.size) { s with heap:=s.heap.push { cls:=.type "tuple",data:=.seq ((items.toList.drop (bu items.size 0 lo)).take (bu items.size items.size hi - bu items.size 0 lo)).toArray } })
  (hsz:items.size<=sizeLine):wpAny (model prog w) A (getItem (.ref t) (.ref sl)) Q E s:=by
 have md:sizeOk (.seq ((items.toList.drop (bu items.size 0 lo)).take (bu items.size items.size hi - bu items.size 0 lo)).toArray):=by
  show ((items.toList.drop (bu items.size 0 lo)).take (bu items.size items.size hi - bu items.size 0 lo)).toArray.size<=sizeLine
  rw [List.size_toArray,List.length_take,List.length_drop,Array.length_toList];omega
 have hj:bu items.size items.size hi<=items.size:=Zt _ _ (vE _) hi;obtain ⟨os,AI,F_,o_⟩:=id hs;have JA:s.TypeIs (.ref sl) "slice":=⟨os,AI,F_⟩
 unfold getItem
 try with_reducible refine wpAny_holding ?_
 first | refine z0 (ve ?_) | skip
 refine z0 (wpAny_sequenceKey ht.typeIs (by decide) ?_);refine z0 (yM (name:=Str.ofString "__getitem__") ht.typeIs PyProof.Rows.slot_tuple_getitem
  (yB PyProof.Rows.slot_tuple_getitem ht.typeIs entry_tuple_getitem ?_ (args_tuple_getitem _ _)))
 show wpAny _ _ (Builtin.Tuple.tupleItemsOf (.ref t) >>= _) _ _ s
 refine z0 (tupleItemsOf_ ht ?_);refine z0 (wpAny_typeOf JA ?_);rw [if_pos (by decide)];refine z0 (pC hs pl pu ?_);have lx:¬ ((((bu items.size 0 lo:Nat):Int) == 0 && (1:Int) == 1 && (bu items.size items.size hi - bu items.size 0 lo) == items.size)=true):=by
  intro q;rw [Bool.and_eq_true,Bool.and_eq_true] at q;have q1:((bu items.size 0 lo:Nat):Int)=0:=eq_of_beq q.1.1;have q2:bu items.size items.size hi - bu items.size 0 lo=items.size:=eq_of_beq q.2;exact hw ⟨by omega,by omega⟩
 show wpAny _ _ (if (((bu items.size 0 lo:Nat):Int) == 0 && (1:Int) == 1 && (bu items.size items.size hi - bu items.size 0 lo) == items.size)=true then _ else _) _ _ s
 rw [if_neg lx,Ri]
 first
  | exact z0 (m:=Builtin.Tuple.tupleExact _) (jb (ve ⟨_,rfl,ve h⟩) md)
  | exact z0 (m:=Builtin.Tuple.tupleExact _) (jb (z0 (ve (ve ⟨_,rfl,ve h⟩))) md)
  | exact z0 (z0 (m:=Builtin.Tuple.tupleExact _) (jb (ve (ve ⟨_,rfl,ve h⟩)) md))
  | exact z0 (z0 (m:=Builtin.Tuple.tupleExact _) (jb (ve ⟨_,rfl,ve h⟩) md))
end
end HT
namespace L2
open PySem PySem.Spec PyProof.Rows
abbrev TO:=St->Hp->(Option Int->Hp->Prop)->Prop
def PO (X:Cx) (e:Option Expr) (t:TO):Prop :=
 ∀ (ab:w4) (s:Shared) (Z:St) (H:Hp) (Q:Option Int->Hp->Prop),Inv X ab Z H s->t Z H Q ->
  wpAny (model X.prog X.w) X.A (evalPart e X.env) (fun u s'=>∃ o H',Inv X ab Z H' s'/\IsPart u o/\Q o H') X.xe s
def VF:TO:=fun _ H Q=>Q none H
def SA (t:TE):TO:=fun Z H Q=>t Z H fun x H1=>∃ i,x=.int i/\Q (some i) H1
variable {r:V->Option Int->Option Int->Hp->VK->Prop}
section
variable {X:Cx}{e:Expr}{te:TE}{lo hi:Option Expr}{tl th:TO}{pos p2:Pos}
def WW:PO X none VF:=by
 intro ab s Z H Q I h;rw [evalPart_none];exact ve ⟨none,H,I,.none,h⟩
def VR (h:PE X e te):PO X (some e) (SA te):=by
 intro ab s Z H Q I hw;rw [evalPart_some];refine a7 (h ab s Z H _ I hw) fun u s1 ⟨x,H1,I1,r1,q1⟩=>?_
 obtain ⟨i,rfl,q⟩:=q1;obtain ⟨t,rfl⟩:=r1;exact ⟨some i,H1,I1,.int i t,q⟩
def tN (X:Cx) (r:V->Option Int->Option Int->Hp->VK->Prop):Prop :=
 ∀ (ab:w4) (s:Shared) (Z:St) (H:Hp) (x:V) (v vl vu:Value) (lo hi:Option Int) (sl:Addr) (Q:VK),Inv X ab Z H s->RelV x v->s.heap.IsSliceOf sl vl vu .none->IsPart vl lo->IsPart vu hi->r x lo hi H Q ->
  ∃ T id,typeLookup (.type T) "__getitem__"=pure (some (.builtin id)) /\ s.TypeIs v T /\ wpAny (model X.prog X.w) X.A (getItem v (.ref sl)) (EP X ab Z Q) X.xe s
def tN.or {r':V->Option Int->Option Int->Hp->VK->Prop} (h:tN X r) (h':tN X r'):tN X (fun x lo hi H Q=>r x lo hi H Q\/r' x lo hi H Q):=by
 intro ab s Z H x v vl vu lo hi sl Q I rx hs pl pu q;rcases q with q | q
 .exact h ab s Z H x v vl vu lo hi sl Q I rx hs pl pu q
 .exact h' ab s Z H x v vl vu lo hi sl Q I rx hs pl pu q
def SD (r:V->Option Int->Option Int->Hp->VK->Prop) (te:TE) (tl th:TO):TE:=fun Z H Q=>te Z H fun x H1=>tl Z H1 fun l H2=>th Z H2 fun u H3=>r x l u H3 Q
def QS (hr:tN X r) (he:PE X e te) (hl:PO X lo tl) (hu:PO X hi th):PE X (.Subscript e (.Slice lo hi none p2) pos) (SD r te tl th):=by
 intro ab s Z H Q I h;refine Subscript_ (a7 (he ab s Z H _ I h) fun v s1 ⟨x,H1,I1,r1,q1⟩=>?_);refine wpAny_Slice (a7 (hl ab s1 Z H1 _ I1 q1) fun vl s2 ⟨l,H2,I2,pl,q2⟩=>a7 (hu ab s2 Z H2 _ I2 q2) fun vu s3 ⟨u,H3,I3,pu,q3⟩=>?_);rw [evalPart_none];refine ve ?_;have I4:Inv X ab Z H3 { s3 with heap:=s3.heap.push { cls:=.type "slice",data:=.fields #[vl,vu,.none] } }:=I3.kept (t':=s3.toks) fun b ob q=>vw _ q
 obtain ⟨T,id,hT,ht,hg⟩:=hr ab { s3 with heap:=s3.heap.push { cls:=.type "slice",data:=.fields #[vl,vu,.none] } } Z H3 x v vl vu l u s3.heap.objs.size Q I4 r1 (Heap.IsSliceOf.new ..) pl pu q3
 show wpAny (model X.prog X.w) X.A (subscriptTail e (.Slice lo hi none p2) v (.ref s3.heap.objs.size)) (EP X ab Z Q) X.xe { s3 with heap:=s3.heap.push { cls:=.type "slice",data:=.fields #[vl,vu,.none] } }
 exact tail_any (ops:=[.ref s3.heap.objs.size,v]) ht hT hg (by with_unfolding_all rfl)
noncomputable def vG (xs:List V) (lo hi:Option Int):List V:=(xs.drop (HT.bu xs.length 0 lo)).take (HT.bu xs.length xs.length hi - HT.bu xs.length 0 lo)
def yr (xs:List V) (lo hi:Option Int):(vG xs lo hi).length<=xs.length:=by
 unfold vG;rw [List.length_take,List.length_drop];omega
def Zg (K:zd):V->Option Int->Option Int->Hp->VK->Prop:=fun x lo hi H Q=>∃ a xs,x=.ref a/\cb K H a xs /\
 ¬ (HT.bu xs.length 0 lo=0/\HT.bu xs.length xs.length hi=xs.length)/\∀ p,H p=none->Q (.ref p) (upd H p (.tup (vG xs lo hi)))
def Y9:tN X (Zg X.K):=by
 intro ab s Z H x v vl vu lo hi sl Q I rx hs pl pu h;obtain ⟨a,xs,rfl,hx,hw,q⟩:=h;cases rx;obtain ⟨its,r,ht,hz⟩:=I.tuple hx;have hlen:its.toArray.size=xs.length:=by rw [List.size_toArray];exact r.length.symm
 refine ⟨"tuple",_,PyProof.Rows.slot_tuple_getitem.lookup,ht.typeIs,?_⟩
 refine HT.xZ ht hs pl pu (by rw [hlen];exact hw) ?_ (by rw [hlen];exact hz);rw [hlen];refine ⟨.ref s.heap.objs.size,_,I.laid (t':=s.toks) (o:=.tup (vG xs lo hi)) (fun b ob q=>vw _ q) (vE _) ?_,rfl,q _ (I.az.fresh (vE _))⟩;exact ⟨vT (yr xs lo hi) hz,_,(r.drop (HT.bu xs.length 0 lo)).take (HT.bu xs.length xs.length hi - HT.bu xs.length 0 lo),IsTup.new _ _⟩
def Vf (K:zd):R2:=fun x y H Q=>∃ a b xs ys,x=.ref a/\y=.ref b/\cb K H a xs/\cb K H b ys/\xs≠[]/\xs.length+ys.length<=sizeLine /\
 (ys=[]->Q (.ref a) H)/\(ys≠[]->∀ p,H p=none->Q (.ref p) (upd H p (.tup (xs++ys))))
def Vals.j9 {xs:List V}{us:zg} (r:Vals xs us):us=[]↔xs=[]:=by
 cases r with
 | nil=>simp
 | cons _ _=>simp
def Vo:eR X (binaryOp .Add) (Vf X.K):=by
 intro ab s Z H x y v u Q I rx ry h;obtain ⟨a,b,xs,ys,rfl,rfl,ha,hb,hx,hz,q1,q2⟩:=h;cases rx;cases ry;obtain ⟨its,r1,p1,_⟩:=I.tuple ha;obtain ⟨cX,r2,p2,_⟩:=I.tuple hb;refine HT.Ws p1 p2 (fun z=>hx (r1.j9.mp z)) (fun z=>⟨.ref a,H,I,rfl,q1 (r2.j9.mp z)⟩) (fun z=>?_) (by rw [<- r1.length,<- r2.length];exact hz);refine ⟨.ref s.heap.objs.size,_,I.laid (t':=s.toks) (o:=.tup (xs++ys)) (fun b ob q=>vw _ q) (vE _) ?_,rfl,q2 (fun w=>z (r2.j9.mpr w)) _ (I.az.fresh (vE _))⟩;exact ⟨by rw [List.length_append];exact hz,_,r1.append r2,IsTup.new _ _⟩
end
noncomputable def pd (n:Nat) (i:Int):Option Nat:=if 0<=i then (if i < n then some i.toNat else none) else if -(n:Int)<=i then some (i+n).toNat else none
def B5 {α:Type} (xs:List α) (i:Int):Option α:=(pd xs.length i).bind fun j=>xs[j]?
variable {n:Nat}{i:Int}
def V8 {j:Nat} (h:pd n i=some j):seqIndex? i n=some j/\j < n/\-(n:Int)<=i/\i < n:=by
 unfold pd at h;by_cases h0:0<=i
 .rw [if_pos h0] at h;by_cases h1:i < n
  .rw [if_pos h1] at h;have e:i.toNat=j:=y0 h;exact ⟨by rw [seqIndex_of h0 h1,e],by omega,by omega,h1⟩
  .rw [if_neg h1] at h;cases h
 .rw [if_neg h0] at h;by_cases h1:-(n:Int)<=i
  .rw [if_pos h1] at h;have e:(i+n).toNat=j:=y0 h;exact ⟨by rw [seqIndex_neg (by omega) h1,e],by omega,h1,by omega⟩
  .rw [if_neg h1] at h;cases h
def Kh {α:Type}{xs:List α}{v:α} (h:B5 xs i=some v):∃ j,seqIndex? i xs.length=some j/\xs[j]?=some v/\j < xs.length/\-(xs.length:Int)<=i/\i < xs.length:=by
 unfold B5 at h;cases e:pd xs.length i with
 | none=>rw [e] at h;cases h
 | some j =>
  rw [e] at h;obtain ⟨h1,h2,h3,h4⟩:=V8 e;exact ⟨j,h1,h,h2,h3,h4⟩
def Ju (b:Expr):Prop:=∀ o i,subscripted b false o i=operate [o,i] (getItem o i)
def sP (X:Cx) (r:R2):Prop :=
 ∀ (value slice:Expr) (ab:w4) (s:Shared) (Z:St) (H:Hp) (x y:V) (v u:Value) (Q:VK),Inv X ab Z H s->RelV x v->RelV y u->r x y H Q ->
  subscripted slice false v u=operate [v,u] (getItem v u)->wpAny (model X.prog X.w) X.A (subscriptTail value slice v u) (EP X ab Z Q) X.xe s
def SE (X:Cx) (id:String) (r:V->List V->Hp->VK->Prop):Prop :=
 ∀ (ab:w4) (s:Shared) (Z:St) (H:Hp) (x:V) (xs:List V) (v:Value) (us:zg) (Q:VK),Inv X ab Z H s->RelV x v->Vals xs us->r x xs H Q ->
  wpAny (model X.prog X.w) X.A (call (.builtin id) (v::us)) (EP X ab Z Q) X.xe s
variable {ab:w4}{Z:St}{H:Hp}{s:Shared}
section
variable {X:Cx}{a b:Expr}{ta tb:TE}{pos:Pos}
def sP.or {r r':R2} (h:sP X r) (h':sP X r'):sP X (fun x y H Q=>r x y H Q\/r' x y H Q):=by
 intro value slice ab s Z H x y v u Q I rx ry q hs;rcases q with q | q
 .exact h value slice ab s Z H x y v u Q I rx ry q hs
 .exact h' value slice ab s Z H x y v u Q I rx ry q hs
def Ve {r:R2} (hr:sP X r) (ha:PE X a ta) (hb:PE X b tb) (hs:Ju b):PE X (.Subscript a b pos) (B3 r ta tb):=by
 intro ab s Z H Q I h;exact Subscript_ (RT ha hb I h fun v u s2 x y H2 I2 rx ry q=>hr a b ab s2 Z H2 x y v u Q I2 rx ry q (hs _ _))
def Yz (K:zd):R2:=fun x y H Q=>∃ p xs i v,x=.ref p/\y=.int i/\cm K H p xs/\B5 xs i=some v/\Q v H
def Yr (K:zd):R2:=fun x y H Q=>∃ p xs i v,x=.ref p/\y=.int i/\cb K H p xs/\B5 xs i=some v/\Q v H
def Xg:sP X (Yz X.K):=by
 intro value slice ab s Z H x y v u Q I rx ry h hs;obtain ⟨p,xs,i,z,rfl,rfl,hq,he,q⟩:=h;cases rx;obtain ⟨t,rfl⟩:=ry;obtain ⟨its,r,pl,hz⟩:=I.list hq;obtain ⟨j,h1,h2,h3,h4,h5⟩:=Kh he;obtain ⟨w,ew,mT⟩:=r.get h2;have hl:=r.length;have hn:=Aq;have fin:EP X ab Z Q w s:=⟨z,H,I,mT,q⟩;by_cases h0:0<=i
 .have hj:i.toNat=j:=by
   rw [seqIndex_of h0 h5] at h1;exact y0 h1
  exact item_listR pl.isList h0 (by omega) (by rw [hj];simpa using ew) fin hs
 .have hj:(i+(its.toArray.size:Int)).toNat=j:=by
   rw [seqIndex_neg (by omega) h4] at h1;rw [List.size_toArray,<- hl];exact y0 h1
  exact subscriptTail_builtinR (x:=w) pl.isList.typeIs slot_list_getitem.lookup
   (wpAny_getItem_list_neg (Q:=fun r s'=>r=w/\EP X ab Z Q r s') pl.isList (by omega) (by rw [List.size_toArray] <;> omega) (by omega) (by rw [hj];simpa using ew) ⟨rfl,fin⟩) hs
def Zz:sP X (Yr X.K):=by
 intro value slice ab s Z H x y v u Q I rx ry h hs;obtain ⟨p,xs,i,z,rfl,rfl,hq,he,q⟩:=h;cases rx;obtain ⟨t,rfl⟩:=ry;obtain ⟨its,r,pl,hz⟩:=I.tuple hq;obtain ⟨j,h1,h2,h3,h4,h5⟩:=Kh he;obtain ⟨w,ew,mT⟩:=r.get h2;have hl:=r.length;have hn:=Aq;have fin:EP X ab Z Q w s:=⟨z,H,I,mT,q⟩;exact subscriptTail_builtinR (x:=w) pl.typeIs slot_tuple_getitem.lookup
  (getItem_tuple (j:=j) (Q:=fun r s'=>r=w/\EP X ab Z Q r s') pl (by omega) (by omega) (by rw [List.size_toArray,<- hl];exact h1) (by simpa using ew) ⟨rfl,fin⟩) hs
def G5 (lo hi:Option Int) (n:Nat):(sliceBounds lo hi none n).1=((HT.bu n 0 lo:Nat):Int)/\(sliceBounds lo hi none n).2.1=((HT.bu n n hi:Nat):Int)/\(sliceBounds lo hi none n).2.2=1:=by
 refine ⟨?_,?_,rfl⟩
 .cases lo with
  | none=>simp [sliceBounds,HT.bu]
  | some i =>
   simp only [sliceBounds,HT.bu,Option.getD_none,show (1:Int) > 0 by decide,if_true];by_cases h:i < 0
   .simp only [h,if_true] <;> omega
   .simp only [h,if_false] <;> omega
 .cases hi with
  | none=>simp [sliceBounds,HT.bu]
  | some i =>
   simp only [sliceBounds,HT.bu,Option.getD_none,show (1:Int) > 0 by decide,if_true];by_cases h:i < 0
   .simp only [h,if_true] <;> omega
   .simp only [h,if_false] <;> omega
def Eh (its:zg) (lo hi:Option Int):slicePick its.toArray lo hi none=((its.drop (HT.bu its.length 0 lo)).take (HT.bu its.length its.length hi - HT.bu its.length 0 lo)).toArray:=by
 obtain ⟨h1,h2,h3⟩:=G5 lo hi its.toArray.size;unfold slicePick;rw [h1,h2,h3];simp only [sliceRange_one,pick_run,List.size_toArray] <;> rfl
def ZC (K:zd):V->Option Int->Option Int->Hp->VK->Prop:=fun x lo hi H Q=>∃ a xs,x=.ref a/\cm K H a xs/\∀ p,H p=none->Q (.ref p) (upd H p (.lst (vG xs lo hi)))
def Vt:tN X (ZC X.K):=by
 intro ab s Z H x v vl vu lo hi sl Q I rx hs pl pu h;obtain ⟨a,xs,rfl,hx,q⟩:=h;cases rx;obtain ⟨its,r,ht,hz⟩:=I.list hx;have hlen:=r.length;refine ⟨"list",_,slot_list_getitem.lookup,ht.isList.typeIs,?_⟩
 refine wpAny_getItem_list_slice ht.isList hs pl pu .none (by simp) ?_ (by rw [List.size_toArray] <;> omega);rw [Eh,<- hlen];refine ⟨.ref s.heap.objs.size,_,I.laid (t':=s.toks) (o:=.lst (vG xs lo hi)) (fun b ob q=>vw _ q) (vE _) ?_,rfl,q _ (I.az.fresh (vE _))⟩;exact ⟨vT (yr xs lo hi) hz,_,0,(r.drop (HT.bu xs.length 0 lo)).take (HT.bu xs.length xs.length hi - HT.bu xs.length 0 lo),vy _ rfl⟩
def vX:gQ X (.builtin "len") (fun xs H Q=>∃ p ys,xs=[.ref p] /\ (cm X.K H p ys \/ cb X.K H p ys) /\ Q (.int ys.length) H):=by
 intro ab s Z H xs us Q I r h;obtain ⟨p,ys,rfl,hq,q⟩:=h;obtain ⟨u,rfl,rx⟩:=vals1 r;cases rx;have hn:=Aq;rcases hq with hq | hq
 .obtain ⟨its,r',pl,hz⟩:=I.list hq;have hlen:=r'.length;exact Calls.call_len_list pl.isList (by simp only [List.size_toArray] <;> omega) ⟨.int ys.length,H,I.tok _,⟨s.toks+1,by rw [List.size_toArray,hlen]⟩,q⟩
 .obtain ⟨its,r',pl,hz⟩:=I.tuple hq;have hlen:=r'.length;exact len_tuple pl (by simp only [List.size_toArray] <;> omega) ⟨.int ys.length,H,I.tok _,⟨s.toks+1,by rw [List.size_toArray,hlen]⟩,q⟩
def gQ.or {f:Value}{r r':List V->Hp->VK->Prop} (h:gQ X f r) (h':gQ X f r'):gQ X f (fun xs H Q=>r xs H Q\/r' xs H Q):=by
 intro ab s Z H xs us Q I rs q;rcases q with q | q
 .exact h ab s Z H xs us Q I rs q
 .exact h' ab s Z H xs us Q I rs q
def DQ:gQ X (.type "tuple") (fun xs H Q=>∃ p ys,xs=[.ref p] /\ ((cm X.K H p ys /\ ∀ l,H l=none -> Q (.ref l) (upd H l (.tup ys))) \/ (cb X.K H p ys /\ Q (.ref p) H))):=by
 intro ab s Z H xs us Q I r h;obtain ⟨p,ys,rfl,h⟩:=h;obtain ⟨u,rfl,rx⟩:=vals1 r;cases rx;rcases h with ⟨hq,q⟩ | ⟨hq,q⟩
 .obtain ⟨its,r',pl,hz⟩:=I.list hq;have hlen:=r'.length;refine call_tuple_list pl.isList (fun h' kp=>?_) (by simp only [List.size_toArray] <;> omega);have I1:Inv X ab Z H { s with heap:=h' }:=I.kept (t':=s.toks) kp;have I2:Inv X ab Z (upd H h'.objs.size (.tup ys)) { s with heap:=h'.push { cls:=.type "tuple",data:=.seq its.toArray } } :=
   I1.laid (t':=s.toks) (fun b o e=>vw _ e) (vE _) (show bO X.prog X.w _ _ _ (.tup ys) from ⟨hz,its,r',IsTup.new _ _⟩)
  exact ⟨.ref h'.objs.size,_,I2,rfl,q _ (I1.az.fresh (vE _))⟩
 .obtain ⟨its,r',pl,hz⟩:=I.tuple hq;exact call_tuple_same pl ⟨.ref p,H,I,rfl,q⟩
def JE (K:zd) (T:String) (x:V) (H:Hp):Prop:=match x with
 | .str _=>T="str"
 | .int _=>T="int"
 | .ref p=>(T="list" /\ ∃ xs,cm K H p xs) \/ (T="tuple" /\ ∃ o,K.lookup p=some o /\ o.cls=.type "tuple" /\ o.dict=none) \/
   (T="dict" /\ ((∃ ah,H p=some (.dK ah)) \/ ∃ ah,H p=some (.dT ah))) \/ (T="set" /\ ∃ S n,H p=some (.set S n))
 | _=>False
def Zm {T:String}{x:V}{v:Value} (I:Inv X ab Z H s) (r:RelV x v) (ty:JE X.K T x H) :
  s.TypeIs v T/\∀ a,v=.ref a->∃ ob,s.heap.get? a=some ob/\ob.dict=none:=by
 cases x with
 | str z =>
  obtain ⟨t,rfl⟩:=r;cases (show T="str" from ty)
  exact ⟨typeIs_str s z t,fun _ e=>nomatch e⟩
 | int i =>
  obtain ⟨t,rfl⟩:=r;cases (show T="int" from ty)
  exact ⟨typeIs_int s i t,fun _ e=>nomatch e⟩
 | ref p =>
  cases r;rcases ty with ⟨rfl,xs,hq⟩ | ⟨rfl,o,hk,hc,hd⟩ | ⟨rfl,hk⟩ | ⟨rfl,S,n,hk⟩
  .obtain ⟨its,_,pl,_⟩:=I.list hq;refine ⟨pl.isList.typeIs,fun a e=>?_⟩;cases e;obtain ⟨o,n,e,c,hd,_⟩:=pl;exact ⟨o,e,hd⟩
  .refine ⟨⟨o,I.gO p o hk,hc⟩,fun a e=>?_⟩;cases e;exact ⟨o,I.gO _ o hk,hd⟩
  .have z:∃ o,s.heap.get? p=some o/\o.ExactDict:=by
    rcases hk with ⟨ah,hk⟩ | ⟨ah,hk⟩
    .obtain ⟨_,_,_,_,o,_,_,e,ex,_⟩:=I.az p _ hk;exact ⟨o,e,ex⟩
    .obtain ⟨_,_,_,_,o,_,_,e,ex,_⟩:=I.az p _ hk;exact ⟨o,e,ex⟩
   obtain ⟨o,e,ex⟩:=z;refine ⟨⟨o,e,ex.1⟩,fun a e2=>?_⟩;cases e2;exact ⟨o,e,ex.2.1⟩
  .obtain ⟨o,_,_,_,e,ex,_⟩:=I.az p _ hk;refine ⟨⟨o,e,ex.1⟩,fun a e2=>?_⟩;cases e2;exact ⟨o,e,ex.2.1⟩
 | _=>exact y4 ty
def SF (K:zd) (T:String) (r:V->List V->Hp->VK->Prop) (to:TE) (t:TA):TE:=fun Z H Q=>to Z H fun x H1=>JE K T x H1/\t Z H1 fun xs H2=>r x xs H2 Q
variable {o e:Expr}{es:zl}{to:TE}{t:TA}{name:Str}{apos de:Pos}{T id:String}{r:V->List V->Hp->VK->Prop}
def Mq (pa:PlainAttrs T) (slot:Slot T name id) (SG:typeOf (.builtin id)=pure (.type "method_descriptor")) (hm:SE X id r) (ho:PE X o to) (ha:PA X (e::es) t)
  (pe:attributeBase o name X.env (eval o X.env)=eval o X.env:=by rfl)
  (JI:((backTo de (starEach (e::es) X.env)).all (fun x=>!x.1) && (backToKw de (keywordEach [] X.env)).all (fun x=>x.1.isSome)
   && decide ((e::es).length+([]:List Keyword).length+(if ([]:List Keyword).isEmpty then 0 else 1) < 30))=true:=by rfl)
  (pf:(apos.endLine == de.line)=true:=by rfl) (hs:starEach (e::es) X.env=(false,eval e X.env)::starEach es X.env:=by rfl) (AJ:(backTo de (starEach es X.env)).any (·.1)=false:=by rfl) :
  PE X (.Call (.Attribute o name apos) (e::es) [] de) (SF X.K T r to t):=by
 intro ab s Z H Q I h;refine wpAny_Call_method_late pe JI pf rfl (a7 (ho ab s Z H _ I h) fun v s1 ⟨x,H1,I1,r1,ty,q1⟩=>?_);obtain ⟨h1,h2⟩:=Zm I1 r1 ty;refine ⟨T,id,pa,slot,SG,h1,h2,?_⟩;have hA:=ha de ab s1 Z H1 _ I1 q1;rw [hs] at hA ⊢;refine Calls.callWith_builtin (by show (false || (backTo de (starEach es X.env)).any (·.1))=false;rw [AJ] <;> rfl) (Calls.evalArgs_plain ?_);exact a7 hA fun us s2 ⟨vs,H2,I2,r2,q2⟩=>hm ab s2 Z H2 x vs v us Q I2 r1 r2 q2
end
def NN (X:Cx) (id:String) (r:V->List V->Hp->VK->Prop):Prop :=
 ∀ (ab:w4) (s:Shared) (Z:St) (H:Hp) (x:V) (xs:List V) (v:Value) (us:zg) (Q:VK),Inv X ab Z H s->RelV x v->Vals xs us->r x xs H Q ->
  wpAny (model X.prog X.w) X.A (call (.builtin id) (v::us)) (EP X ab Z Q) X.xe s
theorem Vals.one:∀ {x:V}{us:zg},Vals [x] us->∃ u,us=[u]/\RelV x u
 | _,_,.cons r .nil=>⟨_,rfl,r⟩
variable {its:zg}
section
variable {X:Cx}{ab:w4}{Z:St}{H:Hp}{s:Shared}{l b:Addr}{xs ys zs:List V}
def Inv.eh {its':zg}{f:zt->zt}{t':Nat} (I:Inv X ab Z H s) (hH:H l=some (.lst xs))
  (e:s.heap.get? l=some { cls:=.type "list",data:=.seq its.toArray n }) (hf:f its.toArray=its'.toArray) (hv:Vals ys its') (hz:ys.length <= sizeLine) :
  Inv X ab Z (upd H l (.lst ys)) { s with heap:=s.heap.update l (Obj.mapSeq f),toks:=t' }:=by
 have q:=PySem.IsL.update e f;rw [hf] at q;refine I.write (x:=l) (e:=l) (by rw [hH];exact trivial) (.inl rfl) (fun b' u hb hu=>(yb s.heap (Obj.mapSeq f) (Ne.symm hb)).trans hu) ⟨_,q⟩ ?_;exact ⟨hz,its',_,hv,q⟩
def Inv.JJ {t':Nat} (I:Inv X ab Z H s) (hv:Vals ys its) (hz:ys.length<=sizeLine) :
  Inv X ab Z (upd H s.heap.objs.size (.lst ys)) { s with heap:=s.heap.push { cls:=.type "list",data:=.seq its.toArray },toks:=t' } :=
 I.laid (fun _ _ q=>vw _ q) (vE _) ⟨hz,its,0,hv,vy _ rfl⟩
def Inv.fresh (I:Inv X ab Z H s):H s.heap.objs.size=none:=I.az.fresh (vE _)
def Inv.ph (I:Inv X ab Z H s) (hH:H l=some (.lst xs)):xs.length <= sizeLine /\ ∃ (its:zg) (n:Nat),Vals xs its /\ xs.length=its.length /\ s.heap.get? l=some { cls:=.type "list",data:=.seq its.toArray n }:=by
 obtain ⟨z,its,n,r,e⟩:=I.az l _ hH;exact ⟨z,its,n,r,r.length,e⟩
def QX (h:n<=sizeLine):Builtin.List.listTooLong n=false:=by
 unfold Builtin.List.listTooLong;exact ya (by omega)
end
section
variable {X:Cx}
def JH:V->List V->Hp->VK->Prop:=fun x vs H Q=>∃ l xs y,x=.ref l/\vs=[y]/\H l=some (.lst xs)/\xs.length < sizeLine/\Q .ai (upd H l (.lst (xs++[y])))
def vC:NN X "list.append" JH:=by
 intro ab s Z H x vs v us Q I rx rv h;obtain ⟨l,xs,y,rfl,rfl,hH,hz,q⟩:=h;cases rx;obtain ⟨u,rfl,ru⟩:=rv.one;obtain ⟨z,its,n,r,hl,e⟩:=I.ph hH;refine call_meets F.slot_list_append ⟨_,e,rfl⟩ F.entry_list_append (F.args_list_append_2 _ _) (PySem.list_append l its.toArray n u (by rw [List.size_toArray];omega)) ⟨e,?_⟩;refine ⟨.ai,_,I.eh (its':=its++[u]) hH e (by simp) (r.append (.cons ru .nil)) ?_,rfl,q⟩;rw [List.length_append,List.length_singleton];omega
end
variable {o:Option V}{y:V}{u:Value}
section
variable {κ:Type} [DecidableEq κ]
noncomputable def iR (ah:List (κ × V)) (k:κ):Option V:=(ah.find? fun kv=>decide (kv.1=k)).map (·.2)
noncomputable def putK (ah:List (κ × V)) (k:κ) (v:V):List (κ × V) :=
 if (ah.any fun kv=>decide (kv.1=k))=true then ah.map (fun kv=>if kv.1=k then (kv.1,v) else kv) else ah++[(k,v)]
def uc {p:κ × V}{r:List (κ × V)}{k:κ} (e:p.1=k):iR (p::r) k=some p.2:=by simp [iR,List.find?_cons,e]
def zf {p:κ × V}{r:List (κ × V)}{k:κ} (e:¬ p.1=k):iR (p::r) k=iR r k:=by simp [iR,List.find?_cons,e]
theorem HJ (k:κ):∀ ah:List (κ × V),(ah.any fun kv=>decide (kv.1=k))=(iR ah k).isSome
 | []=>rfl
 | p::r=>by
  rw [List.any_cons];by_cases e:p.1=k
  .simp only [uc e,decide_eq_true e,Bool.true_or,Option.isSome_some]
  .rw [zf e,decide_eq_false e,Bool.false_or];exact HJ k r
def yh (ah:List (κ × V)) (k:κ) (v:V):(putK ah k v).length<=ah.length+1:=by
 unfold putK;split
 .rw [List.length_map];omega
 .rw [List.length_append,List.length_cons,List.length_nil];omega
def mj.m4 {u:Option Value} (r:mj o u):o.isSome=u.isSome:=by
 cases o with
 | none=>cases u with
  | none=>rfl
  | some _=>exact (show False from r).elim
 | some _=>cases u with
  | none=>exact (show False from r).elim
  | some _=>rfl
def mj.getD {u:Option Value}{d:V}{d':Value} (r:mj o u) (rd:RelV d d'):RelV (o.getD d) (u.getD d'):=by
 cases o with
 | none=>cases u with
  | none=>exact rd
  | some _=>exact (show False from r).elim
 | some _=>cases u with
  | none=>exact (show False from r).elim
  | some _=>exact r
def KV.val {ah:List (κ × V)}{vs:List (κ × Value)} (r:KV ah vs) (k:κ):mj (iR ah k) (valueAt vs k):=by
 unfold KV at r;induction r with
 | nil=>exact True.intro
 | @cons p q ps qs h t ih =>
  obtain ⟨h1,h2⟩:=h;by_cases e:p.1=k
  .have e':q.1=k:=h1.symm.trans e;have b:valueAt (q::qs) k=some q.2:=by simp [valueAt,List.find?_cons,e']
   rw [uc e,b];exact h2
  .have e':¬ q.1=k:=fun z=>e (h1.trans z)
   have b:valueAt (q::qs) k=valueAt qs k:=by simp [valueAt,List.find?_cons,e']
   rw [zf e,b];exact ih
def KV.any {ah:List (κ × V)}{vs:List (κ × Value)} (r:KV ah vs) (k:κ):(ah.any fun kv=>decide (kv.1=k))=vs.any fun kv=>decide (kv.1=k):=by
 unfold KV at r;induction r with
 | nil=>rfl
 | cons h t ih=>rw [List.any_cons,List.any_cons,ih,h.1]
def KV.AK {ah:List (κ × V)}{vs:List (κ × Value)} (r:KV ah vs) (k:κ)  (ry:RelV y u) :
  KV (ah.map fun kv=>if kv.1=k then (kv.1,y) else kv) (vs.map fun kv=>if kv.1=k then (kv.1,u) else kv):=by
 unfold KV at r ⊢;induction r with
 | nil=>exact .nil
 | @cons p q ps qs h t ih =>
  rw [List.map_cons,List.map_cons];refine .cons ?_ ih;obtain ⟨h1,h2⟩:=h;by_cases e:p.1=k
  .rw [if_pos e,if_pos (h1.symm.trans e)];exact ⟨h1,ry⟩
  .rw [if_neg e,if_neg (fun z=>e (h1.trans z))];exact ⟨h1,h2⟩
def KV.put {ah:List (κ × V)}{vs:List (κ × Value)} (r:KV ah vs) (k:κ)  (ry:RelV y u):KV (putK ah k y) (stored vs k u):=by
 unfold putK stored;rw [r.any k];by_cases e:(vs.any fun kv=>decide (kv.1=k))=true
 .rw [if_pos e,if_pos e];exact r.AK k ry
 .rw [if_neg e,if_neg e];exact Paired.snoc r ⟨rfl,ry⟩
def KV.length {ah:List (κ × V)}{vs:List (κ × Value)} (r:KV ah vs):ah.length=vs.length:=Paired.length r
end
variable {P:Program}{w:World}{k:Key}
def Ey (r:RelV (kV k) u):(cU P w).is k u=true:=by
 cases k with
 | inl i=>obtain ⟨t,e⟩:=(show ∃ t,u=Value.int i t from r);subst e;exact Jh P w i t
 | inr x=>obtain ⟨t,e⟩:=(show ∃ t,u=Value.str x t from r);subst e;exact IW P w x t
theorem Dq {P:Program}{w:World}:∀ {ks:List Key}{us:zg},Vals (ks.map kV) us->ItemsAre (cU P w) ks us
 | [],_,r=>by rw [List.map_nil] at r;cases r;exact .nil
 | k::ks,_,r=>by
  rw [List.map_cons] at r;cases r with
  | cons h t=>exact .cons (Ey h) (Dq t)
abbrev KT (H:Hp):List (List Key × V)->List (List Key × Addr × Value)->Prop:=Paired fun p q=>p.1=q.1/\H q.2.1=some (.tup (p.1.map kV))/\RelV p.2 q.2.2
variable {ah:List (List Key × V)}{xs:List (List Key × Addr × Value)}
def KT.val (r:KT H ah xs) (k:List Key):mj (iR ah k) ((atKey xs k).map (·.2)):=by
 induction r with
 | nil=>exact True.intro
 | @cons p q ps qs h t ih =>
  obtain ⟨h1,_,h2⟩:=h;by_cases e:p.1=k
  .have e':q.1=k:=h1.symm.trans e;have b:atKey (q::qs) k=some q.2:=by simp [atKey,List.find?_cons,e']
   rw [uc e,b];exact h2
  .have e':¬ q.1=k:=fun z=>e (h1.trans z)
   have b:atKey (q::qs) k=atKey qs k:=by simp [atKey,List.find?_cons,e']
   rw [zf e,b];exact ih
def KT.AK (r:KT H ah xs) (k:List Key)  (ry:RelV y u) :
  KT H (ah.map fun kv=>if kv.1=k then (kv.1,y) else kv) (xs.map (putAt k u)):=by
 induction r with
 | nil=>exact .nil
 | @cons p q ps qs h t ih =>
  rw [List.map_cons,List.map_cons];refine .cons ?_ ih;obtain ⟨h1,h2,h3⟩:=h;unfold putAt;by_cases e:p.1=k
  .rw [if_pos e,if_pos (h1.symm.trans e)];exact ⟨h1,h2,ry⟩
  .rw [if_neg e,if_neg (fun z=>e (h1.trans z))];exact ⟨h1,h2,h3⟩
def KT.put (r:KT H ah xs) (k:List Key) {b:Addr} (hb:H b=some (.tup (k.map kV))) (ry:RelV y u) :
  KT H (putK ah k y) (storedH xs k b u):=by
 have e:(ah.any fun kv=>decide (kv.1=k))=(atKey xs k).isSome:=by
  rw [HJ,(r.val k).m4,Option.isSome_map]
 unfold putK storedH;rw [e];by_cases q:(atKey xs k).isSome=true
 .rw [if_pos q,if_pos q];exact r.AK k ry
 .rw [if_neg q,if_neg q];exact Paired.snoc r ⟨rfl,hb,ry⟩
variable {H':Hp}
def KT.keeps (r:KT H ah xs) (ht:∀ b ys,H b=some (.tup ys)->H' b=some (.tup ys)):KT H' ah xs :=
 Paired.As r fun _ _ z=>⟨z.1,ht _ _ z.2.1,z.2.2⟩
section
variable {P:Program}{w:World}{H:Hp}{h:Heap}{a:Addr}
def UG {u:HO} (ok:c6 P w H h) (e:Rd H a u):bO P w H h a u:=e.ok ok
def Bv {ah:List (Key × V)} (ok:c6 P w H h) (e:Rd H a (.dK ah)):ah.length<=sizeLine/\(a == sysModules)=false/\∃ vs,KV ah vs/\h.DictOf (cU P w) a vs :=
 show bO P w H h a (.dK ah) from UG ok e
def Ld {ah:List (Key × V)} (ok:c6 P w H h) (e:H a=some (.dK ah)):ah.length<=sizeLine/\(a == sysModules)=false/\∃ vs,KV ah vs/\h.DictOf (cU P w) a vs:=Bv ok (.inl e)
def Hh {ks:List Key} (ok:c6 P w H h) (e:H a=some (.tup (ks.map kV))):(tupleKind (cU P w)).is h ks a:=by
 obtain ⟨_,its,r,o,h1,h2,n,h3⟩:=(show bO P w H h a (.tup (ks.map kV)) from ok a _ e);exact ⟨o,its.toArray,n,h1,h2,h3,by simpa using Dq r⟩
def Ew (ok:c6 P w H h) (e:Rd H a (.dT ah)):ah.length<=sizeLine/\(a == sysModules)=false /\
  ∃ xs,KT H ah xs/\h.DictOfH (tupleKind (cU P w)) a xs:=by
 obtain ⟨z,y,xs,r,o,es,ep,h1,h2,h3,h4,h5⟩:=(show bO P w H h a (.dT ah) from UG ok e);refine ⟨z,y,xs,r,o,es,ep,h1,h2,h3,h4,fun x hx=>?_,h5⟩;have all:∀ {l:List (List Key × V)}{m:List (List Key × Addr × Value)},KT H l m->∀ x∈m,(tupleKind (cU P w)).is h x.1 x.2.1:=by
  intro l m q;induction q with
  | nil=>intro x hx;exact nomatch hx
  | @cons p q ps qs hq t ih =>
   intro x hx;rcases vV.mp hx with e | hx
   .subst e;exact Hh ok (by rw [<- hq.1];exact hq.2.1)
   .exact ih x hx
 exact all r x hx
def SH (ok:c6 P w H h) (e:H a=some (.dT ah)):ah.length<=sizeLine/\(a == sysModules)=false /\
  ∃ xs,KT H ah xs/\h.DictOfH (tupleKind (cU P w)) a xs:=Ew ok (.inl e)
end
def yQ (H:Hp) (a:Addr) (y:V) (r:Option V):Prop :=
 (∃ ah k,Rd H a (.dK ah)/\y=kV k/\r=iR ah k)\/∃ ah k b,Rd H a (.dT ah)/\y=.ref b/\H b=some (.tup (k.map kV))/\r=iR ah k
def Gd (H:Hp) (a:Addr) (y v:V) (H':Hp):Prop :=
 (∃ ah k,H a=some (.dK ah)/\y=kV k/\ah.length < sizeLine/\H'=upd H a (.dK (putK ah k v))) \/
 ∃ ah k b,H a=some (.dT ah)/\y=.ref b/\H b=some (.tup (k.map kV))/\ah.length < sizeLine/\H'=upd H a (.dT (putK ah k v))
variable {a:Addr}
def yQ.kk {ah:List (Key × V)} (e:H a=some (.dK ah)):yQ H a (kV k) (iR ah k):=.inl ⟨ah,k,.inl e,rfl,rfl⟩
def Gd.kk {ah:List (Key × V)}{v:V} (e:H a=some (.dK ah)) (hl:ah.length < sizeLine):Gd H a (kV k) v (upd H a (.dK (putK ah k v))):=.inl ⟨ah,k,e,rfl,hl,rfl⟩
variable {h':Heap}
section
variable {X:Cx}{ab:w4}{Z:St}{H:Hp}{s:Shared}{a:Addr}{y v:V}{u r:Value}{o:Option V}{A:Around}{E:zb}
def Inv.big (I:Inv X ab Z H s):sysModules < s.heap.objs.size:=by
 have h:mainGlobals < s.heap.objs.size:=(I.mod.glob.keeps I.bk).lt;exact Nat.lt_trans (by decide) h
def Jz {t':Nat}{ob:HO} (I:Inv X ab Z H s) (mu:Au (H a)) (hs:Heap.SameBut a s.heap h') (he:∃ q,h'.get? a=some q) (new:bO X.prog X.w (upd H a ob) h' a ob) :
  Inv X ab Z (upd H a ob) { s with heap:=h',toks:=t' } :=
 I.write (x:=a) (e:=a) mu (.inl rfl) (fun b q hb z=>(hs.2 b hb).trans z) he new
def Z2 {ah:List (Key × V)}{vs:List (Key × Value)} (z:ah.length<=sizeLine) (hd:(a == sysModules)=false) (rel:KV ah vs) (dd:h'.DictOf (cU P w) a vs) :
  bO P w H' h' a (.dK ah):=⟨z,hd,vs,rel,dd⟩
def QB {Q:Unit->Shared->Prop} (hu:A.units+1 < cLine) (I:Inv X ab Z H s) (g:Gd H a y v H') (ry:RelV y u) (rv:RelV v r) (h:∀ s',Inv X ab Z H' s'->Q () s') :
  wpAny (model X.prog X.w) A (setItem (.ref a) u r) Q E s:=by
 rcases g with ⟨ah,k,e,ey,l,eH⟩ | ⟨ah,k,b,e,ey,eb,l,eH⟩
 .subst ey eH;obtain ⟨z,hd,vs,rel,dd⟩:=Ld I.az e;have hz:vs.length<=sizeLine:=by rw [<- rel.length];exact z
  have hl:(putK ah k v).length<=sizeLine:=by have:=yh ah k v;omega
  refine wpAny_setItem_pairs (hsz:=hz) (Ey ry) dd fun h' Gr hs=>h _ ?_
  have he:∃ q,h'.get? a=some q:=let ⟨q,_,_,hq,_⟩:=Gr;⟨q,hq⟩;exact Jz I (by rw [e];exact True.intro) hs he (Z2 hl hd (rel.put k rv) Gr)
 .subst ey eH;cases (show u=Value.ref b from ry);obtain ⟨z,hd,xs,rel,dd⟩:=SH I.az e;have hz:xs.length<=sizeLine:=by rw [<- Paired.length rel];exact z
  have hl:(putK ah k v).length<=sizeLine:=by have:=yh ah k v;omega
  refine wpAny_setItem_heap (hsz:=hz) (tupleKind_room_in1 hu) (Hh I.az eb) dd fun h' Gr hs=>h _ ?_
  obtain ⟨q,es,ep,hq,h2,h3,h4,_,h5⟩:=Gr;refine Jz I (by rw [e];exact True.intro) hs ⟨q,hq⟩ ⟨hl,hd,_,(rel.put k eb rv).keeps fun c ys ec=>?_,q,es,ep,hq,h2,h3,h4,h5⟩;rw [ak (Eo ec e (fun z=>nomatch z))];exact ec
end
section
variable {X:Cx}{ab:w4}{Z:St}{H:Hp}{s:Shared}{a:Addr}{ah:List (Key × V)}{k:Key}{u:Value}{A:Around}{E:zb}
def SI {Q:Value -> Shared -> Prop} (I:Inv X ab Z H s) (e:Rd H a (.dK ah)) (h:∀ t s',Inv X ab Z H s' -> Q (.int ah.length t) s'):wpAny (model X.prog X.w) A (call (.builtin "len") [.ref a]) Q E s:=by
 obtain ⟨z,hd,vs,rel,dd⟩:=Bv I.az e;refine call_len_dict hd dd (by rw [<- rel.length];rw [sizeLine_eq] at z;omega) ?_;rw [<- rel.length];exact h _ _ (I.tok _)
end
variable {X:Cx}
def Il (I:Inv X ab Z H s) (g:yQ H a y o):s.TypeIs (.ref a) "dict":=by
 rcases g with ⟨ah,k,e,_,_⟩ | ⟨ah,k,b,e,_,_,_⟩
 .obtain ⟨_,_,vs,_,dd⟩:=Bv I.az e;exact dd.typeIs
 .obtain ⟨_,_,xs,_,dd⟩:=Ew I.az e;exact dd.typeIs
def Sg (h:Heap) (hb:sysModules < h.objs.size):bO P w H (h.push { cls:=.type "dict",data:=.dict #[] }) h.objs.size (.dK []) :=
 ⟨v3 _,beq_eq_false_iff_ne.mpr (Ne.symm (vF hb)),[],.nil,Heap.DictOf.new h⟩
def YS:TE:=fun _ H Q=>∀ p,H p=none->Q (.ref p) (upd H p (.dK []))
section
variable {X:Cx}{pos:Pos}
def HW:PE X (.Dict [] [] pos) YS:=fun ab s Z H Q I h =>
 wpAny_Dict_empty ⟨.ref s.heap.objs.size,_,I.laid (a:=s.heap.objs.size) (o:=.dK []) (t':=s.toks) (fun _ _ q=>vw _ q) (vE _) (Sg s.heap I.big),rfl,h _ (I.az.fresh (vE _))⟩
end
structure M2 (X:Cx) (o:Expr) (m:Str) (apos:Pos) (e f:Expr) (de:Pos):Prop where
 base:attributeBase o m X.env (eval o X.env)=eval o X.env
 JO:((backTo de (starEach [e,f] X.env)).all (fun x=>!x.1) && (backToKw de (keywordEach [] X.env)).all (fun x=>x.1.isSome)
  && decide (([e,f]:zl).length+([]:List Keyword).length+(if ([]:List Keyword).isEmpty then 0 else 1) < 30))=true
 line:(apos.endLine == de.line)=true
 trees:backTo de (starEach [e,f] X.env)=[(false,eval e X.env),(false,eval f X.env)]
def NO (H:Hp) (a:Addr):Prop:=(∃ ah,Rd H a (.dK ah))\/∃ ah,Rd H a (.dT ah)
def Yc (I:Inv X ab Z H s) (d:NO H a) :
  s.TypeIs (.ref a) "dict" /\ (∀ b,Value.ref a=.ref b -> ∃ ob,s.heap.get? b=some ob /\ ob.dict=none) /\ (a == sysModules)=false:=by
 rcases d with ⟨ah,e⟩ | ⟨ah,e⟩
 .obtain ⟨_,hd,vs,_,dd⟩:=Bv I.az e;refine ⟨dd.typeIs,fun b q=>?_,hd⟩;cases q;obtain ⟨ob,_,_,h1,h2,_⟩:=dd;exact ⟨ob,h1,h2.2.1⟩
 .obtain ⟨_,hd,xs,_,dd⟩:=Ew I.az e;refine ⟨dd.typeIs,fun b q=>?_,hd⟩;cases q;obtain ⟨ob,_,_,h1,h2,_⟩:=dd;exact ⟨ob,h1,h2.2.1⟩
section
variable {X:Cx}{ab:w4}{Z:St}{H:Hp}{s:Shared}{a:Addr}{y d:V}{u r:Value}{o:Option V}{A:Around}{E:zb}
def YW {Q:zb} (hu:A.units+1 < cLine) (I:Inv X ab Z H s) (g:yQ H a y o) (ry:RelV y u) (rd:RelV d r) (h:∀ w' s',Inv X ab Z H s'->RelV (o.getD d) w'->Q w' s') :
  wpAny (model X.prog X.w) A (call (.builtin "dict.get") [.ref a,u,r]) Q E s:=by
 rcases g with ⟨ah,k,e,ey,l⟩ | ⟨ah,k,b,e,ey,eb,l⟩
 .subst ey;obtain ⟨z,hd,vs,rel,dd⟩:=Bv I.az e;refine call_meetsIn PySem.F.slot_dict_get dd.typeIs PySem.F.entry_dict_get (PySem.F.args_dict_get_3 _ _ _) (meets_dict_get_default (cU X.prog X.w) a (Ey ry) hd r) ⟨_,dd.mapOf,h _ _ (I.tok _) ?_⟩;rw [l];exact (rel.val k).getD rd
 .subst ey;cases (show u=Value.ref b from ry);obtain ⟨z,hd,xs,rel,dd⟩:=Ew I.az e;refine call_meetsIn PySem.F.slot_dict_get dd.typeIs PySem.F.entry_dict_get (PySem.F.args_dict_get_3 _ _ _) (meetsH_dict_get_default (tupleKind (cU X.prog X.w)) a b hd r) ⟨tupleKind_room_in1 hu,k,xs,Hh I.az eb,dd,h _ _ (I.tok _) ?_⟩;rw [l];exact (rel.val k).getD rd
end
def ZF (td ty tx:TE):TE:=fun Z H Q=>td Z H fun x H1=>∃ a,x=.ref a/\NO H1 a/\ty Z H1 fun y H2=>tx Z H2 fun z H3=>∃ o,yQ H3 a y o/\Q (o.getD z) H3
section
variable {X:Cx}{o e f:Expr}{apos de:Pos}{td ty tx:TE}
def T9 (hu:X.A.units+1 < cLine) (ho:PE X o td) (he:PE X e ty) (hf:PE X f tx) (m:M2 X o "get" apos e f de):PE X (.Call (.Attribute o "get" apos) [e,f] [] de) (ZF td ty tx):=by
 intro ab s Z H Q I h;refine wpAny_Call_method m.base m.JO m.line PySem.F.plainAttrs_dict PySem.F.slot_dict_get PySem.F.type_dict_get (a7 (ho ab s Z H _ I h) fun u s1 ⟨x,H1,I1,rx,a,ex,d,q1⟩=>?_);subst ex;obtain rfl:u=Value.ref a:=rx;obtain ⟨t1,t2,_⟩:=Yc I1 d;refine ⟨t1,t2,?_⟩;rw [m.trees];refine Calls.callWith_builtin rfl (Calls.evalArgs_plain (Calls.spliced_cons (a7 (he ab s1 Z H1 _ I1 q1) fun iv s2 ⟨y,H2,I2,ry,q2⟩ =>
  Calls.spliced_cons (a7 (hf ab s2 Z H2 _ I2 q2) fun fv s3 ⟨z,H3,I3,rz,ov,g,q3⟩=>Calls.spliced_nil ?_))))
 exact YW hu I3 g ry rz fun w' s4 I4 mT=>⟨_,H3,I4,mT,q3⟩
end
end L2
namespace NR
open PySem PySem.W PySem.Calls PyProof.Rows
variable {P:Params}{h:Heap}
def Av :∀ (ns:List Int) (vs:zg),WellAll P h vs (ns.map WData.int)->IntsAre vs ns:=by
 intro ns;induction ns with
 | nil =>
  intro vs w;rw [List.map_nil] at w;cases w;exact .nil
 | cons n ns ih =>
  intro vs w;rw [List.map_cons] at w;cases w with
  | cons a b =>
   cases a;exact .cons _ _ (ih _ b)
variable {l:OpenLaw}{n:Nat}
def Qw (hn:l.most=some n) {args:List WData}{vals:zg}
  (tS:l.row.toRowW.claim.pre args=true) (JP:WellAll P h vals args) :
  ∃ a vs ns,vals=[Value.ref a] /\ args=[WData.list (ns.map WData.int)] /\ h.get? a=some { cls:=.type "list",data:=.seq vs.toArray } /\ IntsAre vs ns /\ ns.length <= n:=by
 have SK:WShape.hasAll [] args [.list .int]=true:=(pre_splitW tS).1;have hc:l.pre.holds [] { args:=args }=true:=(pre_splitW tS).2;obtain ⟨d,r,rfl,h1,h2⟩:=hasAllW_cons SK;obtain rfl:=hasAllW_nil h2;obtain ⟨xs,rfl,h3⟩:=hasW_list h1;obtain ⟨ns,rfl⟩:=items_int h3;have hlen:ns.length<=n:=by
  unfold OpenLaw.pre at hc;have h4:(WTm.not (.lt (.lit (.int (n:Int))) (.len (.arg 0)))).holds [] { args:=[.list (ns.map .int)] }=true:=by
   have h4:=(holds_andW hc).1;rw [hn] at h4;exact h4
  have h5:=condW_of h4 (w_not (w_lt w_lit (w_len_list (w_arg rfl))));rw [List.length_map] at h5;refine Nat.le_of_not_lt fun q=>?_
  have q':(n:Int) < ((ns.length:Nat):Int):=by omega
  first
   | (rw [decide_eq_true q'] at h5;exact absurd h5 (by decide))
   | (simp at h5;omega)
 cases JP with
 | cons w1 w2 =>
  cases w2;cases w1 with
  | list ho cy=>exact ⟨_,_,ns,rfl,rfl,ho,Av ns _ cy,hlen⟩
def QG (l:OpenLaw) (args:List WData):l.row.toRowW.claim.post args (.bool true) args=true :=
 postW_of (r:=l.row.toRowW) (X:=(true == true))
  (show WShape.has [] (.bool true) .bool=true by first | rfl | decide | simp [WShape.has,WShape.arms,WShape.armsAll])
  (show (WTm.eq .res (.lit (.bool true))).value [] { args:=args,res:=some (.bool true),after:=args }=some (.bool (true == true)) from w_eq_bool (w_res rfl) w_lit) rfl
def IV {q:Program}{loose:zk}{XP:(w8)->Heap->Prop}{YP:World->Heap->Prop}{d:DefRec}
  (hn:l.most=some n) (C6:d.params.defaults=[])
  (call:∀ (w:World) (bq aS:Shared) (mg mb:w8) (fa:Addr) (o:Obj) (pm cd doc:Value) (a:Addr) (vs:zg) (ns:List Int),
   Ground q loose [] XP w bq mg mb aS.heap->YP w aS.heap ->
   aS.heap.get? fa=some o->o.data=.func (docDef d.name d.params d.body d.scope pm cd doc)->aS.heap.CodeRec cd d.name->mg d.name=some (.ref fa) ->
   aS.heap.get? a=some { cls:=.type "list",data:=.seq vs.toArray } -> IntsAre vs ns -> ns.length <= n -> aS.gens=#[] ->
   codeAny (model l.prog w) callerA (.call (.ref fa) ⟨[.ref a],[]⟩) (fun r s'=>r=.ok (.ret (.bool true))/\OldK aS.heap s'.heap/\s'.os=aS.os/\AllBare s'.gens) aS) :
  WalkO q loose XP YP l.row.toRowW d [] (fun f vs=>PySem.call f vs):=by
 intro w bq aS mg mb G aa fa o pm cd doc dV kV ho hd eJ hD C7 hg args vals as tS SO TW JP iq;obtain rfl:dV=.none:=Dflts.none hD C6;obtain rfl:kV=.none:=Dflts.noKw hD;obtain ⟨a,vs,ns,rfl,rfl,AL,hints,hlen⟩:=Qw hn tS JP;refine enter_call (codeAny_mono (call w bq aS mg mb fa o pm cd doc a vs ns G aa ho (fd_plain hd) eJ C7 AL hints hlen hg) fun r s' hq=>?_);obtain ⟨rfl,h2,h3,h4⟩:=hq;exact ⟨.inl ⟨.bool true,.bool true,[],rfl,fun _=>rfl,.bool true,QG l _,fun _=>⟨List.Pairwise.nil,fun _ hm=>(nomatch hm)⟩⟩,h2,h3,h4⟩
end NR
namespace L2
open PySem PySem.Spec PyProof.Rows
theorem Ds:∀ {vs:zg}{ns:List Int},IntsAre vs ns->Vals (ns.map V.int) vs
 | _,_,.nil=>.nil
 | _,_,.cons n t h=>.cons ⟨t,rfl⟩ (Ds h)
def AM (H:Hp):Prop:=∀ b,H b=none\/(∃ o xs,H b=some (.br o (.lst xs)))\/∃ q,H b=some (.kz q)
def Bp (mg:w8) (h:Heap) (tb:Addr->Option Str):Prop:=(∀ n Q,UJ n Q->∀ a,mg n=some (.ref a)->∃ ot JS ct P,h.get? a=some ot/\ot.data=.func JS/\JS.code=.ref ct/\h.TableAt ct P #[]/\tb P=some Q)/\∀ P Q,tb P=some Q->∃ ct,h.TableAt ct P #[]
variable {K:zd}{k:Nat}{a:Addr}{fd:FuncData}{x:Str}{sp:Sp}
def Ui {P:Program}{w:World}{mg mb:w8}{CX:sL}{fa:Addr}{aS:Shared}{vs:zg}{ns:List Int}{tb:Addr->Option Str}
  (KX:K.In aS.heap) (nN:aS.heap.Ns mainGlobals mg) (hb:aS.heap.Ns builtinsNs mb) (SS:∀ x:Str,x ≠ "__name__" -> mb x=bootBuiltins x) (bX:aS.heap.NoLimit) (hg:aS.gens=#[])
  (pj:∃ bm ob,mg "__builtins__"=some (.ref bm) /\ bm ≠ builtinsNs /\ aS.heap.get? bm=some ob /\ ob.cls=.type "module" /\ ob.dict=some builtinsNs /\ ob.data=.plain) (hT:Bp mg aS.heap tb) (C8:∀ b o,K.lookup b=some o -> Ly o)
  (ha:aS.heap.get? a=some { cls:=.type "list",data:=.seq vs.toArray }) (hi:IntsAre vs ns) (hl:ns.length <= sizeLine) (hr:cO k callerA)
  (F:∀ base:Heap,K.In base->base.Ns mainGlobals mg->eU P w K mg base CX k fa fd [x] sp) (ir:∀ (s:Shared) (u:Value),BindsTo s fd ⟨[u],[]⟩ [(x,u)])
  (lr:∀ H:Hp,AM H->cm K H a (ns.map V.int)->sp [.ref a] H (fun v _=>v=.bl true) fun _ _ _=>False)
  (JU:∀ H e s',CX [] H aS (fun _ _ _=>False) e s'->False) :
  codeAny (model P w) callerA (.call (.ref fa) ⟨[.ref a],[]⟩) (fun r s'=>r=.ok (.ret (.bool true))/\OldK aS.heap s'.heap/\s'.os=aS.os/\AllBare s'.gens) aS:=by
 have rv:=Ds hi;have JY:=hi.length;have pk:∀ p Q,tb p=some Q->∃ ct,aS.heap.TableAt ct p #[]:=hT.2;have NS:∀ p Q,tb p=some Q->p≠a:=fun p Q e z=>by
  obtain ⟨ct,_,q⟩:=pk p Q e;rw [z,ha] at q;cases q
 have core:∀ H:Hp,AM H -> cm K H a (ns.map V.int) -> (∀ b,H b ≠ none -> b=a \/ ∃ Q,tb b=some Q /\ H b=some (.kz #[.str Q 0])) -> (H a ≠ none -> K.lookup a=none /\ ∃ xs:List V,xs.length <= sizeLine /\ Vals xs vs /\ H a=some (.br { cls:=.type "list",data:=.seq vs.toArray } (.lst xs))) -> (∀ p Q,tb p=some Q -> H p=some (.kz #[.str Q 0])) ->
   codeAny (model P w) callerA (.call (.ref fa) ⟨[.ref a],[]⟩) (fun r s'=>r=.ok (.ret (.bool true))/\OldK aS.heap s'.heap/\s'.os=aS.os/\AllBare s'.gens) aS:=by
  intro H hO hS hA hK SU;have az:c6 P w H aS.heap:=fun b u z=>by
   rcases hA b (by rw [z];simp) with rfl | ⟨Q,e,e2⟩
   .obtain ⟨_,xs,h1,h2,h3⟩:=hK (by rw [z];simp);rw [z] at h3;cases h3;exact ⟨ha,h1,vs,_,h2,ha⟩
   .rw [z] at e2;cases e2;obtain ⟨ct,_,q⟩:=pk b Q e;exact ⟨#[],q,trivial,fun pos v hc=>by cases hc⟩
  have j_:∀ {b:Addr}{o:Obj},aS.heap.get? b=some o->H b=none->(rO aS.heap H).get? b=some o:=fun e n=>RV e n
  have NU:∀ {b:Addr}{o:Obj},aS.heap.get? b=some o->(∀ us n,o.data≠.seq us n)->(∀ us,o.data≠.fields us)->H b=none:=fun {b o} e d1 d2=>by
   cases q:H b with
   | none=>rfl
   | some u =>
    rcases hA b (by rw [q];simp) with e' | ⟨Q,e',_⟩
    .subst e';rw [ha] at e;cases e;exact absurd rfl (d1 _ _)
    .obtain ⟨ct,_,q'⟩:=pk b Q e';rw [q'] at e;cases e;exact absurd rfl (d2 _)
  have mS:∀ {b:Addr}{o:Obj}{es:Array DictEntry}{ep:Nat},aS.heap.get? b=some o->o.data=.dict es ep->H b=none:=fun {b o es ep} e d=>NU e (fun us n z=>by rw [d] at z;cases z) fun us z=>by rw [d] at z;cases z
  have GA:∀ {b:Addr}{m:w8},aS.heap.Ns b m->(rO aS.heap H).Ns b m:=fun {b m} ⟨o,es,ep,e,d,r⟩=>⟨o,es,ep,j_ e (mS e d),d,r⟩
  have NV:K.In (rO aS.heap H):=fun b o e=>j_ (KX b o e) (by
   cases q:H b with
   | none=>rfl
   | some u =>
    rcases hA b (by rw [q];simp) with e' | ⟨Q,e',_⟩
    .subst e';rw [(hK (by rw [q];simp)).1] at e;cases e
    .obtain ⟨ct,_,q'⟩:=pk b Q e';have e2:=KX b o e;rw [q'] at e2;cases e2;exact absurd rfl (C8 b _ e _ rfl))
  have hB:∃ bm ob,mg "__builtins__"=some (.ref bm) /\ bm ≠ builtinsNs /\ bm ≠ mainGlobals /\ (rO aS.heap H).get? bm=some ob /\ ob.cls=.type "module" /\ ob.dict=some builtinsNs /\ ob.data=.plain:=by
   obtain ⟨bm,ob,b1,b2,b3,b4,b5,b6⟩:=pj;refine ⟨bm,ob,b1,b2,fun q=>?_,j_ b3 (NU b3 (fun us n z=>by rw [b6] at z;cases z) fun us z=>by rw [b6] at z;cases z),b4,b5,b6⟩;obtain ⟨o,es,ep,e,hd,_⟩:=nN;rw [q,e] at b3;cases b3;rw [hd] at b6;cases b6
  have hM:Mod K mg (rO aS.heap H):=⟨NV,GA nN,⟨mb,GA hb,SS⟩,let ⟨mc,h1,h2⟩:=bX;⟨mc,GA h1,h2⟩,hB⟩;have SV:nJ K mg H:=fun n Q hn a' o AN c oc us p e1 e2 e3 e4 e5 e6 e7=>by
   obtain ⟨ot,JS,ct,P',t2,t3,t4,⟨⟨o',tT,t5,_,t6,t7⟩,_⟩,t8⟩:=hT.1 n Q hn a' e1;rw [KX _ _ e2] at t2;cases t2;rw [e3] at t3;cases t3;rw [e4] at t4;cases t4;rw [KX _ _ e5] at t5;cases t5;rw [e6] at t6;cases t6;rw [e7] at t7;cases t7;exact ⟨_,SU _ Q t8,rfl⟩
  have e0:ip P w K mg (rO aS.heap H) callerA [] aS H:=⟨rfl,hM,fun b o e=>Wj e,Nat.le_of_eq (Ny _ _),trivial,fun b hb=>absurd (show b∈([]:List Addr) from hb) (by simp),az,.of_eq hg,SV⟩;refine codeAny_mono ((F _ NV (GA nN)).run callerA [] aS H ⟨[.ref a],[]⟩ [.ref a] [.ref a] _ _ hr e0 (ir aS (.ref a)) (.cons rfl .nil) (lr H hO hS)) fun r s' h=>?_
  cases r with
  | error e=>exact (JU H e s' h).elim
  | ok fl =>
   cases fl with
   | next=>exact y4 h
   | brk=>exact y4 h
   | cont=>exact y4 h
   | ret u =>
    obtain ⟨v,H',os,bare,un,C9,r',q⟩:=h;have q':v=.bl true:=q;subst q';obtain rfl:u=Value.bool true:=r';refine ⟨rfl,⟨fun b o e=>?_,fun b o e=>un.there b o e (by simp)⟩,os,bare⟩;cases q:H b with
    | none=>exact .inl (un.keep b o e q (by intro z;exact absurd (show b∈([]:List Addr) from z) (by simp)) (by simp))
    | some u =>
     rcases hO b with z | ⟨ob,xs,z⟩ | ⟨UF,z⟩
     .rw [q] at z;cases z
     .have z2:=un.gp b ob _ z;obtain ⟨e1,_⟩:=az b _ z;obtain ⟨e2,_⟩:=C9 b _ z2;rw [e] at e1;cases e1;exact .inl e2
     .rcases hA b (by rw [z];simp) with rfl | ⟨Q,e',_⟩
      .obtain ⟨_,xs,_,_,h3⟩:=hK (by rw [z];simp);rw [z] at h3;cases h3
      .obtain ⟨m,z2⟩:=un.gr b _ z;obtain ⟨ps,e2,_⟩:=C9 b _ z2;obtain ⟨ct,qt⟩:=pk b Q e';have e3:=qt.2;rw [e] at e3;cases e3;exact .inr (.inl ⟨qt.isCodeTable,rfl,#[],ps,rfl,by simpa using e2⟩)
 cases hk:K.lookup a with
 | some o =>
  have e:=KX a o hk;rw [ha] at e;cases e;refine core (fun b=>(tb b).map fun Q=>.kz #[.str Q 0]) (fun b=>?_) (.inr ⟨_,vs.toArray,_,hk,rfl,rfl,rfl,by rw [List.size_toArray,JY];exact hl,by simpa using rv⟩) (fun b z=>?_) (fun z=>?_) fun p Q e=>by simp only [e];rfl
  .cases e:tb b with
   | none=>exact .inl (by simp only [e];rfl)
   | some Q=>exact .inr (.inr ⟨_,by simp only [e];rfl⟩)
  .cases e:tb b with
   | none=>exact absurd (by simp only [e];rfl) z
   | some Q=>exact .inr ⟨Q,rfl,rfl⟩
  .cases e:tb a with
   | none=>exact absurd (by simp only [e];rfl) z
   | some Q=>exact absurd rfl (NS a Q e)
 | none =>
  refine core (fun b=>if b=a then some (.br { cls:=.type "list",data:=.seq vs.toArray } (.lst (ns.map V.int))) else (tb b).map fun Q=>.kz #[.str Q 0]) (fun b=>?_) (.inl (.inr ⟨{ cls:=.type "list",data:=.seq vs.toArray },if_pos rfl⟩)) (fun b z=>?_) (fun z=>⟨hk,ns.map V.int,by rw [List.length_map]; exact hl,rv,if_pos rfl⟩) fun p Q e=>?_
  .by_cases hb:b=a
   .exact .inr (.inl ⟨_,_,if_pos hb⟩)
   .cases e:tb b with
    | none=>exact .inl ((if_neg hb).trans (by simp only [e];rfl))
    | some Q=>exact .inr (.inr ⟨_,(if_neg hb).trans (by simp only [e];rfl)⟩)
  .by_cases hb:b=a
   .exact .inl hb
   .cases e:tb b with
    | none=>exact absurd ((if_neg hb).trans (by simp only [e];rfl)) z
    | some Q=>exact .inr ⟨Q,rfl,(if_neg hb).trans rfl⟩
  .exact (if_neg (NS p Q e)).trans (by simp only [e];rfl)
def Xj {l:PySem.W.OpenLaw}{n:Nat}{q:Program}{loose:zk}{XP:(w8)->Heap->Prop}{YP:World->Heap->Prop}{d:DefRec}{K:Params->zd}{CX:World->sL}{sp:World->Sp}
  (hn:l.most=some n) (mh:n<=sizeLine) (C6:d.params.defaults=[]) (hr:cO k callerA)
  (hY:∀ (w:World) (h:Heap),YP w h->(K w.params).In h) (C8:∀ (p:Params) (b:Addr) (o:Obj),(K p).lookup b=some o->Ly o) (hT:∀ (w:World) (bq:Shared) (mg mb:w8) (h:Heap),PySem.W.Ground q loose [] XP w bq mg mb h->YP w h->∃ tP,Bp mg h tP)
  (F:∀ (w:World) (mg:w8) (fa:Addr) (h:Heap),(K w.params).In h->h.Ns mainGlobals mg->mg d.name=some (.ref fa) ->
   ∃ fd:FuncData,(∀ (s:Shared) (u:Value),BindsTo s fd ⟨[u],[]⟩ [(x,u)]) /\
    ∀ base:Heap,(K w.params).In base->base.Ns mainGlobals mg->eU l.prog w (K w.params) mg base (CX w) k fa fd [x] (sp w))
  (lr:∀ (w:World) (H:Hp) (a:Addr) (ns:List Int),ns.length<=n->AM H->cm (K w.params) H a (ns.map V.int)->sp w [.ref a] H (fun v _=>v=.bl true) fun _ _ _=>False)
  (JU:∀ (w:World) (H:Hp) (s:Shared) (e:Value) (s':Shared),CX w [] H s (fun _ _ _=>False) e s'->False) :
  PySem.W.WalkO q loose XP YP l.row.toRowW d [] (fun f vs=>PySem.call f vs):=by
 refine NR.IV hn C6 fun w bq aS mg mb fa o pm cd doc a vs ns G aa ho hd eJ C7 AL hints hlen hg=>?_
 have KX:=hY w _ aa;obtain ⟨fd,hb,hF⟩:=F w mg fa _ KX G.T.g C7;obtain ⟨tP,SW⟩:=hT w bq mg mb _ G aa;exact Ui KX G.T.g G.T.b G.T.builtins G.T.nolimit hg G.T.bmain SW (C8 w.params) AL hints (vT hlen mh) hr hF hb (fun H hO hS=>lr w H a ns hlen hO hS) fun H e s'=>JU w H aS e s'
abbrev fh:sL:=fun _ _ _ _ _ _=>False
abbrev E0:XK:=fun _ _ _=>False
def U9 {X:Cx}:Passes fh X E0:=fun _ _ _ _ _ _ _ h=>h.elim
structure nS (K:zd) (x qual:Str) (st:Stmt) (f:Addr) (fd:FuncData):Prop where
 ex:∃ (oc:Value) (od:zv) (kV doc pm:Value) (an:zv) (cdv ct:Value) (iO:zw),
  fd=PySem.W.fnOf x qual (eE st) (cT st) (aM st) .none kV doc pm an cdv ct/\K.lookup f=some ⟨oc,od,.func fd,iO⟩/\PySem.W.codeIn K cdv qual=true
 kp:PySem.W.keepIn K (.ref f)=true
variable {qual:Str}{st:Stmt}{f:Addr}{ps:zk}
section
variable {P:Program}{w:World}{K:zd}{mg:w8}{base:Heap}
def nS.ok {N:zk} (F:nS K x qual st f fd) (S:cS N ps (aM st)) (len:∀ vs H Q E,sp vs H Q E->vs.length=ps.length)
  (d_:∀ (cdv:Value) (A:Around) (outer:List Env) (s:Shared) (H:Hp) (vs:List V) (Q:VK) (E:XK),cO k (A.deeper (envOfC qual (aM st) s.heap.objs.size f cdv))->sp vs H Q E ->
   ∃ t,gu (fG fh P w K mg base N qual (aM st) f cdv A outer s H E).tF (cT st) t/\t { nx:=fun _ H'=>Q .ai H',rt:=Q } (start N vs) H):eU P w K mg base fh (k+1) f fd ps sp:=by
 obtain ⟨oc,od,kV,doc,pm,an,cdv,ct,iO,rfl,lk,eJ⟩:=F.ex;refine U5 lk eJ S len fun A outer s H vs Q E hr lr=>?_
 obtain ⟨t,h,q⟩:=d_ cdv A outer s H vs Q E hr lr;exact ⟨t,h.tF,q⟩
def nS.binds (F:nS K x qual st f fd)
  (h:∀ (kV doc pm:Value) (an:zv) (cdv ct:Value) (us:zg),us.length=ps.length->bindArgs (PySem.W.fnOf x qual (eE st) (cT st) (aM st) .none kV doc pm an cdv ct) ⟨us,[]⟩=pure (ps.zip us)):Binds K fd ps []:=by
 obtain ⟨oc,od,kV,doc,pm,an,cdv,ct,iO,rfl,lk,eJ⟩:=F.ex;exact .all (h kV doc pm an cdv ct)
def Zk {oc:Value}{od an:zv}{iO:zw}{kV doc pm cdv ct:Value} (l:K.lookup f=some ⟨oc,od,.func (PySem.W.fnOf x qual (eE st) (cT st) (aM st) .none kV doc pm an cdv ct),iO⟩)
  (c:PySem.W.codeIn K cdv qual=true) (k:PySem.W.keepIn K (.ref f)=true):nS K x qual st f (PySem.W.fnOf x qual (eE st) (cT st) (aM st) .none kV doc pm an cdv ct):=⟨⟨oc,od,kV,doc,pm,an,cdv,ct,iO,rfl,l,c⟩,k⟩
end
def ar (H H':Hp):Prop:=∀ b o,H b=some o->H' b=some o
def ar.refl (H:Hp):ar H H:=fun _ _ h=>h
variable {H:Hp}
def ar.trans {H1 H2:Hp} (a:ar H H1) (b:ar H1 H2):ar H H2:=fun c o h=>b c o (a c o h)
variable {H':Hp}
def ar.free (e:ar H H') {l:Addr} (h:H' l=Option.none):H l=Option.none:=by
 cases q:H l with
 | none=>rfl
 | some o =>
  rw [e l o q] at h;cases h
def ar.seq {xs:List V} (e:ar H H') (h:cm K H a xs):cm K H' a xs:=by
 rcases h with (h | ⟨o,h⟩) | h
 .exact .inl (.inl (e _ _ h))
 .exact .inl (.inr ⟨o,e _ _ h⟩)
 .exact .inr h
end L2
set_option genInjectivity true
set_option genSizeOfSpec true
namespace Mi
open PySem L2 PyProof.Rows
inductive D where
 | ai | bl (b:Bool) | int (i:Int) | tup (ds:List D) | lst (ds:List D) | bE (ks vs:List D) | bP (ah:List (Int × Int))
mutual
noncomputable def rM:D->D->Bool
 | .ai,.ai=>true
 | .bl a,.bl b=>a == b
 | .int a,.int b=>a == b
 | .tup a,.tup b=>nC a b
 | .lst a,.lst b=>nC a b
 | .bE a b,.bE c d=>nC a c && nC b d
 | .bP a,.bP b=>decide (a=b)
 | _,_=>false
noncomputable def nC:List D->List D->Bool
 | [],[]=>true
 | a::as,b::bs=>rM a b && nC as bs
 | _,_=>false
end
mutual
theorem Cr:∀ (a b:D),rM a b=true↔a=b
 | .ai,b=>by cases b <;> simp [rM]
 | .bl x,b=>by cases b <;> simp [rM]
 | .int x,b=>by cases b <;> simp [rM]
 | .tup x,b=>by cases b <;> simp [rM,oA x]
 | .lst x,b=>by cases b <;> simp [rM,oA x]
 | .bE x y,b=>by cases b <;> simp [rM,oA x,oA y]
 | .bP x,b=>by cases b <;> simp [rM]
theorem oA:∀ (a b:List D),nC a b=true↔a=b
 | [],b=>by cases b <;> simp [nC]
 | x::xs,b=>by
  cases b with
  | nil=>simp [nC]
  | cons y ys=>simp [nC,Cr x y,oA xs ys]
end
noncomputable instance:DecidableEq D:=fun a b=>if h:rM a b=true then isTrue ((Cr a b).mp h) else isFalse fun e=>h ((Cr a b).mpr e)
noncomputable def b2i (b:Bool):Int:=if b then 1 else 0
mutual
noncomputable def aH:D->D->Bool
 | .ai,.ai=>true
 | .bl a,.bl b=>a == b
 | .bl a,.int b=>b2i a == b
 | .int a,.bl b=>a == b2i b
 | .int a,.int b=>a == b
 | .tup a,.tup b=>cL a b
 | .lst a,.lst b=>cL a b
 | _,_=>false
noncomputable def cL:List D->List D->Bool
 | [],[]=>true
 | a::as,b::bs=>aH a b && cL as bs
 | _,_=>false
end
mutual
noncomputable def dep:D->Nat
 | .tup ds=>ba ds+1
 | .lst ds=>ba ds+1
 | .bE _ _=>1000
 | .bP _=>1000
 | _=>0
noncomputable def ba:List D->Nat
 | []=>0
 | d::ds=>max (dep d) (ba ds)
end
mutual
noncomputable def aT (h:Heap):D->Value->Prop
 | .ai,u=>u=.none
 | .bl b,u=>u=.bool b
 | .int i,u=>∃ t,u=.int i t
 | .tup ds,u=>∃ a its,u=.ref a/\h.IsTuple a (List.toArray its)/\aF h ds its
 | .lst ds,u=>∃ a its,u=.ref a/\h.IsList a (List.toArray its)/\aF h ds its
 | .bE _ _,_=>False
 | .bP _,_=>False
noncomputable def aF (h:Heap):List D->zg->Prop
 | [],us=>us=[]
 | d::ds,us=>∃ y ys,us=y::ys/\aT h d y/\aF h ds ys
end
theorem aF.length {h:Heap}:∀ {ds:List D}{us:zg},aF h ds us->ds.length=us.length
 | [],us,r=>by rw [aF] at r;subst r;rfl
 | d::ds,us,r=>by
  rw [aF] at r;obtain ⟨y,ys,rfl,_,r⟩:=r;simp [aF.length r]
theorem aF.get {h:Heap}:∀ {ds:List D}{us:zg}{i:Nat} (h1:i < ds.length) (h2:i < us.length),aF h ds us->aT h ds[i] us[i]
 | [],us,i,h1,h2,r=>by simp at h1
 | d::ds,us,i,h1,h2,r=>by
  rw [aF] at r;obtain ⟨y,ys,rfl,r0,r⟩:=r;cases i with
  | zero=>exact r0
  | succ i=>exact aF.get (ds:=ds) (us:=ys) (i:=i) (by simpa using h1) (by simpa using h2) r
theorem dZ:∀ {ds:List D}{i:Nat} (h:i < ds.length),dep ds[i]<=ba ds
 | [],i,h=>by simp at h
 | d::ds,0,h=>by simp only [ba,List.getElem_cons_zero];omega
 | d::ds,i+1,h=>by
  have:=dZ (ds:=ds) (i:=i) (by simpa using h);simp only [ba,List.getElem_cons_succ];omega
theorem lR:∀ (as bs:List D),cL as bs=((List.range (min as.length bs.length)).all (fun j=>aH (as.getD j .ai) (bs.getD j .ai)) && as.length == bs.length)
 | [],[]=>by simp [cL]
 | [],b::bs=>by simp [cL]
 | a::as,[]=>by simp [cL]
 | a::as,b::bs=>by
  rw [cL,lR as bs];have e:min (a::as).length (b::bs).length=min as.length bs.length+1:=by simp only [List.length_cons];omega
  rw [e,List.range_succ_eq_map,List.all_cons,List.all_map];simp [Function.comp_def,Bool.and_assoc]
mutual
theorem aT.inj {h:Heap}:∀ {d e:D}{u:Value},aT h d u->aT h e u->d=e
 | .ai,e,u,r,q=>by
  rw [aT] at r;subst r;cases e <;> simp [aT] at q ⊢
 | .bl b,e,u,r,q=>by
  rw [aT] at r;subst r;cases e <;> simp [aT] at q ⊢;exact q
 | .int b,e,u,r,q=>by
  rw [aT] at r;obtain ⟨t,rfl⟩:=r;cases e <;> simp [aT] at q ⊢;exact q
 | .tup ds,e,u,r,q=>by
  rw [aT] at r;obtain ⟨a,its,rfl,⟨o,ho,hc,n,hd⟩,rs⟩:=r;cases e <;> simp only [aT] at q
  .cases q
  .cases q
  .obtain ⟨_,q⟩:=q;cases q
  .obtain ⟨a',its',z,⟨o',fm,c_,n',nI⟩,qs⟩:=q;cases z;rw [ho] at fm;cases fm;rw [hd] at nI;injection nI with z _;have z':its=its':=by simpa using z
   subst z';rw [aF.inj rs qs]
  .obtain ⟨a',its',z,⟨o',fm,c_,n',nI⟩,qs⟩:=q;cases z;rw [ho] at fm;cases fm;rw [hc] at c_;exact absurd c_ (by simp)
 | .lst ds,e,u,r,q=>by
  rw [aT] at r;obtain ⟨a,its,rfl,⟨o,ho,hc,n,hd⟩,rs⟩:=r;cases e <;> simp only [aT] at q
  .cases q
  .cases q
  .obtain ⟨_,q⟩:=q;cases q
  .obtain ⟨a',its',z,⟨o',fm,c_,n',nI⟩,qs⟩:=q;cases z;rw [ho] at fm;cases fm;rw [hc] at c_;exact absurd c_ (by simp)
  .obtain ⟨a',its',z,⟨o',fm,c_,n',nI⟩,qs⟩:=q;cases z;rw [ho] at fm;cases fm;rw [hd] at nI;injection nI with z _;have z':its=its':=by simpa using z
   subst z';rw [aF.inj rs qs]
 | .bE ks vs,e,u,r,q=>by rw [aT] at r;exact r.elim
 | .bP _,e,u,r,q=>by rw [aT] at r;exact r.elim
theorem aF.inj {h:Heap}:∀ {ds es:List D}{us:zg},aF h ds us->aF h es us->ds=es
 | [],es,us,r,q=>by
  rw [aF] at r;subst r;cases es with
  | nil=>rfl
  | cons e es=>rw [aF] at q;obtain ⟨_,_,z,_⟩:=q;cases z
 | d::ds,es,us,r,q=>by
  rw [aF] at r;obtain ⟨y,ys,rfl,r0,rs⟩:=r;cases es with
  | nil=>rw [aF] at q;cases q
  | cons e es =>
   rw [aF] at q;obtain ⟨y',AO,z,q0,qs⟩:=q;cases z;rw [aT.inj r0 q0,aF.inj rs qs]
end
mutual
theorem Nr {h:Heap}:∀ {d:D}{u:Value},aT h d u->aH d d=true
 | .ai,_,_=>by simp [aH]
 | .bl b,_,_=>by simp [aH]
 | .int b,_,_=>by simp [aH]
 | .tup ds,_,r=>by
  rw [aT] at r;obtain ⟨_,_,_,_,rs⟩:=r;rw [aH];exact nA rs
 | .lst ds,_,r=>by
  rw [aT] at r;obtain ⟨_,_,_,_,rs⟩:=r;rw [aH];exact nA rs
 | .bE _ _,_,r=>by rw [aT] at r;exact r.elim
 | .bP _,_,r=>by rw [aT] at r;exact r.elim
theorem nA {h:Heap}:∀ {ds:List D}{us:zg},aF h ds us->cL ds ds=true
 | [],_,_=>by simp [cL]
 | d::ds,_,r=>by
  rw [aF] at r;obtain ⟨_,_,_,r0,rs⟩:=r;rw [cL,Nr r0,nA rs];rfl
end
variable {h:Heap}
def Bb (ds es:List D) {us:zg} (r:aF h ds us) (q:aF h es us):cL ds es=true:=by
 rw [aF.inj r q];exact nA q
section
open PySem.SeqAt
theorem pA:∀ (d e:D) {A:Around}{s:Shared}{u v:Value},aT s.heap d u->aT s.heap e v->A.units+dep d < cLine->A.units+dep e < cLine->EqAt A s u v (aH d e)
 | .ai,e,A,s,u,v,r,q,hd,he=>by
  rw [aT] at r;subst r;have hu:A.units < cLine:=by omega
  cases e <;> simp only [aT] at q
  .subst q;rw [aH];exact EqAt.same _
  .subst q;rw [aH];exact EqAt.none_bool _;all_goals simp
  .obtain ⟨t,rfl⟩:=q;rw [aH];exact EqAt.none_int _ _;all_goals simp
  .obtain ⟨a,its,rfl,q,_⟩:=q;rw [aH];exact EqAt.none_tuple q hu;all_goals simp
  .obtain ⟨a,its,rfl,q,_⟩:=q;rw [aH];exact EqAt.none_list q hu;all_goals simp
 | .bl b,e,A,s,u,v,r,q,hd,he=>by
  rw [aT] at r;subst r;have hu:A.units < cLine:=by omega
  cases e <;> simp only [aT] at q
  .subst q;rw [aH];exact EqAt.bool_none _;all_goals simp
  .subst q;rw [aH];exact EqAt.bool_bool _ _
  .obtain ⟨t,rfl⟩:=q;rw [aH];exact EqAt.bool_int _ _ _
  .obtain ⟨a,its,rfl,q,_⟩:=q;rw [aH];exact EqAt.bool_tuple _ q hu;all_goals simp
  .obtain ⟨a,its,rfl,q,_⟩:=q;rw [aH];exact EqAt.bool_list _ q hu;all_goals simp
 | .int b,e,A,s,u,v,r,q,hd,he=>by
  rw [aT] at r;obtain ⟨t0,rfl⟩:=r;have hu:A.units < cLine:=by omega
  cases e <;> simp only [aT] at q
  .subst q;rw [aH];exact EqAt.int_none _ _;all_goals simp
  .subst q;rw [aH];exact EqAt.int_bool _ _ _
  .obtain ⟨t,rfl⟩:=q;rw [aH];exact EqAt.int_int _ _ _ _
  .obtain ⟨a,its,rfl,q,_⟩:=q;rw [aH];exact EqAt.int_tuple _ _ q hu;all_goals simp
  .obtain ⟨a,its,rfl,q,_⟩:=q;rw [aH];exact EqAt.int_list _ _ q hu;all_goals simp
 | .tup ds,e,A,s,u,v,r,q,hd,he=>by
  rw [aT] at r;obtain ⟨a0,eo,rfl,r,rs⟩:=r;rw [dep] at hd;have hu:A.units < cLine:=by omega
  cases e <;> simp only [aT] at q
  .subst q;rw [aH];exact EqAt.tuple_none r hu;all_goals simp
  .subst q;rw [aH];exact EqAt.tuple_bool _ r hu;all_goals simp
  .obtain ⟨t,rfl⟩:=q;rw [aH];exact EqAt.tuple_int _ _ r hu;all_goals simp
  .rename_i es;obtain ⟨a,its,rfl,q,qs⟩:=q;rw [dep] at he;have l1:=rs.length;have l2:=qs.length;rw [aH];have items:∀ j (h1:j < eo.toArray.size) (h2:j < its.toArray.size),EqAt A.in1 s eo.toArray[j] its.toArray[j] (aH (ds.getD j .ai) (es.getD j .ai)):=fun j h1 h2=>by
    have k1:j < ds.length:=by simp at h1;omega
    have k2:j < es.length:=by simp at h2;omega
    have e1:ds.getD j .ai=ds[j]:=by simp [k1]
    have e2:es.getD j .ai=es[j]:=by simp [k2]
    rw [e1,e2];have w1:=dZ k1;have w2:=dZ k2;have kA:A.in1.units=A.units+1:=rfl;exact pA ds[j] es[j] (aF.get k1 (by omega) rs) (aF.get k2 (by omega) qs) (by omega) (by omega)
   by_cases k9:a0=a
   .subst k9;have ei:eo=its:=by
     obtain ⟨o,ho,_,n,i7⟩:=r;obtain ⟨o',fm,_,n',hd2⟩:=q;rw [ho] at fm;cases fm;rw [i7] at hd2;injection hd2 with z _;simpa using z
    subst ei;have hQ:cL ds es=true:=by
     exact Bb ds es rs qs
    rw [hQ];exact EqAt.same _
   .refine EqAt.of_refs k9 ?_;have rc:=RcAt.tuples (e:=fun j=>aH (ds.getD j .ai) (es.getD j .ai)) r q hu items;rw [lR,l1,l2];simpa using rc
  .obtain ⟨a,its,rfl,q,_⟩:=q;rw [aH];exact EqAt.tuple_list r q hu;all_goals simp
 | .lst ds,e,A,s,u,v,r,q,hd,he=>by
  rw [aT] at r;obtain ⟨a0,eo,rfl,r,rs⟩:=r;rw [dep] at hd;have hu:A.units < cLine:=by omega
  cases e <;> simp only [aT] at q
  .subst q;rw [aH];exact EqAt.list_none r hu;all_goals simp
  .subst q;rw [aH];exact EqAt.list_bool _ r hu;all_goals simp
  .obtain ⟨t,rfl⟩:=q;rw [aH];exact EqAt.list_int _ _ r hu;all_goals simp
  .obtain ⟨a,its,rfl,q,_⟩:=q;rw [aH];exact EqAt.list_tuple r q hu;all_goals simp
  .rename_i es;obtain ⟨a,its,rfl,q,qs⟩:=q;rw [dep] at he;have l1:=rs.length;have l2:=qs.length;rw [aH];have items:∀ j (h1:j < eo.toArray.size) (h2:j < its.toArray.size),EqAt A.in1 s eo.toArray[j] its.toArray[j] (aH (ds.getD j .ai) (es.getD j .ai)):=fun j h1 h2=>by
    have k1:j < ds.length:=by simp at h1;omega
    have k2:j < es.length:=by simp at h2;omega
    have e1:ds.getD j .ai=ds[j]:=by simp [k1]
    have e2:es.getD j .ai=es[j]:=by simp [k2]
    rw [e1,e2];have w1:=dZ k1;have w2:=dZ k2;have kA:A.in1.units=A.units+1:=rfl;exact pA ds[j] es[j] (aF.get k1 (by omega) rs) (aF.get k2 (by omega) qs) (by omega) (by omega)
   by_cases k9:a0=a
   .subst k9;have ei:eo=its:=by
     obtain ⟨o,ho,_,n,i7⟩:=r;obtain ⟨o',fm,_,n',hd2⟩:=q;rw [ho] at fm;cases fm;rw [i7] at hd2;injection hd2 with z _;simpa using z
    subst ei;rw [Bb ds es rs qs];exact EqAt.same _
   .refine EqAt.of_refs k9 ?_;rw [lR];by_cases hs:ds.length=es.length
    .have rc:=RcAt.lists (e:=fun j=>aH (ds.getD j .ai) (es.getD j .ai)) r q (by simp;omega) hu items;have e1:min ds.length es.length=eo.toArray.size:=by simp;omega
     rw [e1];simpa [hs] using rc
    .have rc:=RcAt.lists_lengths r q (by simp;omega) hu;have e0:(ds.length == es.length)=false:=by simpa using hs
     rw [e0,Bool.and_false];exact rc
 | .bE ks vs,e,A,s,u,v,r,q,hd,he=>by rw [aT] at r;exact r.elim
 | .bP _,e,A,s,u,v,r,q,hd,he=>by rw [aT] at r;exact r.elim
termination_by d=>sizeOf d
decreasing_by
 all_goals
  have:=List.sizeOf_lt_of_mem (List.getElem_mem (by assumption:j < ds.length));simp only [D.tup.sizeOf_spec,D.lst.sizeOf_spec];omega
noncomputable def ly:D->D->Bool
 | .bl _,.bl _=>true
 | .ai,.ai=>true
 | .ai,.tup _=>true
 | .tup _,.ai=>true
 | .int _,.int _=>true
 | .tup _,.tup _=>true
 | .lst _,.lst _=>true
 | _,_=>false
def J8 {ds es:List D}{A:Around}{s:Shared}{eo its:zg} (rs:aF s.heap ds eo) (qs:aF s.heap es its) (hd:A.units+(ba ds+1) < cLine) (he:A.units+(ba es+1) < cLine):∀ j (h1:j < eo.toArray.size) (h2:j < its.toArray.size),EqAt A.in1 s eo.toArray[j] its.toArray[j] (aH (ds.getD j .ai) (es.getD j .ai)):=fun j h1 h2=>by
 have l1:=rs.length;have l2:=qs.length;have k1:j < ds.length:=by simp at h1;omega
 have k2:j < es.length:=by simp at h2;omega
 have e1:ds.getD j .ai=ds[j]:=by simp [k1]
 have e2:es.getD j .ai=es[j]:=by simp [k2]
 rw [e1,e2];have w1:=dZ k1;have w2:=dZ k2;have kA:A.in1.units=A.units+1:=rfl;exact pA ds[j] es[j] (aF.get k1 (by omega) rs) (aF.get k2 (by omega) qs) (by omega) (by omega)
def YQ:∀ (d e:D) {A:Around}{s:Shared}{u v:Value},ly d e=true->aT s.heap d u->aT s.heap e v->A.units+dep d < cLine->A.units+dep e < cLine->RcAt A s u v (aH d e):=by
 intro d e A s u v k r q hd he;have hu:A.units < cLine:=by omega
 cases d <;> cases e <;> try (cases k;done)
 .rw [aT] at r q;subst r q;exact RcAt.none_none
 .rw [aT] at r;rw [aT] at q;subst r;obtain ⟨a,its,rfl,q,qs⟩:=q;exact RcAt.none_tuple q hu
 .rw [aT] at r q;subst r q;rw [aH];exact RcAt.bool_bool _ _
 .rw [aT] at r q;obtain ⟨t0,rfl⟩:=r;obtain ⟨t,rfl⟩:=q;rw [aH];exact RcAt.int_int _ _ _ _
 .rw [aT] at r;rw [aT] at q;subst q;obtain ⟨a,its,rfl,r,rs⟩:=r;exact RcAt.tuple_none r hu
 all_goals
  rw [aT] at r q;obtain ⟨a0,eo,rfl,r,rs⟩:=r;obtain ⟨a,its,rfl,q,qs⟩:=q;rw [dep] at hd he;have l1:=rs.length;have l2:=qs.length;rw [aH,lR];have items:=J8 rs qs hd he
 .rename_i ds es;have rc:=RcAt.tuples (e:=fun j=>aH (ds.getD j .ai) (es.getD j .ai)) r q hu items;rw [l1,l2];simpa using rc
 .rename_i ds es;by_cases hs:ds.length=es.length
  .have rc:=RcAt.lists (e:=fun j=>aH (ds.getD j .ai) (es.getD j .ai)) r q (by simp;omega) hu items;have e1:min ds.length es.length=eo.toArray.size:=by simp;omega
   rw [e1];simpa [hs] using rc
  .have rc:=RcAt.lists_lengths r q (by simp;omega) hu;have e0:(ds.length == es.length)=false:=by simpa using hs
   rw [e0,Bool.and_false];exact rc
def V3:∀ (d e:D) {A:Around}{s:Shared}{u v:Value},ly d e=true->aT s.heap d u->aT s.heap e v->A.units+dep d < cLine->A.units+dep e < cLine->RcNeAt A s u v (!aH d e):=by
 intro d e A s u v k r q hd he;have hu:A.units < cLine:=by omega
 cases d <;> cases e <;> try (cases k;done)
 .rw [aT] at r q;subst r q;exact RcNeAt.none_none
 .rw [aT] at r;rw [aT] at q;subst r;obtain ⟨a,its,rfl,q,qs⟩:=q;exact RcNeAt.none_tuple q hu
 .rw [aT] at r q;subst r q;rw [aH];exact RcNeAt.bool_bool _ _
 .rw [aT] at r q;obtain ⟨t0,rfl⟩:=r;obtain ⟨t,rfl⟩:=q;rw [aH];exact RcNeAt.int_int _ _ _ _
 .rw [aT] at r;rw [aT] at q;subst q;obtain ⟨a,its,rfl,r,rs⟩:=r;exact RcNeAt.tuple_none r hu
 all_goals
  rw [aT] at r q;obtain ⟨a0,eo,rfl,r,rs⟩:=r;obtain ⟨a,its,rfl,q,qs⟩:=q;rw [dep] at hd he;have l1:=rs.length;have l2:=qs.length;rw [aH,lR];have items:=J8 rs qs hd he
 .rename_i ds es;have rc:=RcNeAt.tuples (e:=fun j=>aH (ds.getD j .ai) (es.getD j .ai)) r q hu items;rw [l1,l2];simpa using rc
 .rename_i ds es;by_cases hs:ds.length=es.length
  .have rc:=RcNeAt.lists (e:=fun j=>aH (ds.getD j .ai) (es.getD j .ai)) r q (by simp;omega) hu items;have e1:min ds.length es.length=eo.toArray.size:=by simp;omega
   rw [e1];simpa [hs] using rc
  .have rc:=RcNeAt.lists_lengths r q (by simp;omega) hu;have e0:(ds.length == es.length)=false:=by simpa using hs
   rw [e0,Bool.and_false];exact rc
end
mutual
noncomputable def Bo (w:World):D->Int
 | .int i=>hashInt i
 | .tup ds=>reduceHash (Builtin.Tuple.tupleHashOf (fU w ds))
 | _=>0
noncomputable def fU (w:World):List D->List Int
 | []=>[]
 | d::ds=>Bo w d::fU w ds
end
mutual
noncomputable def vP:D->Nat
 | .int _=>1
 | .tup ds=>fL ds+1
 | _=>0
noncomputable def fL:List D->Nat
 | []=>0
 | d::ds=>vP d+fL ds
end
mutual
noncomputable def keyOk:D->Bool
 | .int _=>true
 | .tup ds=>bT ds
 | _=>false
noncomputable def bT:List D->Bool
 | []=>true
 | d::ds=>keyOk d && bT ds
end
mutual
theorem ud:∀ {d e:D},keyOk d=true->keyOk e=true->aH d e=decide (d=e)
 | .ai,e,h,_=>by simp [keyOk] at h
 | .bl _,e,h,_=>by simp [keyOk] at h
 | .int a,e,h,g=>by cases e <;> simp [keyOk] at g <;> simp [aH];rw [Bool.eq_iff_iff];simp
 | .tup ds,e,h,g=>by
  cases e <;> simp [keyOk] at g <;> simp [aH];exact vf (by simpa [keyOk] using h) g
 | .lst _,e,h,_=>by simp [keyOk] at h
 | .bE _ _,e,h,_=>by simp [keyOk] at h
 | .bP _,e,h,_=>by simp [keyOk] at h
theorem vf:∀ {ds es:List D},bT ds=true->bT es=true->cL ds es=decide (ds=es)
 | [],es,h,g=>by cases es <;> simp [cL]
 | d::ds,[],h,g=>by simp [cL]
 | d::ds,e::es,h,g=>by
  rw [bT,Bool.and_eq_true] at h g;rw [cL,ud h.1 g.1,vf h.2 g.2];rw [Bool.eq_iff_iff];simp
end
theorem mH (w:World):∀ (a b:List D),fU w (a++b)=fU w a++fU w b
 | [],b=>rfl
 | d::ds,b=>by rw [List.cons_append,fU,fU,mH w ds b,List.cons_append]
theorem kY:∀ (a b:List D),fL (a++b)=fL a+fL b
 | [],b=>by simp [fL]
 | d::ds,b=>by rw [List.cons_append,fL,fL,kY ds b];omega
theorem uK:∀ (a b:List D),bT (a++b)=(bT a && bT b)
 | [],b=>by simp [bT]
 | d::ds,b=>by rw [List.cons_append,bT,bT,uK ds b,Bool.and_assoc]
theorem MN {P:Program}{w:World}:∀ (d:D) {A:Around}{E:zb}{s:Shared}{u:Value}{Q:Int->Shared->Prop},keyOk d=true->aT s.heap d u->A.units+dep d < cLine ->
  Q (Bo w d) { s with toks:=s.toks+vP d }->wpAny (model P w) A (pyHash u) Q E s
 | .ai,A,E,s,u,Q,hk,r,hu,h=>by simp [keyOk] at hk
 | .bl b,A,E,s,u,Q,hk,r,hu,h=>by simp [keyOk] at hk
 | .int i,A,E,s,u,Q,hk,r,hu,h=>by
  rw [aT] at r;obtain ⟨t,rfl⟩:=r;rw [Bo,vP] at h;exact wpAny_pyHash_int h
 | .lst _,A,E,s,u,Q,hk,r,hu,h=>by simp [keyOk] at hk
 | .bE _ _,A,E,s,u,Q,hk,r,hu,h=>by simp [keyOk] at hk
 | .bP _,A,E,s,u,Q,hk,r,hu,h=>by simp [keyOk] at hk
 | .tup ks,A,E,s,u,Q,hk,r,hu,h=>by
  rw [aT] at r;obtain ⟨a,its,rfl,⟨o,ho,hc,n,hd⟩,hi⟩:=r;rw [keyOk] at hk;rw [Bo,vP] at h;rw [dep] at hu;have hT:s.TypeIs (.ref a) "tuple":=⟨o,ho,hc⟩
  unfold pyHash
  first | unfold pyHashByItsType | skip
  first | refine z0 (wpAny_cRoomFor_or (.inr (by omega)) ?_) | skip
  refine z0 (wpAny_specialOf hT F.slot_tuple_hash.lookup ?_);show wpAny _ _ (if (some (Value.builtin "tuple.__hash__") == some Value.none)=true then _ else _) Q E s
  rw [if_neg (by rw [beq_builtin_none];exact Bool.false_ne_true)];refine z0 (wpAny_specialOf hT F.slot_tuple_hash.lookup ?_);show wpAny _ _ (callSpecialIfBoundUnlessNone? (.ref a) "__hash__" _ >>= _) Q E s
  refine z0 (wpAny_callSpecialIfBoundUnlessNone?_slot hT F.slot_tuple_hash (yB F.slot_tuple_hash hT F.entry_tuple_hash ?_ (F.args_tuple_hash_1 _)));show wpAny _ _ (Builtin.Tuple.tupleItemsOf (.ref a) >>= _) _ _ s
  refine z0 (wpAny_tupleItemsOf ho hd ?_);refine z0 ?_;rw [<- Array.forIn_toList];refine wpAny_forIn_list _
   (fun rest (b:Array Int) s'=>∃ done left,ks=done++left/\aF s.heap left rest/\b.toList=fU w done/\s'={ s with toks:=s.toks+fL done })
   _ ?_ ?_ _ _ ⟨[],ks,rfl,by simpa using hi,rfl,rfl⟩
  .rintro x rest b s' ⟨done,left,sQ,hl,hb,rfl⟩;cases left with
   | nil=>rw [aF] at hl;cases hl
   | cons k m_ =>
    rw [aF] at hl;obtain ⟨y,ys,z,h1,fF⟩:=hl;cases z;have cz:k∈ks:=by rw [sQ];simp
    have bj:=List.sizeOf_lt_of_mem cz;have SY:keyOk k=true:=by
     rw [sQ,uK,bT] at hk;simp at hk;exact hk.2.1
    have S0:dep k<=ba ks:=by
     obtain ⟨i,pv,e⟩:=List.getElem_of_mem cz;rw [<- e];exact dZ pv
    refine z0 (MN k (s:={ s with toks:=s.toks+fL done }) SY h1 (by first | (show A.in1.units+dep k < cLine;show A.units+1+dep k < cLine;omega) | (show A.in1.in1.units+dep k < cLine;show A.units+1+1+dep k < cLine;omega)) ?_)
    first
     | exact ve ⟨done++[k],m_,by simp [sQ],fF,by simp [hb,mH,fU],by simp [kY,fL,Nat.add_assoc]⟩
     | exact z0 (ve (ve ⟨done++[k],m_,by simp [sQ],fF,by simp [hb,mH,fU],by simp [kY,fL,Nat.add_assoc]⟩))
  .rintro b s' ⟨done,left,sQ,hl,hb,rfl⟩;cases left with
   | cons k m_=>rw [aF] at hl;obtain ⟨y,ys,z,_⟩:=hl;cases z
   | nil =>
    rw [List.append_nil] at sQ;subst sQ;show wpAny _ _ (retInt (Builtin.Tuple.tupleHashOf b.toList)) _ _ _
    rw [hb];refine wpAny_ret_mkInt ?_;show wpAny _ _ (if (decide (-(2:Int) ^ 63<=Builtin.Tuple.tupleHashOf (fU w ks)) && decide (Builtin.Tuple.tupleHashOf (fU w ks) < 2 ^ 63))=true then _ else _) Q E _
    unfold reduceHash at h;by_cases hr:(decide (-(2:Int) ^ 63<=Builtin.Tuple.tupleHashOf (fU w ks)) && decide (Builtin.Tuple.tupleHashOf (fU w ks) < 2 ^ 63))=true
    .rw [if_pos hr];rw [if_pos hr] at h;exact ve (by simpa [Nat.add_assoc] using h)
    .rw [if_neg hr];rw [if_neg hr] at h;exact z0 (wpAny_rule (ve (by simpa [Nat.add_assoc] using h)))
termination_by d=>sizeOf d
decreasing_by
 simp only [D.tup.sizeOf_spec];omega
variable {P:Program}{w:World}
def Vz :∀ (m:Nat) (d:D) {A:Around}{E:zb}{s:Shared}{u:Value}{Q:Bool->Shared->Prop},keyOk d=true->dep d<=m->aT s.heap d u->Q true s ->
  wpAny (model P w) A (eqIsQuiet m u) Q E s:=by
 intro m;induction m with
 | zero =>
  intro d A E s u Q hk hm r h;cases d <;> simp [keyOk,dep] at hk hm
  .rw [aT] at r;obtain ⟨t,rfl⟩:=r;rw [eqIsQuiet_byValue _ (by rfl)];exact ve h
 | succ m ih =>
  intro d A E s u Q hk hm r h;cases d with
  | ai=>simp [keyOk] at hk
  | bl _=>simp [keyOk] at hk
  | lst _=>simp [keyOk] at hk
  | bE _ _=>simp [keyOk] at hk
  | bP _=>simp [keyOk] at hk
  | int _ =>
   rw [aT] at r;obtain ⟨t,rfl⟩:=r;rw [eqIsQuiet_byValue _ (by rfl)];exact ve h
  | tup ks =>
   rw [aT] at r;obtain ⟨a,its,rfl,⟨o,ho,hc,n,hd⟩,hi⟩:=r;rw [keyOk] at hk;rw [dep] at hm;have hT:s.TypeIs (.ref a) "tuple":=⟨o,ho,hc⟩
   unfold eqIsQuiet;refine z0 (wpAny_specialOf hT F.slot_tuple_eq.lookup ?_);show wpAny _ _ (isInstance (.ref a) (.type "tuple") >>= _) _ _ s
   refine z0 (wpAny_isInstance hT isSubtype_tuple_tuple ?_);simp only [Bool.not_true,Bool.false_eq_true,if_false];refine z0 (wpAny_seqItems ho hd ?_);refine z0 ?_;show wpAny _ _ (forIn its.toArray _ _) _ _ s
   rw [<- Array.forIn_toList];refine wpAny_forIn_list _ (fun rest r s'=>r.1=none/\s'=s/\∃ left,aF s.heap left rest/\bT left=true/\ba left<=m) _ ?_ ?_ _ _ ⟨rfl,rfl,ks,by simpa using hi,hk,by omega⟩
   .rintro v rest r s' ⟨hr,rfl,left,hl,az,lz⟩;cases left with
    | nil=>rw [aF] at hl;cases hl
    | cons k m_ =>
     rw [aF] at hl;obtain ⟨y,ys,z,h1,fF⟩:=hl;cases z;rw [bT,Bool.and_eq_true] at az;rw [ba] at lz;refine z0 (ih k az.1 (by omega) h1 ?_);simp only [Bool.not_true,Bool.false_eq_true,if_false];exact ve ⟨rfl,rfl,m_,fF,az.2,by omega⟩
   .rintro ⟨r1,r2⟩ s' ⟨hr,rfl,_⟩;simp only at hr;subst hr;exact ve h
mutual
theorem aT.keep {h h':Heap}:∀ {d:D}{u:Value},(∀ a o,h.get? a=some o->(∀ es ep,o.data≠.dict es ep)->h'.get? a=some o)->aT h d u->aT h' d u
 | .ai,u,k,r=>by rw [aT] at r ⊢;exact r
 | .bl _,u,k,r=>by rw [aT] at r ⊢;exact r
 | .int _,u,k,r=>by rw [aT] at r ⊢;exact r
 | .tup ds,u,k,r=>by
  rw [aT] at r ⊢;obtain ⟨a,its,rfl,⟨o,ho,hc,n,hd⟩,rs⟩:=r;exact ⟨a,its,rfl,⟨o,k a o ho (by intro es ep z;rw [hd] at z;cases z),hc,n,hd⟩,aF.keep k rs⟩
 | .lst ds,u,k,r=>by
  rw [aT] at r ⊢;obtain ⟨a,its,rfl,⟨o,ho,hc,n,hd⟩,rs⟩:=r;exact ⟨a,its,rfl,⟨o,k a o ho (by intro es ep z;rw [hd] at z;cases z),hc,n,hd⟩,aF.keep k rs⟩
 | .bE _ _,u,k,r=>by rw [aT] at r;exact r.elim
 | .bP _,u,k,r=>by rw [aT] at r;exact r.elim
theorem aF.keep {h h':Heap}:∀ {ds:List D}{us:zg},(∀ a o,h.get? a=some o->(∀ es ep,o.data≠.dict es ep)->h'.get? a=some o)->aF h ds us->aF h' ds us
 | [],us,k,r=>by rw [aF] at r ⊢;exact r
 | d::ds,us,k,r=>by
  rw [aF] at r ⊢;obtain ⟨y,ys,rfl,r0,rs⟩:=r;exact ⟨y,ys,rfl,aT.keep k r0,aF.keep k rs⟩
end
def S2 (h:Heap) (d:D) (a:Addr):Prop:=keyOk d=true/\dep d<=6/\aT h d (.ref a)
def jr (P:Program) (w:World):HeapKind P w D where
 is:=S2
 hash:=Bo w
 draws:=vP
 room:=fun A=>A.units+10 < cLine
 inj:=fun hx hy=>aT.inj hx.2.2 hy.2.2
 keeps:=fun x ho hd hs=>⟨x.1,x.2.1,x.2.2.keep fun b ob hb J_=>(hs.2 b (by
  rintro rfl;rw [ho] at hb;cases hb;exact J_ _ _ hd)).trans hb⟩
 pyHash:=fun hu hk h=>MN _ hk.1 hk.2.2 (by have:=hk.2.1;omega) h
 eqBool:=fun hu hx hy h=>by
  have e:=ud hx.1 hy.1;exact pA _ _ hx.2.2 hy.2.2 (by have:=hx.2.1;omega) (by have:=hy.2.1;omega) _ _ _ _ (by rw [e];exact h)
 quiet:=fun hk h=>Vz 8 _ hk.1 (by have:=hk.2.1;omega) hk.2.2 h
def isKey (d:D):Bool:=keyOk d && decide (dep d<=6) && (match d with | .tup _=>true | _=>false)
def lA (ks:List D) (k:D):Bool:=isKey k && ks.all isKey
def Xa {ks:List D}{k:D} (h:lA ks k=true):isKey k=true/\∀ c∈ks,isKey c=true:=by
 unfold lA at h;rw [Bool.and_eq_true] at h;exact ⟨h.1,fun c hc=>yv.mp h.2 c hc⟩
def jB {d:D} (h:isKey d=true):keyOk d=true/\dep d<=6/\∃ ds,d=.tup ds:=by
 unfold isKey at h;simp only [Bool.and_eq_true,decide_eq_true_eq] at h;refine ⟨h.1.1,h.1.2,?_⟩;cases d <;> simp at h;exact ⟨_,rfl⟩
end Mi
namespace L2
open PySem PySem.Spec PyProof.Rows
end L2
namespace Mi
open PySem L2 PyProof.Rows
inductive R (α:Type) where
 | ok (a:α) | stuck
noncomputable def R.bind {α β:Type}:R α->(α->R β)->R β
 | .ok a,f=>f a
 | .stuck,_=>.stuck
noncomputable instance:Monad R where
 pure:=R.ok
 bind:=R.bind
@[simp] theorem qP {α β:Type} (a:α) (f:α->R β):(R.ok a >>= f)=f a:=rfl
@[simp] theorem K9 {α β:Type} (f:α->R β):((R.stuck:R α) >>= f)=.stuck:=rfl
@[simp] theorem UV {α:Type} (a:α):(pure a:R α)=.ok a:=rfl
inductive BO where | add | sub | mul | mod
inductive CO where | eq | ne | lt | le | gt | i8 | AQ | pw | iS
 deriving DecidableEq
inductive Ty where | int | bool | tuple | list
inductive BI where | len | min2 | all | any | sorted | tuple | bg | max2
 deriving DecidableEq
inductive IK where | seq | jS | enum | zip
inductive Tg where
 | one (i:Nat) | two (i j:Nat)
abbrev En:=List (Option D)
noncomputable def lim:Nat:=100000
def iU:lim<=sizeLine:=by decide
def mO:D->D->R D
 | .int a,.int b=>.ok (.int (a+b))
 | .lst a,.lst b=>if a.length+b.length<=lim then .ok (.lst (a++b)) else .stuck
 | .tup a,.tup b=>if a.length+b.length<=lim then .ok (.tup (a++b)) else .stuck
 | _,_=>.stuck
noncomputable def jJ:Int->Bool
 | .ofNat n=>Nat.ble n 18446744073709551615
 | .negSucc n=>Nat.ble n 18446744073709551614
def je:BO->D->D->R D
 | .add,a,b=>mO a b
 | .sub,.int a,.int b=>.ok (.int (a - b))
 | .mul,.int a,.int b=>if jJ a || jJ b then .ok (.int (a * b)) else .stuck
 | .mod,.int a,.int b=>if 0 < b then .ok (.int (a % b)) else .stuck
 | _,_,_=>.stuck
def aZ (a b:D):Bool:=decide (dep a<=30) && decide (dep b<=30) && ly a b
def inD (x:D) (c:D):R Bool:=match c with
 | .lst ds=>if ds.all (fun d=>aZ d x) && decide (dep x<=30) then .ok (ds.any fun d=>aH d x) else .stuck
 | _=>.stuck
def bw:CO->D->D->R Bool
 | .eq,a,b=>if aZ a b then .ok (aH a b) else .stuck
 | .ne,a,b=>if aZ a b then .ok (!aH a b) else .stuck
 | .lt,.int a,.int b=>.ok (decide (a < b))
 | .le,.int a,.int b=>.ok (decide (a<=b))
 | .gt,.int a,.int b=>.ok (decide (b < a))
 | .i8,a,b=>do let r <- inD a b;.ok (!r)
 | .AQ,a,b=>inD a b
 | .pw,a,.ai=>.ok (decide (a=.ai))
 | .iS,a,.ai=>.ok (!decide (a=.ai))
 | _,_,_=>.stuck
noncomputable def bM (ah:List (Int × Int)) (k:Int):Option Int:=(ah.find? fun p=>decide (p.1=k)).map (·.2)
noncomputable def mY (ah:List (Int × Int)) (k v:Int):List (Int × Int):=if (ah.any fun p=>decide (p.1=k))=true then ah.map (fun p=>if p.1=k then (p.1,v) else p) else ah++[(k,v)]
noncomputable def dD:List D->List D->D->Option D
 | k'::ks,v::vs,k=>if k'=k then some v else dD ks vs k
 | _,_,_=>none
def f6:D->D->R D
 | .bP ah,.int k=>(match bM ah k with | some v=>.ok (.int v) | none=>.stuck)
 | .bE ks vs,k=>if lA ks k then (match dD ks vs k with | some d=>.ok d | none=>.stuck) else .stuck
 | .lst ds,.int i=>match pd ds.length i with | some k=>(match ds[k]? with | some d=>.ok d | none=>.stuck) | none=>.stuck
 | .tup ds,.int i=>match pd ds.length i with | some k=>(match ds[k]? with | some d=>.ok d | none=>.stuck) | none=>.stuck
 | _,_=>.stuck
noncomputable def intsOf:List D->Option (List Int)
 | []=>some []
 | .int i::ds=>(intsOf ds).map (i::·)
 | _=>none
noncomputable def Bj:D->R (List D)
 | .lst ds=>.ok ds
 | .tup ds=>.ok ds
 | .bE ks _=>.ok ks
 | .bP ah=>.ok (ah.map fun p=>.int p.1)
 | _=>.stuck
noncomputable def aX (n:Nat):List D->List D
 | []=>[]
 | d::ds=>.tup [.int n,d]::aX (n+1) ds
noncomputable def rm:List D->List D->List D
 | a::as,b::bs=>.tup [a,b]::rm as bs
 | _,_=>[]
def itemsOf:IK->List D->R (List D)
 | .seq,[.lst ds]=>.ok ds
 | .seq,[.tup ds]=>.ok ds
 | .seq,[.bE ks _]=>.ok ks
 | .enum,[.tup ds]=>.ok (aX 0 ds)
 | .enum,[.lst ds]=>.ok (aX 0 ds)
 | .zip,[.tup as,.tup bs]=>.ok (rm as bs)
 | .jS,[.int n]=>if -(lim:Int)<=n/\n<=lim then .ok ((List.range n.toNat).map fun (k:Nat)=>D.int (k:Int)) else .stuck
 | .jS,[.int a,.int b]=>if -(lim:Int)<=a/\a<=lim/\-(lim:Int)<=b/\b<=lim then .ok ((List.range (b - a).toNat).map fun (k:Nat)=>D.int (a+(k:Int))) else .stuck
 | _,_=>.stuck
noncomputable def boolsOf:List D->Option (List Bool)
 | []=>some []
 | .bl b::ds=>(boolsOf ds).map (b::·)
 | _=>none
mutual
noncomputable def ck:D->D->Bool
 | .int a,.int b=>decide (a < b)
 | .tup a,.tup b=>bU a b
 | .lst a,.lst b=>bU a b
 | _,_=>false
noncomputable def bU:List D->List D->Bool
 | [],[]=>false
 | [],_::_=>true
 | _::_,[]=>false
 | a::as,b::bs=>if a=b then bU as bs else ck a b
end
end Mi
namespace Mi
open PySem L2
open PyProof.Rows hiding St
noncomputable def gH (env:Env):List (Str × NameKind)->List (Str × Addr)->List (Str × Addr)
 | [],acc=>acc
 | (n,k)::r,acc=>if k == .free then (match env.cells.lookup n with | some a=>gH env r ((n,a)::acc) | none=>gH env r acc) else gH env r acc
theorem Dk (env:Env) (f:Str × NameKind->List (Str × Addr)->Sem (ForInStep (List (Str × Addr))))
  (hf:∀ n k cs,f (n,k) cs=if k == .free then (do let a <- cellOf env n;pure (.yield ((n,a)::cs))) else pure (.yield cs)) :
  ∀ (l:List (Str × NameKind)) (acc:List (Str × Addr)),(∀ x∈l,x.2=.free->∃ c,env.cells.lookup x.1=some c)->forIn l acc f=(pure (gH env l acc):Sem _)
 | [],acc,_=>by rw [List.forIn_nil];rfl
 | (n,k)::r,acc,h=>by
  rw [List.forIn_cons,hf];have ih:=fun acc=>Dk env f hf r acc fun x hx=>h x (vi _ hx)
  unfold gH;by_cases hk:(k == NameKind.free)=true
  .obtain ⟨c,hc⟩:=h (n,k) vj (by simpa using hk);have c_:env.cells.lookup n=some c:=hc;rw [if_pos hk,if_pos hk,c_];have e:cellOf env n=pure c:=by unfold cellOf;rw [c_]
   rw [e];simp only [pure_bind];exact ih _
  .rw [if_neg hk,if_neg hk];simp only [pure_bind];exact ih _
variable {env:Env}{scope:Scope}
def Mf (h:∀ x∈scope.names,x.2=.free->∃ c,env.cells.lookup x.1=some c):closureFor scope env=pure (gH env scope.names []):=by
 simp only [closureFor];rw [Dk env _ (fun n k cs=>by cases hk:k == NameKind.free <;> simp [hk]) scope.names [] h];rfl
theorem pL {env:Env}:∀ {l:List (Str × NameKind)}{acc:List (Str × Addr)}{p:Str × Addr},p∈gH env l acc->p∈acc\/((p.1,NameKind.free)∈l/\env.cells.lookup p.1=some p.2)
 | [],acc,p,h=>.inl h
 | (n,k)::r,acc,p,h=>by
  unfold gH at h;split at h
  .rename_i hk;split at h
   .rename_i a ha;rcases pL h with h | h
    .rcases vV.mp h with e | h
     .right;subst e;have:k=.free:=by simpa using hk
      subst this;exact ⟨vj,ha⟩
     .exact .inl h
    .exact .inr ⟨vi _ h.1,h.2⟩
   .rcases pL h with h | h
    .exact .inl h
    .exact .inr ⟨vi _ h.1,h.2⟩
  .rcases pL h with h | h
   .exact .inl h
   .exact .inr ⟨vi _ h.1,h.2⟩
theorem jP {env:Env}{x:Str}{c:Addr} (hc:env.cells.lookup x=some c):∀ {l:List (Str × NameKind)}{acc:List (Str × Addr)},((x,NameKind.free)∈l\/acc.lookup x=some c)->(gH env l acc).lookup x=some c
 | [],acc,h=>by
  rcases h with h | h
  .simp at h
  .exact h
 | (n,k)::r,acc,h=>by
  unfold gH;split
  .rename_i hk;have gT:k=.free:=by simpa using hk
   split
   .rename_i a ha;apply jP hc;by_cases hx:x=n
    .subst hx;rw [hc] at ha;cases ha;right;simp [List.lookup_cons]
    .rcases h with h | h
     .rcases vV.mp h with e | h
      .cases e;exact absurd rfl hx
      .exact .inl h
     .right;have:(x == n)=false:=beq_eq_false_iff_ne.mpr hx;rw [List.lookup_cons,this];exact h
   .rename_i ha;apply jP hc;rcases h with h | h
    .rcases vV.mp h with e | h
     .cases e;rw [hc] at ha;cases ha
     .exact .inl h
    .exact .inr h
  .rename_i hk;apply jP hc;rcases h with h | h
   .rcases vV.mp h with e | h
    .cases e;exact absurd (by rfl) hk
    .exact .inl h
   .exact .inr h
def dF (scope:Scope) (C:Addr) (env:Env):Env :=
 { scope:=relabel scope env,locals:=C,globals:=env.globals,cells:=cellsFrom (C+1) scope.names (gH env scope.names []),qual:=env.qual,func:=none,code:=env.code,frame:=env.frame,builtins:=env.builtins }
variable {s:Shared}
def Z8 {M:Model}{A:Around}{E:zb}{cl:List (Str × Addr)}{Q:Env->Shared->Prop}
  (h:Q { scope:=scope,locals:=s.heap.objs.size,globals:=env.globals,cells:=cellsFrom (s.heap.objs.size+1) scope.names cl,qual:=env.qual,func:=none,code:=env.code,frame:=env.frame,builtins:=env.builtins }
   { s with heap:=pushCells (s.heap.push { cls:=.type "dict",data:=.dict #[] }) scope.names }) :
  wpAny M A (newFunctionEnv scope env.globals cl [] env.qual none .none (some env)) Q E s:=by
 simp only [newFunctionEnv,Option.isSome_some,if_true];refine z0 (wpAny_alloc ?_);refine z0 (wpAny_layCells _ (fun name kind cells=>by cases S3:kind == NameKind.cell <;> simp [S3]) _ _ _ _ ?_);rw [show ({ s with heap:=s.heap.push { cls:=.type "dict",data:=.dict #[] } }:Shared).heap.objs.size=s.heap.objs.size+1 from Heap.size_push ..]
 simp only [List.forIn_nil,pure_bind];exact ve h
theorem mL:∀ {l:List (Str × NameKind)}{n:Nat}{acc:List (Str × Addr)}{p:Str × Addr},p∈cellsFrom n l acc->p∈acc\/(n<=p.2/\(p.1,NameKind.cell)∈l)
 | [],n,acc,p,h=>.inl h
 | (x,k)::r,n,acc,p,h=>by
  unfold cellsFrom at h;split at h
  .rename_i hk;have gT:k=.cell:=by simpa using hk
   subst gT;rcases mL h with h | h
   .rcases vV.mp h with e | h
    .subst e;exact .inr ⟨vE _,vj⟩
    .exact .inl h
   .exact .inr ⟨by omega,vi _ h.2⟩
  .rcases mL h with h | h
   .exact .inl h
   .exact .inr ⟨h.1,vi _ h.2⟩
theorem mq:∀ {l:List (Str × NameKind)}{n:Nat}{acc:List (Str × Addr)},(∀ p∈acc,p.2 < n)->(∀ p∈acc,∀ q∈acc,p.2=q.2->p.1=q.1)->∀ p∈cellsFrom n l acc,∀ q∈cellsFrom n l acc,p.2=q.2->p.1=q.1
 | [],n,acc,h1,h2=>h2
 | (x,k)::r,n,acc,h1,h2=>by
  unfold cellsFrom;split
  .refine mq (fun p hp=>?_) fun p hp q hq e=>?_
   .rcases vV.mp hp with e | hp
    .subst e;exact jv _
    .exact Nat.lt_succ_of_lt (h1 p hp)
   .rcases vV.mp hp with e1 | hp
    .rcases vV.mp hq with e2 | hq
     .rw [e1,e2]
     .subst e1;have:=h1 q hq;have e':n=q.2:=e;exact absurd (e' ▸ this) (yk _)
    .rcases vV.mp hq with e2 | hq
     .subst e2;have:=h1 p hp;have e':p.2=n:=e;exact absurd (e' ▸ this) (yk _)
     .exact h2 p hp q hq e
  .exact mq h1 h2
theorem jy {x:Str}:∀ {l:List (Str × NameKind)}{n:Nat}{acc:List (Str × Addr)},(x,NameKind.cell) ∉ l->(cellsFrom n l acc).lookup x=acc.lookup x
 | [],n,acc,h=>rfl
 | (y,k)::r,n,acc,h=>by
  have h':(x,NameKind.cell) ∉ r:=fun z=>h (vi _ z)
  unfold cellsFrom;split
  .rename_i hk;have gT:k=.cell:=by simpa using hk
   subst gT;rw [jy h'];have dE:x≠y:=fun e=>h (by rw [e];exact vj)
   have:(x == y)=false:=beq_eq_false_iff_ne.mpr dE;rw [List.lookup_cons,this]
  .exact jy h'
theorem lD:∀ {l:List (Str × NameKind)}{h:Heap}{acc:List (Str × Addr)}{p:Str × Addr},p∈cellsFrom h.objs.size l acc->p∈acc\/(pushCells h l).IsCell p.2 none
 | [],h,acc,p,q=>.inl q
 | (y,k)::r,h,acc,p,q=>by
  unfold cellsFrom at q;unfold pushCells;split at q
  .rename_i hk;rw [if_pos hk];have e:(h.push { cls:=.type "cell",data:=.cell none }).objs.size=h.objs.size+1:=Heap.size_push ..
   rw [<- e] at q;rcases lD q with q | q
   .rcases vV.mp q with z | q
    .subst z;right;exact Heap.IsCell.keeps ⟨_,vy _ rfl,rfl⟩ (pushCells_keeps r _)
    .exact .inl q
   .exact .inr q
  .rename_i hk;rw [if_neg hk];exact lD q
theorem fJ {α:Type}:∀ {l:List (Str × α)}{x:Str}{k:α},(l.map (·.1)).Nodup->(x,k)∈l->l.lookup x=some k
 | (y,j)::r,x,k,nd,h=>by
  rw [List.map_cons,List.nodup_cons] at nd;rcases vV.mp h with e | h
  .cases e;simp [List.lookup_cons]
  .have dE:x≠y:=fun e=>nd.1 (by rw [<- e];exact yl.mpr ⟨_,h,rfl⟩)
   have:(x == y)=false:=beq_eq_false_iff_ne.mpr dE;rw [List.lookup_cons,this];exact fJ nd.2 h
theorem Al {env:Env}{x:Str}:∀ {names:List (Str × NameKind)},
  (names.map fun (n,k)=>if (k == NameKind.free && env.scope.kind == .function && env.kindOf n == some .cell) then (n,NameKind.cell) else (n,k)).lookup x =
   (names.lookup x).map fun k=>if (k == NameKind.free && env.scope.kind == .function && env.kindOf x == some .cell) then NameKind.cell else k
 | []=>rfl
 | (n,k)::r=>by
  have ih:=Al (env:=env) (x:=x) (names:=r);rw [List.map_cons];cases hx:x == n with
  | true =>
   have e:x=n:=by simpa using hx
   subst e;by_cases hc:(k == NameKind.free && env.scope.kind == .function && env.kindOf x == some .cell)=true
   .simp only [hc,if_true,List.lookup_cons,hx,Option.map_some]
   .simp only [hc,Bool.false_eq_true,if_false,List.lookup_cons,hx,Option.map_some]
  | false =>
   by_cases hc:(k == NameKind.free && env.scope.kind == .function && env.kindOf n == some .cell)=true
   .simp only [hc,if_true,List.lookup_cons,hx];exact ih
   .simp only [hc,Bool.false_eq_true,if_false,List.lookup_cons,hx];exact ih
def oK (scope:Scope) (env:Env) (x:Str):(relabel scope env).names.lookup x=(scope.names.lookup x).map fun k=>if (k == NameKind.free && env.scope.kind == .function && env.kindOf x == some .cell) then NameKind.cell else k:=Al
structure px (around:Scope) (scope:Scope):Prop where
 kind:scope.kind=.function
 nd:(scope.names.map (·.1)).Nodup
 eD:∀ x,scope.names.lookup x=some .free->around.names.lookup x=some .cell\/around.names.lookup x=some .free
noncomputable def cD (N:zk) (scope:Scope):List Bool:=N.map fun x=>decide (scope.names.lookup x=some .free)
noncomputable def bL {α:Type}:List Bool->List (Option α)->List (Option α)
 | b::bs,v::vs=>(if b then v else none)::bL bs vs
 | [],vs=>vs.map fun _=>none
 | _,[]=>[]
theorem jO {α:Type}:∀ (bs:List Bool) (vs:List (Option α)),(bL bs vs).length=vs.length
 | [],vs=>by simp [bL]
 | _::_,[]=>rfl
 | _::bs,_::vs=>by simp [bL,jO bs vs]
theorem pU {α:Type}:∀ {bs:List Bool}{vs:List (Option α)}{i:Nat}{v:α},(bL bs vs)[i]?=some (some v)->bs[i]?=some true/\vs[i]?=some (some v)
 | [],vs,i,v,h=>by
  simp only [bL,List.getElem?_map] at h;cases e:vs[i]? <;> simp [e] at h
 | _::_,[],i,v,h=>by simp [bL] at h
 | b::bs,w::vs,0,v,h=>by
  cases b <;> simp [bL] at h ⊢;exact h
 | b::bs,w::vs,i+1,v,h=>by
  simp only [bL,List.getElem?_cons_succ] at h ⊢;exact pU h
theorem Dj {α:Type}:∀ {bs:List Bool}{vs:List (Option α)}{i:Nat}{v:α},bs[i]?=some true->vs[i]?=some (some v)->(bL bs vs)[i]?=some (some v)
 | b::bs,w::vs,0,v,h,g=>by
  simp at h g;subst h g;simp [bL]
 | b::bs,w::vs,i+1,v,h,g=>by
  simp only [bL,List.getElem?_cons_succ] at h g ⊢;exact Dj h g
 | [],vs,i,v,h,g=>by simp at h
 | _::_,[],i,v,h,g=>by simp at g
def cJ (X:Cx) (scope:Scope) (bz:Shared) (bS:Hp) (fp:List Addr) (xe:zb):Cx :=
 { X with bq:=bz,kL:=bS,env:=dF scope bz.heap.objs.size X.env,outer:=X.stack,stack:=X.stack,ex:=fp,fn:=fun x=>decide (scope.names.lookup x=some .cell),pn:=[],xe:=xe }
variable {fp:List Addr}{xe:zb}{h':Heap}
section
variable {X:Cx}{ab:w4}{Z:St}{H:Hp}{s:Shared}
def Vk (I:Inv X ab Z H s) (S:px X.env.scope scope) (hf:∀ b∈fp,eY X ab H b) (ho:∀ b∈fp,∃ o,s.heap.get? b=some o) :
  Inv (cJ X scope s H fp xe) [] (bL (cD X.N scope) Z) H { s with heap:=pushCells (s.heap.push { cls:=.type "dict",data:=.dict #[] }) scope.names }:=by
 have keep:∀ b o,s.heap.get? b=some o -> (pushCells (s.heap.push { cls:=.type "dict",data:=.dict #[] }) scope.names).get? b=some o:=fun b o e=>pushCells_keeps _ _ b o (vw _ e)
 have hsz:(s.heap.push { cls:=.type "dict",data:=.dict #[] }).objs.size=s.heap.objs.size+1:=Heap.size_push ..
 have C_:∀ p∈gH X.env scope.names [],scope.names.lookup p.1=some .free/\X.env.cells.lookup p.1=some p.2:=fun p hp=>by
  rcases pL hp with h | h
  .simp at h
  .exact ⟨fJ S.nd h.1,h.2⟩
 have S4:∀ p∈gH X.env scope.names [],p.2 < s.heap.objs.size:=fun p hp=>by
  obtain ⟨v,q⟩:=I.cell _ _ (C_ p hp).2;exact q.lt
 have tZ:∀ {x c},(dF scope s.heap.objs.size X.env).cells.lookup x=some c->(x,c)∈cellsFrom (s.heap.objs.size+1) scope.names (gH X.env scope.names []):=fun h=>mem_of_lookup h
 have ka:∀ {x c},(dF scope s.heap.objs.size X.env).cells.lookup x=some c->(scope.names.lookup x=some .free/\X.env.cells.lookup x=some c)\/(s.heap.objs.size+1<=c/\scope.names.lookup x=some .cell):=fun {x c} h=>by
  rcases mL (tZ h) with q | q
  .exact .inl (C_ _ q)
  .exact .inr ⟨q.1,fJ S.nd q.2⟩
 have pz:∀ {x},scope.names.lookup x=some .free->∃ c,X.env.cells.lookup x=some c:=fun {x} h=>I.ok.has x (S.eD x h)
 have xi:∀ {x c},scope.names.lookup x=some .free->X.env.cells.lookup x=some c->(dF scope s.heap.objs.size X.env).cells.lookup x=some c:=fun {x c} h1 h2=>by
  have De:(x,NameKind.cell) ∉ scope.names:=fun z=>by
   have:=fJ S.nd z;rw [h1] at this;cases this
  show (cellsFrom (s.heap.objs.size+1) scope.names (gH X.env scope.names [])).lookup x=some c
  rw [jy De];exact jP h2 (.inl (mem_of_lookup h1))
 have kindB:∀ {x},(Env.kindOf (dF scope s.heap.objs.size X.env) x=some .cell\/Env.kindOf (dF scope s.heap.objs.size X.env) x=some .free)->scope.names.lookup x=some .cell\/scope.names.lookup x=some .free:=fun {x} h=>by
  have e:Env.kindOf (dF scope s.heap.objs.size X.env) x=_:=oK scope X.env x;rw [e] at h;cases q:scope.names.lookup x with
  | none=>rw [q] at h;simp at h
  | some k =>
   rw [q] at h;cases k <;> simp at h ⊢
 have ok:(cJ X scope s H fp xe).Ok:=by
  refine ⟨I.ok.mod,S.kind,I.ok.glob,I.ok.blt,vE _,fun x y c h1 h2=>?_,fun x h=>?_,fun x c h1 h2=>?_,I.ok.hd,I.ok.frames,.inl rfl,fun b hb=>⟨?_,fun x c h=>?_⟩,I.bs,vT I.ok.l8 I.sz,fun b o e hb=>?_,fun b hb z=>?_,I.stack,I.l_,I.ok.tab.un I.base⟩
  .exact mq (fun p hp=>Nat.lt_succ_of_lt (S4 p hp)) (fun p hp q hq e=>I.ok.inj _ _ _ (C_ p hp).2 (by rw [e];exact (C_ q hq).2)) _ (tZ h1) _ (tZ h2) rfl
  .rcases kindB h with h | h
   .exact yo.mp (PySem.W.cellsFrom_some scope.names (s.heap.objs.size+1) _ (.inl h))
   .obtain ⟨c,hc⟩:=pz h;exact ⟨c,xi h hc⟩
  .rcases ka h2 with ⟨q,_⟩ | ⟨q,_⟩
   .have pE:scope.names.lookup x=some .cell:=of_decide_eq_true h1;rw [q] at pE;cases pE
   .exact Nat.le_of_succ_le q
  .obtain ⟨o,e⟩:=ho b hb;exact vF (vz e)
  .rcases ka h with ⟨_,q⟩ | ⟨q,_⟩
   .exact (hf b hb).2.2.2.2.1 x c q
   .obtain ⟨o,e⟩:=ho b hb;have:=vz e;intro z;subst z;exact yk _ (Nat.lt_trans this (Nat.lt_of_succ_le q))
  .obtain ⟨_,_,_,q,_⟩:=hf b hb;rcases q with q | q
   .exact I.ok.oC b o e q
   .exact absurd (v4 (vz e) (vT I.ok.l8 q)) (yk _)
  .obtain ⟨_,q1,q2,_⟩:=hf b hb;rcases vV.mp (I.ij b z) with e | e
   .exact q1 e
   .exact q2 e
 refine ⟨ok,rfl,I.bare,Un.kept keep,⟨fun _=>none,(Heap.Ns.new s.heap (.type "dict")).keeps (pushCells_keeps _ _),fun i x v h1 h2 h3=>?_⟩,fun x c h=>?_,I.az.fresh (vE _),fun x c h=>?_,fun p hp=>absurd (show p ∈ ([]:w4) from hp) (by simp),I.az.kept keep,?_⟩
 .obtain ⟨g1,g2⟩:=pU h2;have hx:X.N[i]?=some x:=h1;have J':scope.names.lookup x=some .free:=by
   unfold cD at g1;rw [List.getElem?_map,hx] at g1;simpa using g1
  have t9:=S.eD x J';obtain ⟨m,hn,hl⟩:=I.loc;obtain ⟨u,r,l⟩:=hl i x v hx g2 (by rcases t9 with h | h;exact .inr (.inl h);exact .inr (.inr h));refine ⟨u,r,?_⟩;rcases l with ⟨hk,_⟩ | ⟨_,c,hc,cw⟩
  .have gT:X.env.scope.names.lookup x=some .local:=hk;rcases t9 with h | h <;> rw [gT] at h <;> cases h
  .refine .inr ⟨?_,c,xi J' hc,cw.keeps keep⟩;have e:Env.kindOf (dF scope s.heap.objs.size X.env) x=_:=oK scope X.env x;show Env.kindOf (dF scope s.heap.objs.size X.env) x=some .cell\/Env.kindOf (dF scope s.heap.objs.size X.env) x=some .free
   rw [e,J'];simp only [Option.map_some];split
   .exact .inl rfl
   .exact .inr rfl
 .rcases ka h with ⟨_,q⟩ | ⟨_,q⟩
  .obtain ⟨v,z⟩:=I.cell x c q;exact ⟨v,z.keeps keep⟩
  .have hm:=tZ h;rw [<- hsz] at hm;rcases lD hm with z | z
   .have:=(C_ _ z).1;rw [q] at this;cases this
   .exact ⟨none,z⟩
 .rcases ka h with ⟨_,q⟩ | ⟨q,_⟩
  .exact I.cq x c q
  .exact I.az.fresh (Nat.le_of_succ_le q)
 .rw [jO];exact I.len
def Kr {c3:w4}{a9:St}{H':Hp}{s':Shared} (I:Inv X ab Z H s) (hf:∀ b∈fp,eY X ab H b)
  (J:Inv (cJ X scope s H fp xe) c3 a9 H' s') (hs:Heap.SameBut s.heap.objs.size s'.heap h'):Inv X ab Z H' { s' with heap:=h' }:=by
 have ne:∀ b o,s.heap.get? b=some o->b≠s.heap.objs.size:=fun b o e=>vF (vz e)
 have eq:∀ b,b≠s.heap.objs.size->h'.get? b=s'.heap.get? b:=fun b hb=>hs.2 b hb
 have U:Un (j0 X.stack) fp H H' s.heap s'.heap:=J.base;have U':Un (j0 X.stack) fp H H' s.heap h' :=
  ⟨fun b o e n hb hx=>by rw [eq b (ne b o e)];exact U.keep b o e n hb hx,fun b o e n hb hx=>by rw [eq b (ne b o e)];exact U.slot b o e n hb hx,U.free,fun b o e hx=>by rw [eq b (ne b o e)];exact U.there b o e hx,U.ig,U.gp,U.gr⟩
 have hC:H' s.heap.objs.size=none:=J.free;have az:c6 X.prog X.w H' h':=fun a o e=>by
  have NW:∀ {b u},H' b=some u->b≠s.heap.objs.size:=fun {b u} q z=>by rw [z,hC] at q;cases q
  refine (J.az a o e).fE (fun b u hb q=>?_) (fun _ q=>q) fun _ _ q=>q
  have NX:b≠s.heap.objs.size:=by
   rcases hb with rfl | hb
   .exact NW e
   .exact NW hb
  rw [eq b NX];exact q
 refine I.xh (s':={ s' with heap:=h' }) (ch:=fp) J.os U' az J.bare fun b hb=>?_
 obtain ⟨_,f1,f2,f3,f4,f5⟩:=hf b hb;exact ⟨f3,f1,f4,f5⟩
end
def B6 (X:Cx) (ifs:zl) (tt:TT):Prop :=
 ∀ (ab:w4) (s:Shared) (Z:St) (H:Hp) (Q:Bool->Hp->Prop),Inv X ab Z H s->tt Z H Q ->
  wpAny (model X.prog X.w) X.A (forIn ifs true fun c r=>if r=true then do let ok <- isTrue c X.env (eval c X.env);pure (ForInStep.yield ok) else pure (ForInStep.yield r)) (TP X ab Z Q) X.xe s
variable {X:Cx}
def JN :B6 X [] (fun _ H Q=>Q true H):=fun _ _ _ H _ I h=>wpAny_tests_nil ⟨H,I,h⟩
variable {tt:TT}
def J5 {c:Expr} (h:PT X c tt):B6 X [c] tt:=fun ab s Z H Q I q=>wpAny_tests_one (h ab s Z H Q I q)
def ZG (a b:St):Prop:=b.length=a.length/\∀ (i:Nat) v,a[i]?=some (some v)->b[i]?=some (some v)
def Bs (wi:TI) (g:TG) (tt:TT) (te:TE) (mk:St->St):TE:=fun Z H Q=>wi Z H fun J H1=>∀ D,H1 D=none ->
 ∃ W:Nat->Nat->List V->Hp->Prop,(∃ m,W 0 m [] (upd H1 D (.lst [])))/\∀ i m ys H',W i m ys H' ->
  (J.stop i H'/\Q (.ref D) H')\/(J.go i H'/\∀ x H2,J.kQ i H' x H2->g x (mk Z) H2 fun sF H3=>ZG (mk Z) sF/\tt sF H3 fun b H4 =>
   if b=true then te sF H4 fun y H5=>H5 D=some (.lst ys)/\ys.length < sizeLine/\∃ m',m' < m/\W (i+1) m' (ys++[y]) (upd H5 D (.lst (ys++[y])))
   else ∃ m',m' < m/\W (i+1) m' ys H4)
variable {elt tg iter:Expr}{ifs:zl}{pos pos':Pos}{wi:TI}{g:TG}{te:TE}{ab:w4}{Z:St}{H:Hp}
def uG {Pb:Cx->Prop}{use:Option (Value->Sem Unit)}{Qv:zb}{Q:VK}
  (I:Inv X ab Z H s) (h:Bs wi g tt te (bL (cD X.N scope)) Z H Q)
  (Kb:∀ {s3:Shared}{H3:Hp}{fp:List Addr}{xe:zb}{s6:Shared}{H5:Hp}{D:Addr},Inv X ab Z H3 s3->(∀ b∈fp,eY X ab H3 b)->Inv (cJ X scope s3 H3 fp xe) [] (bL (cD X.N scope) Z) H5 s6->Q (.ref D) H5->compPost (model X.prog X.w) X.A X.xe use Qv (.ref D) s3.heap.objs.size (.ok .next) s6)
  (hc:X.calm=true) (hi:PI X tg iter wi) (S:px X.env.scope scope)
  (hP:∀ bz bS fp acc,Inv X ab Z bS bz->(∀ b∈fp,eY X ab bS b)->Pb (cJ X scope bz bS fp (fun e s'=>notedBy (model X.prog X.w) X.A (dF scope bz.heap.objs.size X.env) (fun e s'=>compPost (model X.prog X.w) X.A X.xe use Qv acc bz.heap.objs.size (.error e) s') e s')))
  (pF:∀ bz bS fp xe,Pb (cJ X scope bz bS fp xe)->PG (cJ X scope bz bS fp xe) tg g/\B6 (cJ X scope bz bS fp xe) ifs tt/\PE (cJ X scope bz bS fp xe) elt te)
  (hs:∀ x,foldedSetIterable iter X.env x=pure x:=by intro _;rfl) :
  wpAny (model X.prog X.w) X.A (comprehension (.ListComp elt [⟨tg,iter,ifs,0⟩] scope pos) scope X.env pos' (newList []) false (eval iter X.env) use) Qv X.xe s:=by
 have kB:=Mf (env:=X.env) (scope:=scope) fun x hx hk=>I.ok.has x.1 (S.eD x.1 (fJ S.nd (by rw [<- hk];exact hx)))
 refine wpAny_comprehension_free (use:=use) rfl hs kB S.kind (fun x hx hk=>fJ S.nd (by rw [<- hk];exact hx)) ?_;refine a7 (hi ab s Z H _ I h) fun v s1 h1=>a7 h1 fun IU s2 h2=>?_
 obtain ⟨it,fp,tn,J,H2,rfl,I2,T,FX,f2,hR⟩:=h2;refine wpAny_newList ?_;have hD:H2 s2.heap.objs.size=none:=I2.az.fresh (vE _);obtain ⟨W,⟨m0,w0⟩,turn⟩:=hR s2.heap.objs.size hD;have pM:∀ b o,s2.heap.get? b=some o -> (s2.heap.push { cls:=.type "list",data:=.seq ([]:zg).toArray }).get? b=some o:=fun b o e=>vw _ e
 have I3:Inv X ab Z (upd H2 s2.heap.objs.size (.lst [])) { s2 with heap:=s2.heap.push { cls:=.type "list",data:=.seq ([]:zg).toArray } } :=
  I2.laid (t':=s2.toks) pM (vE _) ⟨by simp,[],0,.nil,vy _ rfl⟩
 generalize NY:({ s2 with heap:=s2.heap.push { cls:=.type "list",data:=.seq ([]:zg).toArray } }:Shared)=s3 at I3
 have h3:s3.heap=s2.heap.push { cls:=.type "list",data:=.seq ([]:zg).toArray }:=by rw [<- NY]
 have Dx:∀ b∈fp,∃ o,s2.heap.get? b=some o:=fun b hb=>by
  obtain ⟨o,e,_⟩:=T.obj 0 _ FX b hb;exact ⟨o,e⟩
 have Ki:∀ b∈fp,∃ o,s3.heap.get? b=some o:=fun b hb=>by
  obtain ⟨o,e⟩:=Dx b hb;exact ⟨o,by rw [h3];exact pM b o e⟩
 have N0:∀ b∈fp,b≠s2.heap.objs.size:=fun b hb=>by
  obtain ⟨o,e⟩:=Dx b hb;exact vF (vz e)
 have f3:∀ b∈fp,eY X ab (upd H2 s2.heap.objs.size (.lst [])) b:=fun b hb=>by
  obtain ⟨g0,g1⟩:=f2 b hb;exact ⟨by rw [ak (N0 b hb)];exact g0,g1⟩
 refine Z8 ?_;have N1:=hP s3 (upd H2 s2.heap.objs.size (.lst [])) fp (.ref s2.heap.objs.size) I3 f3;generalize hE:(fun e s'=>notedBy (model X.prog X.w) X.A (dF scope s3.heap.objs.size X.env) (fun e s'=>compPost (model X.prog X.w) X.A X.xe use Qv (.ref s2.heap.objs.size) s3.heap.objs.size (.error e) s') e s')=xe at N1;have J4:Inv (cJ X scope s3 (upd H2 s2.heap.objs.size (.lst [])) fp xe) [] (bL (cD X.N scope) Z) (upd H2 s2.heap.objs.size (.lst [])) { s3 with heap:=pushCells (s3.heap.push { cls:=.type "dict",data:=.dict #[] }) scope.names }:=Vk I3 S f3 Ki
 obtain ⟨hg,ht,he⟩:=pF s3 (upd H2 s2.heap.objs.size (.lst [])) fp xe N1;generalize hX:cJ X scope s3 (upd H2 s2.heap.objs.size (.lst [])) fp xe=X' at J4 hg ht he;have eP:X'.prog=X.prog:=by rw [<- hX];rfl
 have eW:X'.w=X.w:=by rw [<- hX];rfl
 have eK:X'.K=X.K:=by rw [<- hX];rfl
 have eA:X'.A=X.A:=by rw [<- hX];rfl
 have eC:X'.calm=true:=by rw [<- hX];exact hc
 have AR:X'.env=dF scope s3.heap.objs.size X.env:=by rw [<- hX];rfl
 have eX:X'.xe=xe:=by rw [<- hX];rfl
 have Kj:∀ {c3:w4}{H':Hp},(∀ b∈fp,H' b=none)->c3=[]->∀ b∈fp,eY X' c3 H' b:=fun {c3 H'} hn hp b hb=>by
  subst hp;have q:=(J4.ok.IP b (by rw [<- hX];exact hb));refine ⟨hn b hb,q.1,J4.ok.oD b (by rw [<- hX];exact hb),.inl (by rw [<- hX];exact hb),q.2,fun p hp=>?_⟩;rw [<- hX] at hp;exact absurd (show p∈([]:w4) from hp) (by simp)
 have N2:tn 0 (pushCells (s3.heap.push { cls:=.type "dict",data:=.dict #[] }) scope.names):=T.keep _ _ _ FX fun b hb o e=>pushCells_keeps _ _ b o (vw _ (by rw [h3]; exact pM b o e))
 have loop:∀ s5:Shared,s5={ s3 with heap:=pushCells (s3.heap.push { cls:=.type "dict",data:=.dict #[] }) scope.names } ->
   codeAny (model X.prog X.w) X.A (.compLoop (.ListComp elt [⟨tg,iter,ifs,0⟩] scope pos) 0 (.ref it) (.ref s2.heap.objs.size) (dF scope s3.heap.objs.size X.env))
    (compPost (model X.prog X.w) X.A X.xe use Qv (.ref s2.heap.objs.size) s3.heap.objs.size) s5:=by
  rintro s5 rfl;refine codeAny_loop rfl (fun n s'=>∃ i ys H',Inv X' [] (bL (cD X.N scope) Z) H' s'/\tn i s'.heap/\(∀ b∈fp,H' b=none)/\W i n ys H') (fun n s5 hI=>?_) m0
   ⟨0,[],_,J4,N2,fun b hb=>by rw [ak (N0 b hb)];exact (f2 b hb).1,w0⟩
  obtain ⟨i,ys,H5,I5,B2,FY,w5⟩:=hI;show wpAny _ X.A ((compTurn (.ListComp elt [⟨tg,iter,ifs,0⟩] scope pos) 0 (.ref it) (.ref s2.heap.objs.size) (dF scope s3.heap.objs.size X.env)).onRaise (fun x=>do noteFrame x (dF scope s3.heap.objs.size X.env);theTreesLotGoes x)) _ _ s5
  refine wpAny_noted ?_;rw [compTurn_list];refine z0 (wpAny_standAt (z0 ?_));have eN:notedBy (model X.prog X.w) X.A (dF scope s3.heap.objs.size X.env) (fun e s'=>compPost (model X.prog X.w) X.A X.xe use Qv (.ref s2.heap.objs.size) s3.heap.objs.size (.error e) s')=X'.xe:=by rw [eX,<- hE]
  rw [eN];rcases turn i n ys H5 w5 with ⟨stop,qn⟩ | ⟨go,step⟩
  .have dn:=T.done X' eP eW eK eC i [] s5 _ H5 X'.xe I5 (Kj FY rfl) B2 stop;rw [eA] at dn;refine a7 dn fun r s6 ⟨hr,I6⟩=>?_
   subst hr;refine ve ?_;rw [<- hX] at I6;exact Kb I3 f3 I6 qn
  .have N3:=T.item X' eP eW eK eC i [] s5 _ H5 X'.xe I5 (Kj FY rfl) B2 go;rw [eA] at N3;refine a7 N3 fun r s6 ⟨u,hr,h6⟩=>?_
   subst hr;refine z0 (a7 h6 fun _ s7 ⟨x,H7,I7,r7,y7,Kk,S_⟩=>?_);have Ta:=I7.pinned (Kj S_ rfl) (T.obj _ _ Kk);have N4:=hg _ s7 _ H7 x u _ Ta r7 (step x H7 y7);rw [eP,eW,eA,AR] at N4;refine z0 (a7 N4 fun _ s8 ⟨GB,H8,I8,N9,q8⟩=>?_);have again:∀ {s9:Shared}{H9:Hp}{AO:List V},Inv X' ([]++vU fp s7.heap) GB H9 s9->(∃ m',m' < n/\W (i+1) m' AO H9) ->
     ∃ m,m < n/\∃ i ys H',Inv X' [] (bL (cD X.N scope) Z) H' s9/\tn i s9.heap/\(∀ b∈fp,H' b=none)/\W i m ys H':=fun {s9 H9 AO} I9 ⟨m',hm,w9⟩=>by
    refine ⟨m',hm,i+1,AO,H9,?_,T.keep _ _ _ Kk fun b hb o e=>(I9.pin (b,o) (vn _ (vn _ (nj hb e)))).1,fun b hb=>?_,w9⟩
    .exact (I9.weak N9.1.symm N9.2).da
    .obtain ⟨o,e,d⟩:=T.obj _ _ Kk b hb;exact (I9.pin (b,o) (vn _ (vn _ (nj hb e)))).2.1
   have N_:=ht _ s8 GB H8 _ I8 q8;rw [eP,eW,eA,AR] at N_;refine z0 (a7 N_ fun ok s9 ⟨H9,I9,q9⟩=>?_);cases ok with
   | false =>
    rw [if_neg Bool.false_ne_true] at q9;exact ve ⟨rfl,again I9 q9⟩
   | true =>
    rw [if_pos rfl] at q9;have N':=he _ s9 GB H9 _ I9 q9;rw [eP,eW,eA,AR] at N';refine z0 (z0 (a7 N' fun y Tb ⟨v10,Of,Th,To,Kn,Kt,pN⟩=>?_));have ap:=vC (X:=X') _ Tb GB Of (.ref s2.heap.objs.size) [v10] (.ref s2.heap.objs.size) [y] (fun _ H'=>H'=upd Of s2.heap.objs.size (.lst (ys++[v10]))) Th rfl (.cons To .nil) ⟨s2.heap.objs.size,ys,v10,rfl,rfl,Kn,Kt,rfl⟩;rw [eP,eW,eA] at ap;refine z0 (a7 ap fun _ Wp ⟨_,WF,Ts,_,GG⟩=>?_);subst GG;exact ve (ve ⟨rfl,again Ts pN⟩)
 refine codeAny_compStart_list (loop _ rfl) ?_;have DA:=T.self X.A 0 { s3 with heap:=pushCells (s3.heap.push { cls:=.type "dict",data:=.dict #[] }) scope.names }
  (fun Tu s'=>codeAny (model X.prog X.w) X.A (.compLoop (.ListComp elt [⟨tg,iter,ifs,0⟩] scope pos) 0 Tu (.ref s2.heap.objs.size) (dF scope s3.heap.objs.size X.env)) (compPost (model X.prog X.w) X.A X.xe use Qv (.ref s2.heap.objs.size) s3.heap.objs.size) s')
 exact DA _ N2 (loop _ rfl)
def yd 
  (hc:X.calm=true) (hi:PI X tg iter wi) (S:px X.env.scope scope)
  (pF:∀ bz bS fp xe,PG (cJ X scope bz bS fp xe) tg g/\B6 (cJ X scope bz bS fp xe) ifs tt/\PE (cJ X scope bz bS fp xe) elt te)
  (hs:∀ x,foldedSetIterable iter X.env x=pure x:=by intro _;rfl) :
  PE X (.ListComp elt [⟨tg,iter,ifs,0⟩] scope pos) (Bs wi g tt te (bL (cD X.N scope))):=by
 intro ab s Z H Q I h;rw [eval_ListComp];refine uG (use:=none) I h (fun {s3 H3 fp xe s6 H5 D} I3 f3 I6 qn=>?_) hc hi S (Pb:=fun _=>True) (fun _ _ _ _ _ _=>trivial) (fun bz bS fp xe _=>pF bz bS fp xe) hs;obtain ⟨m,hn,_⟩:=id I6.loc;exact ⟨m,hn,fun h' t_=>⟨.ref D,H5,Kr I3 f3 I6 t_,rfl,qn⟩⟩
def Tv {C:Addr} (I:Inv X ab Z H s) (hC:H C=none) (hb:X.bq.heap.objs.size<=C) (hl:C≠X.env.locals) (kB:∀ x c,X.env.cells.lookup x=some c->c≠C) (hp:∀ p∈X.pn++ab,p.1≠C)
  (hs:Heap.SameBut C s.heap h'):Inv X ab Z H { s with heap:=h' }:=by
 have az:c6 X.prog X.w H h':=fun b ob e=>by
  refine (I.az b ob e).fE (fun c w' hc q=>(hs.2 c ?_).trans q) (fun _ q=>q) fun _ _ q=>q
  rintro rfl;rcases hc with rfl | hc
  .rw [hC] at e;cases e
  .rw [hC] at hc;cases hc
 refine I.xh (s':={ s with heap:=h' }) (ch:=[C]) rfl ⟨fun b o e n hb hx=>?_,fun b o e n hb hx=>?_,fun b o e n hx=>n,fun b o e hx=>?_,fun b xs q=>q,fun b o u q=>q,fun b ps q=>⟨#[],by rw [Array.append_empty];exact q⟩⟩ az I.bare fun b pj=>?_
 .exact (hs.2 b fun z=>hx (by rw [z];simp)).trans e
 .exact ⟨o.slots,(hs.2 b fun z=>hx (by rw [z];simp)).trans e⟩
 .exact ⟨o,(hs.2 b fun z=>hx (by rw [z];simp)).trans e⟩
 .rw [List.mem_singleton.mp pj];exact ⟨.inr hb,hl,kB,hp⟩
variable {x:Str}
def Lp {AS:Pos}{i:Nat}
  (hN:X.N.Nodup) (mi:X.N[i]?=some x) (hx:L2.Loc X.env.scope x) (hf:X.fn x=true\/X.env.scope.names.lookup x=some .local)
  (GH:X.env.scope.kind=.function->swapsWith (.ListComp elt [⟨tg,iter,ifs,0⟩] scope pos) (some (.Name x pos')) AS.line X.env=pure true)
  (hc:X.calm=true) (hi:PI X tg iter wi) (S:px X.env.scope scope)
  (pF:∀ bz bS fp xe,PG (cJ X scope bz bS fp xe) tg g/\B6 (cJ X scope bz bS fp xe) ifs tt/\PE (cJ X scope bz bS fp xe) elt te)
  (hs:∀ x,foldedSetIterable iter X.env x=pure x:=by intro _;rfl) :
  PS X (.Assign [.Name x pos'] (.ListComp elt [⟨tg,iter,ifs,0⟩] scope pos) AS) (Q8 (Bs wi g tt te (bL (cD X.N scope))) (Ar i)):=by
 intro ab s Z H D I h;rw [exec_Assign_Name_used x pos' _ AS (GH I.ok.kind)];refine z0 (wpAny_standAt (z0 ?_));show wpAny _ _ (do let _ <- comprehension (.ListComp elt [⟨tg,iter,ifs,0⟩] scope pos) scope X.env iter.pos (newList []) false (eval iter X.env) (some (assign (.Name x pos') X.env));pure ()) _ _ s
 refine z0 (uG (use:=some (assign (.Name x pos') X.env)) I h (fun {s3 H3 fp xe s6 H5 Da} I3 f3 I6 qn=>?_) hc hi S (Pb:=fun _=>True) (fun _ _ _ _ _ _=>trivial) (fun bz bS fp xe _=>pF bz bS fp xe) hs);have I':Inv X ab Z H5 s6:=Kr I3 f3 I6 (h':=s6.heap) ⟨rfl,fun _ _=>rfl⟩;have bj:X.env.locals < s3.heap.objs.size:=I3.lt;have cells:∀ y c,X.env.cells.lookup y=some c->c < s3.heap.objs.size:=fun y c e=>by
  obtain ⟨v,q⟩:=I3.cell y c e;exact q.lt
 refine wpAny_assign_Name (Dp I' hN mi hx (v:=.ref Da) rfl (fun F0 TB ⟨a,sb,ha⟩=>?_) hf);obtain ⟨m,hn,_⟩:=id I6.loc;have TC:s3.heap.objs.size≠a:=by
  rcases ha with rfl | ha
  .exact vS bj
  .exact vS (cells x a ha)
 refine ⟨m,hn.sameBut sb TC,fun h' t_=>?_⟩;refine ve (ve ⟨_,H5,?_,qn⟩);exact Tv TB (C:=s3.heap.objs.size) I6.free I3.sz (vS bj) (fun y c e=>vF (cells y c e)) (fun p hp=>vF (vz (I3.pin p hp).1)) t_
end Mi
namespace Mi
open PySem
variable {h:Heap}{d it:Addr}{es:Array DictEntry}{ep i:Nat}{Q:Option Value->Shared->Prop}
section
variable {prog:Program}{w:World}{A:Around}{E:zb}{s:Shared}
def dY (h:Heap) (d:Addr) (es:Array DictEntry) (ep:Nat):Prop:=∃ o,h.get? d=some o/\o.ExactDict/\o.data=.dict es ep
def dY.keep {h':Heap} (x:dY h d es ep) (k:∀ o,h.get? d=some o->h'.get? d=some o):dY h' d es ep :=
 let ⟨o,e,r⟩:=x;⟨o,k o e,r⟩
def dY.lt (x:dY h d es ep):d < h.objs.size:=let ⟨_,e,_⟩:=x;vz e
def dY.ty (x:dY s.heap d es ep):s.TypeIs (.ref d) "dict":=let ⟨o,e,c,_⟩:=x; ⟨o,e,c.1⟩
def Ho {Q:zb} (hd:(d == sysModules)=false) (hm:dY s.heap d es ep)
  (hQ:Q (.ref s.heap.objs.size) { s with heap:=s.heap.push { cls:=.type "dict_keyiterator",data:=.fields #[.ref d,.int 0 0,.int es.size 0,.int ep 0] } }) :
  wpAny (model prog w) A (pyIter (.ref d)) Q E s:=by
 have hT:=hm.ty;obtain ⟨o,ho,hc,pS⟩:=id hm;refine wpAny_pyIter_slot hT F.slot_dict_iter (yB F.slot_dict_iter hT F.entry_dict_iter ?_ (F.args_dict_iter_1 _));unfold Builtin.«dict.__iter__»;refine z0 ?_;unfold Builtin.Dict.dictSlotNone;refine z0 (wpAny_notOrdered_dict hT ?_);show wpAny _ _ (pure (Value.ref d)) _ _ s
 refine ve ?_;show wpAny _ _ (Builtin.Dict.showsAll d >>= _) _ _ s
 unfold Builtin.Dict.showsAll;rw [if_neg (by rw [hd];exact Bool.false_ne_true)];refine z0 (ve ?_);refine z0 (jh ho pS ?_);refine z0 (jn ho pS ?_);refine z0 (jb (ve ⟨_,rfl,"dict_keyiterator",_,⟨_,vy _ rfl,rfl⟩,F.slot_dict_keyiterator_next.lookup,?_⟩))
 simpa [rawInt] using hQ
def Gq (hit:s.heap.IsKeyIter it d i es.size ep)
  (hm:dY s.heap d es ep) (AU:i < es.size)
  (hQ:∀ h',h'.IsKeyIter it d (i+1) es.size ep->Heap.SameBut it s.heap h'->Q (some es[i].key) { s with heap:=h' }) :
  wpAny (model prog w) A (pyNext (.ref it)) Q E s:=by
 obtain ⟨o,ho,hc,hd⟩:=id hit;obtain ⟨od,kF,eJ,pT⟩:=id hm;unfold pyNext;refine z0 (wpAny_attempt (yM (name:=Str.ofString "__next__") hit.typeIs F.slot_dict_keyiterator_next
  (yB F.slot_dict_keyiterator_next hit.typeIs F.entry_dict_keyiterator_next ?_ (F.args_dict_keyiterator_next_1 _))))
 refine z0 (ve ?_);refine z0 ?_;refine z0 ?_
 first | refine z0 (wpAny_typeNameOfWhole_keyiter hit.typeIs (ve ?_)) | refine z0 (wpAny_typeNameOf_keyiter hit.typeIs (ve ?_))
 refine z0 (wpAny_fieldsOf ho hd ?_);have kg:Builtin.Dict_items.ownsTuple "dict_keyiterator"=false:=by decide
 simp only [kg,Bool.false_eq_true,if_false];show wpAny _ _ (if (Value.ref d == Value.none)=true then _ else _) _ _ s
 rw [if_neg (show ¬ ((Value.ref d == Value.none)=true) from Bool.false_ne_true)];refine z0 (ve ?_);refine z0 (jh kF pT ?_);rw [if_neg (by simp)];refine z0 (ve ?_);refine z0 (jn kF pT ?_);rw [if_neg (by simp)];refine ve ?_;simp only [show ¬ ((i:Int) < 0) from by omega,if_false,Int.toNat_natCast,Array.getElem?_eq_getElem AU];refine z0 ?_
 first | refine z0 (wpAny_typeNameOfWhole_keyiter hit.typeIs (ve ?_)) | refine z0 (wpAny_typeNameOf_keyiter hit.typeIs (ve ?_))
 refine z0 (wpAny_isOneOf_keyiter hit.typeIs ?_);show wpAny _ _ (setField (.ref it) 1 (rawInt ((i:Int)+1)) >>= _) _ _ s
 refine z0 (y9 ho hd (by simp) ?_);have fK:(s.heap.update it (Obj.mapFields (·.setIfInBounds 1 (rawInt ((i:Int)+1))))).IsKeyIter it d (i+1) es.size ep :=
  ⟨_,ye _ ho (Obj.isFreed_of_fields (Obj.data_mapFields hd _)),(Obj.cls_mapFields ..).trans hc,by rw [Obj.data_mapFields hd];simp [rawInt]⟩
 refine z0 (wpAny_holding ?_);refine z0 (wpAny_isOneOf_keyiter (s:={ s with heap:=s.heap.update it (Obj.mapFields (·.setIfInBounds 1 (rawInt ((i:Int)+1)))) }) fK.typeIs ?_);show wpAny _ _ (pure es[i].key) _ _ _
 exact ve (ve ⟨_,rfl,ve (hQ _ fK (y6 ..))⟩)
def JD (hh:A.handled=none) (hit:s.heap.IsKeyIter it d i es.size ep)
  (hm:dY s.heap d es ep) (sR:es.size<=i)
  (hQ:∀ h',Heap.ExtBut it s.heap h'->Q none { s with heap:=h' }):wpAny (model prog w) A (pyNext (.ref it)) Q E s:=by
 obtain ⟨o,ho,hc,hd⟩:=id hit;obtain ⟨od,kF,eJ,pT⟩:=id hm;unfold pyNext;refine z0 (wpAny_attempt (yM (name:=Str.ofString "__next__") hit.typeIs F.slot_dict_keyiterator_next
  (yB F.slot_dict_keyiterator_next hit.typeIs F.entry_dict_keyiterator_next ?_ (F.args_dict_keyiterator_next_1 _))))
 refine z0 (ve ?_);refine z0 ?_;refine z0 ?_
 first | refine z0 (wpAny_typeNameOfWhole_keyiter hit.typeIs (ve ?_)) | refine z0 (wpAny_typeNameOf_keyiter hit.typeIs (ve ?_))
 refine z0 (wpAny_fieldsOf ho hd ?_);have kg:Builtin.Dict_items.ownsTuple "dict_keyiterator"=false:=by decide
 simp only [kg,Bool.false_eq_true,if_false];show wpAny _ _ (if (Value.ref d == Value.none)=true then _ else _) _ _ s
 rw [if_neg (show ¬ ((Value.ref d == Value.none)=true) from Bool.false_ne_true)];refine z0 (ve ?_);refine z0 (jh kF pT ?_);rw [if_neg (by simp)];refine z0 (ve ?_);refine z0 (jn kF pT ?_);rw [if_neg (by simp)];refine ve ?_;simp only [show ¬ ((i:Int) < 0) from by omega,if_false,Int.toNat_natCast,Array.getElem?_eq_none sR];refine z0 ?_
 first | refine z0 (wpAny_typeNameOfWhole_keyiter hit.typeIs (ve ?_)) | refine z0 (wpAny_typeNameOf_keyiter hit.typeIs (ve ?_))
 show wpAny _ _ (setField (.ref it) 0 .none >>= _) _ _ s
 refine z0 (y9 ho hd (by simp) ?_);show wpAny _ _ (newExc (.type "StopIteration") [] >>= _) _ _ _
 refine z0 ?_;simp only [newExc,newTuple];refine z0 (jb ?_ (by size_fits));refine z0 (m:=firstArgMember _ _) (wpAny_of_eq (a:=Value.none) (by first | rfl | (simp only [firstArgMember];rfl)) ?_);refine jb ?_ (by size_fits);simp only [raiseNew];refine z0 (wpAny_handled ?_);rw [show A.in1.handled=none from hh];refine z0 (ve (wpAny_throw ?_));refine z0 (wpAny_isInstance (T:="StopIteration") (b:=true) ⟨_,vy _ rfl,rfl⟩ isSubtype_stop ?_)
 exact ve (hQ _ (((y6 ..).extBut.push _).push _))
def R4 (hh:A.handled=none) (I d:Addr) (dE:d≠I) (es:Array DictEntry) (ep:Nat) :
  Walks prog w A I [I,d] [I] es.size (fun i v=>∃ h:i < es.size,v=es[i].key) (fun i h=>h.IsKeyIter I d i es.size ep/\dY h d es ep) where
 sub:=fun b hb=>by simp at hb;simp [hb]
 frame:=fun _ _ _ st hk=>⟨st.1.at fun o e=>hk I (by simp) o e,st.2.keep fun o e=>hk d (by simp) o e⟩
 item:=fun i s Q E hi st hQ=>by
  refine Gq st.1 st.2 hi fun h' fK iX=>?_
  exact hQ _ h' s.toks ⟨hi,rfl⟩ ⟨fK,st.2.keep fun o e=>iX.extBut d o dE e⟩ fun b o hb e=>iX.extBut b o (fun h=>hb (by simp [h])) e
 done:=fun s Q E st hQ=>JD hh st.1 st.2 (vE _) fun h' sT=>hQ h' s.toks fun b o hb e=>sT b o (fun h=>hb (by simp [h])) e
 self:=fun _ _ _ _ st hQ=>wpAny_pyIter_keyiter st.1 hQ
def J7 (lo:(d == sysModules)=false):PySem.W.KdlSrc prog w "dict" d d es.size (fun i v=>∃ h:i < es.size,v=es[i].key) (fun h=>dY h d es ep) where
 type:=fun _ hm=>hm.ty
 there:=fun _ hm=>⟨hm.lt,hm.lt⟩
 keep:=fun _ _ hm hk=>hm.keep fun o e=>hk d (.inl rfl) o e
 notList:=by decide
 notTuple:=by decide
 hint:=fun _ _ _ _ hm hq=>PySem.W.kdl_hint_dict hm.ty hq
 iter:=fun _ _ hh hm=>⟨_,_,(fun _ _ hq=>Ho lo hm hq),R4 hh _ d (vF hm.lt) es ep,⟨⟨_,vy _ rfl,rfl,rfl⟩,hm.keep fun _ e=>vw _ e⟩⟩
end
end Mi
namespace Mi
open PySem L2
open PyProof.Rows hiding St
open PySem.AutoSeq1 (wpAny_loadPart')
variable {it l:Addr}{i:Nat}{Q:zb}
section
variable {prog:Program}{w:World}{A:Around}{E:zb}{s:Shared}
def nD {items}{x:Value} (hit:s.heap.IsTupleIter it l i)
  (hl:s.heap.IsTuple l items) (hx:items[i]?=some x)
  (hQ:∀ h',h'.IsTupleIter it l (i+1)->Heap.SameBut it s.heap h'->Q x { s with heap:=h' }) :
  wpAny (model prog w) A (Builtin.SmallTypes.nextOf (.ref it)) Q E s:=by
 obtain ⟨o,ho,hc,hd⟩:=id hit;obtain ⟨ol,DB,_,nl,Kx⟩:=hl;unfold Builtin.SmallTypes.nextOf;refine z0 (yM (name:=Str.ofString "__next__") hit.typeIs F.slot_tuple_iterator_next
  (yB F.slot_tuple_iterator_next hit.typeIs F.entry_tuple_iterator_next ?_ (F.args_tuple_iterator_next_1 _)))
 show wpAny _ _ (field (.ref it) 0 >>= _) _ _ s
 refine z0 (yZ ho hd (x:=.ref l) rfl ?_);show wpAny _ _ (if (Value.ref l == Value.none)=true then _ else _) _ _ s
 rw [if_neg (show ¬ ((Value.ref l == Value.none)=true) from Bool.false_ne_true)];show wpAny _ _ (field (.ref it) 1 >>= _) _ _ s
 refine z0 (yZ ho hd (x:=.int i 0) rfl ?_);show wpAny _ _ (seqItems? (.ref l) >>= _) _ _ s
 refine z0 (wpAny_seqItems DB Kx ?_);simp only [Int.toNat_natCast,hx];refine z0 (y9 ho hd (by simp) (ve ⟨x,rfl,ve (hQ _ ?_ (y6 ..))⟩));exact ⟨_,ye _ ho (Obj.isFreed_of_fields (Obj.data_mapFields hd _)),(Obj.cls_mapFields ..).trans hc,by
  rw [Obj.data_mapFields hd];simp [rawInt]⟩
def uU {items} (hh:A.handled=none)
  (hit:s.heap.IsTupleIter it l i) (hl:s.heap.IsTuple l items) (hx:items[i]?=none)
  (hE:∀ h' e,Heap.ExtBut it s.heap h' -> (∃ o,h'.get? e=some o /\ o.cls=.type "StopIteration") -> E (.ref e) { s with heap:=h' }) :
  wpAny (model prog w) A (Builtin.SmallTypes.nextOf (.ref it)) Q E s:=by
 obtain ⟨o,ho,hc,hd⟩:=id hit;obtain ⟨ol,DB,_,nl,Kx⟩:=hl;unfold Builtin.SmallTypes.nextOf;refine z0 (yM (name:=Str.ofString "__next__") hit.typeIs F.slot_tuple_iterator_next
  (yB F.slot_tuple_iterator_next hit.typeIs F.entry_tuple_iterator_next ?_ (F.args_tuple_iterator_next_1 _)))
 show wpAny _ _ (field (.ref it) 0 >>= _) _ _ s
 refine z0 (yZ ho hd (x:=.ref l) rfl ?_);show wpAny _ _ (if (Value.ref l == Value.none)=true then _ else _) _ _ s
 rw [if_neg (show ¬ ((Value.ref l == Value.none)=true) from Bool.false_ne_true)];show wpAny _ _ (field (.ref it) 1 >>= _) _ _ s
 refine z0 (yZ ho hd (x:=.int i 0) rfl ?_);show wpAny _ _ (seqItems? (.ref l) >>= _) _ _ s
 refine z0 (wpAny_seqItems DB Kx ?_);simp only [Int.toNat_natCast,hx];refine z0 (wpAny_rule (z0 (y9 ho hd (by simp) ?_)));show wpAny _ _ (newExc (.type "StopIteration") [] >>= _) _ _ _
 refine z0 ?_;simp only [newExc,newTuple];refine z0 (jb ?_ (by size_fits));refine z0 (m:=firstArgMember _ _) (wpAny_of_eq (a:=Value.none) (by first | rfl | (simp only [firstArgMember];rfl)) ?_);refine jb ?_ (by size_fits);simp only [raiseNew];refine z0 (wpAny_handled ?_)
 first | rw [show A.in1.handled=none from hh] | rw [hh]
 refine z0 (ve (wpAny_throw ?_));exact hE _ _ (((y6 ..).extBut.push _).push _) ⟨_,vy _ rfl,rfl⟩
def Gw (hh:A.handled=none) (it l:Addr) (dE:l≠it) (items:zt) :
  Draws prog w A it [it,l] items.size (fun i v=>items[i]?=some v) (fun i h=>h.IsTupleIter it l i/\h.IsTuple l items) where
 live:=fun _ _ st=>let ⟨o,ho,_⟩:=st.1;⟨o,ho⟩
 frame:=fun _ _ _ st hk=>⟨let ⟨o,e,r⟩:=st.1;⟨o,hk it (by simp) o e,r⟩,let ⟨o,e,r⟩:=st.2;⟨o,hk l (by simp) o e,r⟩⟩
 item:=fun i s Q E hi st hQ=>by
  refine nD st.1 st.2 (x:=items[i]) (by simp [hi]) fun h' fK iX=>?_
  exact hQ _ h' s.toks (by simp [hi]) ⟨fK,st.2.extBut iX.extBut dE⟩ iX
 done:=fun s Q E st hE=>uU hh st.1 st.2 (by simp) hE
end
def M4 (l:Addr) (items:zt) (n:Nat) (bE:zv) (sl:zw) :
  Meets (Builtin.«enumerate.__new__» ⟨[.type "enumerate",.ref l],[]⟩) (fun _ R s=>s.heap.get? l=some { cls:=.type "tuple",dict:=bE,data:=.seq items n,slots:=sl } /\
   R (.ok (.ret (.ref (s.heap.push { cls:=.type "tuple_iterator",data:=.fields #[.ref l,.int 0 0] }).objs.size)))
    { s with heap:=(s.heap.push { cls:=.type "tuple_iterator",data:=.fields #[.ref l,.int 0 0] }).push { cls:=.type "enumerate",data:=.fields #[.none,.bool false,.ref s.heap.objs.size,rawInt 0,.none,.none] } }) :=
 .of_wp fun prog w A R s h=>by
  obtain ⟨hp,g,d,tk,os⟩:=s;obtain ⟨hl,h⟩:=h;have g_:=sub_enumerate;have hL:Heap.IsTuple (Shared.heap ⟨hp,g,d,tk,os⟩) l items:=⟨_,hl,rfl,n,rfl⟩
  wp_walk using wpAny_loadPart' hl
  refine wpAny_stack_any fun st=>ve ?_
  split
  .rename_i c _ _ _ _ _;cases (c == Value.type "enumerate")
   .wp_walk using wpAny_loadPart' hl,wpAny_pyIter_tuple hL
    exact ⟨_,rfl,h⟩
   .wp_walk using wpAny_loadPart' hl,wpAny_pyIter_tuple hL
    exact ⟨_,rfl,h⟩
  .wp_walk using wpAny_loadPart' hl,wpAny_pyIter_tuple hL
   exact ⟨_,rfl,h⟩
section
variable {prog:Program}{w:World}{A:Around}{E:zb}{s:Shared}
def Ag {items:zt} (hL:s.heap.IsTuple l items)
  (h:∀ h',IsEnum h' (s.heap.objs.size+1) s.heap.objs.size 0 .none->h'.IsTupleIter s.heap.objs.size l 0->h'.objs.size=s.heap.objs.size+2 ->
   (∀ b o,s.heap.get? b=some o->h'.get? b=some o)->Q (.ref (s.heap.objs.size+1)) { s with heap:=h' }) :
  wpAny (model prog w) A (call (.type "enumerate") [.ref l]) Q E s:=by
 obtain ⟨⟨c,bE,dt,sl⟩,hl,hc,n,hd⟩:=hL;replace hc:c=.type "tuple":=hc
 replace hd:dt=.seq items n:=hd;subst hc hd;refine callType_new F.called_enumerate (by decide) (F.typeCall_enumerate_1 _) (F.newCall_enumerate_1 _) (fun obj=>F.args_object_init_2 obj _) F.entry_enumerate_new
  (M4 l items n bE sl) ⟨hl,?_⟩
 have hz:(s.heap.push { cls:=.type "tuple_iterator",data:=.fields #[.ref l,.int 0 0] }).objs.size=s.heap.objs.size+1:=Heap.size_push ..
 show _/\_
 rw [hz];have he:IsEnum ((s.heap.push { cls:=.type "tuple_iterator",data:=.fields #[.ref l,.int 0 0] }).push
   { cls:=.type "enumerate",data:=.fields #[.none,.bool false,.ref s.heap.objs.size,rawInt 0,.none,.none] }) (s.heap.objs.size+1) s.heap.objs.size 0 .none:=by
  have:=vy (s.heap.push { cls:=.type "tuple_iterator",data:=.fields #[.ref l,.int 0 0] })
   (o:={ cls:=.type "enumerate",data:=.fields #[.none,.bool false,.ref s.heap.objs.size,rawInt 0,.none,.none] }) rfl
  rw [hz] at this;exact this
 refine ⟨⟨_,he,rfl⟩,h _ he ⟨_,vw _ (vy _ rfl),rfl,rfl⟩ (by rw [Heap.size_push,hz]) fun b o x=>vw _ (vw _ x)⟩
end
def uW:bootBuiltins "enumerate"=some (.type "enumerate"):=by decide +kernel
def KA (Sq:Hp->List V->Prop):It :=
 ⟨fun i H=>∃ xs x,Sq H xs/\xs[i]?=some x,
  fun i H x H'=>∃ p y,H p=none/\x=.ref p/\H'=upd H p (.tup [.int i,y])/\∀ xs,Sq H xs->xs[i]?=some y,
  fun i H=>∃ xs,Sq H xs/\xs.length=i⟩
variable {P:Program}{w:World}{K:zd}{f_:zl}{x1:Nat}{fN:Pos}
def CQ {Sq:Hp->List V->Prop}{Ir:Nat->Heap->Prop}{Sh:Heap->zt->Prop} (a e it:Addr) (nV:e≠it)
  (h1:∀ i h,Ir i h->∃ o,h.get? it=some o/\(∀ v,o.data≠.cell v)/\∀ h',h'.get? it=some o->Ir i h')
  (h2:∀ (X:Cx) ab Z H s xs,X.K=K->Inv X ab Z H s->Sq H xs->∃ its:zg,Vals xs its/\Sh s.heap its.toArray/\∀ ys,Sq H ys->ys=xs)
  (h3:∀ i h its old,Ir i h->Sh h its->IsEnum h e it i old->a≠it/\e≠a)
  (h4:∀ (A:Around),A.handled=none->a≠it->∀ its:zt,Draws P w A it [it,a] its.size (fun i v=>its[i]?=some v) (fun i h=>Ir i h/\Sh h its)) :
  Turn P w K (.Tuple f_ x1 fN) (KA Sq) [e,it] e (fun i h=>(∃ old,IsEnum h e it i old)/\Ir i h) where
 mem:=by simp
 obj:=fun i h st b hb=>by
  obtain ⟨⟨old,he⟩,st⟩:=st;obtain ⟨o,e1,d,_⟩:=h1 i h st;rcases vV.mp hb with z | z
  .subst z;exact ⟨_,he,fun v q=>by cases q⟩
  .have z':=yn.mp z;subst z';exact ⟨o,e1,d⟩
 keep:=fun i h h' st k=>by
  obtain ⟨⟨old,he⟩,st⟩:=st;obtain ⟨o,e1,_,d⟩:=h1 i h st;exact ⟨⟨old,k e (by simp) _ he⟩,d _ (k it (by simp) _ e1)⟩
 item:=by
  intro X hP hw hK hc i ab s Z H E I hf st hg;subst hP hw hK;obtain ⟨xs,x,hq,hx⟩:=hg;obtain ⟨its,rv,p',inj⟩:=h2 X ab Z H s xs rfl I hq;obtain ⟨u,hu,ru⟩:=rv.get hx;obtain ⟨⟨old,he⟩,hb⟩:=st;obtain ⟨o1,q1,_,_⟩:=h1 i _ hb;obtain ⟨pV,GI⟩:=h3 i _ _ _ hb p' he;have xj:i < its.toArray.size:=by
   have h1:=(yi.mp hu).1;simpa using h1
  have D:=h4 X.A.in1 (I.ok.hd hc) pV its.toArray;refine wpAny_pyNext_enum_itemD D he ⟨hb,p'⟩ xj nV (by simp [nV,GI]) fun x' h' tk xk lF iu hT hsz hk=>?_
  have ex:x'=u:=by
   have z:its.toArray[i]?=some u:=by simpa using hu
   have DC:its.toArray[i]?=some x':=xk;rw [z] at DC;exact (y0 DC).symm
  subst ex;refine ⟨.ref s.heap.objs.size,rfl,wpAny_letOwnedTupleGo_enum (s:={ s with heap:=h',toks:=tk+1 }) lF fun h2 KG DE=>?_⟩;have lI:Heap.SameBut e h' h2:=DE;have elt:e < s.heap.objs.size:=vz he;have B7:it < s.heap.objs.size:=vz q1;have kp:∀ b o,b≠e->b≠it->s.heap.get? b=some o->h2.get? b=some o:=fun b o n1 n2 q=>lI.extBut b o n1 (hk b o n1 n2 q)
  obtain ⟨GL,DF,TH,KI,KL,KO⟩:=hf e (by simp);obtain ⟨xl,ua,KP,AV,AW,AX⟩:=hf it (by simp);have gx:H s.heap.objs.size=none:=I.az.fresh (vE _);have nT:∀ b o,s.heap.get? b=some o->b≠s.heap.objs.size:=fun b o q=>vF (vz q)
  have DH:h2.get? s.heap.objs.size=some { cls:=.type "tuple",data:=.seq #[.int i tk,x'] }:=lI.extBut _ _ (vS elt) hT
  have dC:∀ b,b ∉ ([e,it]:List Addr)->b≠e/\b≠it:=fun b hb=>by simp at hb;exact hb
  have I2:Inv X ab Z (upd H s.heap.objs.size (.tup [.int i,x])) { s with heap:=h2,toks:=tk+1 }:=by
   refine I.step (g':=s.gens) (d':=s.drawn) (ch:=[e,it]) (fun b hb=>?_) (fun b o _ _ hc q _=>kp b o (dC b hc).1 (dC b hc).2 q) (fun b o _ _ hc q _=>⟨o.slots,kp b o (dC b hc).1 (dC b hc).2 q⟩) (fun b o _ q n=>by rw [ak (nT b o q)];exact n)
    (fun b o hc q=>⟨o,kp b o (dC b hc).1 (dC b hc).2 q⟩) (fun b ys q=>by rw [ak (aq q gx)];exact q) (fun b o u q=>by rw [ak (aq q gx)];exact q) (fun b ps q=>⟨#[],by rw [ak (aq q gx),q];simp⟩) (fun m hm=>?_) (fun b u q=>?_) I.bare
   .rcases vV.mp hb with z | z
    .subst z;exact ⟨KI,DF,KL,KO⟩
    .have z':=yn.mp z;subst z';exact ⟨AV,ua,AW,AX⟩
   .obtain ⟨o,es,ep,ho,r⟩:=hm;exact ⟨o,es,ep,kp _ o (Ne.symm DF) (Ne.symm ua) ho,r⟩
   .by_cases DI:b=s.heap.objs.size
    .subst DI;rw [aC] at q;cases q;exact ⟨by show 2<=sizeLine;decide,[.int i tk,x'],.cons ⟨tk,rfl⟩ (.cons ru .nil),⟨_,DH,rfl,_,rfl⟩⟩
    .rw [ak DI] at q;have nb:∀ c v,H c=some v->c≠e/\c≠it:=fun c v z=>⟨aq z GL,aq z xl⟩
     refine (I.az b u q).fE (fun c v hc r=>?_) (fun c r=>by rw [ak (aq r gx)];exact r) (fun c ys r=>by rw [ak (aq r gx)];exact r) (fun c _ r _=>by rw [ak (aq r gx)];exact r);have nc:c≠e/\c≠it:=by
      rcases hc with z | z
      .rw [z];exact nb b u q
      .exact nb c _ z
     exact kp c v nc.1 nc.2 r
  refine ⟨.ref s.heap.objs.size,_,I2,rfl,⟨s.heap.objs.size,x,gx,rfl,rfl,fun ys hy=>by rw [inj ys hy];exact hx⟩,⟨⟨x',by simpa using KG⟩,?_⟩,fun b hb=>?_⟩
  .obtain ⟨o,q,_,k⟩:=h1 _ _ iu.1;exact k _ (lI.extBut _ _ (Ne.symm nV) q)
  .rcases vV.mp hb with z | z
   .subst z;rw [ak (Nat.ne_of_lt elt)];exact GL
   .have z':=yn.mp z;subst z';rw [ak (Nat.ne_of_lt B7)];exact xl
 done:=by
  intro X hP hw hK hc i ab s Z H E I hf st hg;subst hP hw hK;obtain ⟨xs,hq,hx⟩:=hg;obtain ⟨its,rv,p',_⟩:=h2 X ab Z H s xs rfl I hq;obtain ⟨⟨old,he⟩,hb⟩:=st;have pV:=(h3 i _ _ _ hb p' he).1;obtain ⟨xl,ua,KP,AV,AW,AX⟩:=hf it (by simp);have D:=h4 X.A.in1 (I.ok.hd hc) pV its.toArray;have hl:=rv.length;have en:i=its.toArray.size:=by simp;omega
  subst en;exact wpAny_pyNext_enum_endD D he ⟨hb,p'⟩ fun h' eb=>⟨rfl,I.turned (t':=s.toks) (fun b o hb e=>eb b o hb e) xl ua AV AW AX⟩
 self:=fun _ _ _ _ _ st h=>by
  obtain ⟨⟨old,he⟩,_⟩:=st;exact wpAny_pyIter_enum he h
variable {a:Addr}
def Bw {e:Addr}{h:Heap}{old:Value}{o1 o2:Obj} (q1:h.get? it=some o1) (q2:h.get? a=some o2) (he:IsEnum h e it i old) (c:o2.cls ≠ o1.cls) (c':o2.cls ≠ .type "enumerate"):a ≠ it /\ e ≠ a :=
 ⟨fun z=>by subst z;rw [q1] at q2;cases q2;exact c rfl,fun z=>by
  subst z;have sT:h.get? e=some _:=he;rw [q2] at sT;exact c' (congrArg Obj.cls (y0 sT))⟩
def KY (K:zd) (a:Addr):It:=KA fun H xs=>cb K H a xs
def Mh (a e it:Addr) (nV:e≠it):Turn P w K (.Tuple f_ x1 fN) (KY K a) [e,it] e (fun i h=>(∃ old,IsEnum h e it i old)/\h.IsTupleIter it a i) :=
 CQ (Sh:=fun h its=>h.IsTuple a its) a e it nV (fun i h ⟨o,e1,c,d⟩=>⟨o,e1,fun v q=>(by rw [d] at q;cases q),fun h' z=>⟨o,z,c,d⟩⟩)
  (fun X ab Z H s xs k I q=>by
   subst k;obtain ⟨its,rv,p,_⟩:=I.tuple q;exact ⟨its,rv,p,fun ys z=>I.eL z q⟩)
  (fun i h its old ⟨o1,q1,c1,_⟩ ⟨o2,q2,c2,_⟩ he=>Bw q1 q2 he (by rw [c1,c2];simp) (by rw [c2];simp))
  fun A hh pV its=>Gw hh it a pV its
variable {ab:w4}{Z:St}{H:Hp}{s:Shared}{xs:List V}{E:zb}{ta:TA}{p pos:Pos}
section
variable {X:Cx}
def XF (K:zd) (ta:TA):TI:=fun Z H R=>ta Z H fun vs H1=>∃ a xs,vs=[.ref a]/\cb K H1 a xs/\R (KY K a) H1
def Ss {R:It->Hp->Prop} (I:Inv X ab Z H s) (hq:cb X.K H a xs) (q:R (KY X.K a) H) :
  wpAny (model X.prog X.w) X.A (call (.type "enumerate") [.ref a]) (fun v s1=>wpAny (model X.prog X.w) X.A (pyIter v) (C5 X ab Z (.Tuple f_ x1 fN) R) E s1) E s:=by
 obtain ⟨its,rv,p,hz⟩:=I.tuple hq;have p':s.heap.IsTuple a its.toArray:=p;refine Ag p' fun h' he hit hsz hk=>?_
 refine wpAny_pyIter_enum (s:={ s with heap:=h' }) he ?_;have I1:Inv X ab Z H { s with heap:=h' }:=I.kept (t':=s.toks) hk;refine ⟨s.heap.objs.size+1,[s.heap.objs.size+1,s.heap.objs.size],_,_,H,rfl,I1,Mh a (s.heap.objs.size+1) s.heap.objs.size (by exact Nat.succ_ne_self _),⟨⟨_,he⟩,hit⟩,fun b hb=>?_,q⟩;rcases vV.mp hb with z | z
 .subst z;exact I.gw (Nat.le_succ _) (I.az.fresh (Nat.le_succ _))
 .have z':=yn.mp z;subst z';exact I.gw (vE _) (I.az.fresh (vE _))
def Ti {a:Expr} (hg:Gl X "enumerate") (hm:X.mg "enumerate"=none) (ha:PA X [a] ta) (hs:starEach [a] X.env=[(false,eval a X.env)]:=by rfl) :
  PI X (.Tuple f_ x1 fN) (.Call (.Name "enumerate" p) [a] [] pos) (XF X.K ta):=by
 intro ab s Z H R I h;refine Call_ (gY I hg hm uW (yT (a7 (ha pos ab s Z H _ I h) fun us s1 ⟨vs,H1,I1,r1,q1⟩=>?_) hs rfl));obtain ⟨b,xs,rfl,hq,q⟩:=q1;obtain ⟨u,rfl,ru⟩:=vals1 r1;cases ru;exact Ss I1 hq q
end
def Lk (K:zd) (a:Addr):It:=KA fun H xs=>cm K H a xs
def Ln (a e it:Addr) (nV:e≠it):Turn P w K (.Tuple f_ x1 fN) (Lk K a) [e,it] e (fun i h=>(∃ old,IsEnum h e it i old)/\h.IsListIter it a i) :=
 CQ (Sh:=fun h its=>h.IsList a its) a e it nV (fun i h ⟨o,e1,c,d⟩=>⟨o,e1,fun v q=>(by rw [d] at q;cases q),fun h' z=>⟨o,z,c,d⟩⟩)
  (fun X ab Z H s xs k I q=>by
   subst k;obtain ⟨its,rv,p,_⟩:=I.list q;exact ⟨its,rv,p.isList,fun ys z=>I.kP z q⟩)
  (fun i h its old ⟨o1,q1,c1,_⟩ ⟨o2,q2,c2,_⟩ he=>Bw q1 q2 he (by rw [c1,c2];simp) (by rw [c2];simp))
  fun A hh pV its=>PySem.Draws.list hh it a pV its
section
variable {X:Cx}
def XR (K:zd) (ta:TA):TI:=fun Z H R=>ta Z H fun vs H1=>∃ a xs,vs=[.ref a]/\cm K H1 a xs/\R (Lk K a) H1
def Rw {R:It->Hp->Prop} (I:Inv X ab Z H s) (hq:cm X.K H a xs) (q:R (Lk X.K a) H) :
  wpAny (model X.prog X.w) X.A (call (.type "enumerate") [.ref a]) (fun v s1=>wpAny (model X.prog X.w) X.A (pyIter v) (C5 X ab Z (.Tuple f_ x1 fN) R) E s1) E s:=by
 obtain ⟨its,rv,p,hz⟩:=I.list hq;have p':s.heap.IsList a its.toArray:=p.isList;refine call_enumerate_list p' fun h' he hit hsz hk=>?_
 refine wpAny_pyIter_enum (s:={ s with heap:=h' }) he ?_;have I1:Inv X ab Z H { s with heap:=h' }:=I.kept (t':=s.toks) hk;refine ⟨s.heap.objs.size+1,[s.heap.objs.size+1,s.heap.objs.size],_,_,H,rfl,I1,Ln a (s.heap.objs.size+1) s.heap.objs.size (by exact Nat.succ_ne_self _),⟨⟨_,he⟩,hit⟩,fun b hb=>?_,q⟩;rcases vV.mp hb with z | z
 .subst z;exact I.gw (Nat.le_succ _) (I.az.fresh (Nat.le_succ _))
 .have z':=yn.mp z;subst z';exact I.gw (vE _) (I.az.fresh (vE _))
def R9 {a:Expr} (hg:Gl X "enumerate") (hm:X.mg "enumerate"=none) (ha:PA X [a] ta) (hs:starEach [a] X.env=[(false,eval a X.env)]:=by rfl) :
  PI X (.Tuple f_ x1 fN) (.Call (.Name "enumerate" p) [a] [] pos) (XR X.K ta):=by
 intro ab s Z H R I h;refine Call_ (gY I hg hm uW (yT (a7 (ha pos ab s Z H _ I h) fun us s1 ⟨vs,H1,I1,r1,q1⟩=>?_) hs rfl));obtain ⟨b,xs,rfl,hq,q⟩:=q1;obtain ⟨u,rfl,ru⟩:=vals1 r1;cases ru;exact Rw I1 hq q
end
end Mi
namespace Mi
open PySem L2
open PyProof.Rows hiding St
variable {A:Around}{a:Addr}
def Jm {M:Model}{E:zb}{s:Shared}{Q:Option Obj->Shared->Prop} (h:Q (s.heap.get? a) s):wpAny M A (loadIfAlive a) Q E s:=fun _ _ _=>h
abbrev gD (h:Heap) (e it:Addr) (i:Int) (T:Addr) (b:Bool) (old:Value):Prop :=
 h.get? e=some { cls:=.type "enumerate",dict:=none,data:=.fields #[rawInt T,.bool b,.ref it,rawInt i,.none,old],slots:=#[] }
variable {e it T0:Addr}{fp:List Addr}{n i:Nat}{P:Nat->Value->Prop}{Sx:Nat->Heap->Prop}{old:Value}{o0:Obj}{b0:Bool}{Q:Option Value->Shared->Prop}
section
variable {prog:Program}{w:World}{A:Around}{E:zb}{s:Shared}
def Lx {Q:zb}
  (D:Draws prog w A it fp n P Sx) (he:gD s.heap e it i T0 b0 old) (ml:s.heap.get? T0=some o0) (AY:T0≠e) (AZ:T0≠it) (ma:Sx i s.heap) (bj:i < n) (dE:e≠it) (GN:e ∉ fp)
  (hQ:∀ x h' tk,P i x->gD h' e it ((i:Int)+1) T0 true old->Sx (i+1) h' ->
   h'.get? s.heap.objs.size=some { cls:=.type "tuple",data:=.seq #[.int i tk,x] } -> h'.objs.size=s.heap.objs.size+1 ->
   (∀ b o,b≠e->b≠it->s.heap.get? b=some o->h'.get? b=some o)->Q (.ref s.heap.objs.size) { s with heap:=h',toks:=tk+1 }) :
  wpAny (model prog w) A (Builtin.«enumerate.__next__» ⟨[.ref e],[]⟩) (fun fin s'=>∃ v,fin=.done (.ret v)/\Q v s') E s:=by
 obtain ⟨hp,g,d,Oy,os⟩:=s;show wpAny _ _ (field (.ref e) 2 >>= _) _ _ _
 refine z0 (yZ he rfl (x:=.ref it) rfl ?_);refine z0 (D.item i _ _ _ bj ma fun x e_ tk xk p_ i9=>?_);replace i9:Heap.SameBut it hp e_:=i9;have mn:gD e_ e it i T0 b0 old:=(i9.2 e dE).trans he;show wpAny _ _ (field (.ref e) 3 >>= _) _ _ ⟨e_,g,d,tk,os⟩
 refine z0 (yZ mn rfl (x:=rawInt i) rfl ?_);show wpAny _ _ (field (.ref e) 4 >>= _) _ _ ⟨e_,g,d,tk,os⟩
 refine z0 (yZ mn rfl (x:=.none) rfl ?_);show wpAny _ _ (mkInt i >>= _) _ _ ⟨e_,g,d,tk,os⟩
 refine z0 (wpAny_mkInt ?_);show wpAny _ _ (setField (.ref e) 3 (rawInt ((i:Int)+1)) >>= _) _ _ ⟨e_,g,d,tk+1,os⟩
 refine z0 (wpAny_setField_rec mn (by simp) fun q_ mr i_=>?_);replace i_:Heap.SameBut e e_ q_:=i_;replace mr:gD q_ e it ((i:Int)+1) T0 b0 old:=mr;show wpAny _ _ (setField (.ref e) 4 .none >>= _) _ _ ⟨q_,g,d,tk+1,os⟩
 refine z0 (wpAny_setField_rec mr (by simp) fun lJ mw ja=>?_);replace ja:Heap.SameBut e q_ lJ:=ja;replace mw:gD lJ e it ((i:Int)+1) T0 b0 old:=mw;show wpAny _ _ (newTuple [.int i tk,x] >>= _) _ _ ⟨lJ,g,d,tk+1,os⟩
 refine z0 (wpAny_newTuple ?_);have kS:gD (lJ.push { cls:=.type "tuple",data:=.seq #[.int i tk,x] }) e it ((i:Int)+1) T0 b0 old:=vw _ mw
 generalize kT:lJ.push { cls:=.type "tuple",data:=.seq #[.int i tk,x] }=iy at kS
 have hsz:lJ.objs.size=hp.objs.size:=by rw [ja.1,i_.1,i9.1]
 have GO:e < hp.objs.size:=vz he;have xm:iy.get? hp.objs.size=some { cls:=.type "tuple",data:=.seq #[.int i tk,x] }:=by rw [<- kT,<- hsz]; exact vy _ rfl
 have xn:iy.objs.size=hp.objs.size+1:=by rw [<- kT,Heap.size_push,hsz]
 have rg:∀ b o,b≠e->b≠it->hp.get? b=some o->iy.get? b=some o:=fun b o k8 KS hb=>by
  rw [<- kT];exact vw _ (ja.extBut b o k8 (i_.extBut b o k8 (i9.extBut b o KS hb)))
 have rj:Sx (i+1) iy:=D.frame _ _ _ p_ fun b hb o y=>by
  have k8:b≠e:=fun q=>GN (q ▸ hb)
  rw [<- kT];exact vw _ (ja.extBut b o k8 (i_.extBut b o k8 y))
 show wpAny _ _ (Builtin.SmallTypes.ownedTupleIsFree (.ref e) >>= _) _ _ ⟨iy,g,d,tk+1,os⟩
 rw [hsz];clear kT mw ja mr i_ mn i9 p_ hsz lJ q_ e_;have alive:iy.get? T0=some o0:=rg T0 o0 AY AZ ml;refine z0 ?_
 .unfold Builtin.SmallTypes.ownedTupleIsFree;refine z0 (yZ kS rfl (x:=rawInt T0) rfl ?_);show wpAny _ _ (loadIfAlive (Int.toNat (T0:Int)) >>= _) _ _ ⟨iy,g,d,tk+1,os⟩
  refine z0 (Jm ?_);rw [show Int.toNat (T0:Int)=T0 from Int.toNat_natCast _];show wpAny _ _ (if (Option.isNone (iy.get? T0))=true then _ else _) _ _ ⟨iy,g,d,tk+1,os⟩
  rw [alive,if_neg (by simp)];refine z0 (yZ kS rfl (x:=.bool b0) rfl ?_);cases b0 with
  | true =>
   rw [if_neg (by simp)];refine ve ?_;simp only [Bool.false_eq_true,if_false];exact ve ⟨_,rfl,hQ x iy tk xk kS rj xm xn rg⟩
  | false =>
   rw [if_pos (by simp)];refine z0 (wpAny_setField_rec kS (by simp) fun A0 rn js=>?_);replace js:Heap.SameBut e iy A0:=js;replace rn:gD A0 e it ((i:Int)+1) T0 true old:=rn;refine ve ?_;simp only [Bool.false_eq_true,if_false];refine ve ⟨_,rfl,hQ x A0 tk xk rn ?_ ?_ ?_ ?_⟩
   .exact D.frame _ _ _ rj fun b hb o y=>js.extBut b o (fun q=>GN (q ▸ hb)) y
   .exact js.extBut _ _ (vS GO) xm
   .rw [js.1,xn]
   .exact fun b o k8 KS hb=>js.extBut b o k8 (rg b o k8 KS hb)
def Lg 
  (D:Draws prog w A.in1 it fp n P Sx) (he:gD s.heap e it i T0 b0 old) (ml:s.heap.get? T0=some o0) (AY:T0≠e) (AZ:T0≠it) (ma:Sx i s.heap) (bj:i < n) (dE:e≠it) (GN:e ∉ fp)
  (hQ:∀ x h' tk,P i x->gD h' e it ((i:Int)+1) T0 true old->Sx (i+1) h' ->
   h'.get? s.heap.objs.size=some { cls:=.type "tuple",data:=.seq #[.int i tk,x] } -> h'.objs.size=s.heap.objs.size+1 ->
   (∀ b o,b≠e->b≠it->s.heap.get? b=some o->h'.get? b=some o)->Q (some (.ref s.heap.objs.size)) { s with heap:=h',toks:=tk+1 }) :
  wpAny (model prog w) A (pyNext (.ref e)) Q E s:=by
 have hT:s.TypeIs (.ref e) "enumerate":=⟨_,he,rfl⟩
 unfold pyNext;exact z0 (wpAny_attempt (yM (name:=Str.ofString "__next__") hT F.slot_enumerate_next
  (yB F.slot_enumerate_next hT F.entry_enumerate_next
   (Lx D he ml AY AZ ma bj dE GN fun x h' tk a b c d k q=>ve (hQ x h' tk a b c d k q)) (F.args_enumerate_next_1 _))))
def Qq {i:Int}
  (D:Draws prog w A.in1 it fp n P Sx) (he:gD s.heap e it i T0 b0 old) (ma:Sx n s.heap)
  (hQ:∀ h',Heap.ExtBut it s.heap h'->Q none { s with heap:=h' }):wpAny (model prog w) A (pyNext (.ref e)) Q E s:=by
 have hT:s.TypeIs (.ref e) "enumerate":=⟨_,he,rfl⟩
 unfold pyNext;refine z0 (wpAny_attempt (yM (name:=Str.ofString "__next__") hT F.slot_enumerate_next
  (yB F.slot_enumerate_next hT F.entry_enumerate_next ?_ (F.args_enumerate_next_1 _))))
 show wpAny _ _ (field (.ref e) 2 >>= _) _ _ _
 refine z0 (yZ he rfl (x:=.ref it) rfl ?_);refine z0 (D.done _ _ _ ma fun h' x sT ng=>?_);obtain ⟨o,ho,hc⟩:=ng;refine z0 (wpAny_isInstance (T:="StopIteration") (b:=true) ⟨o,ho,hc⟩ isSubtype_stop ?_)
 exact ve (hQ _ sT)
end
def Ip:typeLookup (.type "enumerate") "__len__"=pure none:=by rw [typeLookup_type,builtinLookup_eq_fast]; kernel_rfl
def Hq:typeLookup (.type "enumerate") "__length_hint__"=pure none:=by rw [typeLookup_type,builtinLookup_eq_fast]; kernel_rfl
variable {xs:List V}
section
variable {X:Cx}{ab:w4}{Z:St}{H:Hp}{s:Shared}
def RK {h2:Heap}{i:Int}{tk tk':Nat}{x:V}{u:Value} (I:Inv X ab Z H s) (fe:eY X ab H e) (fi:eY X ab H it)
  (kp:∀ b o,b ≠ e -> b ≠ it -> s.heap.get? b=some o -> h2.get? b=some o) (DH:h2.get? s.heap.objs.size=some { cls:=.type "tuple",data:=.seq #[.int i tk,u] }) (ru:RelV x u) :
  Inv X ab Z (upd H s.heap.objs.size (.tup [.int i,x])) { s with heap:=h2,toks:=tk' }:=by
 obtain ⟨GL,DF,TH,KI,KL,KO⟩:=fe;obtain ⟨xl,ua,KP,AV,AW,AX⟩:=fi;have gx:H s.heap.objs.size=none:=I.az.fresh (vE _);have nT:∀ b o,s.heap.get? b=some o->b≠s.heap.objs.size:=fun b o q=>vF (vz q)
 have dC:∀ b,b ∉ ([e,it]:List Addr)->b≠e/\b≠it:=fun b hb=>by simp at hb;exact hb
 refine I.step (g':=s.gens) (d':=s.drawn) (ch:=[e,it]) (fun b hb=>?_) (fun b o _ _ hc q _=>kp b o (dC b hc).1 (dC b hc).2 q) (fun b o _ _ hc q _=>⟨o.slots,kp b o (dC b hc).1 (dC b hc).2 q⟩) (fun b o _ q n=>by rw [ak (nT b o q)];exact n)
  (fun b o hc q=>⟨o,kp b o (dC b hc).1 (dC b hc).2 q⟩) (fun b ys q=>by rw [ak (aq q gx)];exact q) (fun b o u q=>by rw [ak (aq q gx)];exact q) (fun b ps q=>⟨#[],by rw [ak (aq q gx),q];simp⟩) (fun m hm=>?_) (fun b u q=>?_) I.bare
 .rcases vV.mp hb with z | z
  .subst z;exact ⟨KI,DF,KL,KO⟩
  .have z':=yn.mp z;subst z';exact ⟨AV,ua,AW,AX⟩
 .obtain ⟨o,es,ep,ho,r⟩:=hm;exact ⟨o,es,ep,kp _ o (Ne.symm DF) (Ne.symm ua) ho,r⟩
 .by_cases DI:b=s.heap.objs.size
  .subst DI;rw [aC] at q;cases q;exact ⟨by show 2<=sizeLine;decide,_,.cons ⟨tk,rfl⟩ (.cons ru .nil),⟨_,DH,rfl,_,rfl⟩⟩
  .rw [ak DI] at q;have nb:∀ c v,H c=some v->c≠e/\c≠it:=fun c v z=>⟨aq z GL,aq z xl⟩
   refine (I.az b u q).fE (fun c v hc r=>?_) (fun c r=>by rw [ak (aq r gx)];exact r) (fun c ys r=>by rw [ak (aq r gx)];exact r) (fun c _ r _=>by rw [ak (aq r gx)];exact r);have nc:c≠e/\c≠it:=by
    rcases hc with z | z
    .rw [z];exact nb b u q
    .exact nb c _ z
   exact kp c v nc.1 nc.2 r
def OA (e it:Addr) (H:Hp) (h:Heap) (i:Nat):Prop:=(∃ old,IsEnum h e it i old)\/∃ T0 b ys old,H T0=some (.tup ys)/\gD h e it i T0 b old
def zp {K:zd}{H':Hp} (h:cb K H a xs) (k:∀ o,(∀ ys,o≠.lst ys)->H a=some o->H' a=some o):cb K H' a xs:=by
 rcases h with (h | ⟨o,h⟩) | h
 .exact .inl (.inl (k _ (by intro ys z;cases z) h))
 .exact .inl (.inr ⟨o,k _ (by intro ys z;cases z) h⟩)
 .exact .inr h
def Ec {R:Result->Shared->Prop}{S:Addr}{res:Value}{n0:Nat} (hA:A.handled=none) (nV:e≠it) :
  ∀ (k i:Nat) (s:Shared) (H:Hp) (ps:List Addr),n0<=s.heap.objs.size->(∀ p∈ps,n0<=p)->xs.length - i=k->i<=xs.length->Inv X ab Z H s->OA e it H s.heap i->s.heap.IsTupleIter it a i->eY X ab H e->eY X ab H it->cb X.K H a xs ->
   H S=some (.lst (ps.map V.ref))->ps.length=i->(∀ (j:Nat) p x,ps[j]?=some p->xs[j]?=some x->H p=some (.tup [.int j,x])) ->
   (∀ (s':Shared) (H':Hp) (mx:List Addr),Inv X ab Z H' s'->(∀ b o,b≠S->H b=some o->H' b=some o)->H' S=some (.lst (mx.map V.ref))->mx.length=xs.length->(∀ (j:Nat) p x,mx[j]?=some p->xs[j]?=some x->H' p=some (.tup [.int j,x]))->(∀ p∈mx,n0<=p)->R (.ok (.ret res)) s') ->
   codeAny (model X.prog X.w) A (.builtin "list.extend.loop" ⟨[.ref S,.ref e,res],[]⟩) R s:=by
 intro k;induction k with
 | zero =>
  intro i s H ps OB KU hk hi I st hit fe fi hq hS hl A1 hR;have kA:i=xs.length:=by omega
  subst kA;refine codeAny_builtin PySem.F.entry_extend_loop ?_;rw [Around.under_plainId PySem.F.plain_extend_loop _];show wpAny _ A.in1 (pyNext (.ref e) >>= _) _ _ s
  obtain ⟨its,rv,p',hz⟩:=I.tuple hq;have p:s.heap.IsTuple a its.toArray:=p';have hlen:=rv.length;obtain ⟨o1,q1,c1,d1⟩:=id hit;obtain ⟨o2,q2,c2,n2,d2⟩:=id p;have pV:a≠it:=fun z=>by
   subst z;rw [q1] at q2;cases q2;rw [c1] at c2;exact absurd c2 (by simp)
  have D:=Gw (prog:=X.prog) (w:=X.w) (A:=A.in1.in1) hA it a pV its.toArray;have hsz:its.toArray.size=xs.length:=by simp;omega
  have ma:s.heap.IsTupleIter it a its.toArray.size/\s.heap.IsTuple a its.toArray:=by rw [hsz];exact ⟨hit,p⟩
  have fin:∀ h',Heap.ExtBut it s.heap h'->R (.ok (.ret res)) { s with heap:=h' }:=fun h' eb=>by
   obtain ⟨xl,ua,KP,AV,AW,AX⟩:=fi;exact hR { s with heap:=h' } H ps (I.turned (t':=s.toks) (fun b o hb e=>eb b o hb e) xl ua AV AW AX) (fun _ _ _ q=>q) hS hl A1 KU
  rcases st with ⟨old,he⟩ | ⟨T0,b,ys,old,ml,he⟩
  .exact z0 (wpAny_pyNext_enum_endD D he ma fun h' eb=>ve (fin h' eb))
  .exact z0 (Qq D he ma fun h' eb=>ve (fin h' eb))
 | succ k ih =>
  intro i s H ps OB KU hk hi I st hit fe fi hq hS hl A1 hR;have bj:i < xs.length:=by omega
  refine codeAny_builtin PySem.F.entry_extend_loop ?_;rw [Around.under_plainId PySem.F.plain_extend_loop _];show wpAny _ A.in1 (pyNext (.ref e) >>= _) _ _ s
  obtain ⟨its,rv,p',hz⟩:=I.tuple hq;have p:s.heap.IsTuple a its.toArray:=p';have hlen:=rv.length;obtain ⟨o1,q1,c1,d1⟩:=id hit;obtain ⟨o2,q2,c2,n2,d2⟩:=id p;have pV:a≠it:=fun z=>by
   subst z;rw [q1] at q2;cases q2;rw [c1] at c2;exact absurd c2 (by simp)
  have xa:∃ oe,s.heap.get? e=some oe /\ oe.cls=.type "enumerate":=by
   rcases st with ⟨old,he⟩ | ⟨T0,b,ys,old,ml,he⟩
   .exact ⟨_,he,rfl⟩
   .exact ⟨_,he,rfl⟩
  obtain ⟨oe,qe,ce⟩:=xa;have GI:e≠a:=fun z=>by
   subst z;rw [qe] at q2;cases q2;rw [ce] at c2;exact absurd c2 (by simp)
  have D:=Gw (prog:=X.prog) (w:=X.w) (A:=A.in1.in1) hA it a pV its.toArray;have xj:i < its.toArray.size:=by simp;omega
  have hx:xs[i]?=some xs[i]:=by simp [bj]
  obtain ⟨u,hu,ru⟩:=rv.get hx;have xo:S≠e:=aq hS fe.1;have A2:S≠it:=aq hS fi.1;have go:∀ (x':Value) (h':Heap) (tk:Nat),its.toArray[i]?=some x'->OA e it (upd H s.heap.objs.size (.tup [.int i,xs[i]])) h' (i+1)->h'.IsTupleIter it a (i+1) ->
    h'.get? s.heap.objs.size=some { cls:=.type "tuple",data:=.seq #[.int i tk,x'] } -> h'.objs.size=s.heap.objs.size+1 -> (∀ b o,b ≠ e -> b ≠ it -> s.heap.get? b=some o -> h'.get? b=some o) ->
    wpAny (model X.prog X.w) A.in1 (Builtin.List.listUpdate (.ref S) (·.push (.ref s.heap.objs.size)) >>= fun _=>again (.builtin "list.extend.loop" ⟨[.ref S,.ref e,res],[]⟩))
     (fun fin s'=>match fin with | .done f=>R (.ok f) s' | .again c'=>c'.quiet=true/\codeAny (model X.prog X.w) A c' R s') (fun e s'=>R (.error e) s') { s with heap:=h',toks:=tk+1 }:=by
   intro x' h' tk ng KG fK hT KW GU;have ex:x'=u:=by
    have z:its.toArray[i]?=some u:=by simpa using hu
    rw [z] at ng;exact (y0 ng).symm
   subst ex;have gx:H s.heap.objs.size=none:=I.az.fresh (vE _);have I2:=RK (tk':=tk+1) I fe fi GU hT ru;have OC:S≠s.heap.objs.size:=aq hS gx;have B8:(upd H s.heap.objs.size (.tup [.int i,xs[i]])) S=some (.lst (ps.map V.ref)):=by rw [ak OC];exact hS
   obtain ⟨z,cX,n2,r2,k_,e2⟩:=I2.ph B8;refine z0 ?_;show wpAny _ _ (updateSeq S (·.push (.ref s.heap.objs.size))) _ _ _
   have OE:cX.length=i:=by rw [<- k_,List.length_map];exact hl
   refine wpAny_updateSeq e2 rfl ?_ (by rw [List.size_toArray];omega) (by show (cX.toArray.push _).size<=sizeLine+1;rw [Array.size_push,List.size_toArray];omega);refine ve ⟨plainId_quiet PySem.F.plain_extend_loop _,?_⟩;have I3:=I2.eh (t':=tk+1) (its':=cX++[.ref s.heap.objs.size]) (ys:=(ps++[s.heap.objs.size]).map V.ref) (f:=(·.push (.ref s.heap.objs.size))) B8 e2 (by simp) (by rw [List.map_append];exact r2.append (.cons rfl .nil)) (by rw [List.length_map,List.length_append,List.length_singleton];omega);have GV:∀ b,b≠S->(upd (upd H s.heap.objs.size (.tup [.int i,xs[i]])) S (.lst ((ps++[s.heap.objs.size]).map V.ref))) b=(upd H s.heap.objs.size (.tup [.int i,xs[i]])) b:=fun b hb=>ak hb
   have elt:e < s.heap.objs.size:=vz qe;have B7:it < s.heap.objs.size:=vz q1;have oldK:∀ b o,b≠S->H b=some o->(upd (upd H s.heap.objs.size (.tup [.int i,xs[i]])) S (.lst ((ps++[s.heap.objs.size]).map V.ref))) b=some o:=fun b o hb q=>by
    rw [GV b hb,ak (aq q gx)];exact q
   refine ih (i+1) _ _ (ps++[s.heap.objs.size]) (by show n0<=(h'.update S _).objs.size;rw [Heap.size_update,KW];omega) (fun p hp=>(ym.mp hp).elim (KU p) fun z=>by rw [List.mem_singleton.mp z];exact OB) (by omega) bj I3 ?_ ?_ ?_ ?_ ?_ aC (by rw [List.length_append,List.length_singleton];omega) ?_ fun s' H' mx I' k' nX fF ue fm=>?_
   ·-- Ap enumerate object
    rcases KG with ⟨old,he⟩ | ⟨T0,b,ys,old,ml,he⟩
    .exact .inl ⟨old,(yb _ _ xo).trans he⟩
    .exact .inr ⟨T0,b,ys,old,by rw [ak (Eo ml B8 (by intro z;cases z))];exact ml,(yb _ _ xo).trans he⟩
   .obtain ⟨o,q,r⟩:=fK;exact ⟨o,(yb _ _ A2).trans q,r⟩
   .exact ⟨by rw [GV e (Ne.symm xo),ak (Nat.ne_of_lt elt)];exact fe.1,fe.2⟩
   .exact ⟨by rw [GV it (Ne.symm A2),ak (Nat.ne_of_lt B7)];exact fi.1,fi.2⟩
   .refine zp hq fun o lx q=>oldK a o ?_ q
    exact Eo q hS (lx _)
   .intro j pp x hj K0;by_cases di:j < ps.length
    .rw [List.getElem?_append_left di] at hj;have q:=A1 j pp x hj K0;exact oldK pp _ (Eo q hS (by intro z;cases z)) q
    .have TK:j=i:=by
      have:=(yi.mp hj).1;rw [List.length_append,List.length_singleton] at this;omega
     subst TK;rw [List.getElem?_append_right (by omega),hl] at hj;simp at hj;subst hj;rw [hx] at K0;cases K0;rw [GV _ (Ne.symm OC),aC]
   .exact hR s' H' mx I' (fun b o hb q=>k' b o hb (oldK b o hb q)) nX fF ue fm
  rcases st with ⟨old,he⟩ | ⟨T0,b,ys,old,ml,he⟩
  .refine z0 (wpAny_pyNext_enum_itemD D he ⟨hit,p⟩ xj nV (by simp [nV,GI]) fun x' h' tk xk lF iu hT hsz hk=>?_);exact go x' h' tk xk (.inr ⟨s.heap.objs.size,false,_,x',aC,by simpa using lF⟩) iu.1 hT hsz hk
  .obtain ⟨o0,q0⟩:∃ o0,s.heap.get? T0=some o0:=by
    obtain ⟨_,_,_,o0,q0,_⟩:=(show bO X.prog X.w H s.heap T0 (.tup ys) from I.az T0 _ ml);exact ⟨o0,q0⟩
   have gx:H s.heap.objs.size=none:=I.az.fresh (vE _);refine z0 (Lg D he q0 (aq ml fe.1) (aq ml fi.1) ⟨hit,p⟩ xj nV (by simp [nV,GI]) fun x' h' tk xk lF iu hT hsz hk=>?_);exact go x' h' tk xk (.inr ⟨T0,true,ys,old,by rw [ak (aq ml gx)];exact ml,by simpa using lF⟩) iu.1 hT hsz hk
def TL (K:zd) (ta:TA):TE:=fun Z H Q=>ta Z H fun vs H1=>∃ a xs,vs=[.ref a]/\cb K H1 a xs /\
 ∀ (S:Addr) (H':Hp) (ps:List Addr),H1 S=none->(∀ p∈ps,H1 p=none)->(∀ b o,H1 b=some o->H' b=some o)->H' S=some (.lst (ps.map V.ref))->ps.length=xs.length ->
  (∀ (j:Nat) p x,ps[j]?=some p->xs[j]?=some x->H' p=some (.tup [.int j,x]))->Q (.ref S) H'
def Jj {a:Expr}{ta:TA}{p pos p2 kl:Pos} (hc:X.calm=true) (hg:Gl X "enumerate") (hm:X.mg "enumerate"=none) (B9:Gl X "list") (DJ:X.mg "list"=none) (ha:PA X [a] ta) (hs:starEach [a] X.env=[(false,eval a X.env)]:=by rfl) :
  PE X (.Call (.Name "list" p) [.Call (.Name "enumerate" p2) [a] [] kl] [] pos) (TL X.K ta):=by
 intro ab s Z H Q I h;refine Call_ (gY I B9 DJ boot_list (yT (Calls.spliced_cons ?_) rfl rfl));refine Call_ (gY I hg hm uW (yT (a7 (ha kl ab s Z H _ I h) fun us s1 ⟨vs,H1,I1,r1,q1⟩=>?_) hs rfl));obtain ⟨b,xs,rfl,hq,q⟩:=q1;obtain ⟨u,rfl,ru⟩:=vals1 r1;cases ru;obtain ⟨its,rv,p0,hz⟩:=I1.tuple hq;refine Ag (show s1.heap.IsTuple b its.toArray from p0) fun h' he hit hsz hk=>?_
 refine Calls.spliced_nil ?_;have I2:Inv X ab Z H1 { s1 with heap:=h' }:=I1.kept (t':=s1.toks) hk;have fe:eY X ab H1 (s1.heap.objs.size+1):=I1.gw (Nat.le_succ _) (I1.az.fresh (Nat.le_succ _));have fi:eY X ab H1 s1.heap.objs.size:=I1.gw (vE _) (I1.az.fresh (vE _));refine callType_codes (Q₁:=fun obj aS=>obj=.ref h'.objs.size /\ aS={ s1 with heap:=h'.push { cls:=.type "list",data:=.seq #[] } }) PySem.F.called_list (PySem.F.typeCall_list_1 _) PySem.F.entry_list_init
  (code_list_new _ ⟨rfl,rfl⟩) fun obj aS e_=>?_
 obtain ⟨rfl,rfl⟩:=e_;have hS:(h'.push { cls:=.type "list",data:=.seq #[] }).get? h'.objs.size=some { cls:=.type "list",data:=.seq #[] }:=vy _ rfl
 have xo:H1 h'.objs.size=none:=I2.az.fresh (vE _);have I3:Inv X ab Z (upd H1 h'.objs.size (.lst [])) { s1 with heap:=h'.push { cls:=.type "list",data:=.seq #[] } } :=
  I2.laid (t':=s1.toks) (fun b o e=>vw _ e) (vE _) ⟨by simp,[],0,.nil,hS⟩
 refine ⟨⟨_,hS,rfl⟩,PySem.F.args_list_init_2 _ _,?_⟩;have elt:s1.heap.objs.size+1 < h'.objs.size:=by rw [hsz];exact jv _
 have B7:s1.heap.objs.size < h'.objs.size:=Nat.lt_trans (jv _) elt;have DL:h'.objs.size≠s1.heap.objs.size+1:=vS elt;have A2:h'.objs.size≠s1.heap.objs.size:=vS B7;show wpAny _ _ (do let old <- Builtin.List.listItems (.ref h'.objs.size);Builtin.List.listUpdate (.ref h'.objs.size) (fun _=>#[]);letGo old.toList.reverse;Builtin.List.listExtendWith (.ref h'.objs.size) (.ref (s1.heap.objs.size+1)) .none) _ _ _
 refine z0 ?_;unfold Builtin.List.listItems;refine z0 (wpAny_seqItems hS rfl (ve ?_));show wpAny _ _ (updateSeq h'.objs.size (fun _=>#[]) >>= fun _=>letGo (#[]:zt).toList.reverse >>= fun _=>Builtin.List.listExtendWith (.ref h'.objs.size) (.ref (s1.heap.objs.size+1)) .none) _ _ _
 refine z0 (wpAny_updateSeq hS rfl ?_);have I4:=I3.eh (t':=s1.toks) (its':=[]) (ys:=[]) (f:=fun _=>#[]) aC (its:=[]) hS rfl .nil (by simp);rw [Cu] at I4;have B8:=ye (Obj.mapSeq (fun _=>(#[]:zt))) hS rfl;have TM:IsEnum (h'.push { cls:=.type "list",data:=.seq #[] }) (s1.heap.objs.size+1) s1.heap.objs.size 0 .none:=vw _ he
 have K2:IsEnum ((h'.push { cls:=.type "list",data:=.seq #[] }).update h'.objs.size (Obj.mapSeq (fun _=>(#[]:zt)))) (s1.heap.objs.size+1) s1.heap.objs.size 0 .none:=(yb _ _ DL).trans TM
 have K_:((h'.push { cls:=.type "list",data:=.seq #[] }).update h'.objs.size (Obj.mapSeq (fun _=>(#[]:zt)))).IsTupleIter s1.heap.objs.size b 0:=by
  obtain ⟨o,e,r⟩:=hit;exact ⟨o,(yb _ _ A2).trans (vw _ e),r⟩
 refine z0 (wpAny_letGo ?_);unfold Builtin.List.listExtendWith;have K':Shared.TypeIs { s1 with heap:=(h'.push { cls:=.type "list",data:=.seq #[] }).update h'.objs.size (Obj.mapSeq (fun _=>(#[]:zt))) } (.ref (s1.heap.objs.size+1)) "enumerate":=⟨_,K2,rfl⟩
 refine z0 (wpAny_typeOf K' ?_);have h1:Builtin.List.listSameRef (.ref h'.objs.size) (.ref (s1.heap.objs.size+1))=false:=by simp [Builtin.List.listSameRef,DL]
 have h2:(Value.type "enumerate" == Value.type "list")=false:=by decide
 have h3:(Value.type "enumerate" == Value.type "tuple")=false:=by decide
 simp only [h1,h2,h3,Bool.or_false,Bool.false_eq_true,if_false];refine z0 (wpAny_pyIter_enum K2 ?_);refine z0 (wpAny_holding ?_);unfold Builtin.List.listLengthHint;refine z0 (wpAny_specialOf K' Ip ?_);show wpAny _ _ (specialOf (Value.ref (s1.heap.objs.size+1)) (Str.ofString "__length_hint__") >>= _) _ _ _
 refine z0 (wpAny_specialOf K' Hq ?_);refine ve ?_;simp only [Bool.true_or,if_true];refine z0 (wpAny_rule ?_);refine z0 ?_;show wpAny _ _ (updateSeq h'.objs.size (·.push .none) >>= fun _=>updateSeq h'.objs.size (·.pop)) _ _ _
 refine z0 (wpAny_updateSeq B8 rfl ?_);have OF:=ye (Obj.mapSeq (·.push Value.none)) B8 rfl;refine wpAny_updateSeq (hz:=by seq_fits) OF rfl ?_;obtain ⟨z4,DM,n4,r4,TN,e4⟩:=I4.ph aC;have TR:DM=[]:=by
  cases DM with
  | nil=>rfl
  | cons a l=>simp at TN
 subst TR;have I5:=I4.eh (t':=s1.toks) (its':=[.none]) (ys:=[.ai]) (f:=(·.push Value.none)) aC e4 (by simp) (.cons rfl .nil) (by show 1<=sizeLine;decide);rw [Cu] at I5;obtain ⟨z5,TU,n5,r5,WP,e5⟩:=I5.ph aC;obtain ⟨u5,TZ,W1⟩:=r5.one;subst TZ;have I6:=I5.eh (t':=s1.toks) (its':=[]) (ys:=[]) (f:=(·.pop)) aC e5 (by simp) .nil (by simp);rw [Cu] at I6;refine ve ⟨plainId_quiet PySem.F.plain_extend_loop _,?_⟩;refine Ec (A:=X.A.in1) (a:=b) (e:=s1.heap.objs.size+1) (it:=s1.heap.objs.size) (S:=h'.objs.size) (xs:=xs) (n0:=s1.heap.objs.size) (I1.ok.hd hc) (Nat.succ_ne_self _) xs.length 0 _ (upd H1 h'.objs.size (.lst [])) [] ?_ (fun _ z=>by simp at z) rfl (v3 _) I6 ?_ ?_ ?_ ?_ ?_ aC rfl (fun j p x z=>by simp at z) fun s' H' mx I' k' nX fF ue kN=>?_
 .exact Nat.le_of_lt (Nat.lt_trans B7 (vz (show Heap.get? _ h'.objs.size=some _ from ye (Obj.mapSeq (·.pop)) OF rfl)))
 .exact .inl ⟨.none,(yb _ _ DL).trans ((yb _ _ DL).trans K2)⟩
 .obtain ⟨o,e,r⟩:=K_;exact ⟨o,(yb _ _ A2).trans ((yb _ _ A2).trans e),r⟩
 .exact ⟨by rw [ak (Ne.symm DL)];exact fe.1,fe.2⟩
 .exact ⟨by rw [ak (Ne.symm A2)];exact fi.1,fi.2⟩
 .exact zp hq fun o lx e=>by rw [ak (aq e xo)];exact e
 .refine ⟨rfl,.ref h'.objs.size,H',I',rfl,q _ H' mx xo (fun p hp=>I1.az.fresh (kN p hp)) (fun c o e=>k' c o (aq e xo) (by rw [ak (aq e xo)];exact e)) nX fF ue⟩
end
end Mi
namespace Mi
open PySem PySem.W PyProof.Rows
def dH {α:Type} (r:Nat->Int) (N:Nat):KasT α->(α->Prop)->Prop
 | .ret a,Q=>Q a
 | .ask i j k,Q=>i < N/\j < N/\dH r N (k (decide (r i < r j))) Q
theorem dH.bind {α β:Type}{r:Nat->Int}{N:Nat}{f:α->KasT β}{Q:β->Prop}:∀ {t:KasT α},dH r N t (fun a=>dH r N (f a) Q)->dH r N (t.bind f) Q
 | .ret a,h=>h
 | .ask i j k,h=>⟨h.1,h.2.1,dH.bind (t:=k _) h.2.2⟩
theorem dH.wp {α:Type}{r:Nat->Int}{N:Nat}{cmp:Nat->Nat->(Bool->Shared->Prop)->Shared->Prop}{s:Shared} (hc:∀ i j C,i < N->j < N->C (decide (r i < r j)) s->cmp i j C s) {Q:α->Shared->Prop} :
  ∀ {t:KasT α},dH r N t (fun a=>Q a s)->t.kasWp cmp Q s
 | .ret a,h=>h
 | .ask i j k,h=>hc i j _ h.1 h.2.1 (dH.wp hc (t:=k _) h.2.2)
theorem Dl {α:Type}{r:Nat->Int}{N:Nat}{Q Q':α->Prop}:∀ {t:KasT α},dH r N t Q->(∀ a,Q a->Q' a)->dH r N t Q'
 | .ret a,h,k=>k a h
 | .ask i j f,h,k=>⟨h.1,h.2.1,Dl (t:=f _) h.2.2 k⟩
noncomputable def Kp (r:Nat->Int) (p:Array Nat) (i:Nat):Int:=match p[i]? with
 | some x=>r x
 | none=>0
def jY (r:Nat->Int) (p:Array Nat) (k:Nat):Prop:=∀ i j,i<=j->j < k->Kp r p i<=Kp r p j
def Ad (r:Nat->Int) (p:Array Nat) (k:Nat):Prop:=∀ i j,i<=j->j < k->Kp r p j<=Kp r p i
structure PB (N:Nat) (p:Array Nat):Prop where
 perm:p.Perm (List.range N).toArray
variable {N:Nat}{p:Array Nat}
def PB.size (h:PB N p):p.size=N:=by rw [h.perm.size_eq];simp
variable {i:Nat}
def PB.lt (h:PB N p)  (hi:i < N):p.getD i 0 < N:=by
 have hs:=h.size;have e:p.getD i 0=p[i]:=by simp [Array.getD,hs,hi]
 have hm:p[i]∈(List.range N):=by
  have:=(Array.perm_iff_toList_perm.mp h.perm).mem_iff (a:=p[i]);simp at this;simpa using this
 rw [e];simpa using hm
def PB.DS (h:PB N p) (i j d:Nat):PB N (mirror p i j d):=⟨(mirror_perm _ _ _ _).trans h.perm⟩
def PB.T_ (h:PB N p) (i d:Nat):PB N (bubble p i d):=⟨(bubble_perm _ _ _).trans h.perm⟩
variable {r:Nat->Int}{N:Nat}
def JC (hi:i < p.size):r (p.getD i 0)=Kp r p i:=by
 unfold Kp;simp [Array.getD,hi]
variable {j:Nat}
def pB {q:Array Nat} (h:p[i]?=q[j]?):Kp r p i=Kp r q j:=by unfold Kp;rw [h]
variable {xs:Array Nat}
def Dt {src d:Nat} (hs:src < xs.size) (hd:d<=src) (k:Nat) :
  Kp r (bubble xs src d) k=if k=src - d then Kp r xs src else if src - d < k/\k<=src then Kp r xs (k - 1) else Kp r xs k:=by
 have e:=getElem?_bubble hs d hd k;by_cases h1:k=src - d
 .rw [if_pos h1] at e ⊢;exact pB e
 .rw [if_neg h1] at e ⊢;by_cases h2:src - d < k/\k<=src
  .rw [if_pos h2] at e ⊢;exact pB e
  .rw [if_neg h2] at e ⊢;exact pB e
def uV (hj:j<=xs.size) (k:Nat) :
  Kp r (mirror xs i j ((j - i) / 2)) k=if i<=k/\k < j then Kp r xs (i+j - 1 - k) else Kp r xs k:=by
 have e:=getElem?_mirror_all (i:=i) hj k;by_cases h1:i<=k/\k < j
 .rw [if_pos h1] at e ⊢;exact pB e
 .rw [if_neg h1] at e ⊢;exact pB e
def fW (hj:j<=xs.size) (heq:∀ k,i<=k->k < j->Kp r xs k=Kp r xs (j - 1)) (k:Nat) :
  Kp r (mirror xs i j ((j - i) / 2)) k=Kp r xs k:=by
 rw [uV hj];split
 .rw [heq _ (by omega) (by omega),heq k (by omega) (by omega)]
 .rfl
def G7 {α:Type}{k:Bool->KasT α}{Q:α->Prop} (hB:PB N p) (hi:i < N) (hj:j < N) (h:dH r N (k (decide (Kp r p i < Kp r p j))) Q):dH r N (.ask (p.getD i 0) (p.getD j 0) k) Q:=by
 refine ⟨hB.lt hi,hB.lt hj,?_⟩;rw [JC (r:=r) (p:=p) (i:=i) (by rw [hB.size];exact hi),JC (r:=r) (p:=p) (i:=j) (by rw [hB.size];exact hj)];exact h
theorem Tq {p:Array Nat}{b_:Nat} (hB:PB N p) (hz:b_<=N):∀ (f a:Nat) {Q:Nat->Prop},b_ - a=f->1<=a->a<=b_->jY r p a ->
  (∀ n,a<=n->n<=b_->jY r p n->(n=b_\/Kp r p n < Kp r p (n - 1))->Q n)->dH r N (kas_asc p f a) Q
 | 0,a,Q,hf,h1,ha,hs,h=>h a (vE _) ha hs (.inl (by omega))
 | f+1,a,Q,hf,h1,ha,hs,h=>by
  refine G7 hB (by omega) (by omega) ?_;by_cases df:Kp r p a < Kp r p (a - 1)
  .simp only [df,decide_true,if_true];exact h a (vE _) ha hs (.inr df)
  .simp only [df,decide_false,Bool.false_eq_true,if_false];refine Tq hB hz f (a+1) (by omega) (by omega) (by omega) (fun i j la hj=>?_) fun n h1 h2 h3 h4=>h n (by omega) h2 h3 h4
   by_cases rq:j < a
   .exact hs i j la rq
   .have ui:j=a:=by omega
    subst ui;by_cases mi:i=j
    .subst mi;exact Int.le_refl _
    .exact Int.le_trans (hs i (j - 1) (by omega) (by omega)) (Int.not_lt.mp df)
variable {n b_:Nat}{Q:Nat × Array Nat->Prop}
def Og (hB:PB N p) (hz:b_<=N) (h1:1<=n) (hn:n<=b_) (hs:Ad r p n)
  (h:∀ m p',PB N p'->1<=m->m<=b_->jY r p' m->Q (m,p')):dH r N (kas_tail3 n b_ p) Q:=by
 unfold kas_tail3 kas_rev;have hsz:n<=p.size:=by rw [hB.size];omega
 refine dH.bind (Tq (hB.DS _ _ _) hz _ n rfl h1 hn (fun i j la hj=>?_) fun m OG DT T' _=>h m _ (hB.DS _ _ _) (by omega) DT T');rw [uV hsz,uV hsz,if_pos (by omega),if_pos (by omega)];exact hs _ _ (by omega) (by omega)
theorem Fb {b_:Nat} (hz:b_<=N):∀ (f:Nat) (p:Array Nat) (x q:Nat) {Q:Array Nat × Nat × Nat->Prop},PB N p->b_ - x=f->1<=x->x<=b_->Ad r p x->q+1<=x ->
  (∀ i,x - (q+1)<=i->i < x->Kp r p i=Kp r p (x - 1)) ->
  (∀ p' m rL,PB N p'->x<=m->m<=b_->Ad r p' m->rL+1<=m->(∀ i,m - (rL+1)<=i->i < m->Kp r p' i=Kp r p' (m - 1))->Q (p',m,rL))->dH r N (kas_desc f p x q) Q
 | 0,p,x,q,Q,hB,hf,h1,hx,hs,hq,he,h=>h p x q hB (vE _) hx hs hq he
 | f+1,p,x,q,Q,hB,hf,h1,hx,hs,hq,he,h=>by
  have hsz:x<=p.size:=by rw [hB.size];omega
  refine G7 hB (by omega) (by omega) ?_;by_cases df:Kp r p x < Kp r p (x - 1)
  .simp only [df,decide_true,if_true];have xp:∀ xs:Array Nat,(∀ k,Kp r xs k=Kp r p k)->Ad r xs (x+1):=by
    intro xs hk i j la hj;rw [hk,hk];by_cases rq:j < x
    .exact hs i j la rq
    .have ui:j=x:=by omega
     subst ui;by_cases mi:i=j
     .subst mi;exact Int.le_refl _
     .exact Int.le_trans (Int.le_of_lt df) (hs i (j - 1) (by omega) (by omega))
   by_cases rQ:q > 0
   .rw [if_pos rQ];refine Fb hz f _ (x+1) 0 (hB.DS _ _ _) (by omega) (by omega) (by omega) (xp _ (fW hsz he)) (by omega) (fun i h1 h2=>by congr 1;omega) fun p' m rL a b c d e g=>h p' m rL a (by omega) c d e g
   .rw [if_neg rQ];exact Fb hz f _ (x+1) 0 hB (by omega) (by omega) (by omega) (xp _ fun _=>rfl) (by omega) (fun i h1 h2=>by congr 1;omega) fun p' m rL a b c d e g=>h p' m rL a (by omega) c d e g
  .simp only [df,decide_false,Bool.false_eq_true,if_false];refine G7 hB (by omega) (by omega) ?_;by_cases my:Kp r p (x - 1) < Kp r p x
   .simp only [my,decide_true,if_true];exact h p x q hB (vE _) (by omega) hs hq he
   .simp only [my,decide_false,Bool.false_eq_true,if_false];have DU:Kp r p x=Kp r p (x - 1):=by omega
    refine Fb hz f _ (x+1) (q+1) hB (by omega) (by omega) (by omega) (fun i j la hj=>?_) (by omega) (fun i h1 h2=>?_) fun p' m rL a b c d e g=>h p' m rL a (by omega) c d e g
    .by_cases rq:j < x
     .exact hs i j la rq
     .have ui:j=x:=by omega
      subst ui;by_cases mi:i=j
      .subst mi;exact Int.le_refl _
      .rw [DU];exact hs i (j - 1) (by omega) (by omega)
    .rw [show x+1 - 1=x by omega];by_cases A3:i=x
     .subst A3;rfl
     .rw [DU];exact he i (by omega) (by omega)
def CP (hB:PB N p) (hz:b_<=N) (uj:n+1<=b_) (hs:Ad r p (n+1))
  (h:∀ m p',PB N p'->1<=m->m<=b_->jY r p' m->Q (m,p')):dH r N (kas_descPart n b_ p) Q:=by
 unfold kas_descPart;refine dH.bind (Fb hz _ p (n+1) 0 hB rfl (by omega) uj hs (by omega) (fun i h1 h2=>by congr 1;omega) fun p' m rL Lc OG DT iX hq he=>?_);dsimp only;have hsz:m<=p'.size:=by rw [Lc.size];omega
 by_cases rQ:rL > 0
 .rw [if_pos rQ];refine Og (Lc.DS _ _ _) hz (by omega) DT (fun i j la hj=>?_) h;have e1:=fW (r:=r) hsz he i;have e2:=fW (r:=r) hsz he j;show Kp r (mirror p' _ _ _) j<=Kp r (mirror p' _ _ _) i
  rw [e1,e2];exact iX i j la hj
 .rw [if_neg rQ];exact Og Lc hz (by omega) DT iX h
def Up (hB:PB N p) (hz:b_<=N) (h1:1<=b_)
  (h:∀ m p',PB N p'->1<=m->m<=b_->jY r p' m->Q (m,p')):dH r N (kas_count b_ p) Q:=by
 unfold kas_count;refine dH.bind (Tq hB hz _ 1 rfl (vE 1) h1 (fun i j la hj=>by have:i=j:=(by omega);subst this;exact Int.le_refl _) fun n B_ mh GW UA=>?_);by_cases uj:n=b_
 .rw [if_pos (by simpa using uj)];exact h n p hB B_ mh GW
 .rw [if_neg (by simpa using uj)];have bj:Kp r p n < Kp r p (n - 1):=UA.resolve_left uj;by_cases OH:n > 1
  .rw [if_pos OH];refine G7 hB (by omega) (by omega) ?_;by_cases xv:Kp r p 0 < Kp r p (n - 1)
   .simp only [xv,decide_true,if_true];exact h n p hB B_ mh GW
   .simp only [xv,decide_false,Bool.false_eq_true,if_false];have hsz:n<=p.size:=by rw [hB.size];omega
    have cy:∀ k,0<=k->k < n->Kp r p k=Kp r p (n - 1):=by
     intro k _ hk;have a1:=GW 0 k (by omega) hk;have a2:=GW k (n - 1) (by omega) (by omega);omega
    refine CP (hB.DS _ _ _) hz (by omega) (fun i j la hj=>?_) h;have e1:=fW (r:=r) hsz cy i;have e2:=fW (r:=r) hsz cy j;show Kp r (mirror p _ _ _) j<=Kp r (mirror p _ _ _) i
    rw [e1,e2];by_cases Ll:j < n
    .rw [cy i (by omega) (by omega),cy j (by omega) Ll];exact Int.le_refl _
    .have ui:j=n:=by omega
     subst ui;by_cases mi:i=j
     .subst mi;exact Int.le_refl _
     .rw [cy i (by omega) (by omega)];exact Int.le_of_lt bj
  .rw [if_neg OH];have Lm:n=1:=by omega
   subst Lm;refine CP hB hz (by omega) (fun i j la hj=>?_) h;by_cases mi:i=j
   .subst mi;exact Int.le_refl _
   .have UB:i=0:=by omega
    have UC:j=1:=by omega
    subst UB;subst UC;exact Int.le_of_lt bj
theorem Hw {p:Array Nat}{k:Nat} (hB:PB N p) (hk:k < N) (hs:jY r p k):∀ (f l rr:Nat) {Q:Nat->Prop},l<=rr->rr<=k->rr - l<=f->(∀ i,i < l->Kp r p i<=Kp r p k)->(∀ i,rr<=i->i < k->Kp r p k < Kp r p i) ->
  (∀ l,l<=k->(∀ i,i < l->Kp r p i<=Kp r p k)->(∀ i,l<=i->i < k->Kp r p k < Kp r p i)->Q l)->dH r N (kas_place p k f l rr) Q
 | 0,l,rr,Q,UD,UE,hm,iq,B',h=>h l (by omega) iq fun i h1 h2=>B' i (by omega) h2
 | f+1,l,rr,Q,UD,UE,hm,iq,B',h=>by
  unfold kas_place;by_cases sR:l ≥ rr
  .rw [if_pos sR];exact h l (by omega) iq fun i h1 h2=>B' i (by omega) h2
  .rw [if_neg sR];refine G7 hB hk (by omega) ?_;by_cases df:Kp r p k < Kp r p ((l+rr) / 2)
   .simp only [df,decide_true,if_true];refine Hw hB hk hs f l _ (by omega) (by omega) (by omega) iq (fun i h1 h2=>?_) h;exact Int.lt_of_lt_of_le df (hs _ _ h1 h2)
   .simp only [df,decide_false,Bool.false_eq_true,if_false];refine Hw hB hk hs f _ rr (by omega) (by omega) (by omega) (fun i h1=>?_) B' h;exact Int.le_trans (hs i ((l+rr) / 2) (by omega) (by omega)) (Int.not_lt.mp df)
theorem Zd {b_:Nat} (hz:b_<=N):∀ (f:Nat) (p:Array Nat) (k:Nat) {Q:Array Nat->Prop},PB N p->b_ - k=f->k<=b_->jY r p k->(∀ p',PB N p'->jY r p' b_->Q p')->dH r N (kas_bin f p k) Q
 | 0,p,k,Q,hB,hf,hk,hs,h=>h p hB (by rw [show b_=k by omega];exact hs)
 | f+1,p,k,Q,hB,hf,hk,hs,h=>by
  refine dH.bind (Hw hB (by omega) hs k 0 k (by omega) (by omega) (by omega) (fun i h=>by omega) (fun i h1 h2=>by omega) fun l OI iq B'=>?_);refine Zd hz f _ (k+1) (hB.T_ _ _) (by omega) (by omega) (fun i j la hj=>?_) h;have sQ:k < p.size:=by rw [hB.size];omega
  rw [Dt sQ (by omega),Dt sQ (by omega),show k - (k - l)=l by omega]
  repeat' split
  all_goals first
   | (exfalso;omega)
   | exact Int.le_refl _
   | exact iq _ (by omega)
   | exact Int.le_of_lt (B' _ (by omega) (by omega))
   | exact hs _ _ (by omega) (by omega)
def UH (h1:1<=N):dH r N (kas_sort N) (fun p=>PB N p/\jY r p N):=by
 unfold kas_sort;refine dH.bind (Up (p:=(List.range N).toArray) ⟨Array.Perm.refl _⟩ (vE _) h1 fun m p' hB OG DT hs=>?_);dsimp only;by_cases bj:m < N
 .rw [if_pos bj];rw [show max m 1=m by omega];exact Zd (vE _) _ p' m hB rfl (by omega) hs fun p' a b=>⟨a,b⟩
 .rw [if_neg bj];exact ⟨hB,by rw [show N=m by omega];exact hs⟩
end Mi
namespace Mi
open PySem L2
open PyProof.Rows hiding St
mutual
noncomputable def bV:D->D->Bool
 | .int _,.int _=>true
 | .tup a,.tup b=>eV a b
 | .lst a,.lst b=>eV a b
 | _,_=>false
noncomputable def eV:List D->List D->Bool
 | a::as,b::bs=>if a=b then eV as bs else bV a b
 | [],_=>true
 | _::_,[]=>true
end
theorem jQ:∀ {ds:List D}{d:D},bT ds=true->d∈ds->keyOk d=true
 | x::ds,d,h,hd=>by
  rw [bT,Bool.and_eq_true] at h;rcases vV.mp hd with e | hd
  .rw [e];exact h.1
  .exact jQ h.2 hd
def Ob (A:Around) (s:Shared) (u v:Value) (b:Bool):Prop :=
 ∀ (prog:Program) (w:World) (E:zb) (Q:zb),Q (.bool b) s->wpAny (model prog w) A (richCompare .Lt u v) Q E s
section
open PySem.SeqAt
open PySem.AutoSeq1 (wpAny_loadPart')
open PySem.MeetsSeq PySem.MeetsSeq2 PySem.MeetsSeq3
def M7 (l b:Addr) (items gy:zt) (n n2:Nat) (dd o6:zv) (sl sN:zw) (ds es:List D) (hk:bT ds=true) (Cb:bT es=true) (hc:eV ds es=true) :
  Meets (Builtin.«tuple.__lt__» ⟨[.ref l,.ref b],[]⟩)
   (fun A R s=>s.heap.get? l=some { cls:=.type "tuple",dict:=dd,data:=.seq items n,slots:=sl } /\ s.heap.get? b=some { cls:=.type "tuple",dict:=o6,data:=.seq gy n2,slots:=sN } /\
    aF s.heap ds items.toList/\aF s.heap es gy.toList/\A.units+1+ba ds < cLine/\A.units+1+ba es < cLine /\
    (∀ d∈ds,∀ e∈es,∀ u v,bV d e=true->aT s.heap d u->aT s.heap e v->Ob A.in1 s u v (ck d e)) /\
    R (.ok (.ret (.bool (bU ds es)))) s) :=
 .of_wp fun prog w A R s h=>by
  obtain ⟨hp,g,d,tk,os⟩:=s;obtain ⟨hl,hb,hi,hj,XV,ZB,UI,h⟩:=h;have f2:=AutoSeq1.sub_tuple_tuple;have z1:items.size=ds.length:=by rw [hi.length];simp
  have z2:gy.size=es.length:=by rw [hj.length];simp
  have kA:A.in1.units=A.units+1:=rfl
  wp_walk using wpAny_loadPart' hl,wpAny_loadPart' hb,wpAny_forIn_list _ (fun rest b s'=>b.1=none/\s'=⟨hp,g,d,tk,os⟩/\∃ (vs ws:zg) (rV n9:List D),rest=vs.zip ws /\
   aF hp rV vs/\aF hp n9 ws/\bT rV=true/\bT n9=true/\eV rV n9=true/\(∀ x∈rV,x∈ds)/\(∀ x∈n9,x∈es)/\rV.length+gy.size=n9.length+items.size/\R (.ok (.ret (.bool (bU rV n9)))) ⟨hp,g,d,tk,os⟩) _
  case turn =>
   rintro ⟨y,x⟩ rest b s' ⟨nh,rfl,vs,ws,rV,n9,hz,A4,A5,k1,k2,cc,m1,m2,hlen,hR⟩;cases rV with
   | nil=>rw [aF] at A4;subst A4;rw [List.zip_nil_left] at hz;cases hz
   | cons a as =>
    cases n9 with
    | nil=>rw [aF] at A5;subst A5;rw [List.zip_nil_right] at hz;cases hz
    | cons c cs =>
     rw [aF] at A4 A5;obtain ⟨va,UK,rfl,ra,DV⟩:=A4;obtain ⟨vc,vcs,rfl,rc,DZ⟩:=A5;rw [List.zip_cons_cons] at hz;injection hz with UM gU;injection UM with hy hx;subst hy hx;rw [bT,Bool.and_eq_true] at k1 k2;rw [bU] at hR;rw [eV] at cc;simp only [List.length_cons] at hlen;have δ:dep a<=ba ds:=by
      obtain ⟨i,pv,e⟩:=List.getElem_of_mem (m1 a vj);rw [<- e];exact dZ pv
     have ε:dep c<=ba es:=by
      obtain ⟨i,pv,e⟩:=List.getElem_of_mem (m2 c vj);rw [<- e];exact dZ pv
     have he:=pA a c (A:=A.in1) (s:=⟨hp,g,d,tk,os⟩) ra rc (by omega) (by omega);rw [ud k1.1 k2.1] at he;refine z0 (he prog w _ _ ?_);by_cases A6:a=c
     .rw [if_pos A6] at hR cc;rw [decide_eq_true A6]
      wp_walk
      exact ⟨rfl,rfl,_,_,_,_,gU,DV,DZ,k1.2,k2.2,cc,fun x hx=>m1 x (vi _ hx),fun x hx=>m2 x (vi _ hx),by omega,hR⟩
     .rw [if_neg A6] at hR cc;rw [decide_eq_false A6];have UN:=UI a (m1 a vj) c (m2 c vj) _ _ cc ra rc prog w
      wp_walk using UN
      exact ⟨_,rfl,by simpa using hR⟩
  case fin =>
   rintro ⟨b1,b2⟩ s' ⟨nh,rfl,vs,ws,rV,n9,hz,A4,A5,k1,k2,cc,m1,m2,hlen,hR⟩;simp only at nh;subst nh;have hv:bU rV n9=decide (items.size < gy.size):=by
    cases rV with
    | nil =>
     cases n9 with
     | nil =>
      simp only [List.length_nil] at hlen;rw [bU];exact (ya (by omega)).symm
     | cons c cs =>
      simp only [List.length_nil,List.length_cons] at hlen;rw [bU];exact (v6 (by omega)).symm
    | cons a as =>
     cases n9 with
     | nil =>
      simp only [List.length_nil,List.length_cons] at hlen;rw [bU];exact (ya (by omega)).symm
     | cons c cs =>
      rw [aF] at A4 A5;obtain ⟨va,UK,rfl,ra,DV⟩:=A4;obtain ⟨vc,vcs,rfl,rc,DZ⟩:=A5;rw [List.zip_cons_cons] at hz;cases hz
   rw [hv] at hR
   wp_walk
   exact ⟨_,rfl,by simpa [Builtin.Tuple.tupleCompareSizes] using hR⟩
  case h =>
   exact ⟨rfl,rfl,items.toList,gy.toList,ds,es,rfl,hi,hj,hk,Cb,hc,fun _ x=>x,fun _ x=>x,by omega,h⟩
theorem PN:∀ (d e:D) {A:Around}{s:Shared}{u v:Value},keyOk d=true->keyOk e=true->bV d e=true->aT s.heap d u->aT s.heap e v->A.units+dep d < cLine->A.units+dep e < cLine->Ob A s u v (ck d e)
 | .int a,.int b,A,s,u,v,k1,k2,c,r,q,h1,h2=>by
  rw [aT] at r q;obtain ⟨t,rfl⟩:=r;obtain ⟨t',rfl⟩:=q;rw [ck];exact fun prog w E Q h=>HT.Hf A s a t b t' prog w E Q h
 | .tup ds,.tup es,A,s,u,v,k1,k2,c,r,q,h1,h2=>by
  rw [aT] at r q;obtain ⟨l,its,rfl,⟨⟨cls,dd,data,sl⟩,ho,hc,n,hd⟩,rs⟩:=r;obtain ⟨b,cX,rfl,⟨⟨AH,o6,data2,sN⟩,kR,fq,n2,hd2⟩,qs⟩:=q;simp only at hc hd fq hd2;subst hc hd fq hd2;rw [keyOk] at k1 k2;rw [bV] at c;rw [dep] at h1 h2;rw [ck];intro prog w E Q h;refine richCompare_meets_room (op:=.Lt) ⟨_,ho,rfl⟩ ⟨_,kR,rfl⟩ PySem.F.slot_tuple_lt PySem.F.entry_tuple_lt (PySem.F.args_tuple_lt_2 _ _) (M7 l b its.toArray cX.toArray n n2 dd o6 sl sN ds es k1 k2 c)
   ⟨ho,kR,by simpa using rs,by simpa using qs,by omega,by omega,fun d hd e he u v UO rd re=>?_,show Value.bool (bU ds es)≠Value.notImplemented/\Q (.bool (bU ds es)) s from ⟨(fun x=>nomatch x),h⟩⟩ (by omega)
  have kA:A.in1.units=A.units+1:=rfl;have kd:keyOk d=true:=jQ k1 hd;have ke:keyOk e=true:=jQ k2 he;have s1:=List.sizeOf_lt_of_mem hd;have ζ:dep d<=ba ds:=by
   obtain ⟨i,pv,e⟩:=List.getElem_of_mem hd;rw [<- e];exact dZ pv
  have o6:dep e<=ba es:=by
   obtain ⟨i,pv,e⟩:=List.getElem_of_mem he;rw [<- e];exact dZ pv
  exact PN d e kd ke UO rd re (by show A.units+1+_ < _;omega) (by show A.units+1+_ < _;omega)
 | .ai,e,A,s,u,v,k1,k2,c,r,q,h1,h2=>by simp [keyOk] at k1
 | .bl _,e,A,s,u,v,k1,k2,c,r,q,h1,h2=>by simp [keyOk] at k1
 | .lst _,e,A,s,u,v,k1,k2,c,r,q,h1,h2=>by simp [keyOk] at k1
 | .bE _ _,e,A,s,u,v,k1,k2,c,r,q,h1,h2=>by simp [keyOk] at k1
 | .bP _,e,A,s,u,v,k1,k2,c,r,q,h1,h2=>by simp [keyOk] at k1
 | .int _,.ai,A,s,u,v,k1,k2,c,r,q,h1,h2=>by simp [bV] at c
 | .int _,.bl _,A,s,u,v,k1,k2,c,r,q,h1,h2=>by simp [bV] at c
 | .int _,.tup _,A,s,u,v,k1,k2,c,r,q,h1,h2=>by simp [bV] at c
 | .int _,.lst _,A,s,u,v,k1,k2,c,r,q,h1,h2=>by simp [bV] at c
 | .int _,.bE _ _,A,s,u,v,k1,k2,c,r,q,h1,h2=>by simp [bV] at c
 | .int _,.bP _,A,s,u,v,k1,k2,c,r,q,h1,h2=>by simp [bV] at c
 | .tup _,.ai,A,s,u,v,k1,k2,c,r,q,h1,h2=>by simp [bV] at c
 | .tup _,.bl _,A,s,u,v,k1,k2,c,r,q,h1,h2=>by simp [bV] at c
 | .tup _,.int _,A,s,u,v,k1,k2,c,r,q,h1,h2=>by simp [bV] at c
 | .tup _,.lst _,A,s,u,v,k1,k2,c,r,q,h1,h2=>by simp [bV] at c
 | .tup _,.bE _ _,A,s,u,v,k1,k2,c,r,q,h1,h2=>by simp [bV] at c
 | .tup _,.bP _,A,s,u,v,k1,k2,c,r,q,h1,h2=>by simp [bV] at c
termination_by d=>sizeOf d
decreasing_by
 simp only [D.tup.sizeOf_spec];omega
end
end Mi
namespace Mi
open PySem
mutual
theorem xO:∀ (a:D),ck a a=false
 | .int a=>by simp [ck]
 | .tup a=>by rw [ck];exact yE a
 | .ai=>by simp [ck]
 | .bl _=>by simp [ck]
 | .lst a=>by rw [ck];exact yE a
 | .bE _ _=>by simp [ck]
 | .bP _=>by simp [ck]
theorem yE:∀ (a:List D),bU a a=false
 | []=>by simp [bU]
 | a::as=>by rw [bU,if_pos rfl];exact yE as
end
mutual
theorem vH:∀ {a b c:D},ck a b=true->ck b c=true->ck a c=true
 | .int a,b,c,h1,h2=>by
  cases b <;> simp [ck] at h1;cases c <;> simp [ck] at h2 ⊢;omega
 | .tup a,b,c,h1,h2=>by
  cases b <;> simp [ck] at h1;cases c <;> simp [ck] at h2 ⊢;exact BJ h1 h2
 | .ai,b,c,h1,h2=>by simp [ck] at h1
 | .bl _,b,c,h1,h2=>by simp [ck] at h1
 | .lst a,b,c,h1,h2=>by
  cases b <;> simp [ck] at h1;cases c <;> simp [ck] at h2 ⊢;exact BJ h1 h2
 | .bE _ _,b,c,h1,h2=>by simp [ck] at h1
 | .bP _,b,c,h1,h2=>by simp [ck] at h1
theorem BJ:∀ {a b c:List D},bU a b=true->bU b c=true->bU a c=true
 | [],b,c,h1,h2=>by
  cases c with
  | nil=>cases b <;> simp [bU] at h2
  | cons _ _=>simp [bU]
 | a::as,[],c,h1,h2=>by simp [bU] at h1
 | a::as,b::bs,[],h1,h2=>by simp [bU] at h2
 | a::as,b::bs,c::cs,h1,h2=>by
  rw [bU] at h1 h2 ⊢;by_cases k9:a=b
  .subst k9;rw [if_pos rfl] at h1;by_cases fb:a=c
   .rw [if_pos fb] at h2 ⊢;exact BJ h1 h2
   .rw [if_neg fb] at h2 ⊢;exact h2
  .rw [if_neg k9] at h1;by_cases fb:b=c
   .subst fb;rw [if_neg k9];exact h1
   .rw [if_neg fb] at h2;have h3:=vH h1 h2;by_cases A6:a=c
    .subst A6;rw [xO] at h3;cases h3
    .rw [if_neg A6];exact h3
end
variable {a b:D}
def Fx (h:ck a b=true):ck b a=false:=by
 cases e:ck b a with
 | false=>rfl
 | true =>
  have:=vH h e;rw [xO] at this;cases this
mutual
theorem xP:∀ {a b:D},bV a b=true->a=b\/ck a b=true\/ck b a=true
 | .int a,b,h=>by
  cases b <;> simp [bV] at h;simp [ck];omega
 | .tup a,b,h=>by
  cases b <;> simp [bV] at h;rcases z9 h with e | e | e
  .exact .inl (by rw [e])
  .exact .inr (.inl (by rw [ck];exact e))
  .exact .inr (.inr (by rw [ck];exact e))
 | .ai,b,h=>by simp [bV] at h
 | .bl _,b,h=>by simp [bV] at h
 | .lst a,b,h=>by
  cases b <;> simp [bV] at h;rcases z9 h with e | e | e
  .exact .inl (by rw [e])
  .exact .inr (.inl (by rw [ck];exact e))
  .exact .inr (.inr (by rw [ck];exact e))
 | .bE _ _,b,h=>by simp [bV] at h
 | .bP _,b,h=>by simp [bV] at h
theorem z9:∀ {a b:List D},eV a b=true->a=b\/bU a b=true\/bU b a=true
 | [],[],h=>.inl rfl
 | [],_::_,h=>.inr (.inl (by simp [bU]))
 | _::_,[],h=>.inr (.inr (by simp [bU]))
 | a::as,b::bs,h=>by
  rw [eV] at h;by_cases k9:a=b
  .subst k9;rw [if_pos rfl] at h;rcases z9 h with e | e | e
   .exact .inl (by rw [e])
   .exact .inr (.inl (by rw [bU,if_pos rfl];exact e))
   .exact .inr (.inr (by rw [bU,if_pos rfl];exact e))
  .rw [if_neg k9] at h;rcases xP h with e | e | e
   .exact absurd e k9
   .exact .inr (.inl (by rw [bU,if_neg k9];exact e))
   .exact .inr (.inr (by rw [bU,if_neg (Ne.symm k9)];exact e))
end
def jF (ds:List D):Prop:=∀ a∈ds,∀ b∈ds,bV a b=true
def kG (a b:D):Prop:=ck b a=false
def Zj {c:D} (h:bV b c=true) (h1:kG a b) (h2:kG b c):kG a c:=by
 unfold kG at *
 cases e:ck c a with
 | false=>rfl
 | true =>
  rcases xP h with z | z | z
  .subst z;rw [h1] at e;cases e
  .have:=vH z e;rw [h1] at this;cases this
  .rw [h2] at z;cases z
def Sy (h:bV a b=true) (h1:kG a b) (h2:kG b a):a=b:=by
 unfold kG at *
 rcases xP h with z | z | z
 .exact z
 .rw [h2] at z;cases z
 .rw [h1] at z;cases z
def Cg (d:D):List D->List D
 | []=>[d]
 | e::es=>if ck e d=true then e::Cg d es else d::e::es
def jo:List D->List D
 | []=>[]
 | d::ds=>Cg d (jo ds)
theorem u9 (d:D):∀ (es:List D),(Cg d es).Perm (d::es)
 | []=>List.Perm.refl _
 | e::es=>by
  unfold Cg;split
  .exact ((u9 d es).cons e).trans (List.Perm.swap d e es)
  .exact List.Perm.refl _
theorem jR:∀ (ds:List D),(jo ds).Perm ds
 | []=>List.Perm.refl _
 | d::ds=>(u9 d (jo ds)).trans ((jR ds).cons d)
theorem yt {d:D}:∀ {es:List D},(∀ a∈d::es,∀ b∈d::es,bV a b=true)->es.Pairwise kG->(Cg d es).Pairwise kG
 | [],_,_=>List.pairwise_singleton _ _
 | e::es,hc,hs=>by
  obtain ⟨h1,h2⟩:=List.pairwise_cons.mp hs;unfold Cg;split
  .rename_i bj;refine List.pairwise_cons.mpr ⟨fun x hx=>?_,yt (fun a ha b hb=>hc a ?_ b ?_) h2⟩
   .rcases vV.mp ((u9 d es).mem_iff.mp hx) with z | z
    .rw [z];exact Fx bj
    .exact h1 x z
   .rcases vV.mp ha with z | z
    .rw [z];simp
    .simp [z]
   .rcases vV.mp hb with z | z
    .rw [z];simp
    .simp [z]
  .rename_i bj;have hle:kG d e:=by unfold kG;simpa using bj
   refine List.pairwise_cons.mpr ⟨fun x hx=>?_,hs⟩;rcases vV.mp hx with z | z
   .rw [z];exact hle
   .exact Zj (hc e (by simp) x (by simp [z])) hle (h1 x z)
theorem vQ:∀ {ds:List D},jF ds->(jo ds).Pairwise kG
 | [],_=>List.Pairwise.nil
 | d::ds,h=>by
  refine yt (fun a ha b hb=>h a ?_ b ?_) (vQ fun a ha b hb=>h a (vi _ ha) b (vi _ hb))
  .rcases vV.mp ha with z | z
   .rw [z];simp
   .exact vi _ ((jR ds).mem_iff.mp z)
  .rcases vV.mp hb with z | z
   .rw [z];simp
   .exact vi _ ((jR ds).mem_iff.mp z)
theorem uI:∀ {as bs:List D},jF as->as.Perm bs->as.Pairwise kG->bs.Pairwise kG->as=bs
 | [],bs,_,p,_,_=>(List.Perm.nil_eq p)
 | a::as,[],_,p,_,_=>absurd p.length_eq (by simp)
 | a::as,b::bs,hc,p,s1,s2=>by
  obtain ⟨h1,h2⟩:=List.pairwise_cons.mp s1;obtain ⟨g1,g2⟩:=List.pairwise_cons.mp s2;have hb:b∈a::as:=p.mem_iff.mpr vj;have ha:a∈b::bs:=p.mem_iff.mp vj;have e:a=b:=by
   rcases vV.mp hb with z | z
   .exact z.symm
   .rcases vV.mp ha with y | y
    .exact y
    .exact Sy (hc a (by simp) b hb) (h1 b z) (g1 a y)
  subst e;rw [uI (fun a ha b hb=>hc a (List.mem_cons_of_mem _ ha) b (List.mem_cons_of_mem _ hb)) (List.Perm.cons_inv p) h2 g2]
variable {ds:List D}
def yJ {es:List D} (hc:jF ds) (p:es.Perm ds) (s:es.Pairwise kG):jo ds=es:=by
 have c_:jF es:=fun a ha b hb=>hc a (p.mem_iff.mp ha) b (p.mem_iff.mp hb)
 exact (uI c_ (p.trans (jR ds).symm) s (vQ hc)).symm
theorem countP_le {α:Type}{p q:α->Bool}:∀ (l:List α),(∀ x∈l,p x=true->q x=true)->l.countP p<=l.countP q
 | [],_=>vE _
 | x::l,h=>by
  have ih:=countP_le l fun y hy=>h y (vi _ hy)
  have hx:=h x vj;rw [List.countP_cons,List.countP_cons];cases e:p x <;> cases f:q x <;> simp_all <;> omega
theorem CW {α:Type}{p q:α->Bool}:∀ (l:List α),(∀ x∈l,p x=true->q x=true)->(∃ x∈l,q x=true/\p x=false)->l.countP p < l.countP q
 | [],_,h=>by obtain ⟨x,hx,_⟩:=h;simp at hx
 | x::l,h,⟨y,hy,h1,h2⟩=>by
  rw [List.countP_cons,List.countP_cons];rcases vV.mp hy with e | hy
  .subst e;have:=countP_le l fun z hz=>h z (vi _ hz)
   rw [h1,h2];simp;omega
  .have ih:=CW l (fun z hz=>h z (vi _ hz)) ⟨y,hy,h1,h2⟩;have hx:=h x vj;cases e:p x <;> cases f:q x <;> simp_all <;> omega
def iZ (ds:List D) (i:Nat):Int:=(((List.range ds.length).countP fun k=>ck (ds.getD k .ai) (ds.getD i .ai):Nat):Int)
def J6 (hc:jF ds) {i j:Nat} (hi:i < ds.length) (hj:j < ds.length):decide (iZ ds i < iZ ds j)=ck (ds.getD i .ai) (ds.getD j .ai):=by
 have mem:∀ {k},k < ds.length->ds.getD k .ai∈ds:=fun {k} hk=>by
  have e:ds.getD k .ai=ds[k]:=by simp [hk]
  rw [e];exact List.getElem_mem hk
 unfold iZ;cases e:ck (ds.getD i .ai) (ds.getD j .ai) with
 | true =>
  have:=CW (p:=fun k=>ck (ds.getD k .ai) (ds.getD i .ai)) (q:=fun k=>ck (ds.getD k .ai) (ds.getD j .ai)) (List.range ds.length) (fun x _ hx=>vH hx e) ⟨i,by simpa using hi,e,xO _⟩;exact v6 (by omega)
 | false =>
  have:(List.range ds.length).countP (fun k=>ck (ds.getD k .ai) (ds.getD j .ai))<=(List.range ds.length).countP (fun k=>ck (ds.getD k .ai) (ds.getD i .ai)):=by
   refine countP_le _ fun x hx h=>?_
   rcases xP (hc _ (mem hi) _ (mem hj)) with z | z | z
   .rw [z];exact h
   .rw [e] at z;cases z
   .exact vH h z
  exact ya (by omega)
end Mi
namespace Mi
open PySem L2 PySem.W
open PyProof.Rows hiding St
noncomputable def isInt:D->Bool
 | .int _=>true
 | _=>false
noncomputable def rR:D->Bool
 | .tup (.tup _::_)=>true
 | _=>false
def jW (ds:List D):Bool :=
 decide (ds.length < 64) && decide (ba ds<=20) && (ds.all fun a=>ds.all fun b=>bV a b) && bT ds && (decide (ds.length < 2) || ds.all isInt || ds.all rR)
structure km (ds:List D):Prop where
 len:ds.length < 64
 dp:ba ds<=20
 cmp:jF ds
 key:bT ds=true
 kind:(ds.length < 2\/ds.all isInt=true)\/ds.all rR=true
variable {ds:List D}
def nq (h:jW ds=true):km ds:=by
 unfold jW at h;simp only [Bool.and_eq_true,Bool.or_eq_true,decide_eq_true_eq] at h;obtain ⟨⟨⟨⟨h1,h3⟩,h4⟩,k⟩,h5⟩:=h;exact ⟨h1,h3,fun a ha b hb=>yv.mp (yv.mp h4 a ha) b hb,k,h5⟩
variable {h:Heap}{i:Nat}
def aF.getD {us:zg} (r:aF h ds us)  (hi:i < ds.length):aT h (ds.getD i .ai) (us.getD i .none):=by
 have hl:=r.length;have e1:ds.getD i .ai=ds[i]:=by simp [hi]
 have e2:us.getD i .none=us[i]:=by simp [show i < us.length by omega]
 rw [e1,e2];exact aF.get hi (by omega) r
def mem_getD (hi:i < ds.length):ds.getD i .ai∈ds:=by
 have e1:ds.getD i .ai=ds[i]:=by simp [hi]
 rw [e1];exact List.getElem_mem hi
def Kw {d:D} (h:d∈ds):dep d<=ba ds:=by
 obtain ⟨i,pv,e⟩:=List.getElem_of_mem h;rw [<- e];exact dZ pv
variable {vs:zg}{j:Nat}{C:Bool->Shared->Prop}{b:Bool}
section
variable {prog:Program}{w:World}{A:Around}{E:zb}{s:Shared}
theorem Gu {b fin:Bool}{Q:Bool->Shared->Prop}:∀ {ds es:List D}{us vs:zg} (i:Nat),aF s.heap ds us->aF s.heap es vs->bT ds=true->bT es=true->eV ds es=true ->
  A.units+ba ds < cLine->A.units+ba es < cLine->(b=true->i=0->∀ d∈ds.head?,isInt d=true)->(b=true->i=0->∀ d∈es.head?,isInt d=true)->(ds=[]\/es=[]->fin=bU ds es)->(∀ nr il,nr.length+es.length=il.length+ds.length->(nr=[]\/il=[])->fin=bU nr il) ->
  Q (bU ds es) s->KatLex prog w A b fin Q (us.zip vs) i s
 | [],es,us,vs,i,r,q,k1,k2,c,h1,h2,f1,f2,hf,hg,h=>by
  rw [aF] at r;subst r;rw [List.zip_nil_left];refine kat_nil ?_;rw [hf (.inl rfl)];exact h
 | d::ds,[],us,vs,i,r,q,k1,k2,c,h1,h2,f1,f2,hf,hg,h=>by
  rw [aF] at q;subst q;rw [List.zip_nil_right];refine kat_nil ?_;rw [hf (.inr rfl)];exact h
 | d::ds,e::es,us,vs,i,r,q,k1,k2,c,h1,h2,f1,f2,hf,hg,h=>by
  rw [aF] at r q;obtain ⟨u,η,rfl,r0,rs⟩:=r;obtain ⟨v,tT,rfl,q0,qs⟩:=q;rw [bT,Bool.and_eq_true] at k1 k2;rw [eV] at c;rw [ba] at h1 h2;rw [bU] at h;rw [List.zip_cons_cons];refine kat_cons ?_;have he:=pA d e (A:=A) (s:=s) r0 q0 (by omega) (by omega);rw [ud k1.1 k2.1] at he;refine he prog w _ _ ?_;by_cases GY:d=e
  .rw [decide_eq_true GY];rw [if_pos GY] at h c;refine kat_yes (Gu (i+1) rs qs k1.2 k2.2 c (by omega) (by omega) (fun _ z=>by omega) (fun _ z=>by omega) (fun z=>hg ds es (by simp only [List.length_cons];omega) z) (fun nr il hl z=>hg nr il (by simp only [List.length_cons];omega) z) h)
  .rw [decide_eq_false GY];rw [if_neg GY] at h c;refine kat_no ?_;have lt:=PN d e (A:=A) (s:=s) k1.1 k2.1 c r0 q0 (by omega) (by omega);by_cases hb:(b && i == 0)=true
   .rw [hb];rw [Bool.and_eq_true] at hb;have i0:i=0:=by simpa using hb.2
    have d1:=f1 hb.1 i0 d (by simp);have e1:=f2 hb.1 i0 e (by simp);cases d <;> simp [isInt] at d1;cases e <;> simp [isInt] at e1;rw [aT] at r0 q0;obtain ⟨t,rfl⟩:=r0;obtain ⟨t',rfl⟩:=q0;rw [ck] at h;exact oneLt_int h
   .have nh:(b && i == 0)=false:=by simpa using hb
    rw [nh];exact kat_one u v (lt prog w _ (PySem.W.BoolBack Q) h)
def W8 (r:aF s.heap ds vs) (cy:ds.all isInt=true)  (hi:i < ds.length) (hj:j < ds.length) (h:C (ck (ds.getD i .ai) (ds.getD j .ai)) s) :
  kas_ask prog w A oneType' vs i j C s:=by
 unfold kas_ask;have r1:=r.getD hi;have r2:=r.getD hj;have t1:=yv.mp cy _ (mem_getD hi);have t2:=yv.mp cy _ (mem_getD hj)
 revert r1 r2 t1 t2 h
 generalize ds.getD i D.ai=d;generalize ds.getD j D.ai=e;generalize vs.getD i Value.none=u;generalize vs.getD j Value.none=v;intro h r1 r2 t1 t2;cases d <;> simp [isInt] at t1;cases e <;> simp [isInt] at t2;rw [aT] at r1 r2;obtain ⟨t,rfl⟩:=r1;obtain ⟨t',rfl⟩:=r2;rw [ck] at h;rw [keyLt'_oneType];exact oneLt_int h
def VL (r:aF s.heap ds vs) (hk:bT ds=true) (hc:jF ds) (hu:A.units+ba ds < cLine) (cy:∀ d∈ds,∃ x xs,d=.tup (x::xs)/\(b=true->isInt x=true))  (hi:i < ds.length) (hj:j < ds.length) (h:C (ck (ds.getD i .ai) (ds.getD j .ai)) s) :
  kas_ask prog w A (tuples' b) vs i j C s:=by
 unfold kas_ask;have r1:=r.getD hi;have r2:=r.getD hj;have m1:=mem_getD hi;have m2:=mem_getD hj;have t1:=cy _ m1;have t2:=cy _ m2;have c:=hc _ m1 _ m2;have k1:=jQ hk m1;have k2:=jQ hk m2;have d1:=Kw m1;have d2:=Kw m2
 revert r1 r2 t1 t2 c k1 k2 d1 d2 h
 generalize ds.getD i D.ai=d;generalize ds.getD j D.ai=e;generalize vs.getD i Value.none=u;generalize vs.getD j Value.none=v;intro h r1 r2 t1 t2 c k1 k2 d1 d2;obtain ⟨x,xs,rfl,f1⟩:=t1;obtain ⟨y,ys,rfl,f2⟩:=t2;rw [aT] at r1 r2;obtain ⟨a,its,rfl,⟨o,ho,_,n,hd⟩,rs⟩:=r1;obtain ⟨a2,cX,rfl,⟨o2,kR,_,n2,hd2⟩,qs⟩:=r2;rw [keyOk] at k1 k2;rw [bV] at c;rw [dep] at d1 d2;rw [ck] at h;refine kat_lt ho hd kR hd2 ?_;have l1:=rs.length;have l2:=qs.length;have key:∀ nr il:List D,nr.length+(y::ys).length=il.length+(x::xs).length->(nr=[]\/il=[])->decide (its.toArray.size < cX.toArray.size)=bU nr il:=by
  intro nr il hl z;have e1:its.toArray.size=(x::xs).length:=by simp only [List.size_toArray];omega
  have e2:cX.toArray.size=(y::ys).length:=by simp only [List.size_toArray];omega
  rw [e1,e2];rcases z with z | z
  .subst z;cases il with
   | nil=>rw [bU];exact ya (by simp only [List.length_nil] at hl;omega)
   | cons _ _=>rw [bU];exact v6 (by simp only [List.length_nil,List.length_cons] at hl ⊢;omega)
  .subst z;cases nr with
   | nil=>rw [bU];exact ya (by simp only [List.length_nil] at hl;omega)
   | cons _ _=>rw [bU];exact ya (by simp only [List.length_nil,List.length_cons] at hl ⊢;omega)
 exact Gu 0 rs qs k1 k2 c (by omega) (by omega) (fun hb _ z hz=>by simp at hz;subst hz;exact f1 hb) (fun hb _ z hz=>by simp at hz;subst hz;exact f2 hb) (fun z=>key _ _ (by omega) z) key h
theorem Jw:∀ {ds:List D}{vs:zg},aF s.heap ds vs->(∀ d∈ds,∃ x xs,d=.tup (x::xs))->∃ fs,KatTups s.heap vs fs/\aF s.heap (ds.map fun d=>match d with | .tup (x::_)=>x | _=>.ai) fs
 | [],vs,r,_=>by
  rw [aF] at r;subst r;exact ⟨[],KatTups.nil,by simp [aF]⟩
 | d::ds,vs,r,h=>by
  rw [aF] at r;obtain ⟨y,ys,rfl,r0,rs⟩:=r;obtain ⟨fs,t,q⟩:=Jw rs fun d hd=>h d (vi _ hd)
  obtain ⟨x,xs,rfl⟩:=h d vj;rw [aT] at r0;obtain ⟨a,its,rfl,⟨o,ho,hc,n,hd⟩,is⟩:=r0;rw [aF] at is;obtain ⟨f,its',rfl,rf,θ⟩:=is;refine ⟨f::fs,KatTups.cons ho hc hd (by simp) t,?_⟩;rw [List.map_cons,aF];exact ⟨f,fs,rfl,rf,q⟩
theorem kn {M:Model}{h:Heap}{p:D->Bool}{T:Value} (hT:∀ d u,p d=true->aT h d u->Looks M h (typeOf u) T):∀ {ds:List D}{vs:zg},aF h ds vs->ds.all p=true->∀ v∈vs,Looks M h (typeOf v) T
 | [],vs,r,_,v,hv=>by rw [aF] at r;subst r;simp at hv
 | d::ds,vs,r,hp,v,hv=>by
  rw [aF] at r;obtain ⟨y,ys,rfl,r0,rs⟩:=r;rw [List.all_cons,Bool.and_eq_true] at hp;rcases vV.mp hv with e | hv
  .rw [e];exact hT d y hp.1 r0
  .exact kn (ds:=ds) (vs:=ys) hT rs hp.2 v hv
noncomputable def isTup:D->Bool
 | .tup _=>true
 | _=>false
def Ru {M:Model} (d:D) (u:Value) (p:isTup d=true) (r:aT h d u):Looks M h (typeOf u) (.type "tuple"):=by
 cases d <;> simp [isTup] at p;rw [aT] at r;obtain ⟨a,its,rfl,⟨o,ho,hc,n,hd⟩,is⟩:=r;have l:Looks M h (typeOf (.ref a)) o.cls:=(Looks.ld ho).andThen .now;rw [hc] at l;exact l
def Uj {M:Model} (d:D) (u:Value) (p:isInt d=true) (r:aT h d u):Looks M h (typeOf u) (.type "int"):=by
 cases d <;> simp [isInt] at p;rw [aT] at r;obtain ⟨t,rfl⟩:=r;exact Looks.of_pure rfl
def Oc {G:Array Nat->Shared->Prop} (S:km ds) (h2:2<=ds.length) (r:aF s.heap ds vs) (hu:A.units+40 < cLine)
  (hG:∀ p,PB ds.length p->jY (iZ ds) p ds.length->G p s) :
  wpAny (model prog w) A (keyKind' vs.toArray) (fun κ s'=>(kas_sort vs.length).kasWp (kas_ask prog w A κ vs) G s') E s:=by
 have hl:=r.length;have fin:∀ κ:SortKind,(∀ (i j:Nat) (C:Bool->Shared->Prop),i < ds.length->j < ds.length->C (ck (ds.getD i .ai) (ds.getD j .ai)) s->kas_ask prog w A κ vs i j C s)->(kas_sort vs.length).kasWp (kas_ask prog w A κ vs) G s:=by
  intro κ hk;rw [<- hl];refine dH.wp (r:=iZ ds) (N:=ds.length) (fun i j C hi hj hc=>hk i j C hi hj ?_) (Dl (UH (by omega)) fun p hp=>hG p hp.1 hp.2);rw [J6 S.cmp hi hj] at hc;exact hc
 have lz:=S.dp;have key:=S.key;have two:∀ (p:D -> Bool) (T:Value),(∀ d ∈ ds,∃ x xs,d=.tup (x::xs) /\ p x=true) -> (∀ d u,p d=true -> aT s.heap d u -> Looks (model prog w) s.heap (typeOf u) T) -> (T == T)=true -> ((T != Value.type "tuple")=true -> ∀ x,p x=true -> isInt x=true) -> wpAny (model prog w) A (keyKind' vs.toArray) (fun κ s'=>(kas_sort vs.length).kasWp (kas_ask prog w A κ vs) G s') E s:=fun p T cy lk hT hI=>by
  obtain ⟨fs,t,q⟩:=Jw (ds:=ds) (vs:=vs) r fun d hd=>let ⟨x,xs,e,_⟩:=cy d hd;⟨x,xs,e⟩
  have ql:=q.length;rw [List.length_map] at ql;refine kat_kind (T:=T) t (by omega) (kn (p:=p) lk q ?_) hT ?_
  .rw [List.all_map,List.all_eq_true];intro d hd;obtain ⟨x,xs,rfl,hx⟩:=cy d hd;exact hx
  .exact fin _ fun i j C hi hj hc=>VL r key S.cmp (by omega) (fun d hd=>let ⟨x,xs,e,z⟩:=cy d hd;⟨x,xs,e,fun hb=>hI hb x z⟩) hi hj hc
 rcases S.kind with (k | k) | k
 .omega
 .refine kas_kind (by omega) (kn (p:=isInt) Uj r k) (by decide) (by decide) ?_;exact fin _ fun i j C hi hj hc=>W8 r k hi hj hc
 .refine two isTup (.type "tuple") (fun d hd=>?_) Ru (by decide) fun hb=>absurd hb (by decide)
  have:=yv.mp k d hd;cases d <;> simp [rR] at this;rename_i l;cases l with
  | nil=>simp [rR] at this
  | cons x xs=>exact ⟨x,xs,rfl,by cases x <;> simp [rR,isTup] at this ⊢⟩
def Pu {a:Addr}{n:Nat}{P:PySem.Fin -> Shared -> Prop} (ho:s.heap.get? a=some (seqObj "list" vs.toArray n)) (S:km ds) (GU:∀ h':Heap,(∀ b o,b ≠ a -> s.heap.get? b=some o -> h'.get? b=some o) -> aF h' ds vs) (hu:A.units+40 < cLine)
  (h:∀ p:Array Nat,PB ds.length p->jY (iZ ds) p ds.length->P (.done (.ret .none)) { s with heap:=sortedHeap s.heap a vs (List.toArray (p.toList.map fun i=>vs.getD i Value.none)) }) :
  wpAny (model prog w) A (Builtin.«list.sort» ⟨[.ref a],[]⟩) P E s:=by
 have r:=GU s.heap fun _ _ _ e=>e
 have hl:=r.length;have Lo:vs.length < 64:=by have:=S.len;omega
 rw [list_sort_plain];have ha:a < s.heap.objs.size:=vz ho;refine z0 (listItems_at ho rfl ?_);refine z0 (listUpdate_at ho rfl ?_ (by rw [List.size_toArray,sizeLine_eq];omega) (v3 _));obtain ⟨e1,jw⟩:∃ e1,(s.heap.update a (Obj.mapSeq fun _=>(#[]:zt))).get? a=some (seqObj "list" #[] e1):=⟨_,get?_update_seq ho fun _=>#[]⟩
 refine z0 (seqEpoch_at jw rfl ?_);refine z0 (wpAny_newTuple ?_ (by show vs.length<=_;rw [sizeLine_eq];omega));refine z0 (wpAny_newList ?_ (v3 _));refine wpAny_holding ?_;have OK:(((s.heap.update a (Obj.mapSeq fun _=>(#[]:zt))).push (seqObj "tuple" vs.toArray 0)).push (seqObj "list" #[] 0)).get? a=some (seqObj "list" #[] e1):=by
  rw [Heap.get?_push_ne _ _ _ (by rw [size_push',Heap.size_update];exact Nat.ne_of_lt (Nat.lt_succ_of_lt ha)),Heap.get?_push_ne _ _ _ (by rw [Heap.size_update];exact Nat.ne_of_lt ha)];exact jw
 show wpAny (model prog w) A _ P E { s with heap:=((s.heap.update a (Obj.mapSeq fun _=>(#[]:zt))).push (seqObj "tuple" vs.toArray 0)).push (seqObj "list" #[] 0) }
 dsimp only;have hsz:vs.toArray.size=vs.length:=by simp
 have tail:∀ (p:Array Nat) (h_:SortSt),p.size=vs.length->(arrOf h_).map (·.2)=List.toArray (p.toList.map fun i=>vs.getD i Value.none)->failedOf h_=none->PB ds.length p->jY (iZ ds) p ds.length ->
   wpAny (model prog w) A (do
    let touched:=(<- seqEpoch a) != e1
    Builtin.List.listUpdate (.ref a) fun _=>(arrOf h_).map (·.2)
    if let some e:=failedOf h_ then rule "list.sort.comparison-raised"; throw e
    if touched then rule "list.sort.modified"; raiseError "ValueError" "list modified during sort"
    ret .none) P E { s with heap:=((s.heap.update a (Obj.mapSeq fun _=>(#[]:zt))).push (seqObj "tuple" vs.toArray 0)).push (seqObj "list" #[] 0) }:=by
  intro p h_ hp lF hf pb so;refine z0 (seqEpoch_at OK rfl ?_);rw [lF];refine z0 (listUpdate_at OK rfl ?_ (v3 _) (by rw [List.size_toArray,List.length_map,Array.length_toList,hp,sizeLine_eq];omega));rw [hf];simp only [bne_self_eq_false,Bool.false_eq_true,if_false];exact ve (h p pb so)
 by_cases h2:vs.toArray.size < 2
 .rw [if_pos h2,if_pos h2];refine z0 (ve ?_);rw [StateT.run_pure];refine z0 (ve ?_);dsimp only;have hp:(List.toArray (List.range ds.length)).size=vs.length:=by simp;omega
  refine tail (List.toArray (List.range ds.length)) (SortSt.mk' general' (vs.toArray.zip vs.toArray) #[] 7 none) hp ?_ rfl ⟨Array.Perm.refl _⟩ fun i j la hj=>?_
  .show (vs.toArray.zip vs.toArray).map (·.2)=_
   rw [hl];apply Array.toList_inj.mp;rw [hsz] at h2
   match vs,h2 with
   | [],_=>simp
   | [v],_=>simp [List.range_succ]
  .have:i=j:=by rw [hsz] at h2;omega
   subst this;exact Int.le_refl _
 .rw [if_neg h2,if_neg h2];have r2:=GU (((s.heap.update a (Obj.mapSeq fun _=>(#[]:zt))).push (seqObj "tuple" vs.toArray 0)).push (seqObj "list" #[] 0)) fun b o Lu q=>vw _ (vw _ ((yb _ _ (Ne.symm Lu)).trans q))
  refine z0 (wpAny_mono (Oc (E:=fun _ _=>False) (s:={ s with heap:=((s.heap.update a (Obj.mapSeq fun _=>(#[]:zt))).push (seqObj "tuple" vs.toArray 0)).push (seqObj "list" #[] 0) })
   (G:=fun p s'=>(PB ds.length p /\ jY (iZ ds) p ds.length) /\ s'={ s with heap:=((s.heap.update a (Obj.mapSeq fun _=>(#[]:zt))).push (seqObj "tuple" vs.toArray 0)).push (seqObj "list" #[] 0) })
   S (by rw [hsz] at h2;omega) r2 hu fun p p1 p2=>⟨⟨p1,p2⟩,rfl⟩) (fun κ s0 hk=>?_) fun _ _ x=>x.elim)
  refine z0 (wpAny_mono (kat_run (Q:=fun h_ s'=>∃ p:Array Nat,p.size=vs.length /\ arrOf h_=p.map (kas_item (vs.toArray.zip vs.toArray)) /\ failedOf h_=none /\ (PB ds.length p /\ jY (iZ ds) p ds.length) /\ s'={ s with heap:=((s.heap.update a (Obj.mapSeq fun _=>(#[]:zt))).push (seqObj "tuple" vs.toArray 0)).push (seqObj "list" #[] 0) })
   rfl (by rw [hsz] at h2;omega) Lo (fun p' h_ s' a1 a2 a3 a4=>⟨p',a1,a2,a3,a4⟩) hk) ?_ fun _ _ e=>e)
  rintro ⟨⟨⟩,h_⟩ s' ⟨p,hp,UP,hf,⟨pb,so⟩,rfl⟩;dsimp only;exact tail p h_ hp (kat_snds rfl UP) hf pb so
end
end Mi
namespace Mi
open PySem L2
open PyProof.Rows hiding St
structure G where
 P:Program
 w:World
 K:zd
def fR (g:G) (a:Addr) (xs:List (D × Addr × Value)) (ys:List V) (ep:Nat) (h:Heap):Prop :=
 (a == sysModules)=false/\xs.length<=sizeLine/\Vals ys (xs.map (·.2.2)) /\
  ∃ o es,h.get? a=some o/\o.ExactDict/\o.data=.dict es ep/\es.toList=xs.map (entryOfKey (jr g.P g.w))/\(xs.map (·.1)).Nodup
noncomputable def n_ (ah:List (Int × Int)):HO:=.dK (ah.map fun p=>(.inl p.1,V.int p.2))
mutual
noncomputable def Rp (g:G) (H:Hp):D->V->Prop
 | .ai,v=>v=.ai
 | .bl b,v=>v=.bl b
 | .int i,v=>v=.int i
 | .tup ds,v=>∃ a xs,v=.ref a/\cb g.K H a xs/\ax g H ds xs
 | .lst ds,v=>∃ a xs,v=.ref a/\cm g.K H a xs/\ax g H ds xs
 | .bE ks vs,v=>∃ a xs ys ep,v=.ref a/\H a=some (.ext (fR g a xs ys ep))/\ks=xs.map (·.1)/\ax g H ks (xs.map fun x=>V.ref x.2.1)/\ax g H vs ys
 | .bP ah,v=>∃ a,v=.ref a/\H a=some (n_ ah)
noncomputable def ax (g:G) (H:Hp):List D->List V->Prop
 | [],xs=>xs=[]
 | d::ds,xs=>∃ y ys,xs=y::ys/\Rp g H d y/\ax g H ds ys
end
variable {K:zd}{H H':Hp}{a:Addr}{xs:List V}
def bA (e:ar H H') (h:cm K H a xs):cm K H' a xs:=e.seq h
def aO (e:ar H H') (h:cb K H a xs):cb K H' a xs:=zp h fun o _ q=>e a o q
mutual
theorem Rp.mono {g:G}{H H':Hp}:∀ {d:D}{v:V},ar H H'->Rp g H d v->Rp g H' d v
 | .ai,v,e,r=>by rw [Rp] at r ⊢;exact r
 | .bl _,v,e,r=>by rw [Rp] at r ⊢;exact r
 | .int _,v,e,r=>by rw [Rp] at r ⊢;exact r
 | .tup ds,v,e,r=>by
  rw [Rp] at r ⊢;obtain ⟨a,xs,rfl,q,rs⟩:=r;exact ⟨a,xs,rfl,aO e q,ax.mono e rs⟩
 | .lst ds,v,e,r=>by
  rw [Rp] at r ⊢;obtain ⟨a,xs,rfl,q,rs⟩:=r;exact ⟨a,xs,rfl,bA e q,ax.mono e rs⟩
 | .bE ks vs,v,e,r=>by
  rw [Rp] at r ⊢;obtain ⟨a,xs,ys,ep,rfl,q,ek,r1,r2⟩:=r;exact ⟨a,xs,ys,ep,rfl,e a _ q,ek,ax.mono e r1,ax.mono e r2⟩
 | .bP ah,v,e,r=>by
  rw [Rp] at r ⊢;obtain ⟨a,rfl,q⟩:=r;exact ⟨a,rfl,e a _ q⟩
theorem ax.mono {g:G}{H H':Hp}:∀ {ds:List D}{vs:List V},ar H H'->ax g H ds vs->ax g H' ds vs
 | [],vs,e,r=>by rw [ax] at r ⊢;exact r
 | d::ds,vs,e,r=>by
  rw [ax] at r ⊢;obtain ⟨y,ys,rfl,r0,rs⟩:=r;exact ⟨y,ys,rfl,Rp.mono e r0,ax.mono e rs⟩
end
theorem ax.length {g:G}{H:Hp}:∀ {ds:List D}{vs:List V},ax g H ds vs->ds.length=vs.length
 | [],vs,r=>by rw [ax] at r;subst r;rfl
 | d::ds,vs,r=>by
  rw [ax] at r;obtain ⟨y,ys,rfl,_,r⟩:=r;simp [ax.length r]
theorem ax.getD {g:G}{H:Hp}:∀ {ds:List D}{vs:List V}{i:Nat}{d:D},ax g H ds vs->ds[i]?=some d->∃ v,vs[i]?=some v/\Rp g H d v
 | [],vs,i,d,r,h=>by simp at h
 | d0::ds,vs,i,d,r,h=>by
  rw [ax] at r;obtain ⟨y,ys,rfl,r0,rs⟩:=r;cases i with
  | zero=>simp at h;subst h;exact ⟨y,rfl,r0⟩
  | succ i =>
   simp only [List.getElem?_cons_succ] at h;obtain ⟨v,e,q⟩:=ax.getD rs h;exact ⟨v,by simpa using e,q⟩
variable {g:G}
theorem ax.append :∀ {ds es:List D}{vs ws:List V},ax g H ds vs->ax g H es ws->ax g H (ds++es) (vs++ws)
 | [],es,vs,ws,r,q=>by rw [ax] at r;subst r;exact q
 | d::ds,es,vs,ws,r,q=>by
  rw [ax] at r;obtain ⟨y,ys,rfl,r0,rs⟩:=r;rw [List.cons_append,ax];exact ⟨y,ys++ws,rfl,r0,rs.append q⟩
def ax.nil :ax g H [] []:=by rw [ax]
def ax.cons {g:G}{H:Hp}{d:D}{v:V}{ds:List D}{vs:List V} (r:Rp g H d v) (rs:ax g H ds vs):ax g H (d::ds) (v::vs):=by
 rw [ax];exact ⟨v,vs,rfl,r,rs⟩
variable {d:D}{v:V}
def ax.one (r:Rp g H d v):ax g H [d] [v]:=ax.cons r ax.nil
variable {ds:List D}{vs:List V}
def ax.cons_inv (r:ax g H (d::ds) vs):∃ v ws,vs=v::ws/\Rp g H d v/\ax g H ds ws:=by rw [ax] at r;exact r
def ax.nil_inv (r:ax g H [] vs):vs=[]:=by rw [ax] at r;exact r
theorem ax.take {g:G}{H:Hp}:∀ {ds:List D}{vs:List V} (n:Nat),ax g H ds vs->ax g H (ds.take n) (vs.take n)
 | [],vs,n,r=>by rw [r.nil_inv];simp [ax]
 | d::ds,vs,0,r=>by simp [ax]
 | d::ds,vs,n+1,r=>by
  obtain ⟨v,ws,rfl,r0,rs⟩:=r.cons_inv;exact ax.cons r0 (ax.take n rs)
theorem ax.drop {g:G}{H:Hp}:∀ {ds:List D}{vs:List V} (n:Nat),ax g H ds vs->ax g H (ds.drop n) (vs.drop n)
 | [],vs,n,r=>by rw [r.nil_inv];simp [ax]
 | d::ds,vs,0,r=>r
 | d::ds,vs,n+1,r=>by
  obtain ⟨v,ws,rfl,r0,rs⟩:=r.cons_inv;exact ax.drop n rs
section
variable {X:Cx}{ab:w4}{Z:St}{H:Hp}{s:Shared}
noncomputable abbrev aE (X:Cx):G:=⟨X.prog,X.w,X.K⟩
mutual
theorem uk (I:Inv X ab Z H s):∀ {d:D}{v:V}{u:Value},dep d < 1000->Rp (aE X) H d v->RelV v u->aT s.heap d u
 | .ai,v,u,hd,r,q=>by rw [Rp] at r;subst r;rw [aT];exact q
 | .bl _,v,u,hd,r,q=>by rw [Rp] at r;subst r;rw [aT];exact q
 | .int _,v,u,hd,r,q=>by rw [Rp] at r;subst r;rw [aT];exact q
 | .tup ds,v,u,hd,r,q=>by
  rw [Rp] at r;obtain ⟨a,xs,rfl,sq,rs⟩:=r;cases q;obtain ⟨its,rv,p,hz⟩:=I.tuple sq;rw [aT];rw [dep] at hd;exact ⟨a,its,rfl,p,vN I (by omega) rs rv⟩
 | .lst ds,v,u,hd,r,q=>by
  rw [Rp] at r;obtain ⟨a,xs,rfl,sq,rs⟩:=r;cases q;obtain ⟨its,rv,p,hz⟩:=I.list sq;rw [aT];rw [dep] at hd;exact ⟨a,its,rfl,p.isList,vN I (by omega) rs rv⟩
 | .bE _ _,v,u,hd,r,q=>by rw [dep] at hd;omega
 | .bP _,v,u,hd,r,q=>by rw [dep] at hd;omega
theorem vN (I:Inv X ab Z H s):∀ {ds:List D}{vs:List V}{us:zg},ba ds < 1000->ax (aE X) H ds vs->Vals vs us->aF s.heap ds us
 | [],vs,us,hd,r,q=>by rw [r.nil_inv] at q;cases q;rw [aF]
 | d::ds,vs,us,hd,r,q=>by
  obtain ⟨v,ws,rfl,r0,rs⟩:=r.cons_inv;rw [ba] at hd;cases q with
  | cons q0 qs =>
   rw [aF];exact ⟨_,_,rfl,uk I (by omega) r0 q0,vN I (by omega) rs qs⟩
end
end
structure aI (H Hs H' av:Hp):Prop where
 keep:∀ a o,H a=some o->H' a=some o
 old:∀ a o,H a=some o->av a=Hs a
 sub:ar av H'
variable {Hs:Hp}
def aI.refl (h:ar Hs H):aI H Hs H Hs:=⟨fun _ _ q=>q,fun _ _ _=>rfl,h⟩
def aI.trans {H1 ay H2 bt:Hp} (a:aI H Hs H1 ay) (b:aI H1 ay H2 bt):aI H Hs H2 bt :=
 ⟨fun c o q=>b.keep c o (a.keep c o q),fun c o q=>(b.old c o (a.keep c o q)).trans (a.old c o q),b.sub⟩
def aI.same {av:Hp} (g:aI H Hs H' av) (h:ar Hs H):ar Hs av:=fun a o q=>by rw [g.old a o (h a o q)];exact q
variable {p:Addr}
def aI.new {o:HO} (h:ar Hs H) (hp:H p=none):aI H Hs (upd H p o) (upd Hs p o):=by
 refine ⟨fun a u q=>by rw [ak (aq q hp)];exact q,fun a u q=>by rw [ak (aq q hp)],fun a u q=>?_⟩;by_cases e:a=p
 .subst e;rw [aC] at q ⊢;exact q
 .rw [ak e] at q ⊢;exact h a u q
def aI.own {o:HO} (h:ar Hs H) (hp:H p=none):aI H Hs (upd H p o) Hs:=by
 refine ⟨fun a u q=>by rw [ak (aq q hp)];exact q,fun a u q=>rfl,fun a u q=>?_⟩;rw [ak (aq (h a u q) hp)];exact h a u q
variable {h:Heap}{x k:D}{n:Nat}{b:Addr}{ys:List V}{u:Value}{y:V}{pos:Pos}
section
variable {X:Cx}
def v9 {a b:D} (h:aZ a b=true):(dep a<=30/\dep b<=30)/\ly a b=true:=by
 unfold aZ at h;simpa using h
def Ze (X:Cx):R2:=fun x y H Q=>∃ d e,Rp (aE X) H d x/\Rp (aE X) H e y/\aZ d e=true/\Q (.bl (aH d e)) H
def Ys (X:Cx):R2:=fun x y H Q=>∃ d e,Rp (aE X) H d x/\Rp (aE X) H e y/\aZ d e=true/\Q (.bl (!aH d e)) H
def Xy (hu:X.A.units+100 < cLine):eR X (compareOp .Eq) (Ze X):=by
 intro ab s Z H x y v u Q I rx ry h;obtain ⟨d,e,r1,r2,hf,q⟩:=h;obtain ⟨⟨f1,f2⟩,k⟩:=v9 hf;exact YQ d e k (uk I (by omega) r1 rx) (uk I (by omega) r2 ry) (by omega) (by omega) _ _ _ _ ⟨.bl (aH d e),H,I,rfl,q⟩
def Xz (hu:X.A.units+100 < cLine):eR X (compareOp .NotEq) (Ys X):=by
 intro ab s Z H x y v u Q I rx ry h;obtain ⟨d,e,r1,r2,hf,q⟩:=h;obtain ⟨⟨f1,f2⟩,k⟩:=v9 hf;exact V3 d e k (uk I (by omega) r1 rx) (uk I (by omega) r2 ry) (by omega) (by omega) _ _ _ _ ⟨.bl (!aH d e),H,I,rfl,q⟩
open Classical in
def xw (h:Heap) (x:D) (y:Value):Bool:=if p:∃ d,aT h d y then aH (Classical.choose p) x else false
def Px {y:Value} (r:aT h d y):xw h x y=aH d x:=by
 unfold xw;have p:∃ d,aT h d y:=⟨d,r⟩;rw [dif_pos p,aT.inj (Classical.choose_spec p) r]
theorem sJ {h:Heap}{x:D}:∀ {ds:List D}{us:zg},aF h ds us->us.any (xw h x)=ds.any fun d=>aH d x
 | [],us,r=>by rw [aF] at r;subst r;rfl
 | d::ds,us,r=>by
  rw [aF] at r;obtain ⟨y,ys,rfl,r0,rs⟩:=r;rw [List.any_cons,List.any_cons,Px r0,sJ rs]
theorem sO {A:Around}{s:Shared}{x:D}{v:Value} (rx:aT s.heap x v) (hx:A.units+dep x < cLine):∀ {ds:List D}{us:zg},aF s.heap ds us->A.units+ba ds < cLine->∀ y∈us,SeqAt.EqAt A s y v (xw s.heap x y)
 | [],us,r,_,y,hy=>by rw [aF] at r;subst r;simp at hy
 | d::ds,us,r,hd,y,hy=>by
  rw [aF] at r;obtain ⟨z,ys,rfl,r0,rs⟩:=r;rw [ba] at hd;rcases vV.mp hy with e | hy
  .subst e;rw [Px r0];exact pA d x r0 rx (by omega) hx
  .exact sO rx hx rs (by omega) y hy
def Ia :(∀ d∈ds,dep d<=n)->ba ds<=n:=by
 induction ds with
 | nil=>intro _;simp [ba]
 | cons d ds ih =>
  intro h;rw [ba];have h1:=h d vj;have h2:=ih fun x hx=>h x (vi _ hx)
  omega
def GC (X:Cx) (neg:Bool):R2:=fun x y H Q=>∃ d ds p xs,Rp (aE X) H d x/\y=.ref p/\(cm X.K H p xs\/cb X.K H p xs)/\ax (aE X) H ds xs/\(ds.all fun e=>aZ e d)=true/\dep d<=30 /\
 Q (.bl (if neg then !(ds.any fun e=>aH e d) else ds.any fun e=>aH e d)) H
def YJ (hu:X.A.units+100 < cLine):eR X (compareOp .In) (GC X false):=by
 intro ab s Z H x y v u Q I rx ry h;obtain ⟨d,ds,p,xs,r1,rfl,sq,rs,hf,hd,q⟩:=h;cases ry;have dd:ba ds<=30:=Ia fun e he=>(v9 (yv.mp hf e he)).1.1
 have D0:=uk I (by omega) r1 rx;have kA:X.A.in1.units=X.A.units+1:=rfl;rcases sq with sq | sq
 .obtain ⟨its,rv,pl,hz⟩:=I.list sq;have rX:=vN I (by omega) rs rv;refine SeqAt.in_listAt (xw s.heap d) pl.isList (fun z hz=>sO D0 (by omega) rX (by omega) z (by simpa using hz)) ?_;refine ⟨.bl _,H,I,rfl,?_⟩;rw [List.any_toArray,sJ rX];exact q
 .obtain ⟨its,rv,pl,hz⟩:=I.tuple sq;have rX:=vN I (by omega) rs rv;refine SeqAt.in_tupleAt (xw s.heap d) pl (fun z hz=>sO D0 (by omega) rX (by omega) z (by simpa using hz)) ?_;refine ⟨.bl _,H,I,rfl,?_⟩;rw [List.any_toArray,sJ rX];exact q
def Nz (hu:X.A.units+100 < cLine):eR X (compareOp .NotIn) (GC X true):=by
 intro ab s Z H x y v u Q I rx ry h;obtain ⟨d,ds,p,xs,r1,rfl,sq,rs,hf,hd,q⟩:=h;cases ry;have dd:ba ds<=30:=Ia fun e he=>(v9 (yv.mp hf e he)).1.1
 have D0:=uk I (by omega) r1 rx;have kA:X.A.in1.units=X.A.units+1:=rfl;rcases sq with sq | sq
 .obtain ⟨its,rv,pl,hz⟩:=I.list sq;have rX:=vN I (by omega) rs rv;refine SeqAt.notIn_listAt (xw s.heap d) pl.isList (fun z hz=>sO D0 (by omega) rX (by omega) z (by simpa using hz)) ?_;refine ⟨.bl _,H,I,rfl,?_⟩;rw [List.any_toArray,sJ rX];exact q
 .obtain ⟨its,rv,pl,hz⟩:=I.tuple sq;have rX:=vN I (by omega) rs rv;refine SeqAt.notIn_tupleAt (xw s.heap d) pl (fun z hz=>sO D0 (by omega) rX (by omega) z (by simpa using hz)) ?_;refine ⟨.bl _,H,I,rfl,?_⟩;rw [List.any_toArray,sJ rX];exact q
structure fk (X:Cx) (H:Hp) (a:Addr) (ks:List D) (xs:List (D × Addr × Value)) (ys:List V):Prop where
 at_:∃ ep,H a=some (.ext (fR (aE X) a xs ys ep))
 keys:ks=xs.map (·.1)
 rep:ax (aE X) H ks (xs.map fun x=>V.ref x.2.1)
theorem Gn {g:G}{H:Hp}:∀ {xs:List (D × Addr × Value)},ax g H (xs.map (·.1)) (xs.map fun x=>V.ref x.2.1)->∀ x∈xs,Rp g H x.1 (.ref x.2.1)
 | [],r,x,hx=>by simp at hx
 | y::ys,r,x,hx=>by
  rw [List.map_cons,List.map_cons] at r;obtain ⟨v,ws,e,r0,rs⟩:=r.cons_inv;cases e;rcases vV.mp hx with e | hx
  .rw [e];exact r0
  .exact Gn rs x hx
section
variable {ab:w4}{Z:St}{H:Hp}{s:Shared}{a:Addr}{ks:List D}{xs:List (D × Addr × Value)}{ys:List V}
def Ib (I:Inv X ab Z H s) (d:fk X H a ks xs ys):s.TypeIs (.ref a) "dict" /\ ∃ o:Obj,s.heap.get? a=some o /\ o.dict=none:=by
 obtain ⟨ep,dat⟩:=d.at_;obtain ⟨⟨h1,h2,h3,o,es,h4,h5,h6,h7,h8⟩,_⟩:=(show bO X.prog X.w H s.heap a (.ext (fR (aE X) a xs ys ep)) from I.az a _ dat);exact ⟨⟨o,h4,h5.1⟩,o,h4,h5.2.1⟩
def dictOf (I:Inv X ab Z H s) (d:fk X H a ks xs ys) (hk:lA ks k=true):isKey k=true/\(a == sysModules)=false/\xs.length<=sizeLine/\Vals ys (xs.map (·.2.2))/\s.heap.DictOfH (jr X.prog X.w) a xs:=by
 obtain ⟨ep,dat⟩:=d.at_;obtain ⟨⟨h1,h2,h3,o,es,h4,h5,h6,h7,h8⟩,_⟩:=(show bO X.prog X.w H s.heap a (.ext (fR (aE X) a xs ys ep)) from I.az a _ dat);obtain ⟨hb,hc⟩:=Xa hk;refine ⟨hb,h1,h2,h3,o,es,ep,h4,h5,h6,h7,fun x hx=>?_,h8⟩;have hk:=jB (hc x.1 (by rw [d.keys];exact yl.mpr ⟨x,hx,rfl⟩));have rep:=d.rep;rw [d.keys] at rep;exact ⟨hk.1,hk.2.1,uk I (by omega) (Gn rep x hx) rfl⟩
def Er (I:Inv X ab Z H s) (hk:isKey k=true) (r:Rp (aE X) H k (.ref b)):(jr X.prog X.w).is s.heap k b:=by
 have h:=jB hk;exact ⟨h.1,h.2.1,uk I (by omega) r rfl⟩
def LC :(atKey xs k).isSome=decide (k∈xs.map (·.1)):=by
 unfold atKey;rw [Option.isSome_map,Bool.eq_iff_iff,List.find?_isSome,decide_eq_true_iff,List.mem_map];constructor
 .rintro ⟨x,hx,e⟩;exact ⟨x,hx,of_decide_eq_true e⟩
 .rintro ⟨x,hx,e⟩;exact ⟨x,hx,v6 e⟩
end
noncomputable def jc (ks vs:List D) (k v:D):List D × List D:=if k∈ks then (ks,(ks.zip vs).map fun p=>if p.1=k then v else p.2) else (ks++[k],vs++[v])
noncomputable def kW (xs:List (D × Addr × Value)) (ys:List V) (k:D) (b:Addr) (u:Value) (y:V):List (D × Addr × Value) × List V :=
 if k∈xs.map (·.1) then (xs.map (putAt k u),((xs.map (·.1)).zip ys).map fun p=>if p.1=k then y else p.2) else (xs++[(k,b,u)],ys++[y])
theorem Ij {g:G}{H:Hp}{k:D}{v:D}{y:V} (r:Rp g H v y):∀ {ks vs:List D}{ys:List V},ks.length=vs.length->ax g H vs ys->ax g H ((ks.zip vs).map fun p=>if p.1=k then v else p.2) ((ks.zip ys).map fun p=>if p.1=k then y else p.2)
 | [],vs,ys,hl,q=>by simp [ax]
 | c::ks,[],ys,hl,q=>by simp at hl
 | c::ks,d::vs,ys,hl,q=>by
  obtain ⟨z,zs,rfl,q0,qs⟩:=q.cons_inv;rw [List.zip_cons_cons,List.zip_cons_cons,List.map_cons,List.map_cons];refine ax.cons ?_ (Ij r (by simpa using hl) qs);dsimp only;split
  .exact r
  .exact q0
theorem Bg {k:D}{u:Value}{y:V} (r:RelV y u):∀ {xs:List (D × Addr × Value)}{ys:List V},Vals ys (xs.map (·.2.2))->Vals (((xs.map (·.1)).zip ys).map fun p=>if p.1=k then y else p.2) ((xs.map (putAt k u)).map (·.2.2))
 | [],ys,q=>by cases q;exact .nil
 | x::xs,ys,q=>by
  rw [List.map_cons] at q;cases q with
  | cons q0 qs =>
   rw [List.map_cons,List.zip_cons_cons,List.map_cons,List.map_cons,List.map_cons];refine .cons ?_ (Bg r qs);dsimp only;unfold putAt;split
   .exact r
   .exact q0
def U0 (X:Cx):Mp:=fun o i v H Q=>∃ a k ks xs ys,o=.ref a/\Rp (aE X) H k i/\lA ks k=true/\fk X H a ks xs ys/\xs.length < lim /\
 ∀ b u ep,i=.ref b->RelV v u->Q (upd H a (.ext (fR (aE X) a (kW xs ys k b u v).1 (kW xs ys k b u v).2 ep)))
def set_dict (hu:X.A.units+100 < cLine):Uh X (U0 X):=by
 intro ab s Z H o i v ov iv u Q I ro ri rv h;obtain ⟨a,k,ks,xs,ys,rfl,r1,hk,d,hl,q⟩:=h;cases ro;obtain ⟨r8,h1,h2,h3,h4⟩:=dictOf I d hk;obtain ⟨_,_,ds,rfl⟩:=jB r8;rw [Rp] at r1;obtain ⟨b,zs,rfl,sq,rs⟩:=id r1;cases ri;have kA:X.A.in1.units=X.A.units+1:=rfl;have Lv:=iU;refine wpAny_setItem_heap (hsz:=by omega) (knd:=jr X.prog X.w) (by show X.A.in1.units+10 < cLine;omega) (Er I r8 (by rw [Rp];exact ⟨b,zs,rfl,sq,rs⟩)) h4 fun h' kU iX=>?_
 obtain ⟨o',il,kM,e1,e2,e3,e4,e5,e6⟩:=id kU;refine ⟨_,?_,q b u kM rfl rv⟩;have mu:Au (H a):=by obtain ⟨_,dat⟩:=d.at_;rw [dat];exact trivial
 refine I.write (x:=a) (e:=a) mu (.inl rfl) (fun c w hc hw=>(iX.2 c hc).trans hw) ⟨_,e1⟩ ?_;have put:storedH xs (.tup ds) b u=(kW xs ys (.tup ds) b u v).1/\Vals (kW xs ys (.tup ds) b u v).2 ((kW xs ys (.tup ds) b u v).1.map (·.2.2))/\(kW xs ys (.tup ds) b u v).1.length<=sizeLine:=by
  unfold kW storedH;rw [LC];by_cases hm:D.tup ds∈xs.map (·.1)
  .rw [if_pos hm,if_pos (decide_eq_true hm)];exact ⟨rfl,Bg rv h3,by rw [List.length_map];omega⟩
  .rw [if_neg hm,if_neg (by simpa using hm)];refine ⟨rfl,?_,by rw [List.length_append,List.length_singleton];omega⟩;rw [List.map_append];exact h3.append (.cons rv .nil)
 rw [put.1] at e4 e6;refine ⟨⟨h1,put.2.2,put.2.1,o',il,e1,e2,e3,e4,e6⟩,⟨_,e1⟩,fun ha hb p kp=>?_⟩;obtain ⟨p1,p2,p3,o2,oa,q1,q2⟩:=p;exact ⟨p1,p2,p3,o2,oa,kp _ q1,q2⟩
def Ot {a:Addr}{v:D}{ks vs:List D}{xs:List (D × Addr × Value)} (keys:ks=xs.map (·.1)) (rep:ax (aE X) H ks (xs.map fun x=>V.ref x.2.1)) (hv:ax (aE X) H vs ys) (rk:Rp (aE X) H k (.ref b)) (ry:Rp (aE X) H v y)
  (hl:ks.length=vs.length) :
  (jc ks vs k v).1=(kW xs ys k b u y).1.map (·.1)/\ax (aE X) H (jc ks vs k v).1 ((kW xs ys k b u y).1.map fun x=>V.ref x.2.1)/\ax (aE X) H (jc ks vs k v).2 (kW xs ys k b u y).2:=by
 unfold jc kW;rw [keys] at rep;rw [keys];by_cases hm:k∈xs.map (·.1)
 .rw [if_pos hm,if_pos hm];refine ⟨(keys_map_putAt xs k u).symm,?_,?_⟩
  .have e:((xs.map (putAt k u)).map fun x=>V.ref x.2.1)=xs.map fun x=>V.ref x.2.1:=by
    rw [List.map_map];refine List.map_congr_left fun x _=>?_
    show V.ref (putAt k u x).2.1=_
    unfold putAt;split <;> rfl
   rw [e];exact rep
  .exact Ij ry (by rw [<- keys];exact hl) hv
 .rw [if_neg hm,if_neg hm];refine ⟨by rw [List.map_append];rfl,?_,hv.append (ax.one ry)⟩;rw [List.map_append];exact rep.append (ax.one rk)
def UQ (X:Cx):TE:=fun _ H Q=>∀ p,H p=none->Q (.ref p) (upd H p (.ext (fR (aE X) p [] [] 0)))
def JG :PE X (.Dict [] [] pos) (UQ X):=fun ab s Z H Q I h=>by
 have hb:sysModules < s.heap.objs.size:=I.big;refine wpAny_Dict_empty ⟨.ref s.heap.objs.size,_,I.laid (a:=s.heap.objs.size) (o:=.ext (fR (aE X) s.heap.objs.size [] [] 0)) (t':=s.toks) (fun _ _ q=>vw _ q) (vE _) ?_,rfl,h _ (I.az.fresh (vE _))⟩;refine ⟨⟨beq_eq_false_iff_ne.mpr (Ne.symm (vF hb)),v3 _,.nil,_,#[],vy _ rfl,⟨rfl,rfl,rfl⟩,rfl,rfl,List.nodup_nil⟩,⟨_,vy _ rfl⟩,fun h1 h2 p kp=>?_⟩;obtain ⟨p1,p2,p3,o2,oa,q1,q2⟩:=p;exact ⟨p1,p2,p3,o2,oa,kp _ q1,q2⟩
end
variable {ab:w4}{Z:St}{s:Shared}{A:Around}{E Q:zb}{w:World}
section
variable {X:Cx}
theorem u0:∀ {bs:List Bool}{us:zg},Vals (bs.map V.bl) us->LSm.BoolsAre us bs
 | [],us,q=>by cases q;exact .nil
 | b::bs,us,q=>by
  rw [List.map_cons] at q;cases q with
  | cons q0 qs=>cases q0;exact .cons b (u0 qs)
def Yl (X:Cx):List V->Hp->VK->Prop:=fun xs H Q=>∃ (p:Addr) (bs:List Bool),xs=[.ref p]/\cm X.K H p (bs.map V.bl)/\Q (.bl (bs.all id)) H
def OL (X:Cx):List V->Hp->VK->Prop:=fun xs H Q=>∃ (p:Addr) (bs:List Bool),xs=[.ref p]/\cm X.K H p (bs.map V.bl)/\Q (.bl (bs.any id)) H
def QC (hc:X.calm=true):gQ X (.builtin "all") (Yl X):=by
 intro ab s Z H xs us Q I r h;obtain ⟨p,bs,rfl,sq,q⟩:=h;obtain ⟨u,rfl,ru⟩:=vals1 r;cases ru;obtain ⟨its,rv,pl,hz⟩:=I.list sq;have hb:=u0 rv;have hl:=pl.isList;have bj:p < s.heap.objs.size:=by obtain ⟨_,e,_⟩:=hl;exact vz e
 refine call_all_walk (wpAny_pyIter_list hl ?_);refine ⟨s.heap.objs.size,[s.heap.objs.size,p],[s.heap.objs.size],its.toArray.size,_,_,fun i=>(bs[i]?).getD true,rfl,Walks.list (A:=X.A.in1) (I.ok.hd hc) _ p (vF bj) its.toArray,
  ⟨⟨_,vy _ rfl,rfl,rfl⟩,hl.push _⟩,fun i v s' Q' E' hP hQ=>?_,fun h' tk hk=>?_⟩
 .obtain ⟨b,e,rfl⟩:=hb.get i v (by simpa using hP);simp only [e,Option.getD_some] at hQ;exact yY hQ
 .have e:((List.range its.toArray.size).all fun i=>(bs[i]?).getD true)=bs.all id:=by
   rw [List.size_toArray,hb.length];exact LSm.range_all bs
  rw [e];exact ⟨.bl _,H,I.kept (LSm.kept_iter hk),rfl,q⟩
def PK (hc:X.calm=true):gQ X (.builtin "any") (OL X):=by
 intro ab s Z H xs us Q I r h;obtain ⟨p,bs,rfl,sq,q⟩:=h;obtain ⟨u,rfl,ru⟩:=vals1 r;cases ru;obtain ⟨its,rv,pl,hz⟩:=I.list sq;have hb:=u0 rv;have hl:=pl.isList;have bj:p < s.heap.objs.size:=by obtain ⟨_,e,_⟩:=hl;exact vz e
 refine call_any_walk (wpAny_pyIter_list hl ?_);refine ⟨s.heap.objs.size,[s.heap.objs.size,p],[s.heap.objs.size],its.toArray.size,_,_,fun i=>(bs[i]?).getD false,rfl,Walks.list (A:=X.A.in1) (I.ok.hd hc) _ p (vF bj) its.toArray,
  ⟨⟨_,vy _ rfl,rfl,rfl⟩,hl.push _⟩,fun i v s' Q' E' hP hQ=>?_,fun h' tk hk=>?_⟩
 .obtain ⟨b,e,rfl⟩:=hb.get i v (by simpa using hP);simp only [e,Option.getD_some] at hQ;exact yY hQ
 .have e:((List.range its.toArray.size).any fun i=>(bs[i]?).getD false)=bs.any id:=by
   rw [List.size_toArray,hb.length];exact LSm.range_any bs
  rw [e];exact ⟨.bl _,H,I.kept (LSm.kept_iter hk),rfl,q⟩
noncomputable def Ty.name:Ty->String
 | .int=>"int" | .bool=>"bool" | .tuple=>"tuple" | .list=>"list"
noncomputable def UR:D->String
 | .ai=>"NoneType" | .bl _=>"bool" | .int _=>"int" | .tup _=>"tuple" | .lst _=>"list" | .bE _ _=>"dict" | .bP _=>"dict"
noncomputable def jE (d:D) (t:Ty):Bool:=match t,d with
 | .int,.int _=>true | .int,.bl _=>true | .bool,.bl _=>true | .tuple,.tup _=>true | .list,.lst _=>true
 | _,_=>false
def Zx (K:zd) (d:D) (t:Ty):PySem.W.kitOne K (.type (UR d)) (.type t.name)=some (jE d t):=by
 cases d <;> cases t <;> rfl
def Xf (t:Ty) (I:Inv X ab Z H s) (r:Rp (aE X) H d v) (ru:RelV v u)
  (h:∀ tk,Q (.bool (jE d t)) { s with toks:=tk }):wpAny (model X.prog X.w) A (call (.builtin "isinstance") [u,.type t.name]) Q E s:=by
 have e:=Zx X.K d t;cases d with
 | ai=>rw [Rp] at r;subst r;exact uR I ru .ai e h
 | bl b=>rw [Rp] at r;subst r;exact uR I ru (.bl b) e h
 | int b=>rw [Rp] at r;subst r;exact uR I ru (.int b) e h
 | tup ds =>
  rw [Rp] at r;obtain ⟨a,xs,rfl,sq,rs⟩:=r;cases ru;obtain ⟨its,rv,⟨o,h1,h2,_⟩,hz⟩:=I.tuple sq;exact PySem.W.kia_one PySem.W.kitx_tuple I.gO ⟨o,h1,h2⟩ e (fun z=>nomatch z) h
 | lst ds =>
  rw [Rp] at r;obtain ⟨a,xs,rfl,sq,rs⟩:=r;cases ru;obtain ⟨its,rv,pl,hz⟩:=I.list sq;obtain ⟨o,h1,h2,_⟩:=pl.isList;exact PySem.W.kia_one PySem.W.kitx_list I.gO ⟨o,h1,h2⟩ e (fun z=>nomatch z) h
 | bE ks vs =>
  rw [Rp] at r;obtain ⟨a,xs,ys,ep,rfl,hH,_⟩:=r;cases ru;obtain ⟨⟨_,_,_,o,es,h4,h5,_⟩,_⟩:=(show bO X.prog X.w H s.heap a (.ext (fR (aE X) a xs ys ep)) from I.az a _ hH);exact PySem.W.kia_one PySem.W.kitx_dict I.gO ⟨o,h4,h5.1⟩ e (fun z=>nomatch z) h
 | bP ah =>
  rw [Rp] at r;obtain ⟨a,rfl,hH⟩:=r;cases ru;obtain ⟨_,_,vs,_,o,es,ep,h4,h5,_⟩:=(show bO X.prog X.w H s.heap a (.dK _) from I.az a _ hH);exact PySem.W.kia_one PySem.W.kitx_dict I.gO ⟨o,h4,h5.1⟩ e (fun z=>nomatch z) h
def US (X:Cx):List V->Hp->VK->Prop:=fun xs H Q=>∃ d v t,xs=[v,.ty t.name]/\Rp (aE X) H d v/\Q (.bl (jE d t)) H
def N5:gQ X (.builtin "isinstance") (US X):=by
 intro ab s Z H xs us Q I r h;obtain ⟨d,v,t,rfl,rd,q⟩:=h;obtain ⟨u,w',rfl,ru,mT⟩:=vals2 r;cases mT;exact Xf t I rd ru fun tk=>⟨.bl _,H,I.tok _,rfl,q⟩
def SrcR (X:Cx) (H:Hp) (p:Addr) (ds:List D) (zs:List V):Prop :=
 ax (aE X) H ds zs/\(cm X.K H p zs\/cb X.K H p zs\/(∃ xs ys,fk X H p ds xs ys/\zs=xs.map fun x=>V.ref x.2.1)\/∃ ah,H p=some (n_ ah)/\zs=ah.map fun q=>V.int q.1)
def Je {zs:List V}{Q:zg->Shared->Prop} (hA:A.handled=none) (I:Inv X ab Z H s) (S:SrcR X H p ds zs)
  (h:∀ h' tk us,(∀ b o,s.heap.get? b=some o->h'.get? b=some o)->Vals zs us->Q us { s with heap:=h',toks:=tk }):wpAny (model X.prog X.w) A (collect (.ref p)) Q E s:=by
 rcases S.2 with sq | sq | ⟨xs,ys,d,ez⟩ | ⟨ah,hH,ez⟩
 .obtain ⟨its,rv,pl,hz⟩:=I.list sq;obtain ⟨o,ho,hc,n,hd⟩:=pl.isList;have hlen:=rv.length;exact wpAny_collect_seq p (.inl rfl) ho hc hd (fun h' kp=>h h' s.toks its kp rv) (by simp only [List.size_toArray];omega)
 .obtain ⟨its,rv,pl,hz⟩:=I.tuple sq;obtain ⟨o,ho,hc,n,hd⟩:=pl;have hlen:=rv.length;exact wpAny_collect_seq p (.inr rfl) ho hc hd (fun h' kp=>h h' s.toks its kp rv) (by simp only [List.size_toArray];omega)
 .subst ez;obtain ⟨ep,dat⟩:=d.at_;obtain ⟨⟨h1,h2,h3,o,es,h4,h5,h6,h7,h8⟩,_⟩:=(show bO X.prog X.w H s.heap p (.ext (fR (aE X) p xs ys ep)) from I.az p _ dat);have hsz:es.size=xs.length:=by rw [<- Array.length_toList,h7,List.length_map]
  refine PySem.W.kdu_collect (J7 (ep:=ep) (es:=es) h1) hA ⟨o,h4,h5,h6⟩ (by omega) fun h' tk acc kp kX=>h h' tk acc.toList kp ?_
  have key:∀ (l:List (D × Addr × Value)) (us:zg),l.length=us.length->(∀ (j:Nat) u,us[j]?=some u->∃ x,l[j]?=some x/\u=.ref x.2.1)->Vals (l.map fun x=>V.ref x.2.1) us:=by
   intro l;induction l with
   | nil=>intro us hl _;cases us with | nil=>exact .nil | cons _ _=>simp at hl
   | cons x l ih =>
    intro us hl hj;cases us with
    | nil=>simp at hl
    | cons u us =>
     obtain ⟨y,ey,eu⟩:=hj 0 u rfl;simp at ey;subst ey;exact .cons eu (ih us (by simpa using hl) fun j w hw=>by simpa using hj (j+1) w (by simpa using hw))
  refine key xs acc.toList (by have e:=kX.1;simp only [Array.length_toList];omega) fun j u hu=>?_
  obtain ⟨hj,eu⟩:=kX.2 j u (by rw [<- Array.getElem?_toList];exact hu);have rq:j < xs.length:=by omega
  refine ⟨xs[j],by simp [rq],?_⟩;rw [eu];have e:=entry_at h7 j;rw [Array.getElem?_eq_getElem hj,List.getElem?_eq_getElem rq] at e;have e':=y0 (e.trans (Option.map_some ..));rw [e'];rfl
 .subst ez;obtain ⟨hz,h1,vs,rel,o,es,ep,h4,h5,h6,_,h7,_⟩:=Ld I.az hH;have key:∀ (es:List DictEntry) (vs:List (Key × Value)) (ah:List (Int × Int)),Pairs (cU X.prog X.w) es vs->KV (ah.map fun p=>((.inl p.1:Key),V.int p.2)) vs->Vals (ah.map fun q=>V.int q.1) (es.map (·.key)):=by
   intro es;induction es with
   | nil =>
    intro vs ah hp hr;cases hp;cases ah with
    | nil=>exact .nil
    | cons _ _=>cases hr
   | cons e es ih =>
    intro vs ah hp hr;cases hp with
    | cons hk hv hp =>
     cases ah with
     | nil=>cases hr
     | cons q ah =>
      cases hr with
      | cons h0 hr =>
       refine .cons ?_ (ih _ ah hp hr);have gT:uy _ e.key=true:=hk;rw [<- h0.1] at gT;rcases cZ gT with ⟨i,t,e1,e2⟩ | ⟨x,t,e1,e2⟩
       .cases e1;exact ⟨t,e2⟩
       .cases e1
  have kk:=key es.toList vs ah h7 rel;have hsz:es.size=ah.length:=by
   have:=kk.length;rw [List.length_map,List.length_map,Array.length_toList] at this;exact this.symm
  rw [List.length_map] at hz;refine PySem.W.kdu_collect (J7 (ep:=ep) (es:=es) h1) hA ⟨o,h4,h5,h6⟩ (by omega) fun h' tk acc kp kX=>h h' tk acc.toList kp ?_
  have e:acc.toList=es.toList.map (·.key):=by
   refine List.ext_getElem? fun j=>?_
   by_cases hj:j < acc.size
   .obtain ⟨UT,eu⟩:=kX.2 j acc[j] (Array.getElem?_eq_getElem hj);rw [List.getElem?_map,Array.getElem?_toList,Array.getElem?_toList,Array.getElem?_eq_getElem hj,Array.getElem?_eq_getElem UT];exact congrArg some eu
   .have e1:=kX.1;rw [List.getElem?_map,Array.getElem?_toList,Array.getElem?_toList,Array.getElem?_eq_none (by omega),Array.getElem?_eq_none (by omega)];rfl
  rw [e];exact kk
def Jy (X:Cx):List V->Hp->VK->Prop:=fun vs H Q=>∃ (p:Addr) (ds:List D) (zs:List V),vs=[.ref p]/\SrcR X H p ds zs/\km ds/\∀ S ys,H S=none->(∀ Hs,ax (aE X) Hs ds zs->ax (aE X) Hs (jo ds) ys)->Q (.ref S) (upd H S (.lst ys))
def Fo (hc:X.calm=true) (hu:X.A.units+100 < cLine):gQ X (.builtin "sorted") (Jy X):=by
 intro ab s Z H xs us Q I r h;obtain ⟨p,ds,zs,rfl,src,S,q⟩:=h;obtain ⟨u,rfl,ru⟩:=vals1 r;cases ru;refine Calls.call_function_entry kind_sorted plain_sorted entry_sorted (args_sorted1 _) ?_;unfold Builtin.«sorted»;refine z0 (m:=checkCount "sorted" 1 1 _) (ve ?_)
 refine z0 (Je (A:=X.A.in1) (I.ok.hd hc) I src fun h' tk vs kp rv=>?_);have hlen:=src.1.length;have OM:=rv.length;have UU:=S.len;refine z0 (wpAny_newList ?_ (by rw [sizeLine_eq];omega));have C3:(h'.push (seqObj "list" vs.toArray 0)).get? h'.objs.size=some (seqObj "list" vs.toArray 0):=vy _ rfl
 have I2:Inv X ab Z H { s with heap:=h'.push (seqObj "list" vs.toArray 0),toks:=tk }:=I.kept fun b o e=>vw _ (kp b o e)
 have I1:Inv X ab Z H { s with heap:=h',toks:=tk }:=I.kept kp;have dS:=S.dp;have rs:∀ LA:Heap,(∀ b o,b ≠ h'.objs.size -> (h'.push (seqObj "list" vs.toArray 0)).get? b=some o -> LA.get? b=some o) -> aF LA ds vs:=fun LA kk=>(vN I1 (by omega) src.1 rv).keep fun b o e _=>kk b o (vF (vz e)) (vw _ e)
 refine z0 (wpAny_holding (yB slot_list_sort (s:={ s with heap:=h'.push (seqObj "list" vs.toArray 0),toks:=tk }) ⟨_,C3,rfl⟩ entry_list_sort (Pu C3 S rs (by show X.A.units+1+1+40 < cLine; omega) fun pm pb so=>⟨_,rfl,?_⟩) (args_list_sort _)))
 refine ve ⟨_,rfl,?_⟩;have LB:=pb.size;have A7:H h'.objs.size=none:=I1.az.fresh (vE _);obtain ⟨c,fq⟩:=sortedHeap_at (out:=List.toArray (pm.toList.map fun i=>vs.getD i Value.none)) C3;have G0:∀ i∈pm.toList,i < ds.length:=fun i hi=>by
  have:=(Array.perm_iff_toList_perm.mp pb.perm).mem_iff (a:=i);simp at this;exact this.mp (by simpa using hi)
 have LD:∀ {i},i < ds.length->RelV (zs.getD i .ai) (vs.getD i Value.none):=fun {i} hi=>by
  have e1:zs.getD i .ai=zs[i]'(by omega):=by simp [show i < zs.length by omega]
  obtain ⟨u,e2,ru⟩:=rv.get (i:=i) (x:=zs[i]'(by omega)) (by simp [show i < zs.length by omega]);rw [e1];have e3:vs.getD i Value.none=u:=by simp [List.getD,e2]
  rw [e3];exact ru
 have D1:∀ l:zi,(∀ i∈l,i < ds.length)->Vals (l.map fun i=>zs.getD i .ai) (l.map fun i=>vs.getD i Value.none):=by
  intro l;induction l with
  | nil=>intro _;exact .nil
  | cons i l ih=>intro hl;exact .cons (LD (hl i vj)) (ih fun j hj=>hl j (vi _ hj))
 have D2:∀ Hs,ax (aE X) Hs ds zs->∀ l:zi,(∀ i∈l,i < ds.length)->ax (aE X) Hs (l.map fun i=>ds.getD i .ai) (l.map fun i=>zs.getD i .ai):=by
  intro Hs LF l;induction l with
  | nil=>intro _;exact ax.nil
  | cons i l ih =>
   intro hl;have hi:=hl i vj;obtain ⟨v,e1,rr⟩:=LF.getD (i:=i) (d:=ds.getD i .ai) (by simp [hi]);have e2:zs.getD i .ai=v:=by simp [List.getD,e1]
   rw [List.map_cons,List.map_cons];refine ax.cons ?_ (ih fun j hj=>hl j (vi _ hj));rw [e2];exact rr
 have perm:(pm.toList.map fun i=>ds.getD i .ai).Perm ds:=by
  have h1:(pm.toList.map fun i=>ds.getD i .ai).Perm ((List.range ds.length).map fun i=>ds.getD i .ai):=((Array.perm_iff_toList_perm.mp pb.perm).map _);have h2:(List.range ds.length).map (fun i=>ds.getD i D.ai)=ds:=by
   refine List.ext_getElem (by simp) fun i h1 h2=>?_
   simp at h1;simp [h1]
  rw [h2] at h1;exact h1
 have sorted:(pm.toList.map fun i=>ds.getD i .ai).Pairwise kG:=by
  rw [List.pairwise_iff_getElem];intro i j hi hj la;simp only [List.length_map,Array.length_toList] at hi hj;simp only [List.getElem_map,Array.getElem_toList];have e:=so i j (by omega) (by omega);have ki:Kp (iZ ds) pm i=iZ ds pm[i]:=by unfold Kp;rw [Array.getElem?_eq_getElem hi]
  have kj:Kp (iZ ds) pm j=iZ ds pm[j]:=by unfold Kp;rw [Array.getElem?_eq_getElem hj]
  rw [ki,kj] at e;unfold kG;rw [<- J6 S.cmp (G0 _ (by simp)) (G0 _ (by simp))];exact ya (by omega)
 have eS:=yJ S.cmp perm sorted;refine ⟨.ref h'.objs.size,upd H h'.objs.size (.lst (pm.toList.map fun i=>zs.getD i .ai)),?_,rfl,q _ _ A7 (fun Hs LF=>by rw [eS];exact D2 Hs LF _ G0)⟩;refine I1.laid (t':=tk) (fun b o e=>?_) (vE _) ⟨?_,_,c,D1 _ G0,?_⟩
 .have bj:b < h'.objs.size:=vz e;rw [sortedHeap_old (Nat.ne_of_lt bj) (by rw [size_push'];exact Nat.lt_succ_of_lt bj)];exact vw _ e
 .rw [List.length_map,Array.length_toList,LB,sizeLine_eq];omega
 .exact fq
def RN {prog:Program}{t:Addr}{ws:zg} (ht:IsTup s.heap t (List.toArray [])) (hb:IsTup s.heap b ws.toArray)
  (h1:Q (.ref b) s):wpAny (model prog w) A (binaryOp .Add (.ref t) (.ref b)) Q E s:=by
 obtain ⟨⟨cls,dd,data,sl⟩,ho,hc,n,hd⟩:=id ht;obtain ⟨⟨AH,o6,data2,sN⟩,kR,fq,n2,hd2⟩:=id hb;simp only at hc hd fq hd2;subst hc hd fq hd2;exact concat_meets ⟨_,ho,rfl⟩ ⟨_,kR,rfl⟩ noFill_tuple_add seq_tuple_add PySem.F.slot_tuple_add PySem.F.entry_tuple_add (PySem.F.args_tuple_add_2 _ _)
  (tuple_addW0 t b _ ws.toArray n n2 dd o6 sl sN (by simp)) ⟨ho,kR,h1⟩
def Qd (K:zd):R2:=fun x y H Q=>∃ a b ys,x=.ref a/\y=.ref b/\cb K H a []/\cb K H b ys/\Q (.ref b) H
def Um:eR X (binaryOp .Add) (Qd X.K):=by
 intro ab s Z H x y v u Q I rx ry h;obtain ⟨a,b,ys,rfl,rfl,ha,hb,q⟩:=h;cases rx;cases ry;obtain ⟨its,r1,p1,_⟩:=I.tuple ha;obtain ⟨cX,r2,p2,_⟩:=I.tuple hb;cases r1;exact RN p1 p2 ⟨.ref b,H,I,rfl,q⟩
def Vc (K:zd):R2:=fun x y H Q=>∃ l b xs zs,x=.ref l/\y=.ref b/\cm K H l xs/\cm K H b zs/\xs.length+zs.length<=sizeLine/\∀ p,H p=none->Q (.ref p) (upd H p (.lst (xs++zs)))
def UW (K:zd):V->List V->Hp->VK->Prop:=fun x vs H Q=>∃ l b xs zs,x=.ref l/\vs=[.ref b]/\H l=some (.lst xs)/\(cm K H b zs\/cb K H b zs)/\xs.length+zs.length<=lim/\Q .ai (upd H l (.lst (xs++zs)))
def Ww:NN X "list.extend" (UW X.K):=by
 intro ab s Z H x vs v us Q I rx rv h;obtain ⟨l,b,xs,zs,rfl,rfl,hH,hB,hz,q⟩:=h;cases rx;obtain ⟨u,rfl,ru⟩:=rv.one;cases ru;have bX:=iU;obtain ⟨z,its,n,r,hl,e⟩:=I.ph hH;obtain ⟨T,o,cX,n2,hT,ho,hc,hd,r2⟩:∃ (T:String) (o:Obj) (cX:zg) (n2:Nat),(T="list" \/ T="tuple") /\ s.heap.get? b=some o /\ o.cls=.type T /\ o.data=.seq cX.toArray n2 /\ Vals zs cX:=by
  rcases hB with hB | hB
  .obtain ⟨cX,r2,pl,_⟩:=I.list hB;obtain ⟨o,ho,hc,n2,hd⟩:=pl.isList;exact ⟨"list",o,cX,n2,.inl rfl,ho,hc,hd,r2⟩
  .obtain ⟨cX,r2,⟨o,ho,hc,n2,hd⟩,_⟩:=I.tuple hB;exact ⟨"tuple",o,cX,n2,.inr rfl,ho,hc,hd,r2⟩
 have k_:=r2.length;refine yB PySem.F.slot_list_extend ⟨_,e,rfl⟩ PySem.F.entry_list_extend ?_ (PySem.F.args_list_extend_2 _ _);show wpAny _ _ (Builtin.List.listExtendWith (.ref l) (.ref b) .none) _ _ s
 unfold Builtin.List.listExtendWith;refine z0 (wpAny_typeOf ⟨o,ho,hc⟩ ?_);have h1:(Builtin.List.listSameRef (.ref l) (.ref b) || Value.type T == Value.type "list" || Value.type T == Value.type "tuple")=true:=by
  rcases hT with rfl | rfl <;> simp
 rw [if_pos h1];refine z0 (listItems_at ho hd ?_);refine z0 (listItems_at e rfl ?_);have D3:¬ (!its.toArray.isEmpty && Builtin.List.listTooLong (its.toArray.size+cX.toArray.size))=true:=by
  rw [QX (by rw [List.size_toArray,List.size_toArray];omega),Bool.and_false];exact Bool.false_ne_true
 rw [if_neg D3];refine z0 (listUpdate_at e rfl ?_ (by rw [List.size_toArray];omega) (by simp only [List.size_toArray,Array.size_append];omega));refine ve ⟨_,rfl,?_⟩;exact ⟨.ai,_,I.eh (t':=s.toks) (its':=its++cX) hH e (by simp) (r.append r2) (by rw [List.length_append];omega),rfl,q⟩
end
variable {h':Heap}{l:Addr}
section
variable {prog:Program}{w:World}{A:Around}{E:zb}{s:Shared}{z ti to i1 i2 l1 l2:Addr}{n1 n2:Nat}{us vs:zt}{u v c d:Value}
structure xx (z ti to i1 i2 l1 l2:Addr) (f:Value) (us vs:zt) (n1 n2:Nat) (h:Heap):Prop where
 ap:ZipApart z ti to i1 i2 l1 l2
 zr:IsZip h z ti to f
 its:IsPair h ti (.ref i1) (.ref i2)
 out:∃ c d,IsPair h to c d
 one:h.IsTupleIter i1 l1 n1
 two:h.IsTupleIter i2 l2 n2
 UX:h.IsTuple l1 us
 UY:h.IsTuple l2 vs
def tK {i:Addr} (x:h.IsTupleIter i l n) (k:∀ o,h.get? i=some o->h'.get? i=some o):h'.IsTupleIter i l n:=let ⟨o,e,r⟩:=x;⟨o,k o e,r⟩
def o9 (x:h.IsTuple l us) (k:∀ o,h.get? l=some o->h'.get? l=some o):h'.IsTuple l us:=let ⟨o,e,r⟩:=x;⟨o,k o e,r⟩
def Pj (S:xx z ti to i1 i2 l1 l2 .none us vs n1 n2 s.heap) (hu:us[n1]?=some u) (hv:vs[n2]?=some v)
  (hQ:∀ g,xx z ti to i1 i2 l1 l2 (rawInt s.heap.objs.size) us vs (n1+1) (n2+1) g->IsPair g s.heap.objs.size u v->g.objs.size=s.heap.objs.size+1 ->
   (∀ b o,b≠z->b≠to->b≠i1->b≠i2->s.heap.get? b=some o->g.get? b=some o)->Q (.ref s.heap.objs.size) { s with heap:=g }) :
  wpAny (model prog w) A (Builtin.«zip.__next__» ⟨[.ref z],[]⟩) (fun fin s'=>∃ v,fin=.done (.ret v)/\Q v s') E s:=by
 obtain ⟨D,hz,ht,⟨c,d,ho⟩,k1,k2,m1,m2⟩:=S;show wpAny _ _ (field (.ref z) 2 >>= _) _ _ _
 refine z0 (yZ hz rfl (x:=.bool false) rfl ?_);show wpAny _ _ (field (.ref z) 3 >>= _) _ _ _
 refine z0 (yZ hz rfl (x:=.ref ti) rfl (z0 (wpAny_seqItems ht rfl ?_)));show wpAny _ _ (Builtin.SmallTypes.ownedTupleIsFree (.ref z) >>= _) _ _ _
 refine z0 ?_;unfold Builtin.SmallTypes.ownedTupleIsFree;refine z0 (yZ hz rfl (x:=.none) rfl (ve ?_));simp only [if_true];refine z0 (wpAny_rule (z0 (yZ hz rfl (x:=.ref to) rfl (z0 (wpAny_setField_rec hz (by simp) fun g1 z1 e1=>?_)))));replace z1:IsZip g1 z ti to .ellipsis:=z1;refine z0 ?_;simp only [List.zipIdx_cons,List.zipIdx_nil,List.forIn_cons,List.forIn_nil];refine z0 (z0 (wpAny_onRaise ?_));show wpAny _ _ (Builtin.SmallTypes.nextOf (.ref i1) >>= _) _ _ _
 refine z0 (nD (k1.extBut e1.extBut D.i1z) (m1.extBut e1.extBut D.l1z) hu fun g2 ON e2=>ve ?_);have o2:IsPair g2 to c d:=e2.extBut _ _ D.TOi1 (e1.extBut _ _ D.TOz ho);refine z0 (wpAny_seqItems o2 rfl (z0 (wpAny_updateSeq_pair o2 fun g3 o3 e3=>?_)));replace o3:IsPair g3 to u d:=o3;refine z0 (wpAny_letGo (ve (z0 (z0 (wpAny_onRaise ?_)))));show wpAny _ _ (Builtin.SmallTypes.nextOf (.ref i2) >>= _) _ _ _
 refine z0 (nD (((k2.extBut e1.extBut D.i2z).extBut e2.extBut D.i12.symm).extBut e3.extBut D.TOi2.symm) (((m2.extBut e1.extBut D.l2z).extBut e2.extBut D.l2i1).extBut e3.extBut D.l2TO) hv fun g4 UZ e4=>ve ?_);have o4:IsPair g4 to u d:=e4.extBut _ _ D.TOi2 o3;refine z0 (wpAny_seqItems o4 rfl (z0 (wpAny_updateSeq_pair o4 fun g5 o5 e5=>?_)));replace o5:IsPair g5 to u v:=o5;refine z0 (wpAny_letGo (ve (ve (z0 (wpAny_seqItems o5 rfl (z0 (wpAny_newTuple ?_)))))));have sz:g5.objs.size=s.heap.objs.size:=by rw [e5.1,e4.1,e3.1,e2.1,e1.1]
 have z5:IsZip g5 z ti to .ellipsis:=e5.extBut _ _ D.TOz.symm (e4.extBut _ _ D.i2z.symm (e3.extBut _ _ D.TOz.symm (e2.extBut _ _ D.i1z.symm z1)));have kp:∀ b o,b≠z->b≠to->b≠i1->b≠i2->s.heap.get? b=some o->g5.get? b=some o:=fun b o b1 b2 b3 b4 e=>e5.extBut _ _ b2 (e4.extBut _ _ b4 (e3.extBut _ _ b2 (e2.extBut _ _ b3 (e1.extBut _ _ b1 e))))
 have U1:g5.IsTupleIter i1 l1 (n1+1):=((ON.extBut e3.extBut D.TOi1.symm).extBut e4.extBut D.i12).extBut e5.extBut D.TOi1.symm;have U2:g5.IsTupleIter i2 l2 (n2+1):=UZ.extBut e5.extBut D.TOi2.symm;have G1:z < g5.objs.size:=vz z5;show wpAny _ _ (Builtin.SmallTypes.ownedTupleHandOut (.ref z) (.ref g5.objs.size) >>= _) _ _ _
 refine z0 ?_;unfold Builtin.SmallTypes.ownedTupleHandOut;have z6:IsZip (g5.push { cls:=.type "tuple",data:=.seq #[u,v] }) z ti to .ellipsis:=vw _ z5
 refine z0 (wpAny_setField_rec z6 (by simp) fun g7 z7 e7=>?_);replace z7:IsZip g7 z ti to (rawInt g5.objs.size):=z7;refine wpAny_setField_rec z7 (by simp) fun g8 z8 e8=>?_
 replace z8:IsZip g8 z ti to (rawInt g5.objs.size):=z8;have up:∀ b o,b≠z->g5.get? b=some o->g8.get? b=some o:=fun b o b1 e=>e8.extBut _ _ b1 (e7.extBut _ _ b1 (vw _ e))
 have p8:IsPair g8 g5.objs.size u v:=e8.extBut _ _ (vS G1) (e7.extBut _ _ (vS G1) (vy _ rfl));have s8:g8.objs.size=g5.objs.size+1:=by rw [e8.1,e7.1,Heap.size_push]
 rw [sz] at z8 p8 s8;refine ve ⟨_,rfl,?_⟩;show Q (.ref g5.objs.size) _
 rw [sz];have G2:∀ b o,b≠z->b≠to->b≠i1->b≠i2->s.heap.get? b=some o->g8.get? b=some o:=fun b o b1 b2 b3 b4 e=>up b o b1 (kp b o b1 b2 b3 b4 e)
 exact hQ g8 ⟨D,z8,G2 _ _ D.TIz D.TITO D.TIi1 D.TIi2 ht,⟨_,_,up _ _ D.TOz o5⟩,tK U1 fun o e=>up _ o D.i1z e,tK U2 fun o e=>up _ o D.i2z e,o9 m1 fun o e=>G2 _ o D.l1z D.l1TO D.l1i1 D.l1i2 e,o9 m2 fun o e=>G2 _ o D.l2z D.l2TO D.l2i1 D.l2i2 e⟩ p8 s8 G2
def Ug {Q:Fin->Shared->Prop} (hh:A.handled=none) (S:xx z ti to i1 i2 l1 l2 .none us vs n1 n2 s.heap) (he:us[n1]?=none\/vs[n2]?=none)
  (hE:∀ g e,(∀ b o,b ≠ z -> b ≠ to -> b ≠ i1 -> b ≠ i2 -> s.heap.get? b=some o -> g.get? b=some o) -> (∃ o,g.get? e=some o /\ o.cls=.type "StopIteration") -> E (.ref e) { s with heap:=g }) :
  wpAny (model prog w) A (Builtin.«zip.__next__» ⟨[.ref z],[]⟩) Q E s:=by
 obtain ⟨D,hz,ht,⟨c,d,ho⟩,k1,k2,m1,m2⟩:=S;show wpAny _ _ (field (.ref z) 2 >>= _) _ _ _
 refine z0 (yZ hz rfl (x:=.bool false) rfl ?_);show wpAny _ _ (field (.ref z) 3 >>= _) _ _ _
 refine z0 (yZ hz rfl (x:=.ref ti) rfl (z0 (wpAny_seqItems ht rfl ?_)));show wpAny _ _ (Builtin.SmallTypes.ownedTupleIsFree (.ref z) >>= _) _ _ _
 refine z0 ?_;unfold Builtin.SmallTypes.ownedTupleIsFree;refine z0 (yZ hz rfl (x:=.none) rfl (ve ?_));simp only [if_true];refine z0 (wpAny_rule (z0 (yZ hz rfl (x:=.ref to) rfl (z0 (wpAny_setField_rec hz (by simp) fun g1 z1 e1=>?_)))));replace z1:IsZip g1 z ti to .ellipsis:=z1;refine z0 ?_;simp only [List.zipIdx_cons,List.zipIdx_nil,List.forIn_cons,List.forIn_nil];refine z0 (z0 (wpAny_onRaise ?_));show wpAny _ _ (Builtin.SmallTypes.nextOf (.ref i1) >>= _) _ _ _
 cases hx:us[n1]? with
 | none =>
  refine z0 (uU hh (k1.extBut e1.extBut D.i1z) (m1.extBut e1.extBut D.l1z) hx fun g2 e e2 q=>?_);obtain ⟨oe,qo,qc⟩:=q;have z2:IsZip g2 z ti to .ellipsis:=e2 _ _ D.i1z.symm z1;have ez:e≠z:=fun x=>by subst x;rw [z2] at qo;cases qo;simp at qc
  exact wpAny_setField_rec z2 (by simp) fun g3 _ e3=>hE g3 e (fun b o b1 _ b3 _ x=>e3.extBut _ _ b1 (e2 _ _ b3 (e1.extBut _ _ b1 x))) ⟨oe,e3.extBut _ _ ez qo,qc⟩
 | some x =>
  have hy:vs[n2]?=none:=by
   rcases he with q | q
   .rw [hx] at q;cases q
   .exact q
  refine z0 (nD (k1.extBut e1.extBut D.i1z) (m1.extBut e1.extBut D.l1z) hx fun g2 ON e2=>ve ?_);have o2:IsPair g2 to c d:=e2.extBut _ _ D.TOi1 (e1.extBut _ _ D.TOz ho);refine z0 (wpAny_seqItems o2 rfl (z0 (wpAny_updateSeq_pair o2 fun g3 o3 e3=>?_)));refine z0 (wpAny_letGo (ve (z0 (z0 (wpAny_onRaise ?_)))));show wpAny _ _ (Builtin.SmallTypes.nextOf (.ref i2) >>= _) _ _ _
  refine z0 (uU hh (((k2.extBut e1.extBut D.i2z).extBut e2.extBut D.i12.symm).extBut e3.extBut D.TOi2.symm) (((m2.extBut e1.extBut D.l2z).extBut e2.extBut D.l2i1).extBut e3.extBut D.l2TO) hy fun g4 e e4 q=>?_);obtain ⟨oe,qo,qc⟩:=q;have z4:IsZip g4 z ti to .ellipsis:=e4 _ _ D.i2z.symm (e3.extBut _ _ D.TOz.symm (e2.extBut _ _ D.i1z.symm z1));have ez:e≠z:=fun x=>by subst x;rw [z4] at qo;cases qo;simp at qc
  exact wpAny_setField_rec z4 (by simp) fun g5 _ e5=>hE g5 e (fun b o b1 b2 b3 b4 x=>e5.extBut _ _ b1 (e4 _ _ b4 (e3.extBut _ _ b2 (e2.extBut _ _ b3 (e1.extBut _ _ b1 x))))) ⟨oe,e5.extBut _ _ ez qo,qc⟩
def LR {Q:Option Value->Shared->Prop} (S:xx z ti to i1 i2 l1 l2 .none us vs n1 n2 s.heap) (hu:us[n1]?=some u) (hv:vs[n2]?=some v)
  (hQ:∀ g,xx z ti to i1 i2 l1 l2 (rawInt s.heap.objs.size) us vs (n1+1) (n2+1) g->IsPair g s.heap.objs.size u v->g.objs.size=s.heap.objs.size+1 ->
   (∀ b o,b≠z->b≠to->b≠i1->b≠i2->s.heap.get? b=some o->g.get? b=some o)->Q (some (.ref s.heap.objs.size)) { s with heap:=g }) :
  wpAny (model prog w) A (pyNext (.ref z)) Q E s:=by
 have ty:s.TypeIs (.ref z) "zip":=⟨_,S.zr,rfl⟩
 unfold pyNext;exact z0 (wpAny_attempt (yM (name:=Str.ofString "__next__") ty F.slot_zip_next (yB F.slot_zip_next ty F.entry_zip_next (Pj S hu hv fun g q1 q2 q3 q4=>ve (hQ g q1 q2 q3 q4)) (F.args_zip_next_1 _))))
def QF {Q:Option Value->Shared->Prop} (hh:A.handled=none) (S:xx z ti to i1 i2 l1 l2 .none us vs n1 n2 s.heap) (he:us[n1]?=none\/vs[n2]?=none)
  (hQ:∀ g,(∀ b o,b≠z->b≠to->b≠i1->b≠i2->s.heap.get? b=some o->g.get? b=some o)->Q none { s with heap:=g }):wpAny (model prog w) A (pyNext (.ref z)) Q E s:=by
 have ty:s.TypeIs (.ref z) "zip":=⟨_,S.zr,rfl⟩
 unfold pyNext;refine z0 (wpAny_attempt (yM (name:=Str.ofString "__next__") ty F.slot_zip_next (yB F.slot_zip_next ty F.entry_zip_next (Ug hh S he fun g e kp q=>?_) (F.args_zip_next_1 _))))
 obtain ⟨o,qo,qc⟩:=q;exact z0 (wpAny_isInstance (T:="StopIteration") (b:=true) ⟨o,qo,qc⟩ isSubtype_stop (ve (hQ _ kp)))
noncomputable abbrev zo (l:Addr):Obj:={ cls:=.type "tuple_iterator",data:=.fields #[.ref l,.int 0 0] }
abbrev zh (h:Heap) (l1 l2:Addr):Heap:=((((h.push (zo l1)).push (zo l2)).push { cls:=.type "tuple",data:=.seq #[.ref h.objs.size,.ref (h.push (zo l1)).objs.size] }).push { cls:=.type "tuple",data:=.seq #[.none,.none] }).push
 { cls:=.type "zip",data:=.fields #[.none,.bool false,.bool false,.ref ((h.push (zo l1)).push (zo l2)).objs.size,.ref (((h.push (zo l1)).push (zo l2)).push { cls:=.type "tuple",data:=.seq #[.ref h.objs.size,.ref (h.push (zo l1)).objs.size] }).objs.size] }
def T7 (l1 l2:Addr) (us vs:zt):Meets (Builtin.«zip.__new__» ⟨[.type "zip",.ref l1,.ref l2],[]⟩) (fun _ R s=>s.heap.IsTuple l1 us /\ s.heap.IsTuple l2 vs /\
   R (.ok (.ret (.ref ((((s.heap.push (zo l1)).push (zo l2)).push { cls:=.type "tuple",data:=.seq #[.ref s.heap.objs.size,.ref (s.heap.push (zo l1)).objs.size] }).push { cls:=.type "tuple",data:=.seq #[.none,.none] }).objs.size))) { s with heap:=zh s.heap l1 l2 }) :=
 .of_wp fun prog w A R s h=>by
  obtain ⟨hp,g,d,tk,os⟩:=s;obtain ⟨m1,m2,h⟩:=h;have g_:=sub_zip;have t1:Heap.IsTuple (Shared.heap ⟨hp,g,d,tk,os⟩) l1 us:=m1;have t2:Heap.IsTuple (Shared.heap ⟨hp.push (zo l1),g,d,tk,os⟩) l2 vs:=o9 m2 fun o e=>vw _ e
  wp_walk using wpAny_pyIter_tuple t1,wpAny_pyIter_tuple t2
  exact ⟨_,rfl,h⟩
def U_ {a b:Nat} (h1:a < n) (h2:b < n):ZipApart (n+4) (n+2) (n+3) n (n+1) a b where
 TIz:=show n+2≠n+4 by omega
 TOz:=show n+3≠n+4 by omega
 i1z:=show n≠n+4 by omega
 i2z:=show n+1≠n+4 by omega
 TITO:=show n+2≠n+3 by omega
 TIi1:=show n+2≠n by omega
 TIi2:=show n+2≠n+1 by omega
 TOi1:=show n+3≠n by omega
 TOi2:=show n+3≠n+1 by omega
 i12:=show n≠n+1 by omega
 l1z:=show a≠n+4 by omega
 l1TO:=show a≠n+3 by omega
 l1i1:=show a≠n by omega
 l1i2:=show a≠n+1 by omega
 l2z:=show b≠n+4 by omega
 l2TO:=show b≠n+3 by omega
 l2i1:=show b≠n by omega
 l2i2:=show b≠n+1 by omega
def PX (m1:s.heap.IsTuple l1 us) (m2:s.heap.IsTuple l2 vs)
  (h:∀ g,xx (s.heap.objs.size+4) (s.heap.objs.size+2) (s.heap.objs.size+3) s.heap.objs.size (s.heap.objs.size+1) l1 l2 .none us vs 0 0 g->g.objs.size=s.heap.objs.size+5 ->
   (∀ b o,s.heap.get? b=some o->g.get? b=some o)->Q (.ref (s.heap.objs.size+4)) { s with heap:=g }) :
  wpAny (model prog w) A (call (.type "zip") [.ref l1,.ref l2]) Q E s:=by
 refine callType_new F.called_zip (by decide) (F.typeCall_zip_2 _ _) (F.newCall_zip_2 _ _) (fun obj=>F.args_object_init_3 obj _ _) F.entry_zip_new (T7 l1 l2 us vs) ⟨m1,m2,?_⟩;have VA:l1 < s.heap.objs.size:=by obtain ⟨_,e,_⟩:=m1;exact vz e
 have VC:l2 < s.heap.objs.size:=by obtain ⟨_,e,_⟩:=m2;exact vz e
 have a1:(s.heap.push (zo l1)).objs.size=s.heap.objs.size+1:=Heap.size_push ..;have a2:((s.heap.push (zo l1)).push (zo l2)).objs.size=s.heap.objs.size+2:=by rw [Heap.size_push,a1]
 have a3:(((s.heap.push (zo l1)).push (zo l2)).push { cls:=.type "tuple",data:=.seq #[.ref s.heap.objs.size,.ref (s.heap.push (zo l1)).objs.size] }).objs.size=s.heap.objs.size+3:=by rw [Heap.size_push,a2]
 have a4:((((s.heap.push (zo l1)).push (zo l2)).push { cls:=.type "tuple",data:=.seq #[.ref s.heap.objs.size,.ref (s.heap.push (zo l1)).objs.size] }).push { cls:=.type "tuple",data:=.seq #[.none,.none] }).objs.size=s.heap.objs.size+4:=by rw [Heap.size_push,a3]
 have a5:(zh s.heap l1 l2).objs.size=s.heap.objs.size+5:=by rw [Heap.size_push,a4]
 have b5:(zh s.heap l1 l2).get? ((((s.heap.push (zo l1)).push (zo l2)).push { cls:=.type "tuple",data:=.seq #[.ref s.heap.objs.size,.ref (s.heap.push (zo l1)).objs.size] }).push { cls:=.type "tuple",data:=.seq #[.none,.none] }).objs.size=some _:=vy _ rfl
 have b4:(zh s.heap l1 l2).get? (((s.heap.push (zo l1)).push (zo l2)).push { cls:=.type "tuple",data:=.seq #[.ref s.heap.objs.size,.ref (s.heap.push (zo l1)).objs.size] }).objs.size=some _:=vw _ (vy _ rfl)
 have b3:(zh s.heap l1 l2).get? ((s.heap.push (zo l1)).push (zo l2)).objs.size=some _:=vw _ (vw _ (vy _ rfl));have b2:(zh s.heap l1 l2).get? (s.heap.push (zo l1)).objs.size=some _:=vw _ (vw _ (vw _ (vy _ rfl)));have b1:(zh s.heap l1 l2).get? s.heap.objs.size=some _:=vw _ (vw _ (vw _ (vw _ (vy _ rfl))));have kp:∀ b o,s.heap.get? b=some o->(zh s.heap l1 l2).get? b=some o:=fun b o x=>vw _ (vw _ (vw _ (vw _ (vw _ x))))
 show _/\_
 rw [a2,a3,a4] at b5;rw [a1,a2] at b3;rw [a3] at b4;rw [a1] at b2;rw [a4];exact ⟨⟨_,b5,rfl⟩,h _ ⟨U_ VA VC,b5,b3,⟨_,_,b4⟩,⟨_,b1,rfl,rfl⟩,⟨_,b2,rfl,rfl⟩,o9 m1 fun o e=>kp _ o e,o9 m2 fun o e=>kp _ o e⟩ a5 kp⟩
end
def G_ (K:zd) (a b:Addr):It :=
 ⟨fun i H=>∃ xs ys x y,cb K H a xs/\cb K H b ys/\xs[i]?=some x/\ys[i]?=some y,
  fun i H x H'=>∃ p y1 y2,H p=none/\x=.ref p/\H'=upd H p (.tup [y1,y2])/\(∀ xs,cb K H a xs->xs[i]?=some y1)/\∀ ys,cb K H b ys->ys[i]?=some y2,
  fun i H=>∃ xs ys,cb K H a xs/\cb K H b ys/\(xs[i]?=none\/ys[i]?=none)⟩
def ZP (z ti to i1 i2 a b:Addr) (i:Nat) (h:Heap):Prop:=IsZip h z ti to .none/\IsPair h ti (.ref i1) (.ref i2)/\(∃ c d,IsPair h to c d)/\h.IsTupleIter i1 a i/\h.IsTupleIter i2 b i
variable {z ti to i1 i2:Addr}{i:Nat}{us:zt}
def Jr {vs:zt} (D:ZipApart z ti to i1 i2 a b) (S:ZP z ti to i1 i2 a b i h) (m1:h.IsTuple a us) (m2:h.IsTuple b vs):xx z ti to i1 i2 a b .none us vs i i h :=
 ⟨D,S.1,S.2.1,S.2.2.1,S.2.2.2.1,S.2.2.2.2,m1,m2⟩
def R7 (h:b∈([z,ti,to,i1,i2]:List Addr)):b=z\/b=ti\/b=to\/b=i1\/b=i2:=by simpa using h
variable {P:Program}{f_:zl}{x1:Nat}{fN:Pos}
def O6 (D:ZipApart z ti to i1 i2 a b) :
  Turn P w K (.Tuple f_ x1 fN) (G_ K a b) [z,ti,to,i1,i2] z (ZP z ti to i1 i2 a b) where
 mem:=by simp
 obj:=fun i h st q hq=>by
  obtain ⟨r1,r2,⟨c,d,r3⟩,⟨o4,e4,c4,d4⟩,⟨o5,e5,c5,d5⟩⟩:=st;rcases R7 hq with e | e | e | e | e <;> subst e
  .exact ⟨_,r1,fun v x=>by cases x⟩
  .exact ⟨_,r2,fun v x=>by cases x⟩
  .exact ⟨_,r3,fun v x=>by cases x⟩
  .exact ⟨o4,e4,fun v x=>by rw [d4] at x;cases x⟩
  .exact ⟨o5,e5,fun v x=>by rw [d5] at x;cases x⟩
 keep:=fun i h h' st k=>by
  obtain ⟨r1,r2,⟨c,d,r3⟩,r4,r5⟩:=st;exact ⟨k z (by simp) _ r1,k ti (by simp) _ r2,⟨c,d,k to (by simp) _ r3⟩,tK r4 fun o e=>k i1 (by simp) o e,tK r5 fun o e=>k i2 (by simp) o e⟩
 item:=by
  intro X hP hw hK hc i ab s Z H E I hf st hg;subst hP hw hK;obtain ⟨xs,ys,x,y,G',Ha,hx,hy⟩:=hg;obtain ⟨us,rx,p1,_⟩:=I.tuple G';obtain ⟨vs,ry,p2,_⟩:=I.tuple Ha;obtain ⟨u,hu,ru⟩:=rx.get hx;obtain ⟨v,hv,rv⟩:=ry.get hy;have S:=Jr D st (show s.heap.IsTuple a us.toArray from p1) (show s.heap.IsTuple b vs.toArray from p2);refine LR S (u:=u) (v:=v) (by simpa using hu) (by simpa using hv) fun g S1 hT hsz kp=>?_
  refine ⟨.ref s.heap.objs.size,rfl,wpAny_letOwnedTupleGo_zip (s:={ s with heap:=g }) S1.zr fun g2 VE e2=>?_⟩;have Cc:Heap.SameBut z g g2:=e2;have lt:∀ q o,s.heap.get? q=some o->q < s.heap.objs.size:=fun q o e=>vz e
  have G1:=lt _ _ st.1;have D4:∀ q o,q≠z->q≠to->q≠i1->q≠i2->s.heap.get? q=some o->g2.get? q=some o:=fun q o n1 n2 n3 n4 e=>Cc.extBut q o n1 (kp q o n1 n2 n3 n4 e)
  have fz:=hf z (by simp);have fo:=hf to (by simp);have f1:=hf i1 (by simp);have f2:=hf i2 (by simp);have zY:=hf ti (by simp);have gx:H s.heap.objs.size=none:=I.az.fresh (vE _);have nT:∀ q o,s.heap.get? q=some o->q≠s.heap.objs.size:=fun q o e=>vF (vz e)
  have DH:g2.get? s.heap.objs.size=some { cls:=.type "tuple",data:=.seq #[u,v] }:=Cc.extBut _ _ (vS G1) hT
  have dC:∀ q,q ∉ ([z,to,i1,i2]:List Addr)->q≠z/\q≠to/\q≠i1/\q≠i2:=fun q hq=>by simpa using hq
  have I2:Inv X ab Z (upd H s.heap.objs.size (.tup [x,y])) { s with heap:=g2 }:=by
   refine I.step (g':=s.gens) (d':=s.drawn) (t':=s.toks) (ch:=[z,to,i1,i2]) (fun q hq=>?_) (fun q o _ _ hc e _=>D4 q o (dC q hc).1 (dC q hc).2.1 (dC q hc).2.2.1 (dC q hc).2.2.2 e) (fun q o _ _ hc e _=>⟨o.slots,D4 q o (dC q hc).1 (dC q hc).2.1 (dC q hc).2.2.1 (dC q hc).2.2.2 e⟩) (fun q o _ e n=>by rw [ak (nT q o e)];exact n)
    (fun q o hc e=>⟨o,D4 q o (dC q hc).1 (dC q hc).2.1 (dC q hc).2.2.1 (dC q hc).2.2.2 e⟩) (fun q zs e=>by rw [ak (aq e gx)];exact e) (fun q o u e=>by rw [ak (aq e gx)];exact e) (fun q ps e=>⟨#[],by rw [ak (aq e gx),e];simp⟩) (fun m hm=>?_) (fun q u' e=>?_) I.bare
   .have Cf:q=z\/q=to\/q=i1\/q=i2:=by simpa using hq
    rcases Cf with e | e | e | e <;> subst e
    .exact ⟨fz.2.2.2.1,fz.2.1,fz.2.2.2.2.1,fz.2.2.2.2.2⟩
    .exact ⟨fo.2.2.2.1,fo.2.1,fo.2.2.2.2.1,fo.2.2.2.2.2⟩
    .exact ⟨f1.2.2.2.1,f1.2.1,f1.2.2.2.2.1,f1.2.2.2.2.2⟩
    .exact ⟨f2.2.2.2.1,f2.2.1,f2.2.2.2.2.1,f2.2.2.2.2.2⟩
   .obtain ⟨o,es,ep,ho,r⟩:=hm;exact ⟨o,es,ep,D4 _ o (Ne.symm fz.2.1) (Ne.symm fo.2.1) (Ne.symm f1.2.1) (Ne.symm f2.2.1) ho,r⟩
   .by_cases OO:q=s.heap.objs.size
    .subst OO;rw [aC] at e;cases e;exact ⟨by show 2<=sizeLine;decide,[u,v],.cons ru (.cons rv .nil),⟨_,DH,rfl,_,rfl⟩⟩
    .rw [ak OO] at e;have nb:∀ c v,H c=some v->c≠z/\c≠to/\c≠i1/\c≠i2:=fun c v e=>⟨aq e fz.1,aq e fo.1,aq e f1.1,aq e f2.1⟩
     refine (I.az q u' e).fE (fun c v hc r=>?_) (fun c r=>by rw [ak (aq r gx)];exact r) (fun c zs r=>by rw [ak (aq r gx)];exact r) (fun c _ r _=>by rw [ak (aq r gx)];exact r);have nc:c≠z/\c≠to/\c≠i1/\c≠i2:=by
      rcases hc with k | k
      .rw [k];exact nb q u' e
      .exact nb c _ k
     exact D4 c v nc.1 nc.2.1 nc.2.2.1 nc.2.2.2 r
  refine ⟨.ref s.heap.objs.size,_,I2,rfl,⟨s.heap.objs.size,x,y,gx,rfl,rfl,fun ws hw=>by rw [I.eL hw G'];exact hx,fun ws hw=>by rw [I.eL hw Ha];exact hy⟩,?_,fun q hq=>?_⟩
  .obtain ⟨c,d,ho⟩:=S1.out;exact ⟨VE,Cc.extBut _ _ D.TIz S1.its,⟨c,d,Cc.extBut _ _ D.TOz ho⟩,S1.one.extBut Cc.extBut D.i1z,S1.two.extBut Cc.extBut D.i2z⟩
  .have hn:∀ {q o},s.heap.get? q=some o->H q=none->upd H s.heap.objs.size (.tup [x,y]) q=none:=fun e n=>by rw [ak (nT _ _ e)];exact n
   obtain ⟨r1,r2,⟨c,d,r3⟩,⟨o4,e4,_⟩,⟨o5,e5,_⟩⟩:=st;rcases R7 hq with e | e | e | e | e <;> subst e
   .exact hn r1 fz.1
   .exact hn r2 zY.1
   .exact hn r3 fo.1
   .exact hn e4 f1.1
   .exact hn e5 f2.1
 done:=by
  intro X hP hw hK hc i ab s Z H E I hf st hg;subst hP hw hK;obtain ⟨xs,ys,G',Ha,he⟩:=hg;obtain ⟨us,rx,p1,_⟩:=I.tuple G';obtain ⟨vs,ry,p2,_⟩:=I.tuple Ha;have S:=Jr D st (show s.heap.IsTuple a us.toArray from p1) (show s.heap.IsTuple b vs.toArray from p2);have l1:=rx.length;have l2:=ry.length;have sT:us.toArray[i]?=none\/vs.toArray[i]?=none:=by
   rcases he with e | e
   .left;rw [List.getElem?_eq_none_iff] at e;simp;omega
   .right;rw [List.getElem?_eq_none_iff] at e;simp;omega
  refine QF (I.ok.hd hc) S sT fun g kp=>⟨rfl,?_⟩
  have fz:=hf z (by simp);have fo:=hf to (by simp);have f1:=hf i1 (by simp);have f2:=hf i2 (by simp);have dC:∀ q,q ∉ ([z,to,i1,i2]:List Addr)->q≠z/\q≠to/\q≠i1/\q≠i2:=fun q hq=>by simpa using hq
  have kc:∀ q o,q ∉ ([z,to,i1,i2]:List Addr)->s.heap.get? q=some o->g.get? q=some o:=fun q o hc e=>kp q o (dC q hc).1 (dC q hc).2.1 (dC q hc).2.2.1 (dC q hc).2.2.2 e
  refine I.step (g':=s.gens) (d':=s.drawn) (t':=s.toks) (ch:=[z,to,i1,i2]) (fun q hq=>?_) (fun q o _ _ hc e _=>kc q o hc e) (fun q o _ _ hc e _=>⟨o.slots,kc q o hc e⟩) (fun _ _ _ _ n=>n) (fun q o hc e=>⟨o,kc q o hc e⟩)
   (fun _ _ e=>e) (fun _ _ _ e=>e) (fun q ps e=>⟨#[],by rw [e];simp⟩) (fun m hm=>?_) (fun q u' e=>?_) I.bare
  .have Cf:q=z\/q=to\/q=i1\/q=i2:=by simpa using hq
   rcases Cf with e | e | e | e <;> subst e
   .exact ⟨fz.2.2.2.1,fz.2.1,fz.2.2.2.2.1,fz.2.2.2.2.2⟩
   .exact ⟨fo.2.2.2.1,fo.2.1,fo.2.2.2.2.1,fo.2.2.2.2.2⟩
   .exact ⟨f1.2.2.2.1,f1.2.1,f1.2.2.2.2.1,f1.2.2.2.2.2⟩
   .exact ⟨f2.2.2.2.1,f2.2.1,f2.2.2.2.2.1,f2.2.2.2.2.2⟩
  .obtain ⟨o,es,ep,ho,r⟩:=hm;exact ⟨o,es,ep,kp _ o (Ne.symm fz.2.1) (Ne.symm fo.2.1) (Ne.symm f1.2.1) (Ne.symm f2.2.1) ho,r⟩
  .have nb:∀ c v,H c=some v->c≠z/\c≠to/\c≠i1/\c≠i2:=fun c v e=>⟨aq e fz.1,aq e fo.1,aq e f1.1,aq e f2.1⟩
   refine (I.az q u' e).fE (fun c v hc r=>?_) (fun c r=>r) fun c zs r=>r
   have nc:c≠z/\c≠to/\c≠i1/\c≠i2:=by
    rcases hc with k | k
    .rw [k];exact nb q u' e
    .exact nb c _ k
   exact kp c v nc.1 nc.2.1 nc.2.2.1 nc.2.2.2 r
 self:=fun _ _ _ _ _ st h=>wpAny_pyIter_zip st.1 h
section
variable {X:Cx}
def boot_zip:bootBuiltins "zip"=some (.type "zip"):=by decide +kernel
def VI (K:zd) (ta:TA):TI:=fun Z H R=>ta Z H fun vs H1=>∃ a xs b ys,vs=[.ref a,.ref b]/\cb K H1 a xs/\cb K H1 b ys/\R (G_ K a b) H1
def Y7 {R:It->Hp->Prop} (I:Inv X ab Z H s) (hx:cb X.K H a xs) (hy:cb X.K H b ys) (q:R (G_ X.K a b) H) :
  wpAny (model X.prog X.w) X.A (call (.type "zip") [.ref a,.ref b]) (fun v s1=>wpAny (model X.prog X.w) X.A (pyIter v) (C5 X ab Z (.Tuple f_ x1 fN) R) E s1) E s:=by
 obtain ⟨us,rx,p1,_⟩:=I.tuple hx;obtain ⟨vs,ry,p2,_⟩:=I.tuple hy;refine PX (show s.heap.IsTuple a us.toArray from p1) (show s.heap.IsTuple b vs.toArray from p2) fun g S hsz kp=>?_
 refine wpAny_pyIter_zip (s:={ s with heap:=g }) S.zr ?_;have I1:Inv X ab Z H { s with heap:=g }:=I.kept (t':=s.toks) kp;refine ⟨s.heap.objs.size+4,_,_,_,H,rfl,I1,O6 S.ap,⟨S.zr,S.its,S.out,S.one,S.two⟩,fun c hc=>?_,q⟩;have hle:s.heap.objs.size<=c:=by
  rcases R7 hc with e | e | e | e | e <;> subst e
  .exact Nat.le_add_right _ _
  .exact Nat.le_add_right _ _
  .exact Nat.le_add_right _ _
  .exact vE _
  .exact Nat.le_add_right _ _
 exact I.gw hle (I.az.fresh hle)
def Xw {a b:Expr}{ta:TA}{p:Pos} (hg:Gl X "zip") (hm:X.mg "zip"=none) (ha:PA X [a,b] ta) (hs:starEach [a,b] X.env=[(false,eval a X.env),(false,eval b X.env)]) (B1:starEach [b] X.env=[(false,eval b X.env)]) :
  PI X (.Tuple f_ x1 fN) (.Call (.Name "zip" p) [a,b] [] pos) (VI X.K ta):=by
 intro ab s Z H R I h;refine Call_ (gY I hg hm boot_zip (yT (a7 (ha pos ab s Z H _ I h) fun us s1 ⟨vs,H1,I1,r1,q1⟩=>?_) (by rw [hs,B1]) (by rw [B1];rfl)));obtain ⟨c,xs,d,ys,rfl,hx,hy,q⟩:=q1;obtain ⟨u,v,rfl,ru,rv⟩:=vals2 r1;cases ru;cases rv;exact Y7 I1 hx hy q
end
noncomputable def ia:List (D × Addr × Value)->List V->D->Option V
 | x::xs,y::ys,k=>if x.1=k then some y else ia xs ys k
 | _,_,_=>none
theorem sV {k:D}:∀ {xs:List (D × Addr × Value)}{ys:List V},Vals ys (xs.map (·.2.2))->(∃ v p,ia xs ys k=some v/\atKey xs k=some p/\RelV v p.2)\/(ia xs ys k=none/\atKey xs k=none)
 | [],[],_=>.inr ⟨rfl,rfl⟩
 | [],_::_,h=>by cases h
 | _::_,[],h=>by cases h
 | x::xs,y::ys,h=>by
  cases h with
  | cons r rs =>
   by_cases e:x.1=k
   .refine .inl ⟨y,x.2,if_pos e,?_,r⟩;unfold atKey;rw [List.find?_cons_of_pos (by simpa using e)];rfl
   .have e1:ia (x::xs) (y::ys) k=ia xs ys k:=if_neg e;have e2:atKey (x::xs) k=atKey xs k:=by
     unfold atKey;rw [List.find?_cons_of_neg (by simpa using e)]
    rw [e1,e2];exact sV rs
variable {o e f:Expr}{td ty tx:TE}{apos de:Pos}
section
variable {X:Cx}
def Vd (X:Cx):R2:=fun x y H Q=>∃ k a ks xs ys v,Rp (aE X) H k y/\lA ks k=true/\x=.ref a/\fk X H a ks xs ys/\ia xs ys k=some v/\Q v H
def WQ (hu:X.A.units+100 < cLine):sP X (Vd X):=by
 intro value slice ab s Z H x y v u Q I rx ry h hs;obtain ⟨k,a,ks,xs,ys,z,r1,hk,rfl,d,hv,q⟩:=h;cases rx;obtain ⟨r8,h1,h2,h3,h4⟩:=dictOf I d hk;obtain ⟨_,_,ds,rfl⟩:=jB r8;rw [Rp] at r1;obtain ⟨b,zs,rfl,sq,rs⟩:=id r1;cases ry;have kA:X.A.in1.units=X.A.units+1:=rfl;rcases sV (k:=.tup ds) h3 with ⟨z',p,e1,e2,rp⟩ | ⟨e1,_⟩
 .rw [hv] at e1;cases e1;exact subscriptTail_builtinR (x:=p.2) h4.typeIs slot_dict_getitem.lookup
   (wpAny_getItem_heap (Q:=fun r s'=>r=p.2/\EP X ab Z Q r s') (knd:=jr X.prog X.w) (by show X.A.in1.units+10 < cLine;omega) (Er I r8 (by rw [Rp];exact ⟨b,zs,rfl,sq,rs⟩)) h4 e2 ⟨rfl,z,H,I.tok _,rp,q⟩) hs
 .rw [hv] at e1;cases e1
def VM (X:Cx) (td ty tx:TE):TE:=fun Z H Q=>td Z H fun x H1=>∃ a ks xs ys,x=.ref a/\fk X H1 a ks xs ys/\ty Z H1 fun y H2=>tx Z H2 fun z H3=>∃ k ks xs ys,Rp (aE X) H3 k y/\lA ks k=true/\fk X H3 a ks xs ys/\Q ((ia xs ys k).getD z) H3
def Tp (hu:X.A.units+100 < cLine) (ho:PE X o td) (he:PE X e ty) (hf:PE X f tx) (m:M2 X o "get" apos e f de):PE X (.Call (.Attribute o "get" apos) [e,f] [] de) (VM X td ty tx):=by
 intro ab s Z H Q I h;refine wpAny_Call_method m.base m.JO m.line PySem.F.plainAttrs_dict PySem.F.slot_dict_get PySem.F.type_dict_get (a7 (ho ab s Z H _ I h) fun u s1 ⟨x,H1,I1,rx,a,ks,xs,ys,ex,d,q1⟩=>?_);subst ex;obtain rfl:u=Value.ref a:=rx;obtain ⟨h4,ob,e1,e2⟩:=Ib I1 d;refine ⟨h4,?_,?_⟩
 .intro c ec;cases ec;exact ⟨ob,e1,e2⟩
 rw [m.trees];refine Calls.callWith_builtin rfl (Calls.evalArgs_plain (Calls.spliced_cons (a7 (he ab s1 Z H1 _ I1 q1) fun iv s2 ⟨y,H2,I2,ry,q2⟩ =>
  Calls.spliced_cons (a7 (hf ab s2 Z H2 _ I2 q2) fun fv s3 ⟨z,H3,I3,rz,k,VO,Hb,OP,r1,hk,d3,q3⟩=>Calls.spliced_nil ?_))))
 obtain ⟨r8,g1,g2,g3,g4⟩:=dictOf I3 d3 hk;obtain ⟨_,_,ds,rfl⟩:=jB r8;rw [Rp] at r1;obtain ⟨b,zs,rfl,sq,rs⟩:=id r1;cases ry;have kA:X.A.in1.units=X.A.units+1:=rfl;refine call_meetsIn PySem.F.slot_dict_get g4.typeIs PySem.F.entry_dict_get (PySem.F.args_dict_get_3 _ _ _) (meetsH_dict_get_default (jr X.prog X.w) a b g1 fv) ⟨by show X.A.in1.units+10 < cLine;omega,_,Hb,Er I3 r8 (by rw [Rp];exact ⟨b,zs,rfl,sq,rs⟩),g4,?_⟩;refine ⟨_,H3,I3.tok _,?_,q3⟩;rcases sV (k:=.tup ds) g3 with ⟨z',p,e1,e2,rp⟩ | ⟨e1,e2⟩
 .rw [e1,e2];exact rp
 .rw [e1,e2];exact rz
end
variable {es:Array DictEntry}{ep:Nat}{it:Addr}
section
variable {prog:Program}{w:World}{knd:HeapKind prog w D}{A:Around}{E:zb}{s:Shared}
def Nx {d:Addr}{xs:List (D × Addr × Value)}{dflt:Value} (hu:knd.room A) (ll:knd.is s.heap k a) (hm:s.heap.DictOfH knd d xs)
  (h1:∀ p,atKey xs k=some p->Q p.2 { s with toks:=s.toks+knd.draws k })
  (h2:atKey xs k=none->∀ h',h'.DictOfH knd d (storedH xs k a dflt)->Heap.SameBut d s.heap h'->Q dflt { s with heap:=h',toks:=s.toks+knd.draws k })
  (hsz:xs.length<=sizeLine):wpAny (model prog w) A (dictSetDefault d (.ref a) dflt) Q E s:=by
 obtain ⟨o,es,ep,ho,hc,hd,he,OQ,hn⟩:=hm;unfold dictSetDefault
 try with_reducible refine wpAny_holding ?_
 refine z0 (knd.pyHash hu ll ?_);refine z0 (wpAny_dictFind_heap (s:={ s with toks:=s.toks+knd.draws k }) hu ll ho hd he OQ hn ?_ ?_)
 .intro lx;have LG:k ∉ xs.map (·.1):=not_mem_keys_of_get lx;refine z0 (wpAny_rule (z0 (wpAny_updateDictKeys (hz:=by have e:=size_of_entries he;omega) (s:={ s with toks:=s.toks+knd.draws k }) ho hd (ve (h2 (atKey_none_of_get lx) _ ⟨_,_,ep+1,ye _ ho (Obj.isFreed_of_dict (Obj.data_mapDictKeys hd _)),
   hc.mapDictKeys _,Obj.data_mapDictKeys hd _,?_,?_,?_⟩ (y6 ..))))))
  .rw [storedH_new (atKey_none_of_get lx)];simp [he,entryOfKey]
  .rw [storedH_new (atKey_none_of_get lx)];intro x hx;rcases ym.mp hx with hx | hx
   .exact knd.keeps (OQ x hx) ho hd (y6 ..)
   .simp only [List.mem_singleton] at hx;subst hx;exact knd.keeps ll ho hd (y6 ..)
  .rw [storedH_new (atKey_none_of_get lx)];rw [List.map_append,List.nodup_append];refine ⟨hn,by simp,?_⟩;intro x hx y hy;simp only [List.map_cons,List.map_nil,List.mem_singleton] at hy;subst hy;exact fun e=>LG (e ▸ hx)
 .intro j p hj;refine z0 (jh (s:={ s with toks:=s.toks+knd.draws k }) ho hd ?_);rw [entry_at he j,hj];exact z0 (wpAny_rule (ve (h1 p (atKey_of_get hn hj))))
def Jk (knd:HeapKind prog w D) (d a:Addr) (hd:(d == sysModules)=false) (dflt:Value) :
  MeetsIn prog w (Builtin.«dict.setdefault» ⟨[.ref d,.ref a,dflt],[]⟩) (fun A R s=>knd.room A.in1/\∃ k xs,knd.is s.heap k a/\s.heap.DictOfH knd d xs/\xs.length<=sizeLine /\
   (∀ p,atKey xs k=some p->R (.ok (.ret p.2)) { s with toks:=s.toks+knd.draws k }) /\
   (atKey xs k=none->∀ h',h'.DictOfH knd d (storedH xs k a dflt)->Heap.SameBut d s.heap h'->R (.ok (.ret dflt)) { s with heap:=h',toks:=s.toks+knd.draws k })) :=
 .of_wp fun A R s ⟨hu,k,xs,ll,hm,hz,h1,h2⟩=>by
  unfold Builtin.«dict.setdefault»;refine z0 ?_;unfold Builtin.Dict.keyAndDefault;refine z0 (wpAny_notOrdered_dict hm.typeIs ?_);show wpAny _ _ (pure (d,Value.ref a,some dflt)) _ _ s
  refine ve ?_;show wpAny _ _ (if (d == sysModules)=true then _ else (dictSetDefault d (.ref a) dflt >>= _)) _ _ s
  rw [if_neg (by rw [hd];exact Bool.false_ne_true)];exact z0 (Nx hu ll hm (fun p hp=>ve ⟨p.2,rfl,h1 p hp⟩) (fun hn h' kU iX=>ve ⟨dflt,rfl,h2 hn h' kU iX⟩) hz)
def Pk {v d:Addr} (hv:s.heap.IsValuesView v d) (hm:dY s.heap d es ep)
  (hQ:Q (.ref s.heap.objs.size) { s with heap:=s.heap.push { cls:=.type "dict_valueiterator",data:=.fields #[.ref d,.int 0 0,.int es.size 0,.int ep 0] } }) :
  wpAny (model prog w) A (pyIter (.ref v)) Q E s:=by
 obtain ⟨ov,VQ,ι,Cn⟩:=id hv;obtain ⟨o,ho,hc,pS⟩:=id hm;refine wpAny_pyIter_slot hv.typeIs F.slot_dict_values_iter (yB F.slot_dict_values_iter hv.typeIs F.entry_dict_values_iter ?_ (F.args_dict_values_iter_1 _));unfold Builtin.«dict_values.__iter__»;refine z0 (ve ?_);refine z0 ?_;unfold Builtin.Dict_items.dictOf;refine z0 (yZ VQ Cn (x:=.ref d) rfl (ve ?_));refine z0 ?_;unfold Builtin.Dict_items.newIterator;refine z0 (jh ho pS ?_);refine z0 (jn ho pS ?_);have kg:Builtin.Dict_items.ownsTuple "dict_valueiterator"=false:=by decide
 simp only [kg,Bool.false_eq_true,if_false];refine jb (ve ⟨_,rfl,"dict_valueiterator",_,⟨_,vy _ rfl,rfl⟩,F.slot_dict_valueiterator_next.lookup,?_⟩)
 simpa [rawInt] using hQ
def Qn {d:Addr}{Q:Option Value->Shared->Prop} (hit:s.heap.IsValIter it d i es.size ep)
  (hm:dY s.heap d es ep) (AU:i < es.size)
  (hQ:∀ h',h'.IsValIter it d (i+1) es.size ep->Heap.SameBut it s.heap h'->Q (some es[i].val) { s with heap:=h' }) :
  wpAny (model prog w) A (pyNext (.ref it)) Q E s:=by
 obtain ⟨o,ho,hc,hd⟩:=id hit;obtain ⟨od,kF,eJ,pT⟩:=id hm;unfold pyNext;refine z0 (wpAny_attempt (yM (name:=Str.ofString "__next__") hit.typeIs F.slot_dict_valueiterator_next
  (yB F.slot_dict_valueiterator_next hit.typeIs F.entry_dict_valueiterator_next ?_ (F.args_dict_valueiterator_next_1 _))))
 refine z0 (ve ?_);refine z0 ?_;refine z0 ?_
 first | refine z0 (wpAny_typeNameOfWhole_valiter hit.typeIs (ve ?_)) | refine z0 (wpAny_typeNameOf_valiter hit.typeIs (ve ?_))
 refine z0 (wpAny_fieldsOf ho hd ?_);have kg:Builtin.Dict_items.ownsTuple "dict_valueiterator"=false:=by decide
 simp only [kg,Bool.false_eq_true,if_false];show wpAny _ _ (if (Value.ref d == Value.none)=true then _ else _) _ _ s
 rw [if_neg (show ¬ ((Value.ref d == Value.none)=true) from Bool.false_ne_true)];refine z0 (ve ?_);refine z0 (jh kF pT ?_);rw [if_neg (by simp)];refine z0 (ve ?_);refine z0 (jn kF pT ?_);rw [if_neg (by simp)];refine ve ?_;simp only [show ¬ ((i:Int) < 0) from by omega,if_false,Int.toNat_natCast,Array.getElem?_eq_getElem AU];refine z0 ?_
 first | refine z0 (wpAny_typeNameOfWhole_valiter hit.typeIs (ve ?_)) | refine z0 (wpAny_typeNameOf_valiter hit.typeIs (ve ?_))
 refine z0 (wpAny_isOneOf_valiter hit.typeIs ?_);show wpAny _ _ (setField (.ref it) 1 (rawInt ((i:Int)+1)) >>= _) _ _ s
 refine z0 (y9 ho hd (by simp) ?_);have fK:(s.heap.update it (Obj.mapFields (·.setIfInBounds 1 (rawInt ((i:Int)+1))))).IsValIter it d (i+1) es.size ep :=
  ⟨_,ye _ ho (Obj.isFreed_of_fields (Obj.data_mapFields hd _)),(Obj.cls_mapFields ..).trans hc,by rw [Obj.data_mapFields hd];simp [rawInt]⟩
 refine z0 (wpAny_holding ?_);refine z0 (wpAny_isOneOf_valiter (s:={ s with heap:=s.heap.update it (Obj.mapFields (·.setIfInBounds 1 (rawInt ((i:Int)+1)))) }) fK.typeIs ?_);refine z0 (wpAny_isOneOf_valiter (s:={ s with heap:=s.heap.update it (Obj.mapFields (·.setIfInBounds 1 (rawInt ((i:Int)+1)))) }) fK.typeIs ?_);show wpAny _ _ (pure es[i].val) _ _ _
 exact ve (ve ⟨_,rfl,ve (hQ _ fK (y6 ..))⟩)
def T3 {d:Addr}{Q:Option Value->Shared->Prop} (hh:A.handled=none) (hit:s.heap.IsValIter it d i es.size ep)
  (hm:dY s.heap d es ep) (sR:es.size<=i)
  (hQ:∀ h',Heap.ExtBut it s.heap h'->Q none { s with heap:=h' }):wpAny (model prog w) A (pyNext (.ref it)) Q E s:=by
 obtain ⟨o,ho,hc,hd⟩:=id hit;obtain ⟨od,kF,eJ,pT⟩:=id hm;unfold pyNext;refine z0 (wpAny_attempt (yM (name:=Str.ofString "__next__") hit.typeIs F.slot_dict_valueiterator_next
  (yB F.slot_dict_valueiterator_next hit.typeIs F.entry_dict_valueiterator_next ?_ (F.args_dict_valueiterator_next_1 _))))
 refine z0 (ve ?_);refine z0 ?_;refine z0 ?_
 first | refine z0 (wpAny_typeNameOfWhole_valiter hit.typeIs (ve ?_)) | refine z0 (wpAny_typeNameOf_valiter hit.typeIs (ve ?_))
 refine z0 (wpAny_fieldsOf ho hd ?_);have kg:Builtin.Dict_items.ownsTuple "dict_valueiterator"=false:=by decide
 simp only [kg,Bool.false_eq_true,if_false];show wpAny _ _ (if (Value.ref d == Value.none)=true then _ else _) _ _ s
 rw [if_neg (show ¬ ((Value.ref d == Value.none)=true) from Bool.false_ne_true)];refine z0 (ve ?_);refine z0 (jh kF pT ?_);rw [if_neg (by simp)];refine z0 (ve ?_);refine z0 (jn kF pT ?_);rw [if_neg (by simp)];refine ve ?_;simp only [show ¬ ((i:Int) < 0) from by omega,if_false,Int.toNat_natCast,Array.getElem?_eq_none sR];refine z0 ?_
 first | refine z0 (wpAny_typeNameOfWhole_valiter hit.typeIs (ve ?_)) | refine z0 (wpAny_typeNameOf_valiter hit.typeIs (ve ?_))
 show wpAny _ _ (setField (.ref it) 0 .none >>= _) _ _ s
 refine z0 (y9 ho hd (by simp) ?_);show wpAny _ _ (newExc (.type "StopIteration") [] >>= _) _ _ _
 refine z0 ?_;simp only [newExc,newTuple];refine z0 (jb ?_ (by size_fits));refine z0 (m:=firstArgMember _ _) (wpAny_of_eq (a:=Value.none) (by first | rfl | (simp only [firstArgMember];rfl)) ?_);refine jb ?_ (by size_fits);simp only [raiseNew];refine z0 (wpAny_handled ?_);rw [show A.in1.handled=none from hh];refine z0 (ve (wpAny_throw ?_));refine z0 (wpAny_isInstance (T:="StopIteration") (b:=true) ⟨_,vy _ rfl,rfl⟩ isSubtype_stop ?_)
 exact ve (hQ _ (((y6 ..).extBut.push _).push _))
def Qa (hh:A.handled=none) (I d:Addr) (dE:d≠I) (es:Array DictEntry) (ep:Nat) :
  Walks prog w A I [I,d] [I] es.size (fun i v=>∃ h:i < es.size,v=es[i].val) (fun i h=>h.IsValIter I d i es.size ep/\dY h d es ep) where
 sub:=fun b hb=>by simp at hb;simp [hb]
 frame:=fun _ _ _ st hk=>⟨let ⟨o,ho,r⟩:=st.1;⟨o,hk I (by simp) o ho,r⟩,st.2.keep fun o e=>hk d (by simp) o e⟩
 item:=fun i s Q E hi st hQ=>by
  refine Qn st.1 st.2 hi fun h' fK iX=>?_
  exact hQ _ h' s.toks ⟨hi,rfl⟩ ⟨fK,st.2.keep fun o e=>iX.extBut d o dE e⟩ fun b o hb e=>iX.extBut b o (fun h=>hb (by simp [h])) e
 done:=fun s Q E st hQ=>T3 hh st.1 st.2 (vE _) fun h' sT=>hQ h' s.toks fun b o hb e=>sT b o (fun h=>hb (by simp [h])) e
 self:=fun _ _ _ _ st hQ=>wpAny_pyIter_valiter st.1 hQ
def Uu {r d:Addr}:PySem.W.KdlSrc prog w "dict_values" r d es.size (fun i v=>∃ h:i < es.size,v=es[i].val) (fun h=>h.IsValuesView r d /\ dY h d es ep) where
 type:=fun _ hm=>hm.1.typeIs
 there:=fun _ hm=>⟨let ⟨_,ho,_⟩:=hm.1;vz ho,hm.2.lt⟩
 keep:=fun _ _ hm hk=>⟨let ⟨o,ho,x⟩:=hm.1;⟨o,hk r (.inl rfl) o ho,x⟩,hm.2.keep fun o e=>hk d (.inr rfl) o e⟩
 notList:=by decide
 notTuple:=by decide
 hint:=fun _ _ _ _ hm hq=>PySem.W.kdl_hint_values hm.1.typeIs hq
 iter:=fun _ _ hh hm=>⟨_,_,(fun _ _ hq=>Pk hm.1 hm.2 hq),Qa hh _ d (vF hm.2.lt) es ep,⟨⟨_,vy _ rfl,rfl,rfl⟩,hm.2.keep fun _ e=>vw _ e⟩⟩
def Lj (d:Addr) (hd:(d == sysModules)=false) :
  MeetsIn prog w (Builtin.«dict.values» ⟨[.ref d],[]⟩) (fun _ R s=>(∃ es ep,dY s.heap d es ep) /\
   R (.ok (.ret (.ref s.heap.objs.size))) { s with heap:=s.heap.push { cls:=.type "dict_values",data:=.fields #[.ref d] } }) :=
 .of_wp fun A R s ⟨⟨es,ep,hm⟩,h⟩=>by
  refine z0 ?_;unfold Builtin.Dict.noArgs;refine z0 (wpAny_notOrdered_dict hm.ty ?_);show wpAny _ _ (pure d) _ _ s
  refine ve ?_;show wpAny _ _ (Builtin.Dict.showsAll d >>= _) _ _ s
  unfold Builtin.Dict.showsAll;rw [if_neg (by rw [hd];exact Bool.false_ne_true)];refine z0 (ve ?_);exact z0 (jb (ve ⟨_,rfl,h⟩))
end
variable {tg:Expr}
section
variable {X:Cx}
def VS (X:Cx) (td ty tx:TE):TE:=fun Z H Q=>td Z H fun x H1=>∃ a ks xs ys,x=.ref a/\fk X H1 a ks xs ys/\ty Z H1 fun y H2=>tx Z H2 fun z H3=>∃ k ks xs ys,Rp (aE X) H3 k y/\lA ks k=true/\fk X H3 a ks xs ys/\xs.length < lim /\
 (∀ v,ia xs ys k=some v->Q v H3)/\(ia xs ys k=none->∀ b u ep,y=.ref b->RelV z u->Q z (upd H3 a (.ext (fR (aE X) a (xs++[(k,b,u)]) (ys++[z]) ep))))
def Xl (hu:X.A.units+100 < cLine) (ho:PE X o td) (he:PE X e ty) (hf:PE X f tx) (m:M2 X o "setdefault" apos e f de):PE X (.Call (.Attribute o "setdefault" apos) [e,f] [] de) (VS X td ty tx):=by
 intro ab s Z H Q I h;refine wpAny_Call_method m.base m.JO m.line PySem.F.plainAttrs_dict PySem.F.slot_dict_setdefault PySem.F.type_dict_setdefault (a7 (ho ab s Z H _ I h) fun u s1 ⟨x,H1,I1,rx,a,ks,xs,ys,ex,d,q1⟩=>?_);subst ex;obtain rfl:u=Value.ref a:=rx;obtain ⟨h4,ob,e1,e2⟩:=Ib I1 d;refine ⟨h4,?_,?_⟩
 .intro c ec;cases ec;exact ⟨ob,e1,e2⟩
 rw [m.trees];refine Calls.callWith_builtin rfl (Calls.evalArgs_plain (Calls.spliced_cons (a7 (he ab s1 Z H1 _ I1 q1) fun iv s2 ⟨y,H2,I2,ry,q2⟩ =>
  Calls.spliced_cons (a7 (hf ab s2 Z H2 _ I2 q2) fun fv s3 ⟨z,H3,I3,rz,k,VO,Hb,OP,r1,hk,d3,hl,q3,q4⟩=>Calls.spliced_nil ?_))))
 obtain ⟨r8,g1,g2,g3,g4⟩:=dictOf I3 d3 hk;obtain ⟨_,_,ds,rfl⟩:=jB r8;rw [Rp] at r1;obtain ⟨b,zs,rfl,sq,rs⟩:=id r1;cases ry;have kA:X.A.in1.units=X.A.units+1:=rfl;have Lv:=iU;refine call_meetsIn PySem.F.slot_dict_setdefault g4.typeIs PySem.F.entry_dict_setdefault (PySem.F.args_dict_setdefault_3 _ _ _) (Jk (jr X.prog X.w) a b g1 fv)
  ⟨by show X.A.in1.units+10 < cLine;omega,_,Hb,Er I3 r8 (by rw [Rp];exact ⟨b,zs,rfl,sq,rs⟩),g4,g2,fun p hp=>?_,fun lx h' kU iX=>?_⟩
 .rcases sV (k:=.tup ds) g3 with ⟨z',p',e1,e2,rp⟩ | ⟨e1,e2⟩
  .rw [hp] at e2;cases e2;exact ⟨_,H3,I3.tok _,rp,q3 _ e1⟩
  .rw [hp] at e2;cases e2
 .have hv:ia Hb OP (.tup ds)=none:=by
   rcases sV (k:=.tup ds) g3 with ⟨z',p',e1,e2,rp⟩ | ⟨e1,e2⟩
   .rw [lx] at e2;cases e2
   .exact e1
  obtain ⟨o',il,kM,e1,e2,e3,e4,e5,e6⟩:=id kU;rw [storedH_new lx] at e4 e6;refine ⟨_,_,?_,rz,q4 hv b fv kM rfl rz⟩;have mu:Au (H3 a):=by obtain ⟨_,dat⟩:=d3.at_;rw [dat];exact trivial
  refine I3.write (x:=a) (e:=a) mu (.inl rfl) (fun c w hc hw=>(iX.2 c hc).trans hw) ⟨_,e1⟩ ?_;refine ⟨⟨g1,by rw [List.length_append,List.length_singleton];omega,by rw [List.map_append];exact g3.append (.cons rz .nil),o',il,e1,e2,e3,e4,e6⟩,⟨_,e1⟩,fun ha hb p kp=>?_⟩;obtain ⟨p1,p2,p3,o2,oa,q1,q2⟩:=p;exact ⟨p1,p2,p3,o2,oa,kp _ q1,q2⟩
def VT (X:Cx) (to:TE):TE:=fun Z H Q=>to Z H fun x H1=>∃ a ks xs ys,x=.ref a/\fk X H1 a ks xs ys/\∀ S:Addr,H1 S=none->Q (.ref S) (upd H1 S (.lst ys))
def Ja {to:TE}{p kl:Pos} (hc:X.calm=true) (B9:Gl X "list") (DJ:X.mg "list"=none) (ho:PE X o to) (pe:attributeBase o "values" X.env (eval o X.env)=eval o X.env) (pf:(apos.endLine == kl.line)=true) :
  PE X (.Call (.Name "list" p) [.Call (.Attribute o "values" apos) [] [] kl] [] pos) (VT X to):=by
 intro ab s Z H Q I h;refine Call_ (gY I B9 DJ boot_list (yT (Calls.spliced_cons ?_) rfl rfl));refine wpAny_Call_method0_late pe pf (a7 (ho ab s Z H _ I h) fun v s1 ⟨x,H1,I1,r1,a,ks,xs,ys,ex,d,q1⟩=>?_);subst ex;obtain rfl:v=Value.ref a:=r1;obtain ⟨t4,ob,t1,t2⟩:=Ib I1 d;obtain ⟨ep,dat⟩:=d.at_;obtain ⟨⟨h1,h2,h3,o',es,h4,h5,h6,h7,h8⟩,_⟩:=(show bO X.prog X.w H1 s1.heap a (.ext (fR (aE X) a xs ys ep)) from I1.az a _ dat);have hE:dY s1.heap a es ep:=⟨o',h4,h5,h6⟩;refine ⟨"dict",_,PySem.F.plainAttrs_dict,PySem.F.slot_dict_values,PySem.F.type_dict_values,t4,fun c ec=>by cases ec; exact ⟨ob,t1,t2⟩,Calls.callWith_builtin rfl (PySem.evalArgs_none ?_)⟩
 refine call_meetsIn PySem.F.slot_dict_values t4 PySem.F.entry_dict_values (PySem.F.args_dict_values_1 _) (Lj a h1) ⟨⟨es,ep,hE⟩,Calls.spliced_nil ?_⟩;have hsz:es.size=xs.length:=by rw [<- Array.length_toList,h7,List.length_map]
 have OR:∀ b o,s1.heap.get? b=some o -> (s1.heap.push { cls:=.type "dict_values",data:=.fields #[.ref a] }).get? b=some o:=fun b o e=>vw _ e
 refine PySem.W.kdl_call (s:={ s1 with heap:=s1.heap.push { cls:=.type "dict_values",data:=.fields #[.ref a] } }) (Uu (r:=s1.heap.objs.size) (d:=a) (ep:=ep) (es:=es)) (I1.ok.hd hc) ⟨⟨_,vy _ rfl,rfl,rfl⟩,hE.keep fun o e=>OR a o e⟩ (by omega) fun h' tk acc c kp hS kX=>?_
 have key:∀ (l:List (D × Addr × Value)) (zs:List V) (us:zg),Vals zs (l.map (·.2.2))->l.length=us.length->(∀ (j:Nat) u,us[j]?=some u->∃ x,l[j]?=some x/\u=x.2.2)->Vals zs us:=by
  intro l;induction l with
  | nil=>intro zs us hv hl _;cases hv;cases us with | nil=>exact .nil | cons _ _=>simp at hl
  | cons x l ih =>
   intro zs us hv hl hj;cases us with
   | nil=>simp at hl
   | cons u us =>
    cases hv with
    | cons r0 rs =>
     obtain ⟨y,ey,eu⟩:=hj 0 u rfl;simp at ey;subst ey;subst eu;exact .cons r0 (ih _ us rs (by simpa using hl) fun j w hw=>by simpa using hj (j+1) w (by simpa using hw))
 have hv:Vals ys acc.toList:=key xs ys acc.toList h3 (by have e:=kX.1;simp only [Array.length_toList];omega) fun j u hu=>by
  obtain ⟨hj,eu⟩:=kX.2 j u (by rw [<- Array.getElem?_toList];exact hu);have rq:j < xs.length:=by omega
  refine ⟨xs[j],by simp [rq],?_⟩;rw [eu];have e:=entry_at h7 j;rw [Array.getElem?_eq_getElem hj,List.getElem?_eq_getElem rq] at e;have e':=y0 (e.trans (Option.map_some ..));rw [e'];rfl
 have hlen:=hv.length;have VU:=h3.length;rw [List.length_map] at VU;have hle:s1.heap.objs.size <= (s1.heap.push { cls:=.type "dict_values",data:=.fields #[.ref a] }).objs.size:=by rw [Heap.size_push]; exact Nat.le_succ _
 refine ⟨.ref _,_,I1.laid (t':=tk) (o:=.lst ys) (fun d o e=>kp d o (OR d o e)) hle ⟨by omega,acc.toList,c,hv,by simpa using hS⟩,rfl,q1 _ (I1.az.fresh hle)⟩
noncomputable def LH (g:G) (a:Addr) (xs:List (D × Addr × Value)) (ys:List V) (ep:Nat):It :=
 ⟨fun i H=>H a=some (.ext (fR g a xs ys ep))/\i < xs.length,fun i H x H'=>H'=H/\∃ e,xs[i]?=some e/\x=.ref e.2.1,fun i H=>H a=some (.ext (fR g a xs ys ep))/\xs.length<=i⟩
def Mv (a it:Addr) (xs:List (D × Addr × Value)) (ys:List V) (ep:Nat):Turn P w K tg (LH ⟨P,w,K⟩ a xs ys ep) [it] it (fun i h=>h.IsKeyIter it a i xs.length ep) where
 mem:=by simp
 obj:=fun i h st b hb=>by
  have e:b=it:=by simpa using hb
  subst e;obtain ⟨o,e,c,d⟩:=st;exact ⟨o,e,fun v z=>by rw [d] at z;cases z⟩
 keep:=fun i h h' st k=>st.at fun o e=>k it (by simp) o e
 item:=by
  intro X hP hw hK hc i ab s Z H E I hf st hg;subst hP hw hK;obtain ⟨hq,hx⟩:=hg;obtain ⟨⟨h1,h2,h3,o',es,h4,h5,h6,h7,h8⟩,_⟩:=(show bO X.prog X.w H s.heap a (.ext (fR (aE X) a xs ys ep)) from I.az a _ hq);have hsz:es.size=xs.length:=by rw [<- Array.length_toList,h7,List.length_map]
  obtain ⟨f0,f1,f2,f3,f4,f5⟩:=hf it (by simp);have hi:i < es.size:=by omega
  have ek:es[i].key=.ref xs[i].2.1:=by
   have e:=entry_at h7 i;rw [Array.getElem?_eq_getElem hi,List.getElem?_eq_getElem hx] at e;have e':=y0 (e.trans (Option.map_some ..));rw [e'];rfl
  refine Gq (es:=es) (ep:=ep) (by rw [hsz];exact st) ⟨o',h4,h5,h6⟩ hi fun h' h_ sb=>?_
  have I1:Inv X ab Z H { s with heap:=h' }:=I.turned (t':=s.toks) (fun b o hb e=>(sb.2 b hb).trans e) f0 f1 f3 f4 f5;rw [hsz] at h_;obtain ⟨o,e,c,d⟩:=id h_;exact ⟨_,rfl,Ek (s:={ s with heap:=h' }) e c d (by decide) ⟨.ref xs[i].2.1,H,I1,by rw [ek];rfl,⟨rfl,xs[i],by simp,rfl⟩,h_,fun b hb=>(hf b hb).1⟩⟩
 done:=by
  intro X hP hw hK hc i ab s Z H E I hf st hg;subst hP hw hK;obtain ⟨hq,hx⟩:=hg;obtain ⟨⟨h1,h2,h3,o',es,h4,h5,h6,h7,h8⟩,_⟩:=(show bO X.prog X.w H s.heap a (.ext (fR (aE X) a xs ys ep)) from I.az a _ hq);have hsz:es.size=xs.length:=by rw [<- Array.length_toList,h7,List.length_map]
  obtain ⟨f0,f1,f2,f3,f4,f5⟩:=hf it (by simp);exact JD (es:=es) (ep:=ep) (I.ok.hd hc) (by rw [hsz];exact st) ⟨o',h4,h5,h6⟩ (by omega) fun h' eb=>⟨rfl,I.turned (t':=s.toks) (fun b o hb e=>eb b o hb e) f0 f1 f3 f4 f5⟩
 self:=fun _ _ _ _ _ st h=>wpAny_pyIter_keyiter st h
def VV (X:Cx) (tl:TE):TI:=fun Z H R=>tl Z H fun x H1=>∃ a xs ys ep,x=.ref a/\H1 a=some (.ext (fR (aE X) a xs ys ep))/\R (LH (aE X) a xs ys ep) H1
def Zy {l:Expr}{tl:TE} (hl:PE X l tl):PI X tg l (VV X tl):=by
 intro ab s Z H R I h;refine a7 (hl ab s Z H _ I h) fun v s1 ⟨x,H1,I1,r1,q1⟩=>?_
 obtain ⟨a,xs,ys,ep,e,hq,q⟩:=q1;subst e;cases r1;obtain ⟨⟨h1,h2,h3,o',es,h4,h5,h6,h7,h8⟩,_⟩:=(show bO X.prog X.w H1 s1.heap a (.ext (fR (aE X) a xs ys ep)) from I1.az a _ hq);have hsz:es.size=xs.length:=by rw [<- Array.length_toList,h7,List.length_map]
 refine Ho h1 ⟨o',h4,h5,h6⟩ ?_;refine ⟨s1.heap.objs.size,[s1.heap.objs.size],_,_,H1,rfl,I1.kept (t':=s1.toks) fun b o e=>vw _ e,Mv a _ xs ys ep,⟨_,vy _ rfl,rfl,by rw [hsz];rfl⟩,fun b hb=>?_,q⟩;have e:b=s1.heap.objs.size:=by simpa using hb
 subst e;exact I1.gw (vE _) (I1.az.fresh (vE _))
end
end Mi
namespace PySem
open Builtin
end PySem
namespace HT
open PySem PyProof.Rows
section
variable {prog:Program}{w:World}{A:Around}{E:zb}{s:Shared}
def uL {t sl:Addr}{items:zt}{vl vu:Value}{lo hi:Option Int}{Q:zb} (ht:IsTup s.heap t items) (hs:s.heap.IsSliceOf sl vl vu .none) (pl:IsPart vl lo) (pu:IsPart vu hi)
  (hw:bu items.size 0 lo=0/\bu items.size items.size hi=items.size) (h:Q (.ref t) s):wpAny (model prog w) A (getItem (.ref t) (.ref sl)) Q E s:=by
 obtain ⟨os,AI,F_,o_⟩:=id hs;have JA:s.TypeIs (.ref sl) "slice":=⟨os,AI,F_⟩
 unfold getItem
 (try with_reducible refine wpAny_holding ?_);(first | refine z0 (ve ?_) | skip)
 refine z0 (wpAny_sequenceKey ht.typeIs (by decide) (z0 (yM (name:=Str.ofString "__getitem__") ht.typeIs PyProof.Rows.slot_tuple_getitem
  (yB PyProof.Rows.slot_tuple_getitem ht.typeIs entry_tuple_getitem ?_ (args_tuple_getitem _ _)))))
 show wpAny _ _ (Builtin.Tuple.tupleItemsOf (.ref t) >>= _) _ _ s
 refine z0 (tupleItemsOf_ ht (z0 (wpAny_typeOf JA ?_)));rw [if_pos (by decide)];refine z0 (pC hs pl pu (show wpAny _ _ (if (((bu items.size 0 lo:Nat):Int) == 0 && (1:Int) == 1 && (bu items.size items.size hi - bu items.size 0 lo) == items.size)=true then _ else _) _ _ s from ?_));rw [if_pos (by rw [hw.1,hw.2];simp)];refine z0 (m:=Builtin.Tuple.tupleIsExact _) (show wpAny _ _ (typeOf (.ref t) >>= fun y=>pure (y == .type "tuple")) _ _ _ from z0 (wpAny_typeOf ht.typeIs (ve ?_)))
 rw [if_pos (by decide)];exact z0 (wpAny_rule (ve ⟨_,rfl,ve h⟩))
end
end HT
namespace L2
open PySem PySem.Spec PyProof.Rows
section
variable {X:Cx}
def Zo (K:zd):V->Option Int->Option Int->Hp->VK->Prop:=fun x lo hi H Q=>∃ a xs,x=.ref a/\cb K H a xs/\(HT.bu xs.length 0 lo=0/\HT.bu xs.length xs.length hi=xs.length)/\Q (.ref a) H
def Rz:tN X (Zo X.K):=by
 intro ab s Z H x v vl vu lo hi sl Q I rx hs pl pu h;obtain ⟨a,xs,rfl,hx,hw,q⟩:=h;cases rx;obtain ⟨its,r,ht,hz⟩:=I.tuple hx;have hlen:its.toArray.size=xs.length:=by rw [List.size_toArray];exact r.length.symm
 exact ⟨"tuple",_,PyProof.Rows.slot_tuple_getitem.lookup,ht.typeIs,HT.uL ht hs pl pu (by rw [hlen]; exact hw) ⟨.ref a,H,I,rfl,q⟩⟩
end
end L2
namespace Mi
open PySem L2
inductive M where
 | var (i:Nat) | con (d:D)
 | tup (es:List M) | lst (es:List M) | ft | hJ
 | bin (op:BO) (a b:M) | cmp (op:CO) (a b:M) | chain (p q:CO) (a b c:M)
 | and (es:List M) | or (es:List M) | not (a:M) | neg (a:M) | ite (c a b:M) | vals (i:Nat)
 | ix (a b:M) | sZ (a lo hi:M)
 | hV (a k d:M)
 | call (f:Nat) (es:List M) | blt (f:BI) (es:List M) | isin (a:M) (t:Ty)
 | comp (elt:M) (tg:Tg) (k:IK) (src:List M) (hc:Bool) (c:M) (eD:List Bool)
noncomputable def aV:D->R Bool
 | .bl b=>.ok b
 | _=>.stuck
noncomputable def ZQ:M->Bool
 | .comp ..=>true
 | _=>false
def u6 (c:M):D->R Bool
 | .bl b=>.ok b
 | .lst ds=>if ZQ c=true then .ok (!ds.isEmpty) else .stuck
 | _=>.stuck
noncomputable def lN:D->R (Option Int)
 | .int i=>.ok (some i)
 | _=>.stuck
noncomputable def dh:M->Bool
 | .con .ai=>true
 | _=>false
noncomputable def cutD (ds:List D) (lo hi:Option Int):List D:=(ds.drop (HT.bu ds.length 0 lo)).take (HT.bu ds.length ds.length hi - HT.bu ds.length 0 lo)
def xy (d:D) (lo hi:Option Int):R D:=match d with
 | .tup ds=>if HT.bu ds.length 0 lo=0/\HT.bu ds.length ds.length hi=ds.length then .ok (.tup ds) else .ok (.tup (cutD ds lo hi))
 | .lst ds=>.ok (.lst (cutD ds lo hi))
 | _=>.stuck
noncomputable def mR:D->R D
 | .lst ds=>.ok (.int ds.length)
 | .tup ds=>.ok (.int ds.length)
 | .bP ah=>.ok (.int ah.length)
 | _=>.stuck
noncomputable def Ez:D->R D
 | .bE _ vs=>.ok (.lst vs)
 | _=>.stuck
def gn (d:D):R D:=do
 let ds <- Bj d
 if jW ds then .ok (.lst (jo ds)) else .stuck
def gj:BI->List D->R D
 | .len,[d]=>mR d
 | .min2,[.int a,.int b]=>.ok (.int (if b < a then b else a))
 | .all,[.lst ds]=>(match boolsOf ds with | some bs=>.ok (.bl (bs.all id)) | none=>.stuck)
 | .any,[.lst ds]=>(match boolsOf ds with | some bs=>.ok (.bl (bs.any id)) | none=>.stuck)
 | .sorted,[d]=>gn d
 | .tuple,[.lst ds]=>.ok (.tup ds)
 | .tuple,[.tup ds]=>.ok (.tup ds)
 | .bg,[.tup ds]=>.ok (.lst (aX 0 ds))
 | .max2,[.int a,.int b]=>.ok (.int (if b > a then b else a))
 | _,_=>.stuck
def tY:D->D->D->R D
 | .bP ah,.int k,.int z=>.ok (.int ((bM ah k).getD z))
 | .bE ks vs,k,z=>if lA ks k then .ok ((dD ks vs k).getD z) else .stuck
 | _,_,_=>.stuck
noncomputable def c7:Tg->D->En->R En
 | .one i,d,Y=>.ok (Y.set i (some d))
 | .two i j,.tup [a,b],Y=>.ok ((Y.set i (some a)).set j (some b))
 | _,_,_=>.stuck
noncomputable def cQ (f:D->R (Option D)):List D->R (List D)
 | []=>.ok []
 | d::ds=>do
  let y <- f d
  let ys <- cQ f ds
  .ok (match y with | some y=>y::ys | none=>ys)
noncomputable def cY (Y:En) (i:Nat):R D:=match Y[i]? with | some (some d)=>.ok d | _=>.stuck
mutual
noncomputable def aw (cl:Nat->List D->R D):M->En->R D
 | .var i,Y=>cY Y i
 | .con d,_=>.ok d
 | .tup es,Y=>do let ds <- cj cl es Y;if ds.length<=lim then .ok (.tup ds) else .stuck
 | .lst es,Y=>do let ds <- cj cl es Y;if ds.length<=lim then .ok (.lst ds) else .stuck
 | .ft,_=>.ok (.bE [] [])
 | .hJ,_=>.ok (.bP [])
 | .ite c a b,Y=>do let x <- aw cl c Y;let t <- aV x;if t then aw cl a Y else aw cl b Y
 | .vals i,Y=>do let x <- cY Y i;Ez x
 | .bin op a b,Y=>do let x <- aw cl a Y;let y <- aw cl b Y;je op x y
 | .cmp op a b,Y=>do let x <- aw cl a Y;let y <- aw cl b Y;let r <- bw op x y;.ok (.bl r)
 | .chain p q a b c,Y=>do
  let x <- aw cl a Y
  let y <- aw cl b Y
  let r <- bw p x y
  if r then do let z <- aw cl c Y;let r2 <- bw q y z;.ok (.bl r2) else .ok (.bl false)
 | .and es,Y=>iW cl es Y
 | .or es,Y=>lB cl es Y
 | .not a,Y=>do let x <- aw cl a Y;let t <- aV x;.ok (.bl (!t))
 | .neg a,Y=>do let x <- aw cl a Y;(match x with | .int i=>.ok (.int (-i)) | _=>.stuck)
 | .ix a b,Y=>do let x <- aw cl a Y;let y <- aw cl b Y;f6 x y
 | .sZ a lo hi,Y=>do
  let x <- aw cl a Y
  let l <- (if dh lo then .ok none else (do let d <- aw cl lo Y;lN d))
  let h <- (if dh hi then .ok none else (do let d <- aw cl hi Y;lN d))
  xy x l h
 | .hV a k d,Y=>do let x <- aw cl a Y;let y <- aw cl k Y;let z <- aw cl d Y;tY x y z
 | .call f es,Y=>do let ds <- cj cl es Y;cl f ds
 | .blt f es,Y=>do let ds <- cj cl es Y;gj f ds
 | .isin a t,Y=>do let x <- aw cl a Y;.ok (.bl (jE x t))
 | .comp elt tg k src hc c eD,Y=>do
  let ss <- cj cl src Y
  let items <- itemsOf k ss
  let ys <- cQ (fun d=>do
   let ρ' <- c7 tg d (bL eD Y)
   let t <- (if hc then (do let x <- aw cl c ρ';aV x) else .ok true)
   if t then do let y <- aw cl elt ρ';.ok (some y) else .ok none) items
  if ys.length<=lim then .ok (.lst ys) else .stuck
noncomputable def cj (cl:Nat->List D->R D):List M->En->R (List D)
 | [],_=>.ok []
 | e::es,Y=>do let d <- aw cl e Y;let ds <- cj cl es Y;.ok (d::ds)
noncomputable def iW (cl:Nat->List D->R D):List M->En->R D
 | [],_=>.stuck
 | [e],Y=>do let x <- aw cl e Y;let t <- aV x;.ok (.bl t)
 | e::e'::es,Y=>do let x <- aw cl e Y;let t <- aV x;if t then iW cl (e'::es) Y else .ok (.bl false)
noncomputable def lB (cl:Nat->List D->R D):List M->En->R D
 | [],_=>.stuck
 | [e],Y=>do let x <- aw cl e Y;let t <- aV x;.ok (.bl t)
 | e::e'::es,Y=>do let x <- aw cl e Y;let t <- aV x;if t then .ok (.bl true) else lB cl (e'::es) Y
end
inductive GS where
 | mz (k v:M) | a_ (t:Tg) (k:IK) (src:List M) (b:GS)
noncomputable def aN:Tg->zi
 | .one i=>[i]
 | .two i j=>[i,j]
def fT:GS->zi
 | .mz _ _=>[]
 | .a_ t _ _ b=>aN t++fT b
noncomputable def fH:En->zi->En
 | Y,[]=>Y
 | Y,i::U=>fH (Y.set i none) U
inductive MS where
 | set (t:Tg) (e:M) | app (i:Nat) (e:M) | ext (i:Nat) (e:M)
 | expr (e:M) | ret (e:M) | ifs (c:M) (a b:List MS) | a_ (t:Tg) (k:IK) (src:List M) (b:List MS)
 | r9
 | og (j:Nat) (e:M)
 | um (i:Nat) (g:GS)
 | eh (i:Nat) (k v:M) | uu (c:M) (b:List MS)
inductive Out where
 | nx (Y:En) | rt (d:D)
noncomputable def aP:En->En->En
 | a::as,b::bs=>(if a.isSome then b else none)::aP as bs
 | [],bs=>bs.map fun _=>none
 | _,[]=>[]
def iC (f:D->En->R Out) (cA:En):List D->En->R Out
 | [],Y=>.ok (.nx Y)
 | d::ds,Y=>do
  let o <- f d Y
  match o with
  | .nx ρ'=>iC f cA ds (aP cA ρ')
  | o=>.ok o
def jd (c:En->R Bool) (f:En->R Out) (cA:En):Nat->En->R Out
 | 0,_=>.stuck
 | n+1,Y=>do
  let t <- c Y
  if t then do
   let o <- f Y
   match o with
   | .nx ρ'=>jd c f cA n (aP cA ρ')
   | o=>.ok o
  else .ok (.nx Y)
noncomputable def D5:Nat:=1000
def tU:D->D->R D
 | .lst ds,d=>if ds.length < lim then .ok (.lst (ds++[d])) else .stuck
 | _,_=>.stuck
def Ii:D->D->R D
 | .lst ds,.lst es=>if ds.length+es.length<=lim then .ok (.lst (ds++es)) else .stuck
 | _,_=>.stuck
def putD:D->D->D->R D
 | .bE ks vs,k,v=>if lA ks k/\ks.length < lim/\ks.length=vs.length then .ok (.bE (jc ks vs k v).1 (jc ks vs k v).2) else .stuck
 | _,_,_=>.stuck
mutual
noncomputable def nt:D->Bool
 | .tup ds=>LK ds
 | .lst _=>false
 | .bE _ _=>false
 | .bP _=>false
 | _=>true
noncomputable def LK:List D->Bool
 | []=>true
 | d::ds=>nt d && LK ds
end
def Bu:D->D->D->R D
 | .bP ah,.int k,.int v=>if ah.length < lim then .ok (.bP (mY ah k v)) else .stuck
 | .bE ks vs,k,v=>if nt v && nt k then putD (.bE ks vs) k v else .stuck
 | _,_,_=>.stuck
noncomputable def RM (Y:En):D->R Out
 | .bl true=>.ok (.nx Y)
 | _=>.stuck
def vM:D->D->D->R D
 | .bE ks vs,k,v=>if lA ks k/\ks.length < lim/\ks.length=vs.length then (match dD ks vs k with
   | some (.lst l)=>if l.length < lim then .ok (.bE (jc ks vs k (.lst (l++[v]))).1 (jc ks vs k (.lst (l++[v]))).2) else .stuck
   | some _=>.stuck
   | none=>.ok (.bE (ks++[k]) (vs++[.lst [v]]))) else .stuck
 | _,_,_=>.stuck
noncomputable def lM (f:D->D->R D):List D->D->R D
 | [],d=>.ok d
 | x::xs,d=>do let d' <- f x d;lM f xs d'
def jZ (cl:Nat->List D->R D):GS->En->D->R D
 | .mz k v,Y,d=>do let kk <- aw cl k Y;let vv <- aw cl v Y;vM d kk vv
 | .a_ t ik src b,Y,d=>do
  let ss <- cj cl src Y
  let items <- itemsOf ik ss
  lM (fun x d=>do let dJ <- c7 t x (fH Y (aN t++fT b));jZ cl b dJ d) items d
noncomputable def Ao:D->R Unit
 | .bE [] []=>.ok ()
 | _=>.stuck
mutual
noncomputable def bZ (cl:Nat->List D->R D):MS->En->R Out
 | .set t e,Y=>do let d <- aw cl e Y;let ρ' <- c7 t d Y;.ok (.nx ρ')
 | .app i e,Y=>do let l <- cY Y i;let d <- aw cl e Y;let l' <- tU l d;.ok (.nx (Y.set i (some l')))
 | .ext i e,Y=>do let l <- cY Y i;let d <- aw cl e Y;let l' <- Ii l d;.ok (.nx (Y.set i (some l')))
 | .expr e,Y=>do let _ <- aw cl e Y;.ok (.nx Y)
 | .ret e,Y=>do let d <- aw cl e Y;.ok (.rt d)
 | .ifs c a b,Y=>do
  let x <- aw cl c Y
  let t <- u6 c x
  if t then bI cl a Y else bI cl b Y
 | .a_ t k src b,Y=>do
  let ss <- cj cl src Y
  let items <- itemsOf k ss
  iC (fun d Y=>do let dJ <- c7 t d Y;bI cl b dJ) Y items Y
 | .eh i k v,Y=>do
  let vv <- aw cl v Y
  let d <- cY Y i
  let kk <- aw cl k Y
  let d' <- Bu d kk vv
  .ok (.nx (Y.set i (some d')))
 | .uu c b,Y=>jd (fun Y=>do let x <- aw cl c Y;aV x) (fun Y=>bI cl b Y) Y D5 Y
 | .um i g,Y=>do
  let d <- cY Y i
  let _ <- Ao d
  let d' <- jZ cl g (fH Y (i::fT g)) d
  .ok (.nx ((fH Y (i::fT g)).set i (some d')))
 | .r9,Y=>.stuck
 | .og _ e,Y=>do let d <- aw cl e Y;let r <- cl 5000 [d];RM Y r
noncomputable def bI (cl:Nat->List D->R D):List MS->En->R Out
 | [],Y=>.ok (.nx Y)
 | m::ms,Y=>do
  let o <- bZ cl m Y
  match o with
  | .nx ρ'=>bI cl ms ρ'
  | o=>.ok o
end
mutual
noncomputable def aK:M->zi
 | .var i=>[i]
 | .con _=>[]
 | .tup es=>bK es
 | .lst es=>bK es
 | .ft=>[]
 | .hJ=>[]
 | .ite c a b=>aK c++(aK a++aK b)
 | .vals i=>[i]
 | .bin _ a b=>aK a++aK b
 | .cmp _ a b=>aK a++aK b
 | .chain _ _ a b c=>aK a++(aK b++aK c)
 | .and es=>bK es
 | .or es=>bK es
 | .not a=>aK a
 | .neg a=>aK a
 | .ix a b=>aK a++aK b
 | .sZ a b c=>aK a++(aK b++aK c)
 | .hV a b c=>aK a++(aK b++aK c)
 | .call _ es=>bK es
 | .blt _ es=>bK es
 | .isin a _=>aK a
 | .comp elt _ _ src _ c _=>bK src++(aK c++aK elt)
noncomputable def bK:List M->zi
 | []=>[]
 | e::es=>aK e++bK es
end
noncomputable def without (O U:zi):zi:=O.filter fun i=>!U.contains i
noncomputable def Qm:M->Bool
 | .lst _=>true
 | .ft=>true
 | .hJ=>true
 | _=>false
abbrev Ow:=Option (zi)
noncomputable def jm:Ow->Ow->Ow
 | none,b=>b
 | a,none=>a
 | some a,some b=>some (a.filter fun i=>b.contains i)
mutual
noncomputable def ux (inv:zi):MS->zi->Option Ow
 | .set (.one i) e,O=>some (some (if Qm e then i::without (without O (aK e)) [i] else without (without O (aK e)) [i]))
 | .set (.two i j) e,O=>some (some (without (without O (aK e)) [i,j]))
 | .app i e,O=>if (without O (aK e)).contains i then some (some (without O (aK e))) else none
 | .ext i e,O=>if (without O (aK e)).contains i then some (some (without O (aK e))) else none
 | .expr e,O=>some (some (without O (aK e)))
 | .ret e,O=>some none
 | .ifs c a b,O=>do
  let x <- dB inv a O
  let y <- dB inv b O
  some (jm x y)
 | .a_ t k src b,O=>do
  let O1:=without (without O (bK src)) (aN t)
  let x <- dB O1 b O1
  let O2:=(jm (some O1) x).getD []
  let y <- dB O2 b O2
  match y with
  | none=>some (some O2)
  | some O3=>if O2.all (fun i=>O3.contains i) then some (some O2) else none
 | .r9,O=>some none
 | .og _ e,O=>some (some (without O (aK e)))
 | .eh i k v,O=>if O.contains i then some (some O) else none
 | .uu c b,O=>do
  let x <- dB O b O
  let O2:=(jm (some O) x).getD []
  let y <- dB O2 b O2
  match y with
  | none=>some (some O2)
  | some O3=>if O2.all (fun i=>O3.contains i) then some (some O2) else none
 | .um i g,O=>if O.contains i && !(fT g).contains i then some (some [i]) else none
noncomputable def dB (inv:zi):List MS->zi->Option Ow
 | [],O=>some (some O)
 | m::ms,O=>do
  let x <- ux inv m O
  match x with
  | none=>some none
  | some O1=>dB inv ms O1
end
mutual
noncomputable def Te:MS->zi
 | .set t _=>aN t
 | .um _ g=>fT g
 | .ifs _ a b=>vd a++vd b
 | .a_ t _ _ b=>aN t++vd b
 | .uu _ b=>vd b
 | _=>[]
noncomputable def vd:List MS->zi
 | []=>[]
 | m::ms=>Te m++vd ms
end
structure Def where
 np:Nat
 nn:Nat
 body:List MS
 D6:Bool
variable {α β:Type}
section eqs
variable (cl:Nat->List D->R D) (Y:En)
theorem wA (i:Nat):aw cl (.var i) Y=cY Y i:=rfl
theorem wB (d:D):aw cl (.con d) Y=.ok d:=rfl
theorem wC (es:List M):aw cl (.tup es) Y=(do let ds <- cj cl es Y;if ds.length<=lim then .ok (.tup ds) else .stuck):=rfl
theorem wD (es:List M):aw cl (.lst es) Y=(do let ds <- cj cl es Y;if ds.length<=lim then .ok (.lst ds) else .stuck):=rfl
theorem we:aw cl .hJ Y=.ok (.bP []):=rfl
theorem wf (c a b:M):aw cl (.ite c a b) Y=(do let x <- aw cl c Y;let t <- aV x;if t then aw cl a Y else aw cl b Y):=rfl
theorem qp (i:Nat):aw cl (.vals i) Y=(do let x <- cY Y i;Ez x):=rfl
theorem wE:aw cl .ft Y=.ok (.bE [] []):=rfl
theorem wF (op:BO) (a b:M):aw cl (.bin op a b) Y=(do let x <- aw cl a Y;let y <- aw cl b Y;je op x y):=rfl
theorem wG (op:CO) (a b:M):aw cl (.cmp op a b) Y=(do let x <- aw cl a Y;let y <- aw cl b Y;let r <- bw op x y;.ok (.bl r)):=rfl
theorem qH (p q:CO) (a b c:M):aw cl (.chain p q a b c) Y=(do
  let x <- aw cl a Y
  let y <- aw cl b Y
  let r <- bw p x y
  if r then do let z <- aw cl c Y;let r2 <- bw q y z;.ok (.bl r2) else .ok (.bl false)):=rfl
theorem wH (es:List M):aw cl (.and es) Y=iW cl es Y:=rfl
theorem wg (es:List M):aw cl (.or es) Y=lB cl es Y:=rfl
theorem wI (a:M):aw cl (.not a) Y=(do let x <- aw cl a Y;let t <- aV x;.ok (.bl (!t))):=rfl
theorem wj (a b:M):aw cl (.ix a b) Y=(do let x <- aw cl a Y;let y <- aw cl b Y;f6 x y):=rfl
theorem wK (a lo hi:M):aw cl (.sZ a lo hi) Y=(do
  let x <- aw cl a Y
  let l <- (if dh lo then .ok none else (do let d <- aw cl lo Y;lN d))
  let h <- (if dh hi then .ok none else (do let d <- aw cl hi Y;lN d))
  xy x l h):=rfl
theorem qS (a k d:M):aw cl (.hV a k d) Y=(do let x <- aw cl a Y;let y <- aw cl k Y;let z <- aw cl d Y;tY x y z):=rfl
theorem qT (f:Nat) (es:List M):aw cl (.call f es) Y=(do let ds <- cj cl es Y;cl f ds):=rfl
theorem wL (f:BI) (es:List M):aw cl (.blt f es) Y=(do let ds <- cj cl es Y;gj f ds):=rfl
theorem qU (a:M) (t:Ty):aw cl (.isin a t) Y=(do let x <- aw cl a Y;.ok (.bl (jE x t))):=rfl
theorem qV (elt:M) (tg:Tg) (k:IK) (src:List M) (hc:Bool) (c:M) (eD:List Bool):aw cl (.comp elt tg k src hc c eD) Y=(do
  let ss <- cj cl src Y
  let items <- itemsOf k ss
  let ys <- cQ (fun d=>do
   let ρ' <- c7 tg d (bL eD Y)
   let t <- (if hc then (do let x <- aw cl c ρ';aV x) else .ok true)
   if t then do let y <- aw cl elt ρ';.ok (some y) else .ok none) items
  if ys.length<=lim then .ok (.lst ys) else .stuck):=rfl
theorem qW:cj cl [] Y=.ok []:=rfl
theorem qI (e:M) (es:List M):cj cl (e::es) Y=(do let d <- aw cl e Y;let ds <- cj cl es Y;.ok (d::ds)):=rfl
theorem qX (e:M):iW cl [e] Y=(do let x <- aw cl e Y;let t <- aV x;.ok (.bl t)):=rfl
theorem qJ (e e':M) (es:List M):iW cl (e::e'::es) Y=(do let x <- aw cl e Y;let t <- aV x;if t then iW cl (e'::es) Y else .ok (.bl false)):=rfl
theorem wM (e:M):lB cl [e] Y=(do let x <- aw cl e Y;let t <- aV x;.ok (.bl t)):=rfl
theorem qY (e e':M) (es:List M):lB cl (e::e'::es) Y=(do let x <- aw cl e Y;let t <- aV x;if t then .ok (.bl true) else lB cl (e'::es) Y):=rfl
theorem qr (t:Tg) (e:M):bZ cl (.set t e) Y=(do let d <- aw cl e Y;let ρ' <- c7 t d Y;.ok (.nx ρ')):=rfl
theorem qu (i:Nat) (e:M):bZ cl (.app i e) Y=(do let l <- cY Y i;let d <- aw cl e Y;let l' <- tU l d;.ok (.nx (Y.set i (some l')))):=rfl
theorem qv (i:Nat) (e:M):bZ cl (.ext i e) Y=(do let l <- cY Y i;let d <- aw cl e Y;let l' <- Ii l d;.ok (.nx (Y.set i (some l')))):=rfl
theorem qR (e:M):bZ cl (.expr e) Y=(do let _ <- aw cl e Y;.ok (.nx Y)):=rfl
theorem qw (e:M):bZ cl (.ret e) Y=(do let d <- aw cl e Y;.ok (.rt d)):=rfl
theorem qx (c:M) (a b:List MS):bZ cl (.ifs c a b) Y=(do
  let x <- aw cl c Y
  let t <- u6 c x
  if t then bI cl a Y else bI cl b Y):=rfl
theorem qy (t:Tg) (k:IK) (src:List M) (b:List MS):bZ cl (.a_ t k src b) Y=(do
  let ss <- cj cl src Y
  let items <- itemsOf k ss
  iC (fun d Y=>do let dJ <- c7 t d Y;bI cl b dJ) Y items Y):=rfl
theorem qm (i:Nat) (k v:M):bZ cl (.eh i k v) Y=(do
  let vv <- aw cl v Y
  let d <- cY Y i
  let kk <- aw cl k Y
  let d' <- Bu d kk vv
  .ok (.nx (Y.set i (some d')))):=rfl
theorem GZ (c:M) (b:List MS):bZ cl (.uu c b) Y=jd (fun Y=>do let x <- aw cl c Y;aV x) (fun Y=>bI cl b Y) Y D5 Y:=rfl
theorem wZ (i:Nat) (g:GS):bZ cl (.um i g) Y=(do
  let d <- cY Y i
  let _ <- Ao d
  let d' <- jZ cl g (fH Y (i::fT g)) d
  .ok (.nx ((fH Y (i::fT g)).set i (some d')))):=rfl
theorem wa (k v:M) (d:D):jZ cl (.mz k v) Y d=(do let kk <- aw cl k Y;let vv <- aw cl v Y;vM d kk vv):=rfl
theorem wb (t:Tg) (ik:IK) (src:List M) (b:GS) (d:D):jZ cl (.a_ t ik src b) Y d=(do
  let ss <- cj cl src Y
  let items <- itemsOf ik ss
  lM (fun x d=>do let dJ <- c7 t x (fH Y (aN t++fT b));jZ cl b dJ d) items d):=rfl
theorem wc (k v:M):fT (.mz k v)=[]:=rfl
theorem wd (t:Tg) (ik:IK) (src:List M) (b:GS):fT (.a_ t ik src b)=aN t++fT b:=rfl
theorem zW (i:Nat):aN (.one i)=[i]:=rfl
theorem zX (i j:Nat):aN (.two i j)=[i,j]:=rfl
theorem zI:fH Y []=Y:=rfl
theorem zJ (i:Nat) (U:zi):fH Y (i::U)=fH (Y.set i none) U:=rfl
theorem qz:bZ cl .r9 Y=.stuck:=rfl
theorem Pa (j:Nat) (e:M):bZ cl (.og j e) Y=(do let d <- aw cl e Y;let r <- cl 5000 [d];RM Y r):=rfl
theorem qq:bI cl [] Y=.ok (.nx Y):=rfl
def uF (ms:List MS):Out->R Out
 | .nx ρ'=>bI cl ms ρ'
 | o=>.ok o
theorem qQ (m:MS) (ms:List MS):bI cl (m::ms) Y=(bZ cl m Y >>= uF cl ms):=rfl
theorem qF (ms:List MS):uF cl ms (.nx Y)=bI cl ms Y:=rfl
theorem qG (ms:List MS) (d:D):uF cl ms (.rt d)=.ok (.rt d):=rfl
theorem wk (d:D):cY (some d::Y) 0=.ok d:=rfl
theorem wl (o:Option D) (i:Nat):cY (o::Y) (i+1)=cY Y i:=rfl
theorem qZ (b:Bool):aV (.bl b)=.ok b:=rfl
theorem wN (i:Int):lN (.int i)=.ok (some i):=rfl
theorem wO (i:Nat) (d:D):c7 (.one i) d Y=.ok (Y.set i (some d)):=rfl
theorem wP (i j:Nat) (a b:D):c7 (.two i j) (.tup [a,b]) Y=.ok ((Y.set i (some a)).set j (some b)):=rfl
theorem wQ (d:D) (b:Option D) (as bs:En):aP (some d::as) (b::bs)=b::aP as bs:=rfl
theorem wR (b:Option D) (as bs:En):aP (none::as) (b::bs)=none::aP as bs:=rfl
theorem wS:aP [] []=[]:=rfl
theorem wm:dh (.con .ai)=true:=rfl
theorem wn (i:Int):dh (.con (.int i))=false:=rfl
theorem wo (i:Nat):dh (.var i)=false:=rfl
theorem wq (op:BO) (a b:M):dh (.bin op a b)=false:=rfl
theorem wT (a b:α):(if true=true then a else b)=a:=rfl
theorem wU (a b:α):(if false=true then a else b)=b:=rfl
theorem wt (f:α->β) (a:α) (l:List α):List.map f (a::l)=f a::List.map f l:=rfl
theorem wu (f:α->β):List.map f []=[]:=rfl
theorem wJ (i:Int):aw cl (.neg (.con (.int i))) Y=.ok (.int (-i)):=rfl
theorem wy (a:α):List.replicate 0 a=[]:=rfl
theorem wz (n:Nat) (a:α):List.replicate (n+1) a=a::List.replicate n a:=rfl
theorem zA:(!true)=false:=rfl
theorem zB:(!false)=true:=rfl
theorem wv (a:α) (l m:List α):(a::l)++m=a::(l++m):=rfl
theorem ww (m:List α):([]:List α)++m=m:=rfl
theorem wW (bs:List Bool) (v:Option D) (vs:En):bL (true::bs) (v::vs)=v::bL bs vs:=rfl
theorem wX (bs:List Bool) (v:Option D) (vs:En):bL (false::bs) (v::vs)=none::bL bs vs:=rfl
theorem wY:bL [] ([]:En)=[]:=rfl
theorem zQ (a:α) (l:List α):(a::l).length=l.length+1:=rfl
theorem zR :([]:List α).length=0:=rfl
theorem zS (a:α) (l:List α):(a::l)[0]?=some a:=rfl
theorem zT (a:α) (l:List α) (i:Nat):(a::l)[i+1]?=l[i]?:=rfl
theorem zU (a b:α) (l:List α):(a::l).set 0 b=b::l:=rfl
theorem zV (a b:α) (l:List α) (i:Nat):(a::l).set (i+1) b=a::l.set i b:=rfl
def wx (l:List α):l++[]=l:=List.append_nil l
def zY:(false=true)=False:=Bool.false_eq_true
theorem T4 (f:Nat) (es:List M):aK (.call f es)=bK es:=rfl
theorem Fy:bK []=[]:=rfl
theorem NQ (e:M) (es:List M):bK (e::es)=aK e++bK es:=rfl
end eqs
end Mi
namespace Mi
open PySem L2
open PyProof.Rows hiding St
variable {O U:zi}{i:Nat}
def bQ :i∈without O U↔i∈O/\i ∉ U:=by
 unfold without;rw [List.mem_filter];simp
def fQ (g:G) (H Hs:Hp) (a:Addr):D->Prop
 | .lst ds=>∃ xs,H a=some (.lst xs)/\ax g Hs ds xs
 | .bE ks vs=>∃ xs ys ep,H a=some (.ext (fR g a xs ys ep))/\ks=xs.map (·.1)/\ax g Hs ks (xs.map fun x=>V.ref x.2.1)/\ax g Hs vs ys
 | .bP ah=>H a=some (n_ ah)
 | _=>False
variable {g:G}{H Hs:Hp}{a:Addr}{d:D}
def fQ.obj (h:fQ g H Hs a d):∃ o,H a=some o:=by
 cases d <;> simp only [fQ] at h
 .obtain ⟨xs,h,_⟩:=h;exact ⟨_,h⟩
 .obtain ⟨xs,ys,_,h,_⟩:=h;exact ⟨_,h⟩
 .exact ⟨_,h⟩
variable {av:Hp}
def fQ.mono {H':Hp} (h:fQ g H Hs a d) (k:∀ o,H a=some o->H' a=some o) (m:ar Hs av):fQ g H' av a d:=by
 cases d <;> simp only [fQ] at h ⊢
 .obtain ⟨xs,h,r⟩:=h;exact ⟨xs,k _ h,r.mono m⟩
 .obtain ⟨xs,ys,ep,h,e,r1,r2⟩:=h;exact ⟨xs,ys,ep,k _ h,e,r1.mono m,r2.mono m⟩
 .exact k _ h
variable {o:HO}
def fQ.Hc (h:fQ g H Hs a d) (ho:H a=some o) (m:ar Hs (upd Hs a o)):Rp g (upd Hs a o) d (.ref a):=by
 cases d <;> simp only [fQ] at h
 .obtain ⟨xs,h,r⟩:=h;rw [ho] at h;cases h;rw [Rp];exact ⟨a,xs,rfl,cm.of aC,r.mono m⟩
 .obtain ⟨xs,ys,ep,h,e,r1,r2⟩:=h;rw [ho] at h;cases h;rw [Rp];exact ⟨a,xs,ys,ep,rfl,aC,e,r1.mono m,r2.mono m⟩
 .rw [ho] at h;cases h;rw [Rp];exact ⟨a,rfl,aC⟩
noncomputable def uO:HO->Bool
 | .lst _=>true | .ext _=>true | .dK _=>true | _=>false
def gP (Hs av:Hp):Prop:=∀ b o,av b=some o->Hs b=some o\/uO o=true
def gP.refl (Hs:Hp):gP Hs Hs:=fun _ _ q=>.inl q
variable {ay bt:Hp}
def gP.trans (a:gP Hs ay) (b:gP ay bt):gP Hs bt:=fun c o q=>by
 rcases b c o q with z | z
 .exact a c o z
 .exact .inr z
def fQ.D7 (h:fQ g H Hs a d) (ho:H a=some o):gP Hs (upd Hs a o):=fun b u q=>by
 by_cases e:b=a
 .subst e;rw [aC] at q;cases q;right;cases d <;> simp only [fQ] at h
  .obtain ⟨xs,h,_⟩:=h;rw [ho] at h;cases h;rfl
  .obtain ⟨xs,ys,_,h,_⟩:=h;rw [ho] at h;cases h;rfl
  .rw [ho] at h;cases h;rfl
 .rw [ak e] at q;exact .inl q
structure Ent where
 hp:Hp
 ab:List (Nat × Addr)
structure FR (g:G) (E:Ent) (Es:Hp) (O:zi) (Y:En) (Z:St) (H Hs:Hp):Prop where
 grow:aI E.hp Es H Hs
 len:Y.length=Z.length
 val:∀ (i:Nat) d,Y[i]?=some (some d)->i ∉ O->∃ v,Z[i]?=some (some v)/\Rp g Hs d v
 own:∀ i∈O,∀ d,Y[i]?=some (some d)->∃ a,Z[i]?=some (some (.ref a))/\E.hp a=none/\Hs a=none/\fQ g H Hs a d
 apart:∀ i∈O,∀ j∈O,i≠j->∀ d e a,Y[i]?=some (some d)->Y[j]?=some (some e)->Z[i]?=some (some (.ref a))->Z[j]?≠some (some (.ref a))
 pin:∀ q∈E.ab,Z[q.1]?=some (some (.ref q.2))
variable {ρ':En}{K:zd}{dP:Hp}{xs:List V}
section
variable {g:G}{E:Ent}{Es:Hp}{O O':zi}{Y:En}{Z:St}{H Hs H' av:Hp}
def FR.grown (F:FR g E Es O Y Z H Hs) (w:aI H Hs H' av):FR g E Es O Y Z H' av:=by
 have m:=w.same F.grow.sub;refine ⟨F.grow.trans w,F.len,fun i d h hi=>?_,fun i hi d h=>?_,F.apart,F.pin⟩
 .obtain ⟨v,e,r⟩:=F.val i d h hi;exact ⟨v,e,r.mono m⟩
 .obtain ⟨a,e,e0,e1,o⟩:=F.own i hi d h;obtain ⟨ob,ho⟩:=o.obj;exact ⟨a,e,e0,by rw [w.old a ob ho];exact e1,o.mono (fun u q=>w.keep a u q) m⟩
def FR.sub (F:FR g E Es O Y Z H Hs):ar Hs H:=F.grow.sub
def FR.LI (F:FR g E Es O Y Z H Hs) (i:Nat):∃ av,FR g E Es (O.filter fun j=>j != i) Y Z H av/\ar Hs av/\gP Hs av:=by
 have ff:∀ {j},j∈(O.filter fun j=>j != i)↔j∈O/\j≠i:=by intro j;rw [List.mem_filter];simp
 by_cases hi:i∈O
 .cases hd:Y[i]? with
  | none =>
   refine ⟨Hs,⟨F.grow,F.len,fun j d h hj=>F.val j d h fun z=>hj (ff.mpr ⟨z,?_⟩),fun j hj d h=>F.own j (ff.mp hj).1 d h,fun j hj k hk=>F.apart j (ff.mp hj).1 k (ff.mp hk).1,F.pin⟩,fun _ _ q=>q,gP.refl _⟩;rintro rfl;rw [hd] at h;cases h
  | some x =>
   cases x with
   | none =>
    refine ⟨Hs,⟨F.grow,F.len,fun j d h hj=>F.val j d h fun z=>hj (ff.mpr ⟨z,?_⟩),fun j hj d h=>F.own j (ff.mp hj).1 d h,fun j hj k hk=>F.apart j (ff.mp hj).1 k (ff.mp hk).1,F.pin⟩,fun _ _ q=>q,gP.refl _⟩;rintro rfl;rw [hd] at h;cases h
   | some d0 =>
    obtain ⟨a,e,e0,e1,o⟩:=F.own i hi d0 hd;obtain ⟨ob,ho⟩:=o.obj;have m:ar Hs (upd Hs a ob):=fun b u q=>by
     have:b≠a:=aq q e1;rw [ak this];exact q
    refine ⟨upd Hs a ob,⟨⟨F.grow.keep,fun b u q=>?_,fun b u q=>?_⟩,F.len,fun j d h hj=>?_,fun j hj d h=>?_,fun j hj k hk=>F.apart j (ff.mp hj).1 k (ff.mp hk).1,F.pin⟩,m,o.D7 ho⟩
    .rw [ak (aq q e0)];exact F.grow.old b u q
    .by_cases hb:b=a
     .subst hb;rw [aC] at q;cases q;exact ho
     .rw [ak hb] at q;exact F.grow.sub b u q
    .by_cases di:j=i
     .subst di;rw [hd] at h;cases h;exact ⟨.ref a,e,o.Hc ho m⟩
     .obtain ⟨v,ev,r⟩:=F.val j d h fun z=>hj (ff.mpr ⟨z,di⟩)
      exact ⟨v,ev,r.mono m⟩
    .obtain ⟨xA,di⟩:=ff.mp hj;obtain ⟨b,eb,b0,b1,VW⟩:=F.own j xA d h;have Lu:b≠a:=fun z=>by
      subst z;exact F.apart i hi j xA (Ne.symm di) d0 d b hd h e eb
     exact ⟨b,eb,b0,by rw [ak Lu];exact b1,VW.mono (fun _ q=>q) m⟩
 .refine ⟨Hs,⟨F.grow,F.len,fun j d h hj=>F.val j d h fun z=>hj (ff.mpr ⟨z,fun q=>hi (q ▸ z)⟩),fun j hj d h=>F.own j (ff.mp hj).1 d h,fun j hj k hk=>F.apart j (ff.mp hj).1 k (ff.mp hk).1,F.pin⟩,fun _ _ q=>q,gP.refl _⟩
def FR.gz (F:FR g E Es O Y Z H Hs) (h:∀ i,i∈O'↔i∈O):FR g E Es O' Y Z H Hs :=
 ⟨F.grow,F.len,fun i d q hi=>F.val i d q fun z=>hi ((h i).mpr z),fun i hi d q=>F.own i ((h i).mp hi) d q,fun i hi j hj=>F.apart i ((h i).mp hi) j ((h j).mp hj),F.pin⟩
theorem FR.uv:∀ (U:zi) {Hs:Hp}{O:zi},FR g E Es O Y Z H Hs->∃ av,FR g E Es (without O U) Y Z H av/\ar Hs av/\gP Hs av
 | [],Hs,O,F=>⟨Hs,F.gz fun i=>by rw [bQ];simp,fun _ _ q=>q,gP.refl _⟩
 | u::U,Hs,O,F=>by
  obtain ⟨H1,F1,m1,w1⟩:=F.LI u;obtain ⟨H2,F2,m2,w2⟩:=FR.uv U F1;refine ⟨H2,F2.gz fun i=>?_,fun a o q=>m2 a o (m1 a o q),w1.trans w2⟩;rw [bQ,bQ,List.mem_filter];simp;constructor
  .rintro ⟨a,b,c⟩;exact ⟨⟨a,b⟩,c⟩
  .rintro ⟨⟨a,b⟩,c⟩;exact ⟨a,b,c⟩
def FR.gV (F:FR g E Es O Y Z H Hs) (h:∀ i∈O',i∈O):∃ av,FR g E Es O' Y Z H av/\ar Hs av:=by
 obtain ⟨H1,F1,m1,_⟩:=FR.uv (O.filter fun i=>!O'.contains i) F;refine ⟨H1,F1.gz fun i=>?_,m1⟩;rw [bQ,List.mem_filter];simp;constructor
 .intro hi;exact ⟨h i hi,fun _=>hi⟩
 .rintro ⟨a,b⟩;exact b a
def FR.D8 {v:V} (F:FR g E Es O Y Z H Hs) (hq:∀ q∈E.ab,q.1≠i) (r:Rp g Hs d v):FR g E Es (without O [i]) (Y.set i (some d)) (Z.set i (some v)) H Hs:=by
 have k0:∀ {j},j∈without O [i]↔j∈O/\j≠i:=by intro j;rw [bQ];simp
 refine ⟨F.grow,by rw [List.length_set,List.length_set];exact F.len,fun j e h hj=>?_,fun j hj e h=>?_,fun j hj k hk xB e f a h1 h2 h3=>?_,fun q ue=>by rw [List.getElem?_set_ne (Ne.symm (hq q ue))];exact F.pin q ue⟩
 .by_cases di:j=i
  .subst di;have hl:j < Y.length:=by
    have:=(yi.mp h).1;simpa using this
   rw [List.getElem?_set_self hl] at h;cases h;exact ⟨v,by rw [List.getElem?_set_self (by rw [<- F.len];exact hl)],r⟩
  .rw [List.getElem?_set_ne (Ne.symm di)] at h;obtain ⟨w,ew,mT⟩:=F.val j e h fun z=>hj (k0.mpr ⟨z,di⟩)
   exact ⟨w,by rw [List.getElem?_set_ne (Ne.symm di)];exact ew,mT⟩
 .obtain ⟨xA,di⟩:=k0.mp hj;rw [List.getElem?_set_ne (Ne.symm di)] at h;obtain ⟨a,ea,q⟩:=F.own j xA e h;exact ⟨a,by rw [List.getElem?_set_ne (Ne.symm di)];exact ea,q⟩
 .obtain ⟨xA,di⟩:=k0.mp hj;obtain ⟨VX,oi⟩:=k0.mp hk;rw [List.getElem?_set_ne (Ne.symm di)] at h1 h3;rw [List.getElem?_set_ne (Ne.symm oi)] at h2;rw [List.getElem?_set_ne (Ne.symm oi)];exact F.apart j xA k VX xB e f a h1 h2 h3
def FR.adopt {p:Addr} (F:FR g E Es O Y Z H Hs) (hq:∀ q∈E.ab,q.1≠i) (w:aI H Hs H' av) (hp:H p=none) (VY:av p=none) (r:fQ g H' av p d):FR g E Es (i::without O [i]) (Y.set i (some d)) (Z.set i (some (.ref p))) H' av:=by
 have k0:∀ {j},j∈without O [i]↔j∈O/\j≠i:=by intro j;rw [bQ];simp
 have Ep:E.hp p=none:=by
  cases q:E.hp p with
  | none=>rfl
  | some u=>rw [F.grow.keep p u q] at hp;cases hp
 have F':=F.grown w;refine ⟨F'.grow,by rw [List.length_set,List.length_set];exact F.len,fun j e h hj=>?_,fun j hj e h=>?_,fun j hj k hk xB e f a h1 h2 h3=>?_,fun q ue=>by rw [List.getElem?_set_ne (Ne.symm (hq q ue))];exact F.pin q ue⟩
 .have di:j≠i:=fun z=>hj (by rw [z];exact vj)
  rw [List.getElem?_set_ne (Ne.symm di)] at h;obtain ⟨w,ew,mT⟩:=F'.val j e h fun z=>hj (vi _ (k0.mpr ⟨z,di⟩))
  exact ⟨w,by rw [List.getElem?_set_ne (Ne.symm di)];exact ew,mT⟩
 .by_cases di:j=i
  .subst di;have hl:j < Y.length:=by
    have:=(yi.mp h).1;simpa using this
   rw [List.getElem?_set_self hl] at h;cases h;exact ⟨p,by rw [List.getElem?_set_self (by rw [<- F.len];exact hl)],Ep,VY,r⟩
  .have xA:j∈O:=by
    rcases vV.mp hj with z | z
    .exact absurd z di
    .exact (k0.mp z).1
   rw [List.getElem?_set_ne (Ne.symm di)] at h;obtain ⟨a,ea,q⟩:=F'.own j xA e h;exact ⟨a,by rw [List.getElem?_set_ne (Ne.symm di)];exact ea,q⟩
 .have Hd:∀ {k},k∈i::without O [i]->k≠i->k∈O:=fun {k} hk oi=>by
   rcases vV.mp hk with z | z
   .exact absurd z oi
   .exact (k0.mp z).1
  have Co:∀ {k e a},k∈O->Y[k]?=some (some e)->Z[k]?=some (some (.ref a))->a≠p:=fun {k e a} hk h1 h2=>by
   obtain ⟨b,eb,_,_,ob⟩:=F.own k hk e h1;rw [h2] at eb;cases eb;obtain ⟨u,hu⟩:=ob.obj;exact aq hu hp
  have He:∀ {v:V},(Z.set i (some v))[i]?=some (some v)\/i ≥ Z.length:=fun {v}=>by
   by_cases hl:i < Z.length
   .left;rw [List.getElem?_set_self hl]
   .right;omega
  by_cases di:j=i
  .subst di;have LJ:k≠j:=Ne.symm xB;have VZ:j < Z.length:=by
    have:=(yi.mp h3).1;simpa using this
   rw [List.getElem?_set_self VZ] at h3;cases h3;rw [List.getElem?_set_ne (Ne.symm LJ)] at h2;rw [List.getElem?_set_ne (Ne.symm LJ)];intro z;exact Co (Hd hk LJ) h2 z rfl
  .rw [List.getElem?_set_ne (Ne.symm di)] at h1 h3;by_cases oi:k=i
   .subst oi;intro z;have OI:k < Z.length:=by
     have:=(yi.mp z).1;simpa using this
    rw [List.getElem?_set_self OI] at z;cases z;exact Co (Hd hj di) h1 h3 rfl
   .rw [List.getElem?_set_ne (Ne.symm oi)] at h2;rw [List.getElem?_set_ne (Ne.symm oi)];exact F.apart j (Hd hj di) k (Hd hk oi) xB e f a h1 h2 h3
def FR.A8 {p:Addr} (F:FR g E Es O Y Z H Hs) (hq:∀ q∈E.ab,q.1≠i) (hp:H p=none) (r:fQ g (upd H p o) Hs p d):FR g E Es (i::without O [i]) (Y.set i (some d)) (Z.set i (some (.ref p))) (upd H p o) Hs:=by
 refine F.adopt hq (aI.own F.sub hp) hp ?_ r;cases q:Hs p with
 | none=>rfl
 | some u=>rw [F.sub p u q] at hp;cases hp
def FR.mut {i:Nat}{d d':D}{a:Addr}{o:HO} (F:FR g E Es O Y Z H Hs) (hi:i∈O) (hd:Y[i]?=some (some d)) (ha:Z[i]?=some (some (.ref a))) (r:fQ g (upd H a o) Hs a d'):FR g E Es O (Y.set i (some d')) Z (upd H a o) Hs:=by
 obtain ⟨b,eb,b0,b1,ob⟩:=F.own i hi d hd;rw [ha] at eb;cases eb;refine ⟨⟨fun c u q=>?_,F.grow.old,fun c u q=>?_⟩,by rw [List.length_set];exact F.len,fun j e h hj=>?_,fun j hj e h=>?_,fun j hj k hk xB e f c h1 h2 h3=>?_,F.pin⟩
 .rw [ak (aq q b0)];exact F.grow.keep c u q
 .rw [ak (aq q b1)];exact F.grow.sub c u q
 .have di:j≠i:=fun z=>hj (z ▸ hi)
  rw [List.getElem?_set_ne (Ne.symm di)] at h;exact F.val j e h hj
 .by_cases di:j=i
  .subst di;have hl:j < Y.length:=by
    have:=(yi.mp h).1;simpa using this
   rw [List.getElem?_set_self hl] at h;cases h;exact ⟨a,ha,b0,b1,r⟩
  .rw [List.getElem?_set_ne (Ne.symm di)] at h;obtain ⟨c,ec,c0,c1,oc⟩:=F.own j hj e h;have D9:c≠a:=fun z=>by
    subst z;exact F.apart i hi j hj (Ne.symm di) d e c hd h ha ec
   exact ⟨c,ec,c0,c1,oc.mono (fun u q=>by rw [ak D9];exact q) fun _ _ q=>q⟩
 .have xC:∀ {k e},(Y.set i (some d'))[k]?=some (some e)->∃ e',Y[k]?=some (some e'):=fun {k e} h=>by
   by_cases oi:k=i
   .subst oi;exact ⟨d,hd⟩
   .rw [List.getElem?_set_ne (Ne.symm oi)] at h;exact ⟨e,h⟩
  obtain ⟨e',pE⟩:=xC h1;obtain ⟨f',xD⟩:=xC h2;exact F.apart j hj k hk xB e' f' c pE xD h3
theorem vA:∀ {a b:En}{i:Nat}{d:D},(aP a b)[i]?=some (some d)->b[i]?=some (some d)
 | [],b,i,d,h=>by
  simp only [aP,List.getElem?_map] at h;cases e:b[i]? <;> simp [e] at h
 | _::_,[],i,d,h=>by simp [aP] at h
 | x::as,y::bs,0,d,h=>by
  simp only [aP,List.getElem?_cons_zero] at h ⊢;split at h
  .exact h
  .cases h
 | x::as,y::bs,i+1,d,h=>by
  simp only [aP,List.getElem?_cons_succ] at h ⊢;exact vA h
theorem vg:∀ (a b:En),(aP a b).length=b.length
 | [],b=>by simp [aP]
 | _::_,[]=>rfl
 | _::as,_::bs=>by simp [aP,vg as bs]
def FR.less (F:FR g E Es O Y Z H Hs) (hl:ρ'.length=Y.length) (h:∀ (i:Nat) d,ρ'[i]?=some (some d)->Y[i]?=some (some d)):FR g E Es O ρ' Z H Hs :=
 ⟨F.grow,hl.trans F.len,fun i d q hi=>F.val i d (h i d q) hi,fun i hi d q=>F.own i hi d (h i d q),fun i hi j hj la d e a q1 q2=>F.apart i hi j hj la d e a (h i d q1) (h j e q2),F.pin⟩
def tE {H1:Hp} (hs:ar Hs H) (hw:gP Hs ay) (g2:aI H ay H1 bt):∃ dP,aI H Hs H1 dP/\(∀ t o,bt t=some o->uO o=false->dP t=some o)/\∀ t,H t=none->dP t=bt t:=by
 classical
 refine ⟨fun b=>if (H b).isSome then Hs b else bt b,⟨g2.keep,fun a o q=>?_,fun a o q=>?_⟩,fun t o q hm=>?_,fun t ht=>?_⟩
 .show (if (H a).isSome then Hs a else bt a)=_
  rw [q];rfl
 .by_cases e:(H a).isSome=true
  .have q':Hs a=some o:=by rw [<- q];exact (if_pos e).symm
   exact g2.keep a o (hs a o q')
  .have q':bt a=some o:=by rw [<- q];exact (if_neg e).symm
   exact g2.sub a o q'
 .show (if (H t).isSome then Hs t else bt t)=_
  by_cases e:(H t).isSome=true
  .rw [if_pos e];obtain ⟨u,hu⟩:=yo.mp e;have h1:ay t=some o:=by rw [<- g2.old t u hu];exact q
   rcases hw t o h1 with z | z
   .exact z
   .rw [hm] at z;cases z
  .rw [if_neg e];exact q
 .show (if (H t).isSome then Hs t else bt t)=_
  rw [ht];rfl
def Qh (h:∀ t o,bt t=some o->uO o=false->dP t=some o) (q:cb K bt a xs):cb K dP a xs:=by
 rcases q with (q | ⟨o,q⟩) | q
 .exact .inl (.inl (h _ _ q rfl))
 .exact .inl (.inr ⟨o,h _ _ q rfl⟩)
 .exact .inr q
mutual
theorem zx {bt dP:Hp} (h:∀ t o,bt t=some o->uO o=false->dP t=some o):∀ {d:D}{v:V},nt d=true->Rp g bt d v->Rp g dP d v
 | .ai,v,_,r=>by rw [Rp] at r ⊢;exact r
 | .bl _,v,_,r=>by rw [Rp] at r ⊢;exact r
 | .int _,v,_,r=>by rw [Rp] at r ⊢;exact r
 | .tup ds,v,l,r=>by
  rw [Rp] at r ⊢;obtain ⟨a,xs,e,s,rs⟩:=r;rw [nt] at l;exact ⟨a,xs,e,Qh h s,DN h l rs⟩
 | .lst _,v,l,r=>by rw [nt] at l;cases l
 | .bE _ _,v,l,r=>by rw [nt] at l;cases l
 | .bP _,v,l,r=>by rw [nt] at l;cases l
theorem DN {bt dP:Hp} (h:∀ t o,bt t=some o->uO o=false->dP t=some o):∀ {ds:List D}{vs:List V},LK ds=true->ax g bt ds vs->ax g dP ds vs
 | [],vs,_,r=>by rw [ax] at r ⊢;exact r
 | d::ds,vs,l,r=>by
  rw [ax] at r ⊢;rw [LK,Bool.and_eq_true] at l;obtain ⟨y,ys,e,r1,r2⟩:=r;exact ⟨y,ys,e,zx h l.1 r1,DN h l.2 r2⟩
end
end
def aj {α β:Type}{r:R α}{f:α->R β}{b:β} (h:(r >>= f)=.ok b):∃ a,r=.ok a/\f a=.ok b:=by
 cases r with
 | ok a=>exact ⟨a,rfl,h⟩
 | stuck=>rw [K9] at h;cases h
def NT {α:Type}{a b:α} (h:(R.ok a)=.ok b):a=b:=by cases h;rfl
def cG {α:Type}{c:Prop} [Decidable c] {a:R α}{b:α} (h:(if c then a else .stuck)=.ok b):c/\a=.ok b:=by
 by_cases hc:c
 .rw [if_pos hc] at h;exact ⟨hc,h⟩
 .rw [if_neg hc] at h;cases h
variable {X:Cx}{e:Expr}{t':TE}
def bN {t:TE} (h:PE X e t) (i:∀ Z H Q,t' Z H Q->t Z H Q):PE X e t':=fun ab s Z H Q I hq=>h ab s Z H Q I (i Z H Q hq)
def Bd {t t':TT} (h:PT X e t) (i:∀ Z H Q,t' Z H Q->t Z H Q):PT X e t':=fun ab s Z H Q I hq=>h ab s Z H Q I (i Z H Q hq)
def Qp {e:zl}{t t':TA} (h:PA X e t) (i:∀ Z H Q,t' Z H Q->t Z H Q):PA X e t':=fun pos ab s Z H Q I hq=>h pos ab s Z H Q I (i Z H Q hq)
variable {ds ks:List D}{z:D}
section
variable {X:Cx}{H Hs H1 ay:Hp}{Q:VK}{d:D}{v:V}
def aR {i:Int}:Rp g H (.int i) v↔v=.int i:=by rw [Rp]
def ni {i:Bool}:Rp g H (.bl i) v↔v=.bl i:=by rw [Rp]
def sG :Rp g H .ai v↔v=.ai:=by rw [Rp]
def cW :Rp g H (.tup ds) v↔∃ a xs,v=.ref a/\cb g.K H a xs/\ax g H ds xs:=by rw [Rp]
def cP :Rp g H (.lst ds) v↔∃ a xs,v=.ref a/\cm g.K H a xs/\ax g H ds xs:=by rw [Rp]
def sX {vs:List D}:Rp g H (.bE ks vs) v↔∃ a xs ys ep,v=.ref a/\H a=some (.ext (fR g a xs ys ep))/\ks=xs.map (·.1)/\ax g H ks (xs.map fun x=>V.ref x.2.1)/\ax g H vs ys:=by rw [Rp]
def vZ {ah:List (Int × Int)}:Rp g H (.bP ah) v↔∃ a,v=.ref a/\H a=some (n_ ah):=by rw [Rp]
def XD (X:Cx) (H Hs:Hp) (Q:VK) (d:D):Prop:=∀ v H' av,aI H Hs H' av->Rp (aE X) av d v->Q v H'
def XD.grow (h:XD X H Hs Q d) (w:aI H Hs H1 ay):XD X H1 ay Q d:=fun v H' av g r=>h v H' av (w.trans g) r
def XD.here (h:XD X H Hs Q d) (hs:ar Hs H) (r:Rp (aE X) Hs d v):Q v H:=h v H Hs (aI.refl hs) r
theorem XD.int {i:Int} (h:XD X H Hs Q (.int i)) (hs:ar Hs H):Q (.int i) H:=h.here hs (aR.mpr rfl)
theorem XD.bl {i:Bool} (h:XD X H Hs Q (.bl i)) (hs:ar Hs H):Q (.bl i) H:=h.here hs (ni.mpr rfl)
theorem XD.ai (h:XD X H Hs Q .ai) (hs:ar Hs H):Q .ai H:=h.here hs (sG.mpr rfl)
def oO {p:Addr} (hs:ar Hs H) (hp:H p=none):ar Hs (upd Hs p o):=(aI.new (o:=o) hs hp).same hs
def XD.k4 (h:XD X H Hs Q (.lst ds)) (hs:ar Hs H) (r:ax (aE X) Hs ds xs):∀ p,H p=none->Q (.ref p) (upd H p (.lst xs)):=fun p hp =>
 h _ _ _ (aI.new (o:=.lst xs) hs hp) (cP.mpr ⟨p,xs,rfl,cm.of aC,r.mono (oO hs hp)⟩)
def XD.uA (h:XD X H Hs Q (.tup ds)) (hs:ar Hs H) (r:ax (aE X) Hs ds xs):∀ p,H p=none->Q (.ref p) (upd H p (.tup xs)):=fun p hp =>
 h _ _ _ (aI.new (o:=.tup xs) hs hp) (cW.mpr ⟨p,xs,rfl,cb.of aC,r.mono (oO hs hp)⟩)
def D_ (X:Cx) (r:R2) (op:D->D->R D):Prop:=∀ x y d e z H Hs Q,ar Hs H->Rp (aE X) Hs d x->Rp (aE X) Hs e y->op d e=.ok z->XD X H Hs Q z->r x y H Q
def W2:eR X (binaryOp .Add) (Vc X.K):=by
 intro ab s Z H x y v u Q I rx ry h;obtain ⟨l,b,xs,zs,rfl,rfl,hH,hB,hz,q⟩:=h;cases rx;cases ry;obtain ⟨its,r,pl,_⟩:=I.list hH;obtain ⟨cX,r2,V_,_⟩:=I.list hB;obtain ⟨⟨cls,dd,data,sl⟩,ho,hc,n,hd⟩:=pl.isList;obtain ⟨⟨AH,o6,data2,sN⟩,kR,fq,n2,hd2⟩:=V_.isList;simp only at hc hd fq hd2;subst hc hd fq hd2;have hl:=r.length;have k_:=r2.length;have e:its.toArray++cX.toArray=(its++cX).toArray:=by simp
 refine concat_meets ⟨_,ho,rfl⟩ ⟨_,kR,rfl⟩ noFill_list_add seq_list_add PySem.F.slot_list_add PySem.F.entry_list_add (PySem.F.args_list_add_2 _ _) (list_addW l b its.toArray cX.toArray n n2 dd o6 sl sN (by simp only [List.size_toArray];omega)) ⟨ho,kR,?_⟩;rw [e];exact ⟨.ref _,_,I.JJ (t':=s.toks) (r.append r2) (by rw [List.length_append];omega),rfl,q _ I.fresh⟩
def Lw (X:Cx):R2:=fun x y H Q=>nM (fun i j=>.int (i+j)) x y H Q\/(Qd X.K x y H Q\/(Vf X.K x y H Q\/Vc X.K x y H Q))
def Wk:eR X (binaryOp .Add) (Lw X):=Y8.or (Um.or (Vo.or W2))
def V6:D_ X (Lw X) mO:=by
 intro x y d e z H Hs Q hs rx ry h k;have bX:=iU;cases d <;> cases e <;> simp only [mO] at h <;> try (cases h;done)
 .cases h;exact .inl ⟨_,_,aR.mp rx,aR.mp ry,k.int hs⟩
 .obtain ⟨hl,h⟩:=cG h;cases h;obtain ⟨a,xs,rfl,s1,r1⟩:=cW.mp rx;obtain ⟨b,ys,rfl,s2,r2⟩:=cW.mp ry;have l1:=r1.length;have l2:=r2.length;by_cases hx:xs=[]
  .subst hx;refine .inr (.inl ⟨a,b,ys,rfl,rfl,aO hs s1,aO hs s2,k.here hs ?_⟩);rename_i as bs;have:as=[]:=by cases as with | nil=>rfl | cons _ _=>simp at l1
   subst this;exact ry
  .refine .inr (.inr (.inl ⟨a,b,xs,ys,rfl,rfl,aO hs s1,aO hs s2,hx,by omega,fun hy=>?_,fun _=>k.uA hs (r1.append r2)⟩));subst hy;rename_i as bs;have:bs=[]:=by cases bs with | nil=>rfl | cons _ _=>simp at l2
   subst this;rw [List.append_nil] at k;exact k.here hs rx
 .obtain ⟨hl,h⟩:=cG h;cases h;obtain ⟨a,xs,rfl,s1,r1⟩:=cP.mp rx;obtain ⟨b,ys,rfl,s2,r2⟩:=cP.mp ry;have l1:=r1.length;have l2:=r2.length;exact .inr (.inr (.inr ⟨a,b,xs,ys,rfl,rfl,bA hs s1,bA hs s2,by omega,k.k4 hs (r1.append r2)⟩))
noncomputable def SM:BO->Operator
 | .add=>.Add | .sub=>.Sub | .mul=>.Mult | .mod=>.Mod
def OS (X:Cx):BO->R2
 | .add=>Lw X
 | .sub=>nM fun i j=>.int (i - j)
 | .mul=>rI Lf fun i j=>.int (i * j)
 | .mod=>rI (fun _ j=>0 < j) fun i j=>.int (i % j)
def X6 (o:BO):eR X (binaryOp (SM o)) (OS X o):=by
 cases o
 .exact Wk
 .exact QD
 .exact Yt
 .exact Yh
def Br {i:Int} (h:jJ i=true):-(2 ^ 64) < i/\i < 2 ^ 64:=by
 cases i with
 | ofNat n =>
  have:=Nat.le_of_ble_eq_true h;rw [Int.ofNat_eq_natCast];exact ⟨by omega,by omega⟩
 | negSucc n =>
  have:=Nat.le_of_ble_eq_true h;exact ⟨by omega,by omega⟩
def Vl (o:BO):D_ X (OS X o) (je o):=by
 cases o
 .intro x y d e z H Hs Q hs rx ry h k;exact V6 x y d e z H Hs Q hs rx ry (by simpa only [je] using h) k
 all_goals
  intro x y d e z H Hs Q hs rx ry h k;cases d <;> cases e <;> simp only [je] at h <;> try (cases h;done)
 .cases h;exact ⟨_,_,aR.mp rx,aR.mp ry,k.int hs⟩
 .obtain ⟨c,h⟩:=cG h;cases h;refine ⟨_,_,aR.mp rx,aR.mp ry,?_,k.int hs⟩;simp only [Bool.or_eq_true] at c;rcases c with c | c
  .exact .inl (Br c)
  .exact .inr (Br c)
 .obtain ⟨c,h⟩:=cG h;cases h;exact ⟨_,_,aR.mp rx,aR.mp ry,c,k.int hs⟩
noncomputable def pP:CO->CmpOp
 | .eq=>.Eq | .ne=>.NotEq | .lt=>.Lt | .le=>.LtE | .gt=>.Gt | .i8=>.NotIn | .AQ=>.In | .pw=>.Is | .iS=>.IsNot
def K4 (X:Cx):CO->R2
 | .eq=>Ze X
 | .ne=>Ys X
 | .lt=>nM fun i j=>.bl (decide (i < j))
 | .le=>nM fun i j=>.bl (decide (i<=j))
 | .gt=>nM fun i j=>.bl (decide (j < i))
 | .i8=>GC X true
 | .AQ=>GC X false
 | .pw=>fun x y H Q=>y=.ai/\Q (.bl (decide (x=.ai))) H
 | .iS=>fun x y H Q=>y=.ai/\Q (.bl (!decide (x=.ai))) H
def rW (hu:X.A.units+100 < cLine) (o:CO):eR X (compareOp (pP o)) (K4 X o):=by
 cases o
 .exact Xy hu
 .exact Xz hu
 .exact Sl
 .exact Sm
 .exact Sn
 .exact Nz hu
 .exact YJ hu
 .exact So
 .exact Wy
def Kc {x:V} (r:Rp g Hs d x):decide (x=.ai)=decide (d=.ai):=by
 rw [Bool.eq_iff_iff,decide_eq_true_eq,decide_eq_true_eq];cases d <;> rw [Rp] at r
 .exact ⟨fun _=>rfl,fun _=>r⟩
 all_goals (constructor <;> intro z)
 all_goals first | (cases z;done) | (subst r;cases z;done) | (obtain ⟨_,_,rfl,_⟩:=r;cases z;done) | (obtain ⟨_,_,_,_,rfl,_⟩:=r;cases z;done) | (obtain ⟨_,rfl,_⟩:=r;cases z;done)
def FN {n b:Bool}{x y:V}{e:D} (hs:ar Hs H) (rx:Rp (aE X) Hs d x) (ry:Rp (aE X) Hs e y) (h:inD d e=.ok b) (k:Q (.bl (if n then !b else b)) H):GC X n x y H Q:=by
 cases e <;> simp only [inD] at h <;> try (cases h;done)
 .obtain ⟨c,h⟩:=cG h;cases h;obtain ⟨p,xs,rfl,s1,r1⟩:=cP.mp ry;simp only [Bool.and_eq_true,decide_eq_true_eq] at c;exact ⟨d,_,p,xs,rx.mono hs,rfl,.inl (bA hs s1),r1.mono hs,c.1,c.2,k⟩
def w6 (o:CO):D_ X (K4 X o) (fun d e=>do let r <- bw o d e;.ok (.bl r)):=by
 intro x y d e z H Hs Q hs rx ry h0 k;obtain ⟨b,h,hz⟩:=aj h0;clear h0;cases hz;cases o
 .simp only [bw] at h;obtain ⟨c,h⟩:=cG h;cases h;exact ⟨d,e,rx.mono hs,ry.mono hs,c,k.bl hs⟩
 .simp only [bw] at h;obtain ⟨c,h⟩:=cG h;cases h;exact ⟨d,e,rx.mono hs,ry.mono hs,c,k.bl hs⟩
 .cases d <;> cases e <;> simp only [bw] at h <;> try (cases h;done)
  cases h;exact ⟨_,_,aR.mp rx,aR.mp ry,k.bl hs⟩
 .cases d <;> cases e <;> simp only [bw] at h <;> try (cases h;done)
  cases h;exact ⟨_,_,aR.mp rx,aR.mp ry,k.bl hs⟩
 .cases d <;> cases e <;> simp only [bw] at h <;> try (cases h;done)
  cases h;exact ⟨_,_,aR.mp rx,aR.mp ry,k.bl hs⟩
 .simp only [bw] at h;obtain ⟨c,h1,h2⟩:=aj h;clear h;cases h2;exact FN (n:=true) hs rx ry h1 (k.bl hs)
 .exact FN (n:=false) hs rx ry h (k.bl hs)
 .cases e <;> try (cases h;done)
  cases h;refine ⟨sG.mp ry,?_⟩;rw [Kc rx];exact k.bl hs
 .cases e <;> try (cases h;done)
  cases h;refine ⟨sG.mp ry,?_⟩;rw [Kc rx];exact k.bl hs
noncomputable def oj (p:Int × Int):Key × V:=(.inl p.1,.int p.2)
theorem HX (k:Int):∀ ah:List (Int × Int),iR (ah.map oj) (.inl k:Key)=(bM ah k).map V.int
 | []=>rfl
 | p::ah=>by
  rw [List.map_cons];by_cases e:p.1=k
  .rw [uc (show (oj p).1=.inl k by rw [<- e];rfl)];simp [bM,e,oj]
  .have e2:(oj p).1≠(.inl k:Key):=fun z=>e (by injection z)
   have h1:iR (oj p::ah.map oj) (.inl k:Key)=iR (ah.map oj) (.inl k:Key):=by simp [iR,List.find?_cons,e2]
   rw [h1,HX k ah];simp [bM,List.find?_cons,e]
def ZM (k v:Int) (ah:List (Int × Int)):putK (ah.map oj) (.inl k:Key) (V.int v)=(mY ah k v).map oj:=by
 have e:∀ p:Int × Int,decide ((oj p).1=(.inl k:Key))=decide (p.1=k):=fun p=>by
  by_cases h:p.1=k
  .rw [decide_eq_true h,decide_eq_true (by rw [<- h];rfl)]
  .rw [decide_eq_false h,decide_eq_false fun z=>h (by injection z)]
 unfold putK mY;rw [List.any_map];have e2:((fun kv:Key × V=>decide (kv.1=(.inl k:Key))) ∘ oj)=fun p=>decide (p.1=k):=funext e
 rw [e2];split
 .rw [List.map_map,List.map_map];refine List.map_congr_left fun p _=>?_
  have:=e p;by_cases h:p.1=k
  .rw [decide_eq_true h,decide_eq_true_eq] at this;simp [this,h,oj]
  .rw [decide_eq_false h,decide_eq_false_iff_not] at this;simp [this,h]
 .rw [List.map_append];rfl
def T5:R2:=fun x y H Q=>∃ a ah k v,x=.ref a/\y=.int k/\H a=some (n_ ah)/\bM ah k=some v/\Q (.int v) H
def Qy:sP X T5:=by
 intro value slice ab s Z H x y v u Q I rx ry h hs;obtain ⟨a,ah,k,z,rfl,rfl,ha,hv,q⟩:=h;cases rx;obtain ⟨_,hd,vs,rel,dd⟩:=Ld I.az ha;obtain ⟨w',hw,mT⟩:=mj.some_of (v:=V.int z) (o:=valueAt vs (.inl k:Key)) (by have:=rel.val (.inl k:Key);rw [show iR (ah.map fun p=>(.inl p.1,V.int p.2)) (.inl k:Key)=some (V.int z) from (HX k ah).trans (by rw [hv];rfl)] at this;exact this);exact subscriptTail_builtinR (x:=w') (Il I (yQ.kk ha (k:=.inl k))) PySem.F.slot_dict_getitem.lookup (wpAny_getItem_of (Q:=fun r s'=>r=w'/\EP X ab Z Q r s') (Ey (k:=(.inl k:Key)) ry) dd.mapOf hw ⟨rfl,_,H,I.tok _,mT,q⟩) hs
def Yg (X:Cx):R2:=fun x y H Q=>((Yz X.K x y H Q\/Yr X.K x y H Q)\/Vd X x y H Q)\/T5 x y H Q
def V' (hu:X.A.units+100 < cLine):sP X (Yg X):=((Xg.or Zz).or (WQ hu)).or Qy
theorem A9 {g:G}{k:D}:∀ {xs:List (D × Addr × Value)}{vs:List D}{ys:List V},ax g H vs ys->(∃ z v,dD (xs.map (·.1)) vs k=some z/\ia xs ys k=some v/\Rp g H z v)\/(dD (xs.map (·.1)) vs k=none/\ia xs ys k=none)
 | [],_,_,_=>.inr ⟨rfl,rfl⟩
 | x::xs,[],ys,r=>by
  obtain rfl:=r.nil_inv;exact .inr ⟨rfl,rfl⟩
 | x::xs,z::vs,ys,r=>by
  obtain ⟨v,AO,rfl,r0,rs⟩:=r.cons_inv;by_cases e:x.1=k
  .exact .inl ⟨z,v,if_pos e,if_pos e,r0⟩
  .have e1:dD ((x::xs).map (·.1)) (z::vs) k=dD (xs.map (·.1)) vs k:=if_neg e;have e2:ia (x::xs) (v::AO) k=ia xs AO k:=if_neg e;rw [e1,e2];exact A9 rs
def Np {i:Int} (r:ax g Hs ds xs) (h:(match pd ds.length i with | some k=>(match ds[k]? with | some d=>R.ok d | none=>.stuck) | none=>.stuck)=.ok z):∃ v,B5 xs i=some v/\Rp g Hs z v:=by
 cases e:pd ds.length i with
 | none=>rw [e] at h;cases h
 | some k =>
  rw [e] at h;cases e2:ds[k]? with
  | none=>simp only [e2] at h;cases h
  | some d =>
   simp only [e2] at h;cases h;obtain ⟨v,ev,rv⟩:=r.getD e2;refine ⟨v,?_,rv⟩;unfold B5;rw [<- r.length,e];exact ev
def Zb:D_ X (Yg X) f6:=by
 intro x y d e z H Hs Q hs rx ry h k;cases d <;> try (cases h;done)
 .cases e <;> try (cases h;done)
  obtain ⟨a,xs,rfl,s1,r1⟩:=cW.mp rx;obtain ⟨v,e1,r2⟩:=Np r1 h;exact .inl (.inl (.inr ⟨a,xs,_,v,rfl,aR.mp ry,aO hs s1,e1,k.here hs r2⟩))
 .cases e <;> try (cases h;done)
  obtain ⟨a,xs,rfl,s1,r1⟩:=cP.mp rx;obtain ⟨v,e1,r2⟩:=Np r1 h;exact .inl (.inl (.inl ⟨a,xs,_,v,rfl,aR.mp ry,bA hs s1,e1,k.here hs r2⟩))
 .rename_i ks vs;obtain ⟨hk,h⟩:=cG h;obtain ⟨a,xs,ys,ep,rfl,ha,e1,r1,r2⟩:=sX.mp rx;subst e1;rcases A9 (k:=e) (xs:=xs) r2 with ⟨z',v,g1,g2,g3⟩ | ⟨g1,g2⟩
  .rw [g1] at h;cases h;exact .inl (.inr ⟨e,a,_,xs,ys,v,ry.mono hs,hk,rfl,⟨⟨ep,hs _ _ ha⟩,rfl,r1.mono hs⟩,g2,k.here hs g3⟩)
  .rw [g1] at h;cases h
 .cases e <;> try (cases h;done)
  rename_i ah kk;obtain ⟨a,rfl,ha⟩:=vZ.mp rx;replace h:(match bM ah kk with | some v=>R.ok (D.int v) | none=>.stuck)=.ok z:=h;split at h
  .rename_i v ev;cases h;exact .inr ⟨a,ah,kk,v,rfl,aR.mp ry,hs _ _ ha,ev,k.int hs⟩
  .cases h
def YZ (X:Cx):V->Option Int->Option Int->Hp->VK->Prop:=fun x lo hi H Q=>ZC X.K x lo hi H Q\/(Zg X.K x lo hi H Q\/Zo X.K x lo hi H Q)
def We:tN X (YZ X):=Vt.or (Y9.or Rz)
def TQ {x:V}{lo hi:Option Int} (hs:ar Hs H) (rx:Rp (aE X) Hs d x) (h:xy d lo hi=.ok z) (k:XD X H Hs Q z):YZ X x lo hi H Q:=by
 cases d <;> simp only [xy] at h <;> try (cases h;done)
 .split at h
  .rename_i hn;cases h;obtain ⟨a,xs,rfl,s1,r1⟩:=cW.mp rx;have l1:=r1.length;exact .inr (.inr ⟨a,xs,rfl,aO hs s1,by rw [<- l1];exact hn,k.here hs (cW.mpr ⟨a,xs,rfl,s1,r1⟩)⟩)
  .rename_i hn;cases h;obtain ⟨a,xs,rfl,s1,r1⟩:=cW.mp rx;have l1:=r1.length;refine .inr (.inl ⟨a,xs,rfl,aO hs s1,by rw [<- l1];exact hn,k.uA hs ?_⟩);unfold cutD vG;rw [<- l1];exact (r1.drop _).take _
 .cases h;obtain ⟨a,xs,rfl,s1,r1⟩:=cP.mp rx;have l1:=r1.length;refine .inl ⟨a,xs,rfl,bA hs s1,k.k4 hs ?_⟩;unfold cutD vG;rw [<- l1];exact (r1.drop _).take _
end
noncomputable def Om:M->Bool
 | .var _=>true | _=>false
noncomputable def WA:M->Nat
 | .var i=>i | _=>0
structure Tx where
 F:zk
 gl:List (Str × D)
noncomputable def ju (sc:Scope) (x:Str):Bool:=match sc.names.lookup x with
 | some .local=>true | some .cell=>true | some .free=>true | _=>false
noncomputable def j7 (sc:Scope) (x:Str):Bool:=match sc.names.lookup x with
 | some .local=>true | some .cell=>true | _=>false
noncomputable def iK (sc:Scope) (x:Str):Bool:=match sc.names.lookup x with
 | some .globalImplicit=>true | _=>false
noncomputable def bR (x:Str):Bool:=!(x == ("__debug__":Str)) && !(x == ("__classdict__":Str)) && !(x == ("__name__":Str))
noncomputable def LL:BO->Operator->Bool
 | .add,.Add=>true | .sub,.Sub=>true | .mul,.Mult=>true | .mod,.Mod=>true | _,_=>false
def ZW {o:BO}{p:Operator} (h:LL o p=true):p=SM o:=by cases o <;> cases p <;> first | rfl | cases h
noncomputable def A_:CO->CmpOp->Bool
 | .eq,.Eq=>true | .ne,.NotEq=>true | .lt,.Lt=>true | .le,.LtE=>true | .gt,.Gt=>true | .i8,.NotIn=>true | .AQ,.In=>true | .pw,.Is=>true | .iS,.IsNot=>true | _,_=>false
def Ht {o:CO}{p:CmpOp} (h:A_ o p=true):p=pP o:=by cases o <;> cases p <;> first | rfl | cases h
noncomputable def Q9:D->Const->Bool
 | .int i,.int j=>decide (i=j)
 | .bl i,.bool j=>decide (i=j)
 | .ai,.none=>true
 | _,_=>false
noncomputable def Mw:BI->Str
 | .len=>"len" | .min2=>"min" | .all=>"all" | .any=>"any" | .sorted=>"sorted" | .tuple=>"tuple" | .bg=>"list" | .max2=>"max"
noncomputable def Hk:Option D->D->Bool
 | some (.int i),.int j=>decide (i=j)
 | _,_=>false
def Z1 {o:Option D} (h:Hk o d=true):o=some d:=by
 unfold Hk at h;split at h
 .rw [of_decide_eq_true h]
 .cases h
noncomputable def Ty.nm:Ty->Str
 | .int=>"int" | .bool=>"bool" | .tuple=>"tuple" | .list=>"list"
noncomputable def n8:zk:=["len","min","max","all","any","sorted","list","tuple","isinstance","int","bool","str","range","enumerate","zip","reversed"]
noncomputable def Hm (around scope:Scope):Bool :=
 decide (scope.kind=.function) && decide ((scope.names.map (·.1)).Nodup) && scope.names.all fun p=>decide (p.2≠.free) || decide (around.names.lookup p.1=some .cell) || decide (around.names.lookup p.1=some .free)
noncomputable def bo (k:Nat) (e:Expr):Bool:=Nat.beq e.ctorIdx k
noncomputable def k5 (k:Nat) (s:Stmt):Bool:=Nat.beq s.ctorIdx k
def fM {k:Nat}{b:Bool} (h:(bo k e && b)=true):e.ctorIdx=k:=Nat.eq_of_beq_eq_true (Bool.and_eq_true_iff.mp h).1
def sE {k:Nat}{s:Stmt}{b:Bool} (h:(k5 k s && b)=true):s.ctorIdx=k:=Nat.eq_of_beq_eq_true (Bool.and_eq_true_iff.mp h).1
section
variable {e:Expr}{s:Stmt}{b:Bool}
theorem fu (h:(bo 23 e && b)=true):∃ x p,e=.Name x p:=Expr.Name.elim (motive_1:=fun e=>∃ x p,e=.Name x p) e (fM h) fun _ _=>⟨_,_,rfl⟩
def CJ (h:(bo 25 e && b)=true):∃ x k p,e=.Tuple x k p:=Expr.Tuple.elim (motive_1:=fun e=>∃ x k p,e=.Tuple x k p) e (fM h) fun _ _ _=>⟨_,_,_,rfl⟩
def Aa (h:(bo 24 e && b)=true):∃ x p,e=.List x p:=Expr.List.elim (motive_1:=fun e=>∃ x p,e=.List x p) e (fM h) fun _ _=>⟨_,_,rfl⟩
def uD (h:(bo 6 e && b)=true):∃ x y p,e=.Dict x y p:=Expr.Dict.elim (motive_1:=fun e=>∃ x y p,e=.Dict x y p) e (fM h) fun _ _ _=>⟨_,_,_,rfl⟩
def Nq (h:(bo 2 e && b)=true):∃ x o y p,e=.BinOp x o y p:=Expr.BinOp.elim (motive_1:=fun e=>∃ x o y p,e=.BinOp x o y p) e (fM h) fun _ _ _ _=>⟨_,_,_,_,rfl⟩
def yj (h:(bo 15 e && b)=true):∃ x o y p,e=.Compare x o y p:=Expr.Compare.elim (motive_1:=fun e=>∃ x o y p,e=.Compare x o y p) e (fM h) fun _ _ _ _=>⟨_,_,_,_,rfl⟩
def Am (h:(bo 0 e && b)=true):∃ o y p,e=.BoolOp o y p:=Expr.BoolOp.elim (motive_1:=fun e=>∃ o y p,e=.BoolOp o y p) e (fM h) fun _ _ _=>⟨_,_,_,rfl⟩
def yc (h:(bo 3 e && b)=true):∃ o y p,e=.UnaryOp o y p:=Expr.UnaryOp.elim (motive_1:=fun e=>∃ o y p,e=.UnaryOp o y p) e (fM h) fun _ _ _=>⟨_,_,_,rfl⟩
def Pq (h:(bo 5 e && b)=true):∃ x y z p,e=.IfExp x y z p:=Expr.IfExp.elim (motive_1:=fun e=>∃ x y z p,e=.IfExp x y z p) e (fM h) fun _ _ _ _=>⟨_,_,_,_,rfl⟩
def mW (h:(bo 21 e && b)=true):∃ x y p,e=.Subscript x y p:=Expr.Subscript.elim (motive_1:=fun e=>∃ x y p,e=.Subscript x y p) e (fM h) fun _ _ _=>⟨_,_,_,rfl⟩
def PL (h:(bo 26 e && b)=true):∃ x y z p,e=.Slice x y z p:=Expr.Slice.elim (motive_1:=fun e=>∃ x y z p,e=.Slice x y z p) e (fM h) fun _ _ _ _=>⟨_,_,_,_,rfl⟩
def oE (h:(bo 8 e && b)=true):∃ x y z p,e=.ListComp x y z p:=Expr.ListComp.elim (motive_1:=fun e=>∃ x y z p,e=.ListComp x y z p) e (fM h) fun _ _ _ _=>⟨_,_,_,_,rfl⟩
def lC (h:(bo 16 e && b)=true):∃ x y z p,e=.Call x y z p:=Expr.Call.elim (motive_1:=fun e=>∃ x y z p,e=.Call x y z p) e (fM h) fun _ _ _ _=>⟨_,_,_,_,rfl⟩
def gW (h:(bo 20 e && b)=true):∃ x y p,e=.Attribute x y p:=Expr.Attribute.elim (motive_1:=fun e=>∃ x y p,e=.Attribute x y p) e (fM h) fun _ _ _=>⟨_,_,_,rfl⟩
def Ay (h:(k5 5 s && b)=true):∃ x y p,s=.Assign x y p:=Stmt.Assign.elim s (sE h) fun _ _ _=>⟨_,_,_,rfl⟩
def zq (h:(k5 24 s && b)=true):∃ x p,s=.Expr x p:=Stmt.Expr.elim s (sE h) fun _ _=>⟨_,_,rfl⟩
def Lr (h:(k5 3 s && b)=true):∃ x p,s=.Return x p:=Stmt.Return.elim s (sE h) fun _ _=>⟨_,_,rfl⟩
def ZD (h:(k5 12 s && b)=true):∃ x y z p,s=.If x y z p:=Stmt.If.elim s (sE h) fun _ _ _ _=>⟨_,_,_,_,rfl⟩
def Kq (h:(k5 9 s && b)=true):∃ x y z w p,s=.For x y z w p:=Stmt.For.elim s (sE h) fun _ _ _ _ _=>⟨_,_,_,_,_,rfl⟩
def Nf (h:(k5 11 s && b)=true):∃ x y z p,s=.While x y z p:=Stmt.While.elim s (sE h) fun _ _ _ _=>⟨_,_,_,_,rfl⟩
end
def m9 (e:Expr) (f:Str->zl->Bool):Bool:=bo 16 e && match e with
 | .Call g es ks _=>bo 23 g && (match g,ks with | .Name x _,[]=>f x es | _,_=>false)
 | _=>false
def fj {f:Str->zl->Bool} (h:m9 e f=true):∃ x p es q,e=.Call (.Name x p) es [] q/\f x es=true:=by
 obtain ⟨g,es,ks,q,rfl⟩:=lC h;have h2:(bo 23 g && _)=true:=h;obtain ⟨x,p,rfl⟩:=fu h2;cases ks with
 | nil=>exact ⟨x,p,es,q,rfl,h⟩
 | cons _ _=>cases h
def gf (N:zk) (sc:Scope):Tg->Expr->Bool
 | .one i,e=>bo 23 e && match e with | .Name x _=>j7 sc x && decide (N[i]?=some x) | _=>false
 | .two i j,e=>bo 25 e && match e with
  | .Tuple es _ _=>(match es with
   | [a,b]=>bo 23 a && (bo 23 b && match a,b with | .Name x _,.Name y _=>j7 sc x && j7 sc y && decide (N[i]?=some x) && decide (N[j]?=some y) && decide (i≠j) | _,_=>false)
   | _=>false)
  | _=>false
variable {N:zk}{sc:Scope}
def rY (h:gf N sc (.one i) e=true):∃ x p,e=.Name x p/\j7 sc x=true/\N[i]?=some x:=by
 obtain ⟨x,p,rfl⟩:=fu h;have h2:(j7 sc x && decide (N[i]?=some x))=true:=h;simp only [Bool.and_eq_true,decide_eq_true_eq] at h2;exact ⟨x,p,rfl,h2⟩
variable {j:Nat}
def sI (h:gf N sc (.two i j) e=true):∃ x p y q k r,e=.Tuple [.Name x p,.Name y q] k r/\((((j7 sc x=true/\j7 sc y=true)/\N[i]?=some x)/\N[j]?=some y)/\i≠j):=by
 obtain ⟨es,k,r,rfl⟩:=CJ h;rcases es with _ | ⟨a,_ | ⟨b,_ | ⟨c,es⟩⟩⟩ <;> try (cases h;done)
 obtain ⟨x,p,rfl⟩:=fu (show (bo 23 a && _)=true from h);obtain ⟨y,q,rfl⟩:=fu (show (bo 23 b && _)=true from h);have h2:(j7 sc x && j7 sc y && decide (N[i]?=some x) && decide (N[j]?=some y) && decide (i≠j))=true:=h;simp only [Bool.and_eq_true,decide_eq_true_eq] at h2;exact ⟨x,p,y,q,k,r,rfl,h2⟩
noncomputable def GQ:Expr->Bool
 | .Tuple ..=>true | _=>false
noncomputable def kI:Expr->Bool
 | .Slice ..=>false | _=>true
noncomputable def noStar:Expr->Bool
 | .Starred ..=>false | _=>true
noncomputable def eG:Expr->Bool
 | .Set ..=>false | _=>true
noncomputable def Le:Expr->zl
 | .Call _ es _ _=>es
 | _=>[]
def iT:IK->Expr->zl
 | .seq,e=>[e]
 | .jS,e=>Le e
 | .enum,e=>Le e
 | .zip,e=>Le e
def gR (sc:Scope):IK->Expr->Expr->Bool
 | .seq,_,e=>eG e
 | .jS,_,e=>m9 e fun f es=>decide (f="range") && iK sc f && (decide (es.length=1) || decide (es.length=2)) && es.all noStar
 | .enum,tg,e=>m9 e fun f es=>decide (f="enumerate") && iK sc f && decide (es.length=1) && es.all noStar && GQ tg
 | .zip,tg,e=>m9 e fun f es=>decide (f="zip") && iK sc f && decide (es.length=2) && es.all noStar && GQ tg
def Us (nm:Str) (e:Expr) (f:Str->Expr->Expr->Bool):Bool:=bo 16 e && match e with
 | .Call g es ks cp=>bo 20 g && (match g with
  | .Attribute o m ap=>bo 23 o && (match o,es,ks with | .Name x _,[y,z],[]=>decide (m=nm) && (ap.endLine == cp.line) && f x y z | _,_,_=>false)
  | _=>false)
 | _=>false
def Xq {nm:Str}{f:Str->Expr->Expr->Bool} (h:Us nm e f=true):∃ x p ap y z cp,e=.Call (.Attribute (.Name x p) nm ap) [y,z] [] cp/\(ap.endLine == cp.line)=true/\f x y z=true:=by
 obtain ⟨g,es,ks,cp,rfl⟩:=lC h;obtain ⟨o,m,ap,rfl⟩:=gW (show (bo 20 g && _)=true from h);obtain ⟨x,p,rfl⟩:=fu (show (bo 23 o && _)=true from h);rcases es with _ | ⟨y,_ | ⟨z,_ | ⟨w,es⟩⟩⟩ <;> try (cases h;done)
 rcases ks with _ | ⟨k,ks⟩ <;> try (cases h;done)
 have h2:(decide (m=nm) && (ap.endLine == cp.line) && f x y z)=true:=h;simp only [Bool.and_eq_true,decide_eq_true_eq] at h2;obtain ⟨⟨rfl,h3⟩,h4⟩:=h2;exact ⟨x,p,ap,y,z,cp,rfl,h3,h4⟩
def Mj (e:Expr) (f:Str->Str->Expr->Bool->Bool):Bool:=bo 16 e && match e with
 | .Call g es ks cp=>bo 20 g && (match g with
  | .Attribute o m ap=>bo 23 o && (match o,es,ks with | .Name x _,[v],[]=>f x m v (ap.endLine == cp.line) | _,_,_=>false)
  | _=>false)
 | _=>false
def Rh {f:Str->Str->Expr->Bool->Bool} (h:Mj e f=true):∃ x p m ap v cp,e=.Call (.Attribute (.Name x p) m ap) [v] [] cp/\f x m v (ap.endLine == cp.line)=true:=by
 obtain ⟨g,es,ks,cp,rfl⟩:=lC h;obtain ⟨o,m,ap,rfl⟩:=gW (show (bo 20 g && _)=true from h);obtain ⟨x,p,rfl⟩:=fu (show (bo 23 o && _)=true from h);rcases es with _ | ⟨v,_ | ⟨v2,es⟩⟩ <;> try (cases h;done)
 rcases ks with _ | ⟨k,ks⟩ <;> try (cases h;done)
 exact ⟨x,p,m,ap,v,cp,rfl,h⟩
def YL (e:Expr) (f:Str->Bool):Bool:=bo 16 e && match e with
 | .Call g es ks cp=>bo 20 g && (match g with
  | .Attribute o m ap=>bo 23 o && (match o,es,ks with | .Name x _,[],[]=>decide (m="values") && (ap.endLine == cp.line) && f x | _,_,_=>false)
  | _=>false)
 | _=>false
def WK {f:Str -> Bool} (h:YL e f=true):∃ x p ap cp,e=.Call (.Attribute (.Name x p) "values" ap) [] [] cp /\ (ap.endLine == cp.line)=true /\ f x=true:=by
 obtain ⟨g,es,ks,cp,rfl⟩:=lC h;obtain ⟨o,m,ap,rfl⟩:=gW (show (bo 20 g && _)=true from h);obtain ⟨x,p,rfl⟩:=fu (show (bo 23 o && _)=true from h);rcases es with _ | ⟨y,es⟩ <;> try (cases h;done)
 rcases ks with _ | ⟨k,ks⟩ <;> try (cases h;done)
 have h2:(decide (m="values") && (ap.endLine == cp.line) && f x)=true:=h
 simp only [Bool.and_eq_true,decide_eq_true_eq] at h2;obtain ⟨⟨rfl,h3⟩,h4⟩:=h2;exact ⟨x,p,ap,cp,rfl,h3,h4⟩
def μ (e:Expr) (f:Expr->Bool):Bool:=bo 21 e && match e with
 | .Subscript x s _=>bo 26 s && (match s with
  | .Slice none none (some u) _=>bo 3 u && (match u with | .UnaryOp .USub v _=>bo 19 v && (match v with | .Constant (.int i) _ _=>decide (i=1) && f x | _=>false) | _=>false)
  | _=>false)
 | _=>false
mutual
noncomputable def a8 (T:Tx) (N:zk):M->Scope->Expr->Bool
 | .var i,sc,e=>bo 23 e && match e with | .Name x _=>bR x && ju sc x && decide (N[i]?=some x) | _=>false
 | .con d,sc,e=>match e with
  | .Constant c _ _=>Q9 d c
  | .Name x _=>bR x && iK sc x && Hk (T.gl.lookup x) d
  | _=>false
 | .tup ms,sc,e=>bo 25 e && match e with | .Tuple es _ _=>cu T N ms sc es && es.all noStar | _=>false
 | .lst ms,sc,e=>bo 24 e && match e with | .List es _=>cu T N ms sc es && es.all noStar | _=>false
 | .ft,sc,e=>bo 6 e && match e with | .Dict [] [] _=>true | _=>false
 | .hJ,sc,e=>bo 6 e && match e with | .Dict [] [] _=>true | _=>false
 | .ite c a b,sc,e=>bo 5 e && match e with | .IfExp x y z _=>a8 T N c sc x && a8 T N a sc y && a8 T N b sc z | _=>false
 | .vals i,sc,e=>m9 e fun f es=>decide (f="list") && iK sc f && (match es with | [e']=>YL e' fun x=>ju sc x && bR x && decide (N[i]?=some x) | _=>false)
 | .bin o a b,sc,e=>bo 2 e && match e with | .BinOp x p y _=>LL o p && a8 T N a sc x && a8 T N b sc y | _=>false
 | .cmp o a b,sc,e=>bo 15 e && match e with | .Compare x [p] [y] _=>A_ o p && eG y && a8 T N a sc x && a8 T N b sc y | _=>false
 | .chain o o' a b c,sc,e=>bo 15 e && match e with | .Compare x [p,p'] [y,z] _=>A_ o p && A_ o' p' && eG y && eG z && a8 T N a sc x && a8 T N b sc y && a8 T N c sc z | _=>false
 | .and ms,sc,e=>bo 0 e && match e with | .BoolOp .And es _=>cu T N ms sc es && !ms.isEmpty | _=>false
 | .or ms,sc,e=>bo 0 e && match e with | .BoolOp .Or es _=>cu T N ms sc es && !ms.isEmpty | _=>false
 | .not a,sc,e=>bo 3 e && match e with | .UnaryOp .Not x _=>a8 T N a sc x | _=>false
 | .neg a,sc,e=>bo 3 e && match e with | .UnaryOp .USub x _=>a8 T N a sc x | _=>false
 | .ix a b,sc,e=>bo 21 e && match e with | .Subscript x y _=>kI y && a8 T N a sc x && a8 T N b sc y | _=>false
 | .sZ a lo hi,sc,e=>bo 21 e && match e with
  | .Subscript x s _=>bo 26 s && (match s with | .Slice l h st _=>st.isNone && (a8 T N a sc x && (match l with | none=>dh lo | some y=>!dh lo && a8 T N lo sc y) && (match h with | none=>dh hi | some y=>!dh hi && a8 T N hi sc y)) | _=>false)
  | _=>false
 | .hV a k d,sc,e=>Om a && Us "get" e fun x y z=>ju sc x && bR x && decide (N[WA a]?=some x) && a8 T N k sc y && a8 T N d sc z && noStar y && noStar z
 | .call f ms,sc,e=>m9 e fun x es=>bR x && iK sc x && decide (T.F[f]?=some x) && cu T N ms sc es && es.all noStar
 | .blt b ms,sc,e=>m9 e fun x es=>decide (x=Mw b) && iK sc x && !es.isEmpty && es.all noStar && (match b,es with
   | .bg,[e']=>m9 e' fun y il=>decide (y="enumerate") && iK sc y && cu T N ms sc il && il.all noStar && decide (il.length=1)
   | .bg,_=>false
   | _,_=>cu T N ms sc es)
 | .isin a t,sc,e=>m9 e fun x es=>match es with
  | [y,z']=>bo 23 z' && (match z' with | .Name z _=>decide (x="isinstance") && iK sc x && a8 T N a sc y && noStar y && decide (z=t.nm) && iK sc z | _=>false)
  | _=>false
 | .comp elt tg k src hc c eD,sc,e=>bo 8 e && match e with
  | .ListComp i3 [⟨i4,iter,ifs,as⟩] scope _=>decide (as=0) && Hm sc scope && gf N scope tg i4 && gR sc k i4 iter && cu T N src sc (iT k iter) &&
   (match hc,ifs with | true,[c']=>a8 T N c scope c' | false,[]=>true | _,_=>false) && a8 T N elt scope i3 && decide (eD=cD N scope)
  | _=>false
noncomputable def cu (T:Tx) (N:zk):List M->Scope->zl->Bool
 | [],_,es=>es.isEmpty
 | m::ms,sc,es=>match es with | e::es=>a8 T N m sc e && cu T N ms sc es | []=>false
end
variable {o':CO}{p':CmpOp}{l:Option Expr}{elt:M}{hc:Bool}{eD:List Bool}{iter:Expr}{scope:Scope}
section
variable {T:Tx}{N:zk}{sc:Scope}{a b c:M}{ms:List M}{x y z:Expr}{es:zl}{pos p2 p3:Pos}{s f:Str}{k:Nat}
theorem WR :a8 T N (.var i) sc (.Name s pos)=(bR s && ju sc s && decide (N[i]?=some s)):=rfl
theorem QM :a8 T N (.con d) sc (.Name s pos)=(bR s && iK sc s && Hk (T.gl.lookup s) d):=rfl
theorem Wo:a8 T N (.tup ms) sc (.Tuple es k pos)=(cu T N ms sc es && es.all noStar):=rfl
theorem Ke:a8 T N (.lst ms) sc (.List es pos)=(cu T N ms sc es && es.all noStar):=rfl
theorem V1 {o:BO}{p:Operator}:a8 T N (.bin o a b) sc (.BinOp x p y pos)=(LL o p && a8 T N a sc x && a8 T N b sc y):=rfl
theorem W3:a8 T N (.ite a b c) sc (.IfExp x y z pos)=(a8 T N a sc x && a8 T N b sc y && a8 T N c sc z):=rfl
theorem V5 {o:CO}{p:CmpOp}:a8 T N (.cmp o a b) sc (.Compare x [p] [y] pos)=(A_ o p && eG y && a8 T N a sc x && a8 T N b sc y):=rfl
theorem Qj {o:CO}{p:CmpOp}:a8 T N (.chain o o' a b c) sc (.Compare x [p,p'] [y,z] pos)=(A_ o p && A_ o' p' && eG y && eG z && a8 T N a sc x && a8 T N b sc y && a8 T N c sc z):=rfl
theorem Wr:a8 T N (.and ms) sc (.BoolOp .And es pos)=(cu T N ms sc es && !ms.isEmpty):=rfl
theorem ZX:a8 T N (.or ms) sc (.BoolOp .Or es pos)=(cu T N ms sc es && !ms.isEmpty):=rfl
theorem YK:a8 T N (.ix a b) sc (.Subscript x y pos)=(kI y && a8 T N a sc x && a8 T N b sc y):=rfl
theorem Xo {h:Option Expr}:a8 T N (.sZ a b c) sc (.Subscript x (.Slice l h none p2) pos)=(a8 T N a sc x && (match l with | none=>dh b | some y=>!dh b && a8 T N b sc y) && (match h with | none=>dh c | some y=>!dh c && a8 T N c sc y)):=rfl
theorem FZ {tg:Tg}{ik:IK}{i3 i4:Expr}{ifs:zl}{as:Int}:a8 T N (.comp elt tg ik ms hc c eD) sc (.ListComp i3 [⟨i4,iter,ifs,as⟩] scope pos)=(decide (as=0) && Hm sc scope && gf N scope tg i4 && gR sc ik i4 iter && cu T N ms sc (iT ik iter) &&
   (match hc,ifs with | true,[c']=>a8 T N c scope c' | false,[]=>true | _,_=>false) && a8 T N elt scope i3 && decide (eD=cD N scope)):=rfl
theorem tL:cu T N [] sc es=es.isEmpty:=rfl
theorem Kf:cu T N (a::ms) sc []=false:=rfl
theorem dj:cu T N (a::ms) sc (x::es)=(a8 T N a sc x && cu T N ms sc es):=rfl
end
def Vs (g:G) (Y:En) (Z:St) (Hs:Hp) (U:zi):Prop:=Y.length=Z.length/\∀ i∈U,∀ d,Y[i]?=some (some d)->∃ v,Z[i]?=some (some v)/\Rp g Hs d v
section
variable {g:G}{Y:En}{Z:St}{Hs av:Hp}{U U':zi}
def Vs.mono (h:Vs g Y Z Hs U) (m:ar Hs av):Vs g Y Z av U:=⟨h.1,fun i hi d e=>let ⟨v,a,r⟩:=h.2 i hi d e;⟨v,a,r.mono m⟩⟩
def Vs.sub (h:Vs g Y Z Hs U) (hs:∀ i∈U',i∈U):Vs g Y Z Hs U':=⟨h.1,fun i hi d e=>h.2 i (hs i hi) d e⟩
def Vs.lh (h:Vs g Y Z Hs (U++U')):Vs g Y Z Hs U:=h.sub fun _ hi=>vk _ hi
def Vs.r (h:Vs g Y Z Hs (U++U')):Vs g Y Z Hs U':=h.sub fun _ hi=>vn _ hi
end
def tM (X:Cx) (U:zi) (r:En->R D):TE:=fun Z H Q=>∃ Y Hs d,ar Hs H/\Vs (aE X) Y Z Hs U/\r Y=.ok d/\XD X H Hs Q d
def WC (X:Cx) (H Hs:Hp) (Q:List V->Hp->Prop) (ds:List D):Prop:=∀ vs H' av,aI H Hs H' av->ax (aE X) av ds vs->Q vs H'
def mB (X:Cx) (U:zi) (r:En->R (List D)):TA:=fun Z H Q=>∃ Y Hs ds,ar Hs H/\Vs (aE X) Y Z Hs U/\r Y=.ok ds/\WC X H Hs Q ds
def lK (X:Cx) (U:zi) (r:En->R D):TT:=fun Z H Q=>∃ Y Hs b,ar Hs H/\Vs (aE X) Y Z Hs U/\r Y=.ok (.bl b)/\∀ H' av,aI H Hs H' av->Q b H'
section
variable {X:Cx}{Z:St}{H Hs:Hp}{Q:VK}{U Ua Ub Uc:zi}{r ra rb rc:En->R D}
def El {rr:R2}{op:D->D->R D} (o:D_ X rr op):tM X (Ua++Ub) (fun Y=>do let x <- ra Y;let y <- rb Y;op x y) Z H Q->B3 rr (tM X Ua ra) (tM X Ub rb) Z H Q:=by
 rintro ⟨Y,Hs,z,hs,hv,h,k⟩;obtain ⟨x,hx,h⟩:=aj h;obtain ⟨y,hy,h⟩:=aj h;refine ⟨Y,Hs,x,hs,hv.lh,hx,fun v H1 ay g1 r1=>?_⟩;refine ⟨Y,ay,y,g1.sub,hv.r.mono (g1.same hs),hy,fun u H2 bt g2 r2=>?_⟩;exact o v u x y z H2 bt Q g2.sub (r1.mono (g2.same g1.sub)) r2 h (k.grow (g1.trans g2))
def Cd {Q:Bool->Hp->Prop}:lK X U r Z H Q->tM X U r Z H fun x H1=>∃ c,x=.bl c/\Q c H1:=by
 rintro ⟨Y,Hs,b,hs,hv,h,k⟩;exact ⟨Y,Hs,.bl b,hs,hv,h,fun v H1 ay g1 r1=>⟨b,ni.mp r1,k H1 ay g1⟩⟩
end
structure aL (sc:Scope) (X:Cx):Prop where
 om:∀ x,iK sc x=true->Gl X x
 s_:∀ x,ju sc x=true->nE X.env.scope x
 cf:∀ x,sc.names.lookup x=some .cell\/sc.names.lookup x=some .free->X.env.scope.names.lookup x=some .cell\/X.env.scope.names.lookup x=some .free
 own:∀ x,j7 sc x=true->L2.Loc X.env.scope x/\(X.fn x=true\/X.env.scope.names.lookup x=some .local)
def oq (g:G) (c:List D->R D) (np:Nat):Sp:=fun vs H Q _=>∃ ds Hs d,vs.length=np/\ar Hs H/\ax g Hs ds vs/\c ds=.ok d/\∀ v H' av,aI H Hs H' av->Rp g av d v->Q v H'
def Hn:D->Option Value->Prop
 | .int i,o=>∃ t,o=some (.int i t)
 | _,_=>False
structure cF (T:Tx) (cl:Nat->List D->R D) (X:Cx):Prop where
 calm:X.calm=true
 nd:X.N.Nodup
 un:X.A.units+100 < cLine
 blt:∀ f∈n8,X.mg f=none
 gl:∀ x d,T.gl.lookup x=some d->Hn d (X.mg x)
 fns:∀ f x,T.F[f]?=some x->∃ k a fd ps,eU X.prog X.w X.K X.mg X.base fh k a fd ps (oq (aE X) (cl f) ps.length)/\cO k X.A/\X.mg x=some (.ref a)/\PySem.W.keepIn X.K (.ref a)=true/\Binds X.K fd ps []/\∀ ds d,cl f ds=.ok d->ds.length=ps.length
variable {cl:Nat->List D->R D}
def cF.D' {T:Tx} (C:cF T cl X) (scope:Scope) (s:Shared) (H:Hp) (fp:List Addr) (xe:zb):cF T cl (cJ X scope s H fp xe) :=
 ⟨C.calm,C.nd,C.un,C.blt,C.gl,C.fns⟩
def HD (h:Hm sc scope=true) (S:aL sc X):px X.env.scope scope:=by
 unfold Hm at h;simp only [Bool.and_eq_true,decide_eq_true_eq,List.all_eq_true,Bool.or_eq_true] at h;refine ⟨h.1.1,h.1.2,fun x hx=>?_⟩;have:=h.2 (x,.free) (y8 hx);rcases this with (q | q) | q
 .exact absurd rfl q
 .exact S.cf x (.inl q)
 .exact S.cf x (.inr q)
variable {x:Str}
def oG (h:ju sc x=true):nE sc x:=by
 unfold ju at h;unfold nE;split at h <;> simp_all
def jq (h:j7 sc x=true):L2.Loc sc x:=by
 unfold j7 at h;unfold L2.Loc;split at h <;> simp_all
def oh (h:iK sc x=true):sc.names.lookup x=some .globalImplicit:=by
 unfold iK at h;split at h <;> simp_all
def Dv {s:Shared}{fp:List Addr}{xe:zb} (S:aL sc X):aL scope (cJ X scope s H fp xe):=by
 have look:∀ x,(cJ X scope s H fp xe).env.scope.names.lookup x=(scope.names.lookup x).map fun k=>if (k == NameKind.free && X.env.scope.kind == .function && X.env.kindOf x == some .cell) then NameKind.cell else k:=fun x=>oK scope X.env x
 refine ⟨fun x h=>?_,fun x h=>?_,fun x h=>?_,fun x h=>?_⟩
 .show (cJ X scope s H fp xe).env.scope.names.lookup x=_
  rw [look,oh h];rfl
 .unfold nE;rw [look];rcases oG h with e | e | e <;> rw [e]
  .exact .inl rfl
  .exact .inr (.inl rfl)
  .simp only [Option.map_some];split
   .exact .inr (.inl rfl)
   .exact .inr (.inr rfl)
 .rw [look];rcases h with e | e <;> rw [e]
  .exact .inl rfl
  .simp only [Option.map_some];split
   .exact .inl rfl
   .exact .inr rfl
 .unfold L2.Loc;rw [look];rcases jq h with e | e <;> rw [e]
  .exact ⟨.inl rfl,.inr rfl⟩
  .exact ⟨.inr rfl,.inl (by show decide (scope.names.lookup x=some .cell)=true;rw [e];rfl)⟩
variable {env:Env}
def aG {es:zl} (h:noStar e=true):starEach (e::es) env=(false,eval e env)::starEach es env:=by
 cases e <;> first | rfl | cases h
theorem gJ {env:Env}{pos:Pos}:∀ {es:zl},es.all noStar=true->(backTo pos (starEach es env)).any (·.1)=false
 | [],_=>rfl
 | e::es,h=>by
  simp only [List.all_cons,Bool.and_eq_true] at h;rw [aG h.1];show (false || (backTo pos (starEach es env)).any (·.1))=false
  rw [gJ h.2];rfl
variable {p ap cp p2:Pos}{f:Nat}{bs:List Bool}{vs:List V}
section
variable {X:Cx}{Z:St}{H Hs:Hp}{Q:VK}{U Ua Ub Uc:zi}{r ra rb rc:En->R D}{e:Expr}{es:zl}{rs:En->R (List D)}
def VB:PA X [] (mB X [] fun _=>.ok []):=Qp iQ fun Z H Q=>by
 rintro ⟨Y,Hs,ds,hs,hv,h,k⟩;cases h;exact k [] H Hs (aI.refl hs) .nil
def Ul (ha:PE X e (tM X Ua ra)) (hr:PA X es (mB X Ub rs)) (hn:noStar e=true):PA X (e::es) (mB X (Ua++Ub) fun Y=>do let d <- ra Y;let ds <- rs Y;.ok (d::ds)) :=
 Qp (eF ha hr (aG hn)) fun Z H Q=>by
  rintro ⟨Y,Hs,zs,hs,hv,h,k⟩;obtain ⟨x,hx,h⟩:=aj h;obtain ⟨ys,hy,h⟩:=aj h;cases h;refine ⟨Y,Hs,x,hs,hv.lh,hx,fun v H1 ay g1 r1=>?_⟩;refine ⟨Y,ay,ys,g1.sub,hv.r.mono (g1.same hs),hy,fun us H2 bt g2 r2=>?_⟩;exact k (v::us) H2 bt (g1.trans g2) (ax.cons (r1.mono (g2.same g1.sub)) r2)
variable {pos:Pos}
def Gk (hN:X.N[i]?=some x) (hv:nE X.env.scope x) (ho:bR x=true):PE X (.Name x pos) (tM X [i] fun Y=>cY Y i):=by
 unfold bR at ho;simp only [Bool.and_eq_true,Bool.not_eq_true'] at ho;refine bN (iM hN hv ho.1.1 ho.1.2) fun Z H Q=>?_
 rintro ⟨Y,Hs,d,hs,hv,h,k⟩;dsimp only [cY] at h;split at h
 .cases h;rename_i e;obtain ⟨v,ev,rv⟩:=hv.2 i (yn.mpr rfl) d e;exact ⟨v,ev,k.here hs rv⟩
 .cases h
def XH {c:Const} (h:Q9 d c=true):PE X (.Constant c j pos) (tM X [] fun _=>.ok d):=by
 cases d <;> cases c <;> simp only [Q9] at h <;> try (cases h;done)
 .refine bN Yb fun Z H Q=>?_
  rintro ⟨Y,Hs,d,hs,hv,h,k⟩;cases h;exact k.ai hs
 .simp only [decide_eq_true_eq] at h;subst h;refine bN QR fun Z H Q=>?_
  rintro ⟨Y,Hs,d,hs,hv,h,k⟩;cases h;exact k.bl hs
 .simp only [decide_eq_true_eq] at h;subst h;refine bN Xv fun Z H Q=>?_
  rintro ⟨Y,Hs,d,hs,hv,h,k⟩;cases h;exact k.int hs
def Wm {T:Tx} (C:cF T cl X) (hg:Gl X x) (ho:bR x=true) (h:T.gl.lookup x=some d):PE X (.Name x pos) (tM X [] fun _=>.ok d):=by
 unfold bR at ho;simp only [Bool.and_eq_true,Bool.not_eq_true'] at ho;have g:=C.gl x d h;cases d <;> try exact g.elim
 .obtain ⟨t,e⟩:=g;refine bN (Vq hg e (v:=.int _) ⟨t,rfl⟩ ho.1.1) fun Z H Q=>?_
  rintro ⟨Y,Hs,d,hs,hv,h,k⟩;cases h;exact k.int hs
theorem Zi {k:Nat} (h:PA X es (mB X U rs)):PE X (.Tuple es k pos) (tM X U fun Y=>do let ds <- rs Y;if ds.length<=lim then .ok (.tup ds) else .stuck) :=
 bN (ZK h) fun Z H Q=>by
  rintro ⟨Y,Hs,d,hs,hv,h,k⟩;obtain ⟨ds,hd,h⟩:=aj h;obtain ⟨hl,h⟩:=cG h;cases h;refine ⟨Y,Hs,ds,hs,hv,hd,fun vs H1 ay g1 r1=>⟨?_,(k.grow g1).uA g1.sub r1⟩⟩;rw [<- r1.length];exact vT hl iU
def XJ (h:PA X es (mB X U rs)):PE X (.List es pos) (tM X U fun Y=>do let ds <- rs Y;if ds.length<=lim then .ok (.lst ds) else .stuck) :=
 bN (GD h) fun Z H Q=>by
  rintro ⟨Y,Hs,d,hs,hv,h,k⟩;obtain ⟨ds,hd,h⟩:=aj h;obtain ⟨hl,h⟩:=cG h;cases h;refine ⟨Y,Hs,ds,hs,hv,hd,fun vs H1 ay g1 r1=>⟨?_,(k.grow g1).k4 g1.sub r1⟩⟩;rw [<- r1.length];exact vT hl iU
def XD.newD (k:XD X H Hs Q (.bE [] [])) (hs:ar Hs H):∀ p,H p=none->Q (.ref p) (upd H p (.ext (fR (aE X) p [] [] 0))):=fun p hp =>
 k _ _ _ (aI.new (o:=.ext (fR (aE X) p [] [] 0)) hs hp) (sX.mpr ⟨p,[],[],0,rfl,aC,rfl,ax.nil,ax.nil⟩)
def WE:PE X (.Dict [] [] pos) (tM X [] fun _=>.ok (.bE [] [])):=bN JG fun Z H Q=>by
 rintro ⟨Y,Hs,d,hs,hv,h,k⟩;cases h;exact k.newD hs
def XD.LM (k:XD X H Hs Q (.bP [])) (hs:ar Hs H):∀ p,H p=none->Q (.ref p) (upd H p (.dK [])):=fun p hp =>
 k _ _ _ (aI.new (o:=.dK []) hs hp) (vZ.mpr ⟨p,rfl,aC⟩)
def Z4:PE X (.Dict [] [] pos) (tM X [] fun _=>.ok (.bP [])):=bN HW fun Z H Q=>by
 rintro ⟨Y,Hs,d,hs,hv,h,k⟩;cases h;exact k.LM hs
def Y0 {t:TE} (h:PE X e t) (h':PE X e t'):PE X e (fun Z H Q=>t Z H Q\/t' Z H Q):=fun ab s Z H Q I hq =>
 hq.elim (fun z=>h ab s Z H Q I z) (fun z=>h' ab s Z H Q I z)
variable {a b c:Expr}
def ZV (o:BO) (ha:PE X a (tM X Ua ra)) (hb:PE X b (tM X Ub rb)):PE X (.BinOp a (SM o) b pos) (tM X (Ua++Ub) fun Y=>do let x <- ra Y;let y <- rb Y;je o x y) :=
 bN (Uy (X6 o) ha hb) fun Z H Q h=>El (Vl o) h
def yW {p:CmpOp} (h:eG b=true):behindInMarks p b=false:=by cases b <;> first | rfl | cases h
def WG (hu:X.A.units+100 < cLine) (o:CO) (ha:PE X a (tM X Ua ra)) (hb:PE X b (tM X Ub rb)) (hn:eG b=true) :
  PE X (.Compare a [pP o] [b] pos) (tM X (Ua++Ub) fun Y=>do let x <- ra Y;let y <- rb Y;let r <- bw o x y;.ok (.bl r)) :=
 bN (Wg (rW hu o) ha hb (yW hn)) fun Z H Q h=>El (w6 o) h
def Z0 (hu:X.A.units+100 < cLine) (o:CO) (ha:PE X a (tM X Ua ra)) (hb:PE X b (tM X Ub rb)) (hn:eG b=true) :
  PT X (.Compare a [pP o] [b] pos) (lK X (Ua++Ub) fun Y=>do let x <- ra Y;let y <- rb Y;let r <- bw o x y;.ok (.bl r)) :=
 Bd (Wl (rW hu o) ha hb (yW hn)) fun Z H Q h=>El (w6 o) (Cd h)
def HF (o o':CO):tM X (Ua++(Ub++Uc)) (fun Y=>do let x <- ra Y;let y <- rb Y;let r <- bw o x y;if r then do let z <- rc Y;let r2 <- bw o' y z;.ok (.bl r2) else .ok (.bl false)) Z H Q ->
  Hx (K4 X o) (K4 X o') (tM X Ua ra) (tM X Ub rb) (tM X Uc rc) Z H Q:=by
 rintro ⟨Y,Hs,z,hs,hv,h,k⟩;obtain ⟨x,hx,h⟩:=aj h;obtain ⟨y,hy,h⟩:=aj h;obtain ⟨t,ht,h⟩:=aj h;refine ⟨Y,Hs,x,hs,hv.lh,hx,fun v H1 ay g1 r1=>?_⟩;refine ⟨Y,ay,y,g1.sub,hv.r.lh.mono (g1.same hs),hy,fun u H2 bt g2 r2=>?_⟩;have WH:=hv.r.r.mono ((g1.trans g2).same hs);refine w6 o v u x y (.bl t) H2 bt _ g2.sub (r1.mono (g2.same g1.sub)) r2 (by show (bw o x y >>= fun r=>R.ok (D.bl r))=_;rw [ht];rfl) fun w H3 dP g3 r3=>⟨t,ni.mp r3,?_⟩
 have k3:=(k.grow (g1.trans g2)).grow g3;cases t with
 | false=>rw [if_neg (by decide)];rw [if_neg (by decide)] at h;cases h;exact k3.bl g3.sub
 | true =>
  rw [if_pos rfl];rw [if_pos rfl] at h;obtain ⟨zc,hc,h⟩:=aj h;refine ⟨Y,dP,zc,g3.sub,WH.mono (g3.same g2.sub),hc,fun q H4 kH g4 r4=>?_⟩;exact w6 o' u q y zc z H4 kH Q g4.sub (r2.mono ((g3.trans g4).same g2.sub)) r4 h (k3.grow g4)
def JV {p:CmpOp} (h:eG c=true):lastMarks [p,p'] [b,c]=false:=by
 show behindInMarks p' c=false
 exact yW h
def SN (hu:X.A.units+100 < cLine) (o o':CO) (ha:PE X a (tM X Ua ra)) (hb:PE X b (tM X Ub rb)) (hc:PE X c (tM X Uc rc)) (hn:eG c=true) :
  PE X (.Compare a [pP o,pP o'] [b,c] pos) (tM X (Ua++(Ub++Uc)) fun Y=>do let x <- ra Y;let y <- rb Y;let r <- bw o x y;if r then do let z <- rc Y;let r2 <- bw o' y z;.ok (.bl r2) else .ok (.bl false)) :=
 bN (RJ (rW hu o) (rW hu o') ha hb hc (JV hn)) fun Z H Q h=>HF o o' h
def S5 (hu:X.A.units+100 < cLine) (o o':CO) (ha:PE X a (tM X Ua ra)) (hb:PE X b (tM X Ub rb)) (hc:PE X c (tM X Uc rc)) (hn:eG c=true) :
  PT X (.Compare a [pP o,pP o'] [b,c] pos) (lK X (Ua++(Ub++Uc)) fun Y=>do let x <- ra Y;let y <- rb Y;let r <- bw o x y;if r then do let z <- rc Y;let r2 <- bw o' y z;.ok (.bl r2) else .ok (.bl false)) :=
 Bd (R0 (rW hu o) (rW hu o') ha hb hc (JV hn)) fun Z H Q h=>HF o o' (Cd h)
def Y4 (ha:PE X a (tM X Ua ra)):PE X (.UnaryOp .Not a pos) (tM X Ua fun Y=>do let x <- ra Y;let t <- aV x;.ok (.bl (!t))) :=
 bN (Yn ha) fun Z H Q=>by
  rintro ⟨Y,Hs,z,hs,hv,h,k⟩;obtain ⟨x,hx,h⟩:=aj h;obtain ⟨t,ht,h⟩:=aj h;cases h;cases x <;> simp only [aV] at ht <;> try (cases ht;done)
  cases ht;exact ⟨Y,Hs,_,hs,hv,hx,fun v H1 ay g1 r1=>⟨t,ni.mp r1,(k.grow g1).bl g1.sub⟩⟩
def cV {t:Bool} (h:aV d=.ok t):d=.bl t:=by
 cases d <;> simp only [aV] at h <;> first | (cases h;rfl) | cases h
def Ym (ha:PT X a (lK X Ua ra)):PT X (.UnaryOp .Not a pos) (lK X Ua fun Y=>do let x <- ra Y;let t <- aV x;.ok (.bl (!t))) :=
 Bd (Nk ha) fun Z H Q=>by
  rintro ⟨Y,Hs,z,hs,hv,h,k⟩;obtain ⟨x,hx,h1⟩:=aj h;obtain ⟨t,ht,h2⟩:=aj h1;clear h h1;cases cV ht;cases h2;exact ⟨Y,Hs,t,hs,hv,hx,k⟩
def Z5 (ha:PE X a (tM X Ua ra)):PE X (.UnaryOp .USub a pos) (tM X Ua fun Y=>do let x <- ra Y;(match x with | .int i=>.ok (.int (-i)) | _=>.stuck)) :=
 bN (Si Sk ha) fun Z H Q=>by
  rintro ⟨Y,Hs,z,hs,hv,h,k⟩;obtain ⟨x,hx,h⟩:=aj h;cases x <;> simp only at h <;> try (cases h;done)
  cases h;exact ⟨Y,Hs,_,hs,hv,hx,fun v H1 ay g1 r1=>⟨_,aR.mp r1,(k.grow g1).int g1.sub⟩⟩
def YT (hc:PT X c (lK X Uc rc)) (ha:PE X a (tM X Ua ra)) (hb:PE X b (tM X Ub rb)):PE X (.IfExp c a b pos) (tM X (Uc++(Ua++Ub)) fun Y=>do let x <- rc Y;let t <- aV x;if t then ra Y else rb Y) :=
 bN (RD hc ha hb) fun Z H Q=>by
  rintro ⟨Y,Hs,z,hs,hv,h,k⟩;obtain ⟨x,hx,h1⟩:=aj h;obtain ⟨t,ht,h2⟩:=aj h1;clear h h1;cases cV ht;have h:=h2;refine ⟨Y,Hs,t,hs,hv.lh,hx,fun H1 ay g1=>?_⟩;cases t with
  | false=>rw [if_neg (by decide)];rw [if_neg (by decide)] at h;exact ⟨Y,ay,z,g1.sub,hv.r.r.mono (g1.same hs),h,k.grow g1⟩
  | true=>rw [if_pos rfl];rw [if_pos rfl] at h;exact ⟨Y,ay,z,g1.sub,hv.r.lh.mono (g1.same hs),h,k.grow g1⟩
def Xx (hc:PT X c (lK X Uc rc)) (ha:PT X a (lK X Ua ra)) (hb:PT X b (lK X Ub rb)):PT X (.IfExp c a b pos) (lK X (Uc++(Ua++Ub)) fun Y=>do let x <- rc Y;let t <- aV x;if t then ra Y else rb Y):=by
 intro ab s Z H Q I h;obtain ⟨Y,Hs,z,hs,hv,h,k⟩:=h;obtain ⟨x,hx,h1⟩:=aj h;obtain ⟨t,ht,h2⟩:=aj h1;clear h h1;cases cV ht;have h:=h2;refine isTrue_IfExp (a7 (hc ab s Z H (fun b H1=>b=t/\∃ ay,aI H Hs H1 ay) I ⟨Y,Hs,t,hs,hv.lh,hx,fun H1 ay g1=>⟨rfl,ay,g1⟩⟩) fun b' s1 ⟨H1,I1,e,ay,g1⟩=>?_);subst e;cases b' with
 | false=>rw [if_neg (by decide)];rw [if_neg (by decide)] at h;exact hb ab s1 Z H1 Q I1 ⟨Y,ay,z,g1.sub,hv.r.r.mono (g1.same hs),h,fun H' av g=>k H' av (g1.trans g)⟩
 | true=>rw [if_pos rfl];rw [if_pos rfl] at h;exact ha ab s1 Z H1 Q I1 ⟨Y,ay,z,g1.sub,hv.r.lh.mono (g1.same hs),h,fun H' av g=>k H' av (g1.trans g)⟩
def GP (h:kI b=true):Ju b:=by
 intro o i;cases b <;> first | rfl | cases h
def WI (hu:X.A.units+100 < cLine) (ha:PE X a (tM X Ua ra)) (hb:PE X b (tM X Ub rb)) (hp:kI b=true):PE X (.Subscript a b pos) (tM X (Ua++Ub) fun Y=>do let x <- ra Y;let y <- rb Y;f6 x y) :=
 bN (Ve (V' hu) ha hb (GP hp)) fun Z H Q h=>El Zb h
def Xp {f:Expr}{Ue Uf:zi}{re rf:En->R D} (hu:X.A.units+100 < cLine) (hN:X.N[i]?=some x) (hv:nE X.env.scope x) (ho:bR x=true) (he:PE X e (tM X Ue re)) (hf:PE X f (tM X Uf rf)) (n1:noStar e=true) (n2:noStar f=true) (hl:(ap.endLine == cp.line)=true) :
  PE X (.Call (.Attribute (.Name x p) "get" ap) [e,f] [] cp) (tM X ([i] ++ (Ue ++ Uf)) fun Y=>do let x <- cY Y i; let y <- re Y; let z <- rf Y; tY x y z):=by
 have hx:PE X (.Name x p) (tM X [i] fun Y=>cY Y i):=Gk hN hv ho;have m2:M2 X (.Name x p) "get" ap e f cp:=⟨rfl,by rw [aG n1,aG n2]; rfl,hl,by rw [aG n1,aG n2]; rfl⟩
 refine bN (Y0 (Tp hu hx he hf m2) (T9 (by omega) hx he hf m2)) fun Z H Q=>?_
 rintro ⟨Y,Hs,z,hs,hv,h,k⟩;obtain ⟨dx,OT,h1⟩:=aj h;obtain ⟨dy,OU,h2⟩:=aj h1;obtain ⟨dz,OV,h3⟩:=aj h2;clear h h1 h2;have h:=h3;clear h3;cases dx <;> try (cases h;done)
 rotate_left
 .rename_i ah;cases dy <;> try (cases h;done)
  cases dz <;> try (cases h;done)
  rename_i kk zz;cases h;refine .inr ⟨Y,Hs,_,hs,hv.lh,OT,fun v H1 ay g1 r1=>?_⟩;obtain ⟨a,rfl,ha⟩:=vZ.mp r1;refine ⟨a,rfl,.inl ⟨_,.inl (g1.sub _ _ ha)⟩,Y,ay,_,g1.sub,hv.r.lh.mono (g1.same hs),OU,fun u H2 bt g2 q2=>?_⟩;refine ⟨Y,bt,_,g2.sub,hv.r.r.mono ((g1.trans g2).same hs),OV,fun w H3 dP g3 q3=>?_⟩;have WJ:H3 a=some (n_ ah):=g3.sub _ _ (((g2.trans g3).same g1.sub) _ _ ha);cases aR.mp q2;cases aR.mp q3;refine ⟨_,yQ.kk (k:=.inl kk) WJ,?_⟩;have e:iR (ah.map fun p=>(.inl p.1,V.int p.2)) (.inl kk:Key)=(bM ah kk).map V.int:=HX kk ah;rw [e];have e2:((bM ah kk).map V.int).getD (V.int zz)=V.int ((bM ah kk).getD zz):=by cases bM ah kk <;> rfl
  rw [e2];exact (k.grow ((g1.trans g2).trans g3)).int g3.sub
 rename_i ks vs;obtain ⟨hk,h⟩:=cG h;cases h;refine .inl ⟨Y,Hs,_,hs,hv.lh,OT,fun v H1 ay g1 r1=>?_⟩;obtain ⟨a,xs,ys,ep,rfl,ha,e1,r2,r3⟩:=sX.mp r1;subst e1;refine ⟨a,_,xs,ys,rfl,⟨⟨ep,g1.sub _ _ ha⟩,rfl,r2.mono g1.sub⟩,Y,ay,dy,g1.sub,hv.r.lh.mono (g1.same hs),OU,fun u H2 bt g2 q2=>?_⟩;refine ⟨Y,bt,dz,g2.sub,hv.r.r.mono ((g1.trans g2).same hs),OV,fun w H3 dP g3 q3=>?_⟩;have m:=(g2.trans g3).same g1.sub;have m3:=m.trans g3.sub;refine ⟨dy,_,xs,ys,(q2.mono (g3.same g2.sub)).mono g3.sub,hk,⟨⟨ep,m3 _ _ ha⟩,rfl,r2.mono m3⟩,?_⟩;rcases A9 (k:=dy) (xs:=xs) (r3.mono m) with ⟨z',v,j1,j2,j3⟩ | ⟨j1,j2⟩
 .rw [j2,Option.getD_some];rw [j1,Option.getD_some] at k;exact (k.grow ((g1.trans g2).trans g3)).here g3.sub j3
 .rw [j2,Option.getD_none];rw [j1,Option.getD_none] at k;exact (k.grow ((g1.trans g2).trans g3)).here g3.sub q3
def Ee (X:Cx) (U:zi) (r:En->R (Option Int)):TO:=fun Z H Q=>∃ Y Hs o,ar Hs H/\Vs (aE X) Y Z Hs U/\r Y=.ok o/\∀ H' av,aI H Hs H' av->Q o H'
def Oa {e:Option Expr}{t t':TO} (h:PO X e t) (i:∀ Z H Q,t' Z H Q->t Z H Q):PO X e t':=fun ab s Z H Q I hq=>h ab s Z H Q I (i Z H Q hq)
def WN:PO X none (Ee X U fun _=>.ok none):=Oa WW fun Z H Q=>by
 rintro ⟨Y,Hs,z,hs,hv,h,k⟩;cases h;exact k H Hs (aI.refl hs)
def WO (ha:PE X a (tM X U ra)):PO X (some a) (Ee X U fun Y=>do let d <- ra Y;lN d):=Oa (VR ha) fun Z H Q=>by
 rintro ⟨Y,Hs,z,hs,hv,h,k⟩;obtain ⟨x,hx,h⟩:=aj h;cases x <;> simp only [lN] at h <;> try (cases h;done)
 cases h;exact ⟨Y,Hs,_,hs,hv,hx,fun v H1 ay g1 r1=>⟨_,aR.mp r1,k H1 ay g1⟩⟩
def Yj {lo hi:Option Expr}{rl rh:En->R (Option Int)} (ha:PE X a (tM X Ua ra)) (hl:PO X lo (Ee X Ub rl)) (hh:PO X hi (Ee X Uc rh)) :
  PE X (.Subscript a (.Slice lo hi none p2) pos) (tM X (Ua++(Ub++Uc)) fun Y=>do let x <- ra Y;let l <- rl Y;let h <- rh Y;xy x l h) :=
 bN (QS We ha hl hh) fun Z H Q=>by
  rintro ⟨Y,Hs,z,hs,hv,h,k⟩;obtain ⟨x,hx,h⟩:=aj h;obtain ⟨l,h1,h⟩:=aj h;obtain ⟨u,h2,h⟩:=aj h;refine ⟨Y,Hs,x,hs,hv.lh,hx,fun v H1 ay g1 r1=>?_⟩;refine ⟨Y,ay,l,g1.sub,hv.r.lh.mono (g1.same hs),h1,fun H2 bt g2=>?_⟩;refine ⟨Y,bt,u,g2.sub,hv.r.r.mono ((g1.trans g2).same hs),h2,fun H3 dP g3=>?_⟩;exact TQ g3.sub (r1.mono ((g2.trans g3).same g1.sub)) h (k.grow ((g1.trans g2).trans g3))
def Ry (ha:PE X a (tM X Ua ra)) (he:∀ whole,isTrue a X.env whole=(do let v <- whole;standAt a.pos;holding [v] (truthy v))):PT X a (lK X Ua ra) :=
 Bd (PJ ha he) fun Z H Q h=>Cd h
def Xi {T:Tx} (C:cF T cl X) (hg:Gl X x) (ho:bR x=true) (hF:T.F[f]?=some x) (ha:PA X (e::es) (mB X U rs)) (hn:(e::es).all noStar=true) :
  PE X (.Call (.Name x p) (e::es) [] pos) (tM X U fun Y=>do let ds <- rs Y;cl f ds):=by
 unfold bR at ho;simp only [Bool.and_eq_true,Bool.not_eq_true',List.all_cons] at ho hn;obtain ⟨k,a,fd,ps,F,hr,hm,hk,hb,hlen⟩:=C.fns f x hF;refine bN (Xr F hr hg hm hk hb .nil U9 ha ho.1.1 (aG hn.1) (gJ hn.2)) fun Z H Q=>?_
 rintro ⟨Y,Hs,z,hs,hv,h,k⟩;obtain ⟨ds,hd,h⟩:=aj h;refine ⟨Y,Hs,ds,hs,hv,hd,fun vs H1 ay g1 r1=>?_⟩;show oq (aE X) (cl f) ps.length (vs++[]) H1 Q E0
 rw [List.append_nil];exact ⟨ds,ay,z,by rw [<- r1.length];exact hlen ds z h,g1.sub,r1,h,fun v H2 bt g2 r2=>k v H2 bt (g1.trans g2) r2⟩
def Ur {T:Tx} (C:cF T cl X) (hg:Gl X x) (ho:bR x=true) (hF:T.F[f]?=some x) :
  PE X (.Call (.Name x p) [] [] pos) (tM X [] fun Y=>cl f []):=by
 unfold bR at ho;simp only [Bool.and_eq_true,Bool.not_eq_true'] at ho;obtain ⟨k,a,fd,ps,F,hr,hm,hk,hb,hlen⟩:=C.fns f x hF;refine bN (TF F hr hg hm hk hb .nil U9 ho.1.1) fun Z H Q=>?_
 rintro ⟨Y,Hs,z,hs,hv,h,k⟩;exact ⟨[],Hs,z,hlen [] z h,hs,ax.nil,h,fun v H2 bt g2 r2=>k v H2 bt g2 r2⟩
noncomputable def Ce:BI->Bool
 | .bg=>false | _=>true
def QT (X:Cx):BI->List V->Hp->VK->Prop
 | .len=>fun xs H Q=>(∃ p ys,xs=[.ref p]/\(cm X.K H p ys\/cb X.K H p ys)/\Q (.int ys.length) H)\/∃ p ah,xs=[.ref p]/\H p=some (n_ ah)/\Q (.int ah.length) H
 | .max2=>fun xs H Q=>∃ i j,xs=[.int i,.int j]/\Q (.int (if j > i then j else i)) H
 | .min2=>fun xs H Q=>∃ i j,xs=[.int i,.int j]/\Q (.int (if j < i then j else i)) H
 | .all=>Yl X
 | .any=>OL X
 | .sorted=>Jy X
 | .tuple=>fun xs H Q=>∃ p ys,xs=[.ref p]/\((cm X.K H p ys/\∀ l,H l=none->Q (.ref l) (upd H l (.tup ys)))\/(cb X.K H p ys/\Q (.ref p) H))
 | .bg=>fun _ _ _=>False
theorem yG {g:G}{Hs:Hp}:∀ {ds:List D}{xs:List V}{bs:List Bool},ax g Hs ds xs->boolsOf ds=some bs->xs=bs.map V.bl
 | [],xs,bs,r,h=>by
  simp only [boolsOf] at h;cases h;exact r.nil_inv
 | d::ds,xs,bs,r,h=>by
  obtain ⟨v,ws,rfl,r1,r2⟩:=r.cons_inv;cases d <;> simp only [boolsOf] at h <;> try (cases h;done)
  cases e:boolsOf ds with
  | none=>rw [e] at h;cases h
  | some cs =>
   rw [e] at h;cases h;rw [yG r2 e,ni.mp r1];rfl
theorem KN {g:G}{Hs:Hp}:∀ {ds:List D}{xs:List V}{is:List Int},ax g Hs ds xs->intsOf ds=some is->xs=is.map V.int
 | [],xs,is,r,h=>by
  simp only [intsOf] at h;cases h;exact r.nil_inv
 | d::ds,xs,is,r,h=>by
  obtain ⟨v,ws,rfl,r1,r2⟩:=r.cons_inv;cases d <;> simp only [intsOf] at h <;> try (cases h;done)
  cases e:intsOf ds with
  | none=>rw [e] at h;cases h
  | some cs =>
   rw [e] at h;cases h;rw [KN r2 e,aR.mp r1];rfl
theorem Kv:∀ {ds:List D}{is:List Int},intsOf ds=some is->ds=is.map D.int
 | [],is,h=>by simp only [intsOf] at h;cases h;rfl
 | d::ds,is,h=>by
  cases d <;> simp only [intsOf] at h <;> try (cases h;done)
  cases e:intsOf ds with
  | none=>rw [e] at h;cases h
  | some cs =>
   rw [e] at h;cases h;rw [Kv e];rfl
theorem vO {g:G}{H:Hp}:∀ (ns:List Int),ax g H (ns.map D.int) (ns.map V.int)
 | []=>ax.nil
 | n::ns=>ax.cons (aR.mpr rfl) (vO ns)
def S8 {es:List D} (e:boolsOf es=none):gj .all [.lst es]=.stuck:=by
 show (match boolsOf es with | some bs=>R.ok (D.bl (bs.all id)) | none=>.stuck)=_
 rw [e]
def Fp {es:List D} (e:boolsOf es=some bs):gj .all [.lst es]=.ok (.bl (bs.all id)):=by
 show (match boolsOf es with | some bs=>R.ok (D.bl (bs.all id)) | none=>.stuck)=_
 rw [e]
def Uv {es:List D} (e:boolsOf es=none):gj .any [.lst es]=.stuck:=by
 show (match boolsOf es with | some bs=>R.ok (D.bl (bs.any id)) | none=>.stuck)=_
 rw [e]
def Fw {es:List D} (e:boolsOf es=some bs):gj .any [.lst es]=.ok (.bl (bs.any id)):=by
 show (match boolsOf es with | some bs=>R.ok (D.bl (bs.any id)) | none=>.stuck)=_
 rw [e]
def Uq (b:BI)  (hs:ar Hs H) (r:ax (aE X) Hs ds vs) (h:gj b ds=.ok z) (k:XD X H Hs Q z) (hb:Ce b=true):QT X b vs H Q:=by
 have one:∀ {d:D},ax (aE X) Hs [d] vs->∃ v,vs=[v]/\Rp (aE X) Hs d v:=fun r=>by
  obtain ⟨v,ws,rfl,r1,r2⟩:=r.cons_inv;cases r2.nil_inv;exact ⟨v,rfl,r1⟩
 have two:∀ {d e:D},ax (aE X) Hs [d,e] vs->∃ v w,vs=[v,w]/\Rp (aE X) Hs d v/\Rp (aE X) Hs e w:=fun r=>by
  obtain ⟨v,ws,rfl,r1,r2⟩:=r.cons_inv;obtain ⟨w,ws,rfl,r3,r4⟩:=r2.cons_inv;cases r4.nil_inv;exact ⟨v,w,rfl,r1,r3⟩
 rcases ds with _ | ⟨d,_ | ⟨e,_ | ⟨f,fs⟩⟩⟩
 .cases b <;> cases h
 .obtain ⟨v,rfl,r1⟩:=one r;cases b
  case bg=>cases hb
  all_goals dsimp only [QT]
  case min2=>cases d <;> cases h
  case max2=>cases d <;> cases h
  case len =>
   cases d <;> try (cases h;done)
   .obtain ⟨a,xs,rfl,s1,r2⟩:=cW.mp r1;cases h;exact .inl ⟨a,xs,rfl,.inr (aO hs s1),by rw [<- r2.length];exact k.int hs⟩
   .obtain ⟨a,xs,rfl,s1,r2⟩:=cP.mp r1;cases h;exact .inl ⟨a,xs,rfl,.inl (bA hs s1),by rw [<- r2.length];exact k.int hs⟩
   .obtain ⟨a,rfl,ha⟩:=vZ.mp r1;cases h;exact .inr ⟨a,_,rfl,hs _ _ ha,k.int hs⟩
  case all =>
   cases d <;> try (cases h;done)
   rename_i es;cases e:boolsOf es with
   | none=>rw [S8 e] at h;cases h
   | some bs =>
    rw [Fp e] at h;cases h;obtain ⟨a,xs,rfl,s1,r2⟩:=cP.mp r1;cases yG r2 e;exact ⟨a,bs,rfl,bA hs s1,k.bl hs⟩
  case any =>
   cases d <;> try (cases h;done)
   rename_i es;cases e:boolsOf es with
   | none=>rw [Uv e] at h;cases h
   | some bs =>
    rw [Fw e] at h;cases h;obtain ⟨a,xs,rfl,s1,r2⟩:=cP.mp r1;cases yG r2 e;exact ⟨a,bs,rfl,bA hs s1,k.bl hs⟩
  case sorted =>
   obtain ⟨es,he,h1⟩:=aj (show (Bj d >>= fun ds=>if jW ds then R.ok (.lst (jo ds)) else .stuck)=.ok z from h);clear h;obtain ⟨ib,h2⟩:=cG h1;clear h1;cases h2;cases d <;> simp only [Bj] at he <;> try (cases he;done)
   .cases he;obtain ⟨a,xs,rfl,s1,r2⟩:=cW.mp r1;exact ⟨a,es,xs,rfl,⟨r2.mono hs,.inr (.inl (aO hs s1))⟩,nq ib,fun S ys hS rS=>k.k4 hs (rS Hs r2) S hS⟩
   .cases he;obtain ⟨a,xs,rfl,s1,r2⟩:=cP.mp r1;exact ⟨a,es,xs,rfl,⟨r2.mono hs,.inl (bA hs s1)⟩,nq ib,fun S ys hS rS=>k.k4 hs (rS Hs r2) S hS⟩
   .cases he;obtain ⟨a,xs,WS,ep,rfl,ha,e1,r2,r3⟩:=sX.mp r1;exact ⟨a,_,_,rfl,⟨r2.mono hs,.inr (.inr (.inl ⟨xs,WS,⟨⟨ep,hs _ _ ha⟩,e1,r2.mono hs⟩,rfl⟩))⟩,nq ib,fun S ys hS rS=>k.k4 hs (rS Hs r2) S hS⟩
   .cases he;rename_i ah;obtain ⟨a,rfl,ha⟩:=vZ.mp r1;have r2:∀ Hs,ax (aE X) Hs (ah.map fun p=>D.int p.1) (ah.map fun p=>V.int p.1):=fun Hs=>by
     have:=vO (g:=aE X) (H:=Hs) (ah.map (·.1));rw [List.map_map,List.map_map] at this;exact this
    exact ⟨a,_,_,rfl,⟨r2 H,.inr (.inr (.inr ⟨ah,hs _ _ ha,rfl⟩))⟩,nq ib,fun S ys hS rS=>k.k4 hs (rS Hs (r2 Hs)) S hS⟩
  case tuple =>
   cases d <;> try (cases h;done)
   .cases h;obtain ⟨a,xs,rfl,s1,r2⟩:=cW.mp r1;exact ⟨a,xs,rfl,.inr ⟨aO hs s1,k.here hs r1⟩⟩
   .cases h;obtain ⟨a,xs,rfl,s1,r2⟩:=cP.mp r1;exact ⟨a,xs,rfl,.inl ⟨bA hs s1,k.uA hs r2⟩⟩
 .obtain ⟨v,w,rfl,r1,r2⟩:=two r;cases b
  case bg=>cases hb
  case min2 =>
   cases d <;> cases e <;> try (cases h;done)
   cases h;cases aR.mp r1;cases aR.mp r2;exact ⟨_,_,rfl,k.int hs⟩
  case max2 =>
   cases d <;> cases e <;> try (cases h;done)
   cases h;cases aR.mp r1;cases aR.mp r2;exact ⟨_,_,rfl,k.int hs⟩
  all_goals (first | (cases h;done) | (cases d <;> cases h))
 .have e0:gj b (d::e::f::fs)=.stuck:=by cases b <;> first | rfl | (cases d <;> first | rfl | (cases e <;> rfl))
  rw [e0] at h;cases h
def boot_max:bootBuiltins "max"=some (.builtin "max"):=by decide +kernel
def NK:bootBuiltins "any"=some (.builtin "any"):=by decide +kernel
def MJ:bootBuiltins "int"=some (.type "int"):=by decide +kernel
def yg:bootBuiltins "tuple"=some (.type "tuple"):=by decide +kernel
def K3:bootBuiltins "list"=some (.type "list"):=by decide +kernel
def Ft:gQ X (.builtin "len") (fun xs H Q=>∃ p ah,xs=[.ref p] /\ H p=some (n_ ah) /\ Q (.int ah.length) H):=by
 intro ab s Z H xs us Q I r h;obtain ⟨p,ah,rfl,hq,q⟩:=h;obtain ⟨u,rfl,rx⟩:=vals1 r;cases rx;refine SI I (.inl hq) fun t s' I'=>⟨.int ah.length,H,I',⟨t,?_⟩,q⟩
 rw [List.length_map]
def YC {T:Tx} (b:BI)  (C:cF T cl X) (hx:x=Mw b) (hg:Gl X x) (ha:PA X (e::es) (mB X U rs)) (hn:(e::es).all noStar=true) (hb:Ce b=true) :
  PE X (.Call (.Name x p) (e::es) [] pos) (tM X U fun Y=>do let ds <- rs Y;gj b ds):=by
 simp only [List.all_cons,Bool.and_eq_true] at hn;have key:PE X (.Call (.Name x p) (e::es) [] pos) (Jn (QT X b) (mB X U rs)):=by
  subst hx;cases b
  case bg=>cases hb
  case max2=>exact gM (Cy C.calm) hg (C.blt _ (by decide +kernel)) boot_max ha (by decide +kernel) (by decide +kernel) (aG hn.1) (gJ hn.2)
  case len=>exact gM (vX.or Ft) hg (C.blt _ (by decide +kernel)) PySem.boot_len ha (by decide +kernel) (by decide +kernel) (aG hn.1) (gJ hn.2)
  case min2=>exact gM (M5 C.calm) hg (C.blt _ (by decide +kernel)) boot_min ha (by decide +kernel) (by decide +kernel) (aG hn.1) (gJ hn.2)
  case all=>exact gM (QC C.calm) hg (C.blt _ (by decide +kernel)) boot_all ha (by decide +kernel) (by decide +kernel) (aG hn.1) (gJ hn.2)
  case any=>exact gM (PK C.calm) hg (C.blt _ (by decide +kernel)) NK ha (by decide +kernel) (by decide +kernel) (aG hn.1) (gJ hn.2)
  case sorted=>exact gM (Fo C.calm C.un) hg (C.blt _ (by decide +kernel)) boot_sorted ha (by decide +kernel) (by decide +kernel) (aG hn.1) (gJ hn.2)
  case tuple=>exact Ng DQ hg (C.blt _ (by decide +kernel)) yg ha (by decide +kernel) (by decide +kernel) (aG hn.1) (gJ hn.2)
 refine bN key fun Z H Q=>?_
 rintro ⟨Y,Hs,z,hs,hv,h,k⟩;obtain ⟨ds,hd,h⟩:=aj h;exact ⟨Y,Hs,ds,hs,hv,hd,fun vs H1 ay g1 r1=>Uq b g1.sub r1 h (k.grow g1) hb⟩
end
variable {kl fN:Pos}{zs ys:List V}{ep n x1:Nat}{f_:zl}
section
variable {X:Cx}{Z:St}{H Hs:Hp}{Q:VK}{U Ua Ub Uc:zi}{r ra rb rc:En->R D}{e a:Expr}{es:zl}{rs:En->R (List D)}{pos:Pos}{T:Tx}{cl:Nat->List D->R D}
def xr (r:ax g Hs [d] vs):∃ v,vs=[v]/\Rp g Hs d v:=by
 obtain ⟨v,ws,rfl,r1,r2⟩:=r.cons_inv;cases r2.nil_inv;exact ⟨v,rfl,r1⟩
def BW {e:D} (r:ax g Hs [d,e] vs):∃ v w,vs=[v,w]/\Rp g Hs d v/\Rp g Hs e w:=by
 obtain ⟨v,ws,rfl,r1,r2⟩:=r.cons_inv;obtain ⟨w,ws,rfl,r3,r4⟩:=r2.cons_inv;cases r4.nil_inv;exact ⟨v,w,rfl,r1,r3⟩
def Ls:bootBuiltins "bool"=some (.type "bool"):=by decide +kernel
def WU (C:cF T cl X) (t:Ty) (hg:Gl X t.nm):PE X (.Name t.nm p) (tC (.ty t.name)):=by
 cases t
 .exact xR hg (C.blt _ (by decide +kernel)) MJ rfl (by decide +kernel) (by decide +kernel)
 .exact xR hg (C.blt _ (by decide +kernel)) Ls rfl (by decide +kernel) (by decide +kernel)
 .exact xR hg (C.blt _ (by decide +kernel)) yg rfl (by decide +kernel) (by decide +kernel)
 .exact xR hg (C.blt _ (by decide +kernel)) K3 rfl (by decide +kernel) (by decide +kernel)
def Xd (C:cF T cl X) (t:Ty) (hg:Gl X "isinstance") (LN:Gl X t.nm) (ha:PE X a (tM X U ra)) (hn:noStar a=true) :
  PE X (.Call (.Name "isinstance" p) [a,.Name t.nm p2] [] pos) (tM X U fun Y=>do let x <- ra Y; .ok (.bl (jE x t))):=by
 refine bN (gM N5 hg (C.blt _ (by decide +kernel)) boot_isinstance (eF ha (eF (WU C t LN) iQ (aG rfl)) (aG hn)) (by decide +kernel) (by decide +kernel) (aG hn) rfl) fun Z H Q=>?_
 rintro ⟨Y,Hs,z,hs,hv,h,k⟩;obtain ⟨x,hx,h1⟩:=aj h;clear h;cases h1;exact ⟨Y,Hs,x,hs,hv,hx,fun v H1 ay g1 r1=>⟨x,v,t,rfl,r1.mono g1.sub,(k.grow g1).bl g1.sub⟩⟩
theorem Dn {g:G}{ay av:Hp} (m:ar ay av):∀ (n:Nat) {ds:List D}{xs:List V}{ps:List Addr},ax g ay ds xs->ps.length=xs.length ->
  (∀ (j:Nat) p x,ps[j]?=some p->xs[j]?=some x->av p=some (.tup [.int ((n+j:Nat):Int),x]))->ax g av (aX n ds) (ps.map V.ref)
 | n,[],xs,ps,r,hl,h=>by
  cases r.nil_inv;cases ps with
  | nil=>exact ax.nil
  | cons _ _=>simp at hl
 | n,d::ds,xs,ps,r,hl,h=>by
  obtain ⟨v,ws,rfl,r1,r2⟩:=r.cons_inv;cases ps with
  | nil=>simp at hl
  | cons p ps =>
   have h0:=h 0 p v rfl rfl;refine ax.cons (cW.mpr ⟨p,_,rfl,cb.of h0,ax.cons (aR.mpr (by simp)) (ax.one (r1.mono m))⟩) (Dn m (n+1) r2 (by simpa using hl) fun j q x e1 e2=>?_);have:=h (j+1) q x (by simpa using e1) (by simpa using e2);rw [this,show n+(j+1)=n+1+j by omega]
def Iu (C:cF T cl X) (hg:Gl X "enumerate") (LN:Gl X "list") (ha:PA X [a] (mB X U rs)) (hn:noStar a=true) :
  PE X (.Call (.Name "list" p) [.Call (.Name "enumerate" p2) [a] [] kl] [] pos) (tM X U fun Y=>do let ds <- rs Y; gj .bg ds):=by
 refine bN (Jj C.calm hg (C.blt _ (by decide +kernel)) LN (C.blt _ (by decide +kernel)) ha (aG hn)) fun Z H Q=>?_
 rintro ⟨Y,Hs,z,hs,hv,h,k⟩;obtain ⟨ds,hd,h1⟩:=aj h;clear h;refine ⟨Y,Hs,ds,hs,hv,hd,fun vs H1 ay g1 r1=>?_⟩;rcases ds with _ | ⟨d,_ | ⟨d2,ds⟩⟩
 .cases h1
 .cases d <;> try (cases h1;done)
  cases h1;obtain ⟨v,rfl,r2⟩:=xr r1;obtain ⟨b,xs,rfl,s1,r3⟩:=cW.mp r2;refine ⟨b,xs,rfl,aO g1.sub s1,fun S H' ps hS A1 kp WV hl ht=>?_⟩
  classical
  let av:Hp:=fun b=>if b=S\/b∈ps then H' b else ay b
  have old:∀ c o,H1 c=some o->av c=ay c:=fun c o q=>by
   have:¬ (c=S\/c∈ps):=by
    rintro (rfl | z)
    .rw [hS] at q;cases q
    .rw [A1 c z] at q;cases q
   show (if c=S\/c∈ps then H' c else ay c)=_
   rw [if_neg this]
  have g2:aI H1 ay H' av:=⟨kp,old,fun c o q=>by
   by_cases z:c=S\/c∈ps
   .have e:av c=H' c:=if_pos z;rw [e] at q;exact q
   .have e:av c=ay c:=if_neg z;rw [e] at q;exact kp c o (g1.sub c o q)⟩
  have eS:av S=some (.lst (ps.map V.ref)):=by
   have e:av S=H' S:=if_pos (.inl rfl);rw [e];exact WV
  refine k _ _ _ (g1.trans g2) (cP.mpr ⟨S,_,rfl,cm.of eS,Dn (g2.same g1.sub) 0 r3 hl fun j p x e1 e2=>?_⟩);have hp:p∈ps:=List.mem_of_getElem? e1;have e:av p=H' p:=if_pos (.inr hp);rw [e,ht j p x e1 e2];simp
 .cases d <;> cases h1
def Vr {cl:Nat -> List D -> R D} (C:cF T cl X) (B9:Gl X "list") (hN:X.N[i]?=some x) (hv:nE X.env.scope x) (ho:bR x=true) (hl:(ap.endLine == kl.line)=true) :
  PE X (.Call (.Name "list" p) [.Call (.Attribute (.Name x p2) "values" ap) [] [] kl] [] pos) (tM X [i] fun Y=>do let d <- cY Y i; Ez d):=by
 refine bN (Ja C.calm B9 (C.blt _ (by decide +kernel)) (Gk hN hv ho) rfl hl) fun Z H Q=>?_
 rintro ⟨Y,Hs,z,hs,hv,h,k⟩;obtain ⟨d,hd,h1⟩:=aj h;cases d <;> try (cases h1;done)
 cases h1;refine ⟨Y,Hs,_,hs,hv,hd,fun v H1 ay g1 r1=>?_⟩;obtain ⟨a,xs,ys,ep,rfl,ha,e1,r2,r3⟩:=sX.mp r1;exact ⟨a,_,xs,ys,rfl,⟨⟨ep,g1.sub _ _ ha⟩,e1,r2.mono g1.sub⟩,(k.grow g1).k4 g1.sub r3⟩
structure Src (g:G) (J:It) (Hs:Hp) (ds:List D):Prop where
 go:∀ i H,ar Hs H->i < ds.length->J.go i H
 kQ:∀ i H x H' ay d,ar Hs ay->ar ay H->ds[i]?=some d->J.kQ i H x H'->∃ bt,aI H ay H' bt/\Rp g bt d x
 stop:∀ H,ar Hs H->J.stop ds.length H
def src_list {a:Addr} (h:cm X.K Hs a zs) (r:ax (aE X) Hs ds zs):Src (aE X) (IX X.K a) Hs ds where
 go:=fun i H hs hi=>⟨zs,zs[i]'(by rw [<- r.length];exact hi),bA hs h,by simp⟩
 kQ:=fun i H x H' ay d ib hs e ⟨e1,y⟩=>by
  subst e1;have e2:=y zs (bA (ib.trans hs) h);obtain ⟨v,e3,rv⟩:=r.getD e;rw [e2] at e3;cases e3;exact ⟨ay,aI.refl hs,rv.mono ib⟩
 stop:=fun H hs=>⟨zs,bA hs h,by rw [<- r.length];exact vE _⟩
def Wv {a:Addr} (h:cb X.K Hs a zs) (r:ax (aE X) Hs ds zs):Src (aE X) (IY X.K a) Hs ds where
 go:=fun i H hs hi=>⟨zs,zs[i]'(by rw [<- r.length];exact hi),aO hs h,by simp⟩
 kQ:=fun i H x H' ay d ib hs e ⟨e1,y⟩=>by
  subst e1;have e2:=y zs (aO (ib.trans hs) h);obtain ⟨v,e3,rv⟩:=r.getD e;rw [e2] at e3;cases e3;exact ⟨ay,aI.refl hs,rv.mono ib⟩
 stop:=fun H hs=>⟨zs,aO hs h,by rw [<- r.length];exact vE _⟩
def Vy {a:Addr}{xs:List (D × Addr × Value)} (h:Hs a=some (.ext (fR (aE X) a xs ys ep))) (e1:ks=xs.map (·.1)) (r:ax (aE X) Hs ks (xs.map fun x=>V.ref x.2.1)):Src (aE X) (LH (aE X) a xs ys ep) Hs ks where
 go:=fun i H hs hi=>⟨hs _ _ h,by rw [e1,List.length_map] at hi;exact hi⟩
 kQ:=fun i H x H' ay d ib hs e ⟨e0,q,eq,ex⟩=>by
  subst e0 ex;obtain ⟨v,e3,rv⟩:=r.getD e;rw [List.getElem?_map,eq] at e3;cases e3;exact ⟨ay,aI.refl hs,rv.mono ib⟩
 stop:=fun H hs=>⟨hs _ _ h,by rw [e1,List.length_map];exact vE _⟩
def JZ {lo:Int}:Src (aE X) (B0 lo n) Hs ((List.range n).map fun (k:Nat)=>D.int (lo+(k:Int))) where
 go:=fun i H hs hi=>by show i < n;simpa using hi
 kQ:=fun i H x H' ay d ib hs e ⟨e1,y⟩=>by
  subst e1 y;rw [List.getElem?_map] at e;cases q:(List.range n)[i]? with
  | none=>rw [q] at e;cases e
  | some j =>
   rw [q] at e;have:j=i:=by
    have:=yi.mp q;obtain ⟨_,z⟩:=this;simpa using z.symm
   subst this;cases e;exact ⟨ay,aI.refl hs,aR.mpr rfl⟩
 stop:=fun H hs=>by simp [B0]
theorem yD:∀ {n:Nat}{ds:List D}{i:Nat}{d:D},(aX n ds)[i]?=some d->∃ y,ds[i]?=some y/\d=.tup [.int ((n+i:Nat):Int),y]
 | n,[],i,d,h=>by simp [aX] at h
 | n,y::ds,0,d,h=>by simp [aX] at h;exact ⟨y,rfl,by rw [<- h];rfl⟩
 | n,y::ds,i+1,d,h=>by
  simp only [aX,List.getElem?_cons_succ] at h;obtain ⟨z,e1,e2⟩:=yD h;exact ⟨z,by simpa using e1,by rw [e2,show n+1+i=n+(i+1) by omega]⟩
theorem oN:∀ (n:Nat) (ds:List D),(aX n ds).length=ds.length
 | _,[]=>rfl
 | n,d::ds=>by simp [aX,oN (n+1) ds]
def Oj {a:Addr} (h:cb X.K Hs a zs) (r:ax (aE X) Hs ds zs):Src (aE X) (KY X.K a) Hs (aX 0 ds) where
 go:=fun i H hs hi=>⟨zs,zs[i]'(by rw [<- r.length];rw [oN] at hi;exact hi),aO hs h,by simp⟩
 kQ:=fun i H x H' ay d ib hs e ⟨p,y,hp,e1,e2,y2⟩=>by
  subst e1 e2;have e3:=y2 zs (aO (ib.trans hs) h);obtain ⟨z,e4,e5⟩:=yD e;obtain ⟨v,e6,rv⟩:=r.getD e4;rw [e3] at e6;cases e6;subst e5;refine ⟨_,aI.new hs hp,cW.mpr ⟨p,_,rfl,cb.of aC,ax.cons (aR.mpr (by simp)) (ax.one (rv.mono (ib.trans (oO hs hp))))⟩⟩
 stop:=fun H hs=>⟨zs,aO hs h,by rw [oN,r.length]⟩
def Nj {a:Addr} (h:cm X.K Hs a zs) (r:ax (aE X) Hs ds zs):Src (aE X) (Lk X.K a) Hs (aX 0 ds) where
 go:=fun i H hs hi=>⟨zs,zs[i]'(by rw [<- r.length];rw [oN] at hi;exact hi),bA hs h,by simp⟩
 kQ:=fun i H x H' ay d ib hs e ⟨p,y,hp,e1,e2,y2⟩=>by
  subst e1 e2;have e3:=y2 zs (bA (ib.trans hs) h);obtain ⟨z,e4,e5⟩:=yD e;obtain ⟨v,e6,rv⟩:=r.getD e4;rw [e3] at e6;cases e6;subst e5;refine ⟨_,aI.new hs hp,cW.mpr ⟨p,_,rfl,cb.of aC,ax.cons (aR.mpr (by simp)) (ax.one (rv.mono (ib.trans (oO hs hp))))⟩⟩
 stop:=fun H hs=>⟨zs,bA hs h,by rw [oN,r.length]⟩
def tI (X:Cx) (U:zi) (r:En->R (List D)):TI:=fun Z H R=>∃ Y Hs ds,ar Hs H/\Vs (aE X) Y Z Hs U/\r Y=.ok ds/\∀ J H' av,aI H Hs H' av->Src (aE X) J av ds->R J H'
variable {tg iter b:Expr}
def Zq (h:PE X iter (tM X U r)):PI X tg iter (tI X U fun Y=>do let d <- r Y;itemsOf .seq [d]):=by
 intro ab s Z H R I hq;obtain ⟨Y,Hs,ds,hs,hv,h1,k⟩:=hq;obtain ⟨d,hd,h2⟩:=aj h1;clear h1;cases d <;> try (cases h2;done)
 .cases h2;refine Yk h ab s Z H R I ⟨Y,Hs,_,hs,hv,hd,fun v H1 ay g1 r1=>?_⟩;obtain ⟨a,zs,rfl,s1,r2⟩:=cW.mp r1;exact ⟨a,rfl,⟨zs,aO g1.sub s1⟩,k _ _ _ g1 (Wv s1 r2)⟩
 .cases h2;refine Wx h ab s Z H R I ⟨Y,Hs,_,hs,hv,hd,fun v H1 ay g1 r1=>?_⟩;obtain ⟨a,zs,rfl,s1,r2⟩:=cP.mp r1;exact ⟨a,rfl,⟨zs,bA g1.sub s1⟩,k _ _ _ g1 (src_list s1 r2)⟩
 .cases h2;refine Zy h ab s Z H R I ⟨Y,Hs,_,hs,hv,hd,fun v H1 ay g1 r1=>?_⟩;obtain ⟨a,xs,ys,ep,rfl,ha,e1,r2,r3⟩:=sX.mp r1;exact ⟨a,xs,ys,ep,rfl,g1.sub _ _ ha,k _ _ _ g1 (Vy ha e1 r2)⟩
def Vi:(lim:Int) < 2 ^ 62:=by decide
def V2 (C:cF T cl X) (hg:Gl X "range") (hn:noStar a=true) (ha:PA X [a] (mB X U rs)) (hl:∀ Y ds,rs Y=.ok ds -> ds.length=1) :
  PI X tg (.Call (.Name "range" p) [a] [] pos) (tI X U fun Y=>do let ds <- rs Y; itemsOf .jS ds):=by
 intro ab s Z H R I hq;obtain ⟨Y,Hs,ds,hs,hv,h1,k⟩:=hq;obtain ⟨d,hd,h2⟩:=aj h1;clear h1;have hlen:=hl Y d hd;rcases d with _ | ⟨d,_ | ⟨d2,d3⟩⟩
 .simp at hlen
 .cases d <;> try (cases h2;done)
  obtain ⟨c,h3⟩:=cG h2;cases h3;refine Ol hg (C.blt _ (by decide +kernel)) ha (aG hn) ab s Z H R I ⟨Y,Hs,_,hs,hv,hd,fun vs H1 ay g1 r1=>?_⟩;obtain ⟨v,rfl,r2⟩:=xr r1;cases aR.mp r2;have:=Vi;refine ⟨_,rfl,by omega,by omega,k _ _ _ g1 ?_⟩;have e:=JZ (X:=X) (Hs:=ay) (lo:=0) (n:=Int.toNat ‹Int›);simpa using e
 .simp at hlen
def Vp (C:cF T cl X) (hg:Gl X "range") (hn:noStar a=true) (mh:noStar b=true) (ha:PA X [a,b] (mB X U rs)) (hl:∀ Y ds,rs Y=.ok ds -> ds.length=2) :
  PI X tg (.Call (.Name "range" p) [a,b] [] pos) (tI X U fun Y=>do let ds <- rs Y; itemsOf .jS ds):=by
 intro ab s Z H R I hq;obtain ⟨Y,Hs,ds,hs,hv,h1,k⟩:=hq;obtain ⟨d,hd,h2⟩:=aj h1;clear h1;have hlen:=hl Y d hd;rcases d with _ | ⟨d,_ | ⟨d2,_ | ⟨d3,d4⟩⟩⟩
 .simp at hlen
 .simp at hlen
 .cases d <;> cases d2 <;> try (cases h2;done)
  obtain ⟨c,h3⟩:=cG h2;cases h3;refine Oz hg (C.blt _ (by decide +kernel)) ha (by rw [aG hn,aG mh];rfl) (by rw [aG mh];rfl) ab s Z H R I ⟨Y,Hs,_,hs,hv,hd,fun vs H1 ay g1 r1=>?_⟩;obtain ⟨v,w,rfl,r2,r3⟩:=BW r1;cases aR.mp r2;cases aR.mp r3;have:=Vi;exact ⟨_,_,rfl,⟨by omega,by omega,by omega,by omega⟩,k _ _ _ g1 JZ⟩
 .simp at hlen
def Wt (C:cF T cl X) (hg:Gl X "enumerate") (hn:noStar a=true) (ha:PA X [a] (mB X U rs)) :
  PI X (.Tuple f_ x1 fN) (.Call (.Name "enumerate" p) [a] [] pos) (tI X U fun Y=>do let ds <- rs Y; itemsOf .enum ds):=by
 intro ab s Z H R I hq;obtain ⟨Y,Hs,ds,hs,hv,h1,k⟩:=hq;obtain ⟨d,hd,h2⟩:=aj h1;clear h1;rcases d with _ | ⟨d,_ | ⟨d2,d3⟩⟩
 .cases h2
 .cases d <;> try (cases h2;done)
  .cases h2;refine Ti hg (C.blt _ (by decide +kernel)) ha (aG hn) ab s Z H R I ⟨Y,Hs,_,hs,hv,hd,fun vs H1 ay g1 r1=>?_⟩;obtain ⟨v,rfl,r2⟩:=xr r1;obtain ⟨a,zs,rfl,s1,r3⟩:=cW.mp r2;exact ⟨a,zs,rfl,aO g1.sub s1,k _ _ _ g1 (Oj s1 r3)⟩
  .cases h2;refine R9 hg (C.blt _ (by decide +kernel)) ha (aG hn) ab s Z H R I ⟨Y,Hs,_,hs,hv,hd,fun vs H1 ay g1 r1=>?_⟩;obtain ⟨v,rfl,r2⟩:=xr r1;obtain ⟨a,zs,rfl,s1,r3⟩:=cP.mp r2;exact ⟨a,zs,rfl,bA g1.sub s1,k _ _ _ g1 (Nj s1 r3)⟩
 .cases d <;> cases h2
theorem zip_get:∀ {as bs:List D}{i:Nat}{d:D},(rm as bs)[i]?=some d->∃ x y,as[i]?=some x/\bs[i]?=some y/\d=.tup [x,y]
 | [],bs,i,d,h=>by cases bs <;> cases h
 | a::as,[],i,d,h=>by cases h
 | a::as,b::bs,0,d,h=>by cases h;exact ⟨a,b,rfl,rfl,rfl⟩
 | a::as,b::bs,i+1,d,h=>zip_get (as:=as) (bs:=bs) (i:=i) h
theorem BL:∀ (as bs:List D),(rm as bs).length=min as.length bs.length
 | [],bs=>by cases bs <;> simp [rm]
 | a::as,[]=>by simp [rm]
 | a::as,b::bs=>by
  have:=BL as bs;simp only [rm,List.length_cons];omega
def Vn {a b:Addr}{as bs:List D} (h1:cb X.K Hs a xs) (h2:cb X.K Hs b ys) (r1:ax (aE X) Hs as xs) (r2:ax (aE X) Hs bs ys):Src (aE X) (G_ X.K a b) Hs (rm as bs) where
 go:=fun i H hs hi=>by
  rw [BL] at hi;have l1:=r1.length;have l2:=r2.length;exact ⟨xs,ys,xs[i]'(by omega),ys[i]'(by omega),aO hs h1,aO hs h2,by simp,by simp⟩
 kQ:=fun i H x H' ay d ib hs e ⟨p,u,v,hp,e1,e2,y1,y2⟩=>by
  subst e1 e2;obtain ⟨d1,d2,g1,g2,rfl⟩:=zip_get e;obtain ⟨v1,f1,q1⟩:=r1.getD g1;obtain ⟨v2,f2,q2⟩:=r2.getD g2;rw [y1 xs (aO (ib.trans hs) h1)] at f1;cases f1;rw [y2 ys (aO (ib.trans hs) h2)] at f2;cases f2;have m:ar Hs (upd ay p (.tup [u,v])):=ib.trans (oO hs hp);exact ⟨_,aI.new hs hp,cW.mpr ⟨p,_,rfl,cb.of aC,ax.cons (q1.mono m) (ax.one (q2.mono m))⟩⟩
 stop:=fun H hs=>by
  have l1:=r1.length;have l2:=r2.length;refine ⟨xs,ys,aO hs h1,aO hs h2,?_⟩;rw [BL,List.getElem?_eq_none_iff,List.getElem?_eq_none_iff];omega
def YX (C:cF T cl X) (hg:Gl X "zip") (hn:noStar a=true) (mh:noStar b=true) (ha:PA X [a,b] (mB X U rs)) :
  PI X (.Tuple f_ x1 fN) (.Call (.Name "zip" p) [a,b] [] pos) (tI X U fun Y=>do let ds <- rs Y; itemsOf .zip ds):=by
 intro ab s Z H R I hq;obtain ⟨Y,Hs,ds,hs,hv,h1,k⟩:=hq;obtain ⟨d,hd,h2⟩:=aj h1;clear h1;rcases d with _ | ⟨d,_ | ⟨d2,_ | ⟨d3,d4⟩⟩⟩
 .cases h2
 .cases d <;> cases h2
 .cases d <;> cases d2 <;> try (cases h2;done)
  cases h2;refine Xw hg (C.blt _ (by decide +kernel)) ha (by rw [aG hn,aG mh];rfl) (by rw [aG mh];rfl) ab s Z H R I ⟨Y,Hs,_,hs,hv,hd,fun vs H1 ay g1 r1=>?_⟩;obtain ⟨v,w,rfl,r2,r3⟩:=BW r1;obtain ⟨a1,xs,rfl,s1,q1⟩:=cW.mp r2;obtain ⟨a2,ys,rfl,s2,q2⟩:=cW.mp r3;exact ⟨a1,xs,a2,ys,rfl,aO g1.sub s1,aO g1.sub s2,k _ _ _ g1 (Vn s1 s2 q1 q2)⟩
 .cases d <;> cases d2 <;> cases h2
end
noncomputable def putL {α:Type}:List (Option α)->List (Nat × α)->List (Option α)
 | xs,[]=>xs
 | xs,(i,a)::r=>putL (xs.set i (some a)) r
theorem oZ {α:Type}:∀ (xs:List (Option α)) (l:List (Nat × α)),(putL xs l).length=xs.length
 | xs,[]=>rfl
 | xs,(i,a)::r=>by rw [putL,oZ,List.length_set]
theorem Gy {α:Type}{j:Nat}:∀ {xs:List (Option α)}{l:List (Nat × α)},j ∉ l.map (·.1)->(putL xs l)[j]?=xs[j]?
 | xs,[],_=>rfl
 | xs,(i,a)::r,h=>by
  simp only [List.map_cons,List.mem_cons,not_or] at h;rw [putL,Gy h.2,List.getElem?_set_ne (Ne.symm h.1)]
theorem Gb {g:G}{Hs:Hp}{j:Nat}{d:D}:∀ {l:List (Nat × D × V)}{Y:En}{Z:St},Y.length=Z.length->(∀ p∈l,Rp g Hs p.2.1 p.2.2) ->
  (putL Y (l.map fun p=>(p.1,p.2.1)))[j]?=some (some d)->(∀ d,Y[j]?=some (some d)->∃ v,Z[j]?=some (some v)/\Rp g Hs d v)\/j∈l.map (·.1)->∃ v,(putL Z (l.map fun p=>(p.1,p.2.2)))[j]?=some (some v)/\Rp g Hs d v
 | [],Y,Z,hl,hr,h,o=>by
  rcases o with o | o
  .exact o d h
  .cases o
 | (i,e,v)::l,Y,Z,hl,hr,h,o=>by
  simp only [List.map_cons,putL] at h ⊢;have k_:(Y.set i (some e)).length=(Z.set i (some v)).length:=by rw [List.length_set,List.length_set];exact hl
  refine Gb k_ (fun p hp=>hr p (vi _ hp)) h ?_;by_cases hj:j=i
  .subst hj;refine .inl fun d' q=>?_
   have bj:j < Y.length:=by
    have:=(yi.mp q).1;simpa using this
   rw [List.getElem?_set_self bj] at q;cases q;exact ⟨v,by rw [List.getElem?_set_self (by rw [<- hl];exact bj)],hr _ vj⟩
  .rw [List.map_cons,List.mem_cons] at o;rcases o with o | o | o
   .refine .inl fun d' q=>?_
    rw [List.getElem?_set_ne (Ne.symm hj)] at q ⊢;exact o d' q
   .exact absurd o hj
   .exact .inr o
variable {t:Tg}{tg:Expr}{Y:En}
section
variable {X:Cx}{Z:St}{H Hs:Hp}{Q:VK}{U Ua Ub Uc:zi}{r ra rb rc:En->R D}{e a:Expr}{es:zl}{rs:En->R (List D)}{pos:Pos}{T:Tx}{cl:Nat->List D->R D}
def A' (K:zd):Tg->TG
 | .one i=>Ar i
 | .two i j=>Zu K 2 (Lz (Ar i) (Lz (Ar j) Zn))
def jM (C:cF T cl X) (S:aL sc X) (h:gf X.N sc t tg=true):PG X tg (A' X.K t):=by
 cases t with
 | one i =>
  obtain ⟨_,_,rfl,ho,hn⟩:=rY h;obtain ⟨h1,h2⟩:=S.own _ ho;exact Cq C.nd hn h1 h2
 | two i j =>
  obtain ⟨_,_,_,_,_,_,rfl,⟨⟨⟨h1,h2⟩,h3⟩,h4⟩,h5⟩:=sI h;obtain ⟨a1,a2⟩:=S.own _ h1;obtain ⟨b1,b2⟩:=S.own _ h2;exact Yw C.calm (HB (Cq C.nd h3 a1 a2) (HB (Cq C.nd h4 b1 b2) Wf (by rfl)) (by rfl)) (by rfl) (by rfl)
def rZ {x:V}{K:St->Hp->Prop} (hs:ar Hs H) (h:c7 t d Y=.ok ρ') (rx:Rp (aE X) Hs d x)
  (k:∀ l:List (Nat × D × V),l.map (·.1)=aN t->(∀ p∈l,Rp (aE X) Hs p.2.1 p.2.2)->ρ'=putL Y (l.map fun p=>(p.1,p.2.1))->K (putL Z (l.map fun p=>(p.1,p.2.2))) H):A' X.K t x Z H K:=by
 cases t with
 | one i =>
  cases h;exact k [(i,d,x)] rfl (fun p hp=>by rw [List.mem_singleton.mp hp];exact rx) rfl
 | two i j =>
  cases d <;> try (cases h;done)
  rename_i ds;rcases ds with _ | ⟨a,_ | ⟨b,_ | ⟨c,cs⟩⟩⟩ <;> try (cases h;done)
  cases h;obtain ⟨p,xs,rfl,s1,r1⟩:=cW.mp rx;obtain ⟨v,w,rfl,r2,r3⟩:=BW r1;refine ⟨p,[v,w],rfl,aO hs s1,rfl,v,[w],rfl,w,[],rfl,rfl,?_⟩;refine k [(i,a,v),(j,b,w)] rfl (fun q hq=>?_) rfl;rcases vV.mp hq with rfl | hq
  .exact r2
  .rw [List.mem_singleton.mp hq];exact r3
def HA (X:Cx) (hc:Bool) (U:zi) (r:En->R D):TT:=if hc then lK X U r else fun _ H Q=>Q true H
def yF (h:j7 sc x=true) (hi:N[i]?=some x):(cD N sc)[i]?=some false:=by
 unfold cD;rw [List.getElem?_map,hi];rcases jq h with e | e <;> simp [e]
def Yv (h:gf N sc t tg=true):∀ i∈aN t,(cD N sc)[i]?=some false:=by
 cases t with
 | one i =>
  obtain ⟨_,_,rfl,ho,hn⟩:=rY h;intro j hj;rw [List.mem_singleton.mp hj];exact yF ho hn
 | two i j =>
  obtain ⟨_,_,_,_,_,_,rfl,⟨⟨⟨h1,h2⟩,h3⟩,h4⟩,h5⟩:=sI h;intro q hq;rcases vV.mp hq with rfl | hq
  .exact yF h1 h3
  .rw [List.mem_singleton.mp hq];exact yF h2 h4
def Eg (X:Cx) (U:zi) (r:En->R D):TE:=fun Z H Q=>∃ Y Hs d,ar Hs H/\Vs (aE X) Y Z Hs U/\r Y=.ok d/\∀ v H' av,aI H Hs H' av->Rp (aE X) av d v->(∃ a xs ds,v=.ref a/\d=.lst ds/\H a=none/\av a=some (.lst xs)/\ax (aE X) av ds xs)->Q v H'
def WZ :tM X U r Z H Q->Eg X U r Z H Q:=by
 rintro ⟨Y,Hs,d,hs,hv,h,k⟩;exact ⟨Y,Hs,d,hs,hv,h,fun v H' av g r _=>k v H' av g r⟩
def CG {rI:En->R (List D)} (xE:gf N scope t tg=true) (t9:eD=cD N scope) :
  Eg X (Ua++(Uc++Ub)) (fun Y=>do
   let items <- rI Y
   let ys <- cQ (fun d=>do
    let ρ' <- c7 t d (bL eD Y)
    let b <- (if hc then (do let x <- rc ρ';aV x) else .ok true)
    if b then do let y <- rb ρ';.ok (some y) else .ok none) items
   if ys.length<=lim then .ok (.lst ys) else .stuck) Z H Q ->
  Bs (tI X Ua rI) (A' X.K t) (HA X hc Uc rc) (tM X Ub rb) (bL (cD N scope)) Z H Q:=by
 rintro ⟨Y,Hs,z,hs,hv,h,k⟩;obtain ⟨ds,hd,h1⟩:=aj h;obtain ⟨Ex,ht,h2⟩:=aj h1;obtain ⟨bX,h3⟩:=cG h2;clear h h1 h2;cases h3;have r_:=iU;generalize hf:(fun d=>do
    let ρ' <- c7 t d (bL eD Y)
    let b <- (if hc then (do let x <- rc ρ';aV x) else .ok true)
    if b then do let y <- rb ρ';.ok (some y) else .ok none)=f at ht
 refine ⟨Y,Hs,ds,hs,hv.lh,hd,fun J H1 ay g1 src=>?_⟩;intro A hA;refine ⟨fun i m ys H'=>m=ds.length - i/\i<=ds.length/\∃ av ou rest,aI H1 ay H' av/\av A=none/\H' A=some (.lst ys)/\ax (aE X) av ou ys/\cQ f (ds.drop i)=.ok rest/\ou++rest=Ex,⟨ds.length,by simp,v3 _,ay,[],Ex,aI.own g1.sub hA,g1.sub.free hA,aC,ax.nil,ht,rfl⟩,?_⟩;rintro i m ys H' ⟨rfl,hi,av,ou,rest,g2,fA,eA,rA,gU,sd⟩;have iX:=g1.sub;by_cases bj:i < ds.length
 .refine .inr ⟨src.go i H' ((g2.same iX).trans g2.sub) bj,fun x H2 hy=>?_⟩;have Be:ds[i]?=some ds[i]:=by simp [bj]
  obtain ⟨bt,g3,rx⟩:=src.kQ i H' x H2 av ds[i] (g2.same iX) g2.sub Be hy;have EA:ds.drop i=ds[i]::ds.drop (i+1):=by rw [List.drop_eq_getElem_cons bj]
  rw [EA] at gU;unfold cQ at gU;obtain ⟨y,HC,OW⟩:=aj gU;obtain ⟨zs,hz,Cs⟩:=aj OW;clear gU OW;have ν:=HC;rw [<- hf] at HC;obtain ⟨ρ',iP,OX⟩:=aj HC;obtain ⟨b,hb,HE⟩:=aj OX;clear HC OX;have gA:aI H1 ay H2 bt:=g2.trans g3;refine rZ g3.sub iP rx fun l hl mE ox=>?_
  have slots:∀ j∈aN t,(cD N scope)[j]?=some false:=Yv xE;have EB:(bL eD Y).length=(bL (cD N scope) Z).length:=by rw [jO,jO];exact hv.1
  have mV:(l.map fun p=>(p.1,p.2.2)).map (·.1)=aN t:=by rw [<- hl,List.map_map];rfl
  have mD:(l.map fun p=>(p.1,p.2.1)).map (·.1)=aN t:=by rw [<- hl,List.map_map];rfl
  have ext:ZG (bL (cD N scope) Z) (putL (bL (cD N scope) Z) (l.map fun p=>(p.1,p.2.2))):=⟨oZ _ _,fun j v q=>by
   have hj:j ∉ aN t:=fun hj=>by
    have:=(pU q).1;rw [slots j hj] at this;cases this
   rw [Gy (by rw [mV];exact hj)];exact q⟩
  have OY:∀ {U'},(∀ j∈U',j∈Uc++Ub)->Vs (aE X) ρ' (putL (bL (cD N scope) Z) (l.map fun p=>(p.1,p.2.2))) bt U':=fun {U'} hU=>by
   refine ⟨by rw [ox,oZ,oZ];exact EB,fun j hj d nI=>?_⟩;rw [ox] at nI;refine Gb EB mE nI (.inl fun d2 hd2=>?_);obtain ⟨c1,c2⟩:=pU hd2;obtain ⟨v,e1,r1⟩:=hv.r.2 j (hU j hj) d2 c2;exact ⟨v,Dj (by rw [<- t9];exact c1) e1,r1.mono (((g1.trans gA).same hs))⟩
  refine ⟨ext,?_⟩;have OZ:H2 A=some (.lst ys):=g3.keep A _ eA;have step:∀ H4 kH,aI H2 bt H4 kH->(if b=true then tM X Ub rb (putL (bL (cD N scope) Z) (l.map fun p=>(p.1,p.2.2))) H4 (fun y' H5=>H5 A=some (.lst ys)/\ys.length < sizeLine/\∃ m',m' < ds.length - i/\(m'=ds.length - (i+1)/\i+1<=ds.length/\∃ av ou rest,aI H1 ay (upd H5 A (.lst (ys++[y']))) av/\av A=none/\(upd H5 A (.lst (ys++[y']))) A=some (.lst (ys++[y']))/\ax (aE X) av ou (ys++[y'])/\cQ f (ds.drop (i+1))=.ok rest/\ou++rest=Ex))
    else ∃ m',m' < ds.length - i/\(m'=ds.length - (i+1)/\i+1<=ds.length/\∃ av ou rest,aI H1 ay H4 av/\av A=none/\H4 A=some (.lst ys)/\ax (aE X) av ou ys/\cQ f (ds.drop (i+1))=.ok rest/\ou++rest=Ex)):=by
   intro H4 kH g4;have f4:kH A=none:=by rw [(g3.trans g4).old A _ eA];exact fA
   cases b with
   | false =>
    rw [if_neg (by decide)];rw [if_neg (by decide)] at HE;cases HE;cases Cs;exact ⟨_,by omega,rfl,bj,kH,ou,zs,gA.trans g4,f4,g4.keep A _ OZ,rA.mono ((g3.trans g4).same g2.sub),hz,sd⟩
   | true =>
    rw [if_pos rfl];rw [if_pos rfl] at HE;obtain ⟨w,hw,W_⟩:=aj HE;cases W_;cases Cs;refine ⟨ρ',kH,w,g4.sub,(OY fun j hj=>vn _ hj).mono (g4.same g3.sub),hw,fun y' H5 xF g5 r5=>?_⟩;have a5:H5 A=some (.lst ys):=(g4.trans g5).keep A _ OZ;have f5:xF A=none:=by rw [((g3.trans g4).trans g5).old A _ eA];exact fA
    have rl:=rA.length;have hlen:ys.length < sizeLine:=by
     have:ou.length+(w::zs).length=Ex.length:=by rw [<- List.length_append,sd]
     rw [List.length_cons] at this;omega
    refine ⟨a5,hlen,_,by omega,rfl,bj,xF,ou++[w],zs,?_,f5,aC,?_,hz,by rw [List.append_assoc];exact sd⟩
    .have g6:=(gA.trans g4).trans g5;refine ⟨fun c o q=>by rw [ak (aq q hA)];exact g6.keep c o q,g6.old,fun c o q=>?_⟩;rw [ak (aq q f5)];exact g6.sub c o q
    .exact (rA.mono (((g3.trans g4).trans g5).same g2.sub)).append (ax.one r5)
  cases hc with
  | false =>
   rw [if_neg (by decide)] at hb;cases hb;exact step H2 bt (aI.refl g3.sub)
  | true =>
   rw [if_pos rfl] at hb;obtain ⟨x2,EC,dM⟩:=aj hb;cases cV dM;exact ⟨ρ',bt,b,g3.sub,OY fun j hj=>vk _ hj,EC,fun H4 kH g4=>step H4 kH g4⟩
 .have e:i=ds.length:=by omega
  subst e;refine .inl ⟨src.stop H' ((g2.same iX).trans g2.sub),?_⟩;rw [List.drop_length] at gU;cases gU;rw [List.append_nil] at sd;subst sd;have m2:ar av (upd av A (.lst ys)):=fun c o q=>by rw [ak (aq q fA)];exact q
  refine k _ _ (upd av A (.lst ys)) (g1.trans ⟨g2.keep,fun c o q=>by rw [ak (aq q hA)];exact g2.old c o q,fun c o q=>?_⟩) (cP.mpr ⟨A,ys,rfl,cm.of aC,rA.mono m2⟩) ⟨A,ys,_,rfl,rfl,(show ar H H1 from g1.keep).free hA,aC,rA.mono m2⟩;by_cases z:c=A
  .subst z;rw [aC] at q;cases q;exact eA
  .rw [ak z] at q;exact g2.sub c o q
end
noncomputable def plainT:Expr->Bool
 | .UnaryOp .Not _ _=>false
 | .BoolOp ..=>false
 | .IfExp ..=>false
 | .Compare ..=>false
 | _=>true
def mX (h:plainT e=true):∀ whole,isTrue e env whole=(do let v <- whole;standAt e.pos;holding [v] (truthy v)):=by
 intro whole;cases e <;> first | rfl | (cases h;done) | skip
 rename_i op a p;cases op <;> first | rfl | cases h
def OD (X:Cx) (U:zi) (r:En->R D) (e:Expr):Prop:=PE X e (tM X U r)/\PT X e (lK X U r)
def Good (T:Tx) (cl:Nat->List D->R D) (m:M):Prop:=∀ {X:Cx}{sc:Scope}{e:Expr},cF T cl X->aL sc X->a8 T X.N m sc e=true->OD X (aK m) (aw cl m) e
variable {k:IK}{src:List M}
section
variable {T:Tx}{cl:Nat->List D->R D}{X:Cx}{sc:Scope}{U:zi}{r:En->R D}{e:Expr}
def bG (h:PE X e (tM X U r)) (hp:plainT e=true):OD X U r e:=⟨h,Ry h (mX hp)⟩
theorem jj (C:cF T cl X) (S:aL sc X):∀ {ms:List M}{es:zl},(∀ m∈ms,Good T cl m)->cu T X.N ms sc es=true->es.all noStar=true->PA X es (mB X (bK ms) (cj cl ms))
 | [],es,G,h,hn=>by
  rw [tL,List.isEmpty_iff] at h;subst h;have e:cj cl []=fun _=>.ok []:=funext fun _=>by simp only [cj]
  rw [e];simp only [bK];exact VB
 | m::ms,[],G,h,hn=>by cases h
 | m::ms,x::es,G,h,hn=>by
  simp only [dj,Bool.and_eq_true] at h;simp only [List.all_cons,Bool.and_eq_true] at hn;have e:cj cl (m::ms)=(fun Y=>(do let d <- aw cl m Y;let ds <- cj cl ms Y;.ok (d::ds))):=funext fun _=>by simp only [cj]
  rw [e];simp only [bK];exact Ul (G m vj C S h.1).1 (jj C S (fun q hq=>G q (vi _ hq)) h.2 hn.2) hn.1
theorem zj:∀ {ms:List M}{Y:En}{ds:List D},cj cl ms Y=.ok ds->ds.length=ms.length
 | [],Y,ds,h=>by simp only [cj] at h;cases h;rfl
 | m::ms,Y,ds,h=>by
  simp only [cj] at h;obtain ⟨x,hx,h1⟩:=aj h;obtain ⟨xs,uB,h2⟩:=aj h1;have:=zj uB;cases h2;simp [this]
theorem Ab:∀ {ms:List M}{es:zl},cu T X.N ms sc es=true->es.length=ms.length
 | [],es,h=>by
  rw [tL,List.isEmpty_iff] at h;rw [h];rfl
 | m::ms,[],h=>by cases h
 | m::ms,e::es,h=>by
  simp only [dj,Bool.and_eq_true] at h;simp [Ab h.2]
theorem Jt (C:cF T cl X) (S:aL sc X) {pos:Pos}:∀ {ms:List M}{es:zl},(∀ m∈ms,Good T cl m)->cu T X.N ms sc es=true->ms.isEmpty=false->PE X (.BoolOp .And es pos) (tM X (bK ms) (iW cl ms))/\PW X (.BoolOp .And es pos) (lK X (bK ms) (iW cl ms))
 | [],es,G,h,hn=>by cases hn
 | m::ms,[],G,h,hn=>by cases h
 | [m],[x],G,h,hn=>by
  simp only [dj,Bool.and_eq_true] at h;obtain ⟨g1,g2⟩:=G m vj C S h.1;constructor
  .refine bN (Qo g1) fun Z H Q=>?_
   rintro ⟨Y,Hs,z,hs,hv,h,k⟩;simp only [iW] at h;obtain ⟨d,hd,h1⟩:=aj h;obtain ⟨t,ht,h2⟩:=aj h1;clear h h1;cases cV ht;cases h2;simp only [bK] at hv;exact ⟨Y,Hs,_,hs,hv.lh,hd,k⟩
  .have:=WX (pos:=pos) g2;intro wh ab s Z H Q I hq;refine this wh ab s Z H Q I ?_;obtain ⟨Y,Hs,z,hs,hv,h,k⟩:=hq;simp only [iW] at h;obtain ⟨d,hd,h1⟩:=aj h;obtain ⟨t,ht,h2⟩:=aj h1;clear h h1;cases cV ht;cases h2;simp only [bK] at hv;exact ⟨Y,Hs,_,hs,hv.lh,hd,k⟩
 | [m],x::y::es,G,h,hn=>by rw [dj,tL] at h;simp at h
 | m::m'::ms,[x],G,h,hn=>by rw [dj,Kf] at h;simp at h
 | m::m'::ms,x::y::es,G,h,hn=>by
  have h':=h;simp only [dj,Bool.and_eq_true] at h;obtain ⟨g1,g2⟩:=G m vj C S h.1;obtain ⟨i1,i2⟩:=Jt C S (pos:=pos) (ms:=m'::ms) (es:=y::es) (fun q hq=>G q (vi _ hq)) (by simp only [dj,Bool.and_eq_true];exact h.2) rfl;constructor
  .refine bN (XM g1 i1) fun Z H Q=>?_
   rintro ⟨Y,Hs,z,hs,hv,h,k⟩;simp only [iW] at h;obtain ⟨d,hd,h1⟩:=aj h;obtain ⟨t,ht,h2⟩:=aj h1;clear h h1;cases cV ht;rw [bK] at hv;refine ⟨Y,Hs,_,hs,hv.lh,hd,fun v H1 ay g1 r1=>⟨t,ni.mp r1,?_⟩⟩;cases t with
   | false=>rw [if_neg (by decide)];rw [if_neg (by decide)] at h2;cases h2;exact (k.grow g1).bl g1.sub
   | true=>rw [if_pos rfl];rw [if_pos rfl] at h2;exact ⟨Y,ay,z,g1.sub,hv.r.mono (g1.same hs),h2,k.grow g1⟩
  .have:=ZR (pos:=pos) g2 i2;intro wh ab s Z H Q I hq;refine this wh ab s Z H Q I ?_;obtain ⟨Y,Hs,z,hs,hv,h,k⟩:=hq;simp only [iW] at h;obtain ⟨d,hd,h1⟩:=aj h;obtain ⟨t,ht,h2⟩:=aj h1;clear h h1;cases cV ht;rw [bK] at hv;refine ⟨Y,Hs,t,hs,hv.lh,hd,fun H1 ay g1=>?_⟩;cases t with
   | false=>rw [if_neg (by decide)];rw [if_neg (by decide)] at h2;cases h2;exact k H1 ay g1
   | true=>rw [if_pos rfl];rw [if_pos rfl] at h2;exact ⟨Y,ay,z,g1.sub,hv.r.mono (g1.same hs),h2,fun H' av g=>k H' av (g1.trans g)⟩
theorem Ox (C:cF T cl X) (S:aL sc X) {pos:Pos}:∀ {ms:List M}{es:zl},(∀ m∈ms,Good T cl m)->cu T X.N ms sc es=true->ms.isEmpty=false->PE X (.BoolOp .Or es pos) (tM X (bK ms) (lB cl ms))/\PW X (.BoolOp .Or es pos) (lK X (bK ms) (lB cl ms))
 | [],es,G,h,hn=>by cases hn
 | m::ms,[],G,h,hn=>by cases h
 | [m],[x],G,h,hn=>by
  simp only [dj,Bool.and_eq_true] at h;obtain ⟨g1,g2⟩:=G m vj C S h.1;constructor
  .refine bN (Qo g1) fun Z H Q=>?_
   rintro ⟨Y,Hs,z,hs,hv,h,k⟩;simp only [lB] at h;obtain ⟨d,hd,h1⟩:=aj h;obtain ⟨t,ht,h2⟩:=aj h1;clear h h1;cases cV ht;cases h2;simp only [bK] at hv;exact ⟨Y,Hs,_,hs,hv.lh,hd,k⟩
  .have:=X4 (pos:=pos) g2;intro wh ab s Z H Q I hq;refine this wh ab s Z H Q I ?_;obtain ⟨Y,Hs,z,hs,hv,h,k⟩:=hq;simp only [lB] at h;obtain ⟨d,hd,h1⟩:=aj h;obtain ⟨t,ht,h2⟩:=aj h1;clear h h1;cases cV ht;cases h2;simp only [bK] at hv;exact ⟨Y,Hs,_,hs,hv.lh,hd,k⟩
 | [m],x::y::es,G,h,hn=>by rw [dj,tL] at h;simp at h
 | m::m'::ms,[x],G,h,hn=>by rw [dj,Kf] at h;simp at h
 | m::m'::ms,x::y::es,G,h,hn=>by
  simp only [dj,Bool.and_eq_true] at h;obtain ⟨g1,g2⟩:=G m vj C S h.1;obtain ⟨i1,i2⟩:=Ox C S (pos:=pos) (ms:=m'::ms) (es:=y::es) (fun q hq=>G q (vi _ hq)) (by simp only [dj,Bool.and_eq_true];exact h.2) rfl;constructor
  .refine bN (Rc g1 i1) fun Z H Q=>?_
   rintro ⟨Y,Hs,z,hs,hv,h,k⟩;simp only [lB] at h;obtain ⟨d,hd,h1⟩:=aj h;obtain ⟨t,ht,h2⟩:=aj h1;clear h h1;cases cV ht;rw [bK] at hv;refine ⟨Y,Hs,_,hs,hv.lh,hd,fun v H1 ay g1 r1=>⟨t,ni.mp r1,?_⟩⟩;cases t with
   | true=>rw [if_pos rfl];rw [if_pos rfl] at h2;cases h2;exact (k.grow g1).bl g1.sub
   | false=>rw [if_neg (by decide)];rw [if_neg (by decide)] at h2;exact ⟨Y,ay,z,g1.sub,hv.r.mono (g1.same hs),h2,k.grow g1⟩
  .have:=Q2 (pos:=pos) g2 i2;intro wh ab s Z H Q I hq;refine this wh ab s Z H Q I ?_;obtain ⟨Y,Hs,z,hs,hv,h,k⟩:=hq;simp only [lB] at h;obtain ⟨d,hd,h1⟩:=aj h;obtain ⟨t,ht,h2⟩:=aj h1;clear h h1;cases cV ht;rw [bK] at hv;refine ⟨Y,Hs,t,hs,hv.lh,hd,fun H1 ay g1=>?_⟩;cases t with
   | true=>rw [if_pos rfl];rw [if_pos rfl] at h2;cases h2;exact k H1 ay g1
   | false=>rw [if_neg (by decide)];rw [if_neg (by decide)] at h2;exact ⟨Y,ay,z,g1.sub,hv.r.mono (g1.same hs),h2,fun H' av g=>k H' av (g1.trans g)⟩
def sY (C:cF T cl X) (S:aL sc X)  (G:∀ m∈src,Good T cl m) (h1:gR sc k tg iter=true) (h2:cu T X.N src sc (iT k iter)=true) :
  PI X tg iter (tI X (bK src) fun Y=>do let ss <- cj cl src Y;itemsOf k ss):=by
 cases k with
 | seq =>
  rcases src with _ | ⟨m,_ | ⟨m',ms⟩⟩
  .cases h2
  .replace h2:(a8 T X.N m sc iter && cu T X.N [] sc [])=true:=h2;simp only [Bool.and_eq_true] at h2;have g:=(G m vj C S h2.1).1;intro ab s Z H R I hq;refine Zq g ab s Z H R I ?_;obtain ⟨Y,Hs,ds,hs,hv,h,k⟩:=hq;simp only [qI,qW] at h;simp only [NQ,Fy] at hv;obtain ⟨ss,ED,h3⟩:=aj h;obtain ⟨d,hd,h4⟩:=aj ED;simp only [qP] at h4;cases h4;exact ⟨Y,Hs,ds,hs,hv.lh,by simp only [hd,qP];exact h3,k⟩
  ·(replace h2:(a8 T X.N m sc iter && false)=true:=h2;simp at h2)
 | jS =>
  .obtain ⟨f,p,es,q,rfl,h3⟩:=fj h1;simp only [Bool.and_eq_true,decide_eq_true_eq,Bool.or_eq_true] at h3;obtain ⟨⟨⟨rfl,hg⟩,hl⟩,hn⟩:=h3;have gg:=S.om _ hg;replace h2:cu T X.N src sc es=true:=h2;have pa:=jj C S G h2 hn;have len:=Ab h2;rcases es with _ | ⟨x,_ | ⟨y,_ | ⟨z,zs⟩⟩⟩
   .simp at hl
   .simp only [List.all_cons,List.all_nil,Bool.and_eq_true] at hn;exact V2 C gg hn.1 pa fun Y ds h=>by rw [zj h,<- len];rfl
   .simp only [List.all_cons,List.all_nil,Bool.and_eq_true] at hn;exact Vp C gg hn.1 hn.2.1 pa fun Y ds h=>by rw [zj h,<- len];rfl
   .simp at hl
 | enum =>
  .obtain ⟨f,p,es,q,rfl,h3⟩:=fj h1;simp only [Bool.and_eq_true,decide_eq_true_eq] at h3;obtain ⟨⟨⟨⟨rfl,hg⟩,hl⟩,hn⟩,ht⟩:=h3;have gg:=S.om _ hg;replace h2:cu T X.N src sc es=true:=h2;have pa:=jj C S G h2 hn;rcases es with _ | ⟨x,_ | ⟨y,ys⟩⟩
   .simp at hl
   .simp only [List.all_cons,List.all_nil,Bool.and_eq_true] at hn;cases tg <;> try (cases ht;done)
    exact Wt C gg hn.1 pa
   .simp at hl
 | zip =>
  .obtain ⟨f,p,es,q,rfl,h3⟩:=fj h1;simp only [Bool.and_eq_true,decide_eq_true_eq] at h3;obtain ⟨⟨⟨⟨rfl,hg⟩,hl⟩,hn⟩,ht⟩:=h3;have gg:=S.om _ hg;replace h2:cu T X.N src sc es=true:=h2;have pa:=jj C S G h2 hn;rcases es with _ | ⟨x,_ | ⟨y,_ | ⟨z,ys⟩⟩⟩
   .simp at hl
   .simp at hl
   .simp only [List.all_cons,List.all_nil,Bool.and_eq_true] at hn;cases tg <;> try (cases ht;done)
    exact YX C gg hn.1 hn.2.1 pa
   .simp at hl
end
variable {ms:List M}{b c lo:M}
section
variable {T:Tx}{cl:Nat->List D->R D}
def T8 :Good T cl (.var i):=by
 intro X sc e C S h;have ee:aw cl (.var i)=fun Y=>cY Y i:=rfl
 rw [ee];obtain ⟨_,_,rfl⟩:=fu h;rw [WR] at h;simp only [Bool.and_eq_true,decide_eq_true_eq] at h;exact bG (Gk h.2 (S.s_ _ h.1.2) h.1.1) rfl
def T6 :Good T cl (.con d):=by
 intro X sc e C S h;have ee:aw cl (.con d)=fun _=>.ok d:=rfl
 rw [ee];cases e <;> try (cases h;done)
 .exact bG (XH h) rfl
 .rw [QM] at h;simp only [Bool.and_eq_true] at h;exact bG (Wm C (S.om _ h.1.2) h.1.1 (Z1 h.2)) rfl
def Sw (G:∀ m∈ms,Good T cl m):Good T cl (.tup ms):=by
 intro X sc e C S h;have ee:aw cl (.tup ms)=fun Y=>(do let ds <- cj cl ms Y;if ds.length<=lim then .ok (.tup ds) else .stuck):=rfl
 rw [ee];obtain ⟨_,_,_,rfl⟩:=CJ h;rw [Wo] at h;simp only [Bool.and_eq_true] at h;exact bG (Zi (jj C S G h.1 h.2)) rfl
def TV (G:∀ m∈ms,Good T cl m):Good T cl (.lst ms):=by
 intro X sc e C S h;have ee:aw cl (.lst ms)=fun Y=>(do let ds <- cj cl ms Y;if ds.length<=lim then .ok (.lst ds) else .stuck):=rfl
 rw [ee];obtain ⟨_,_,rfl⟩:=Aa h;rw [Ke] at h;simp only [Bool.and_eq_true] at h;exact bG (XJ (jj C S G h.1 h.2)) rfl
def Rk:Good T cl .ft:=by
 intro X sc e C S h;have ee:aw cl .ft=fun _=>.ok (.bE [] []):=rfl
 rw [ee];obtain ⟨ks,vs,p,rfl⟩:=uD h;cases ks <;> cases vs <;> first | exact bG WE rfl | cases h
def Rb {a:M} (gc:Good T cl c) (ga:Good T cl a) (gb:Good T cl b):Good T cl (.ite c a b):=by
 intro X sc e C S h;have ee:aw cl (.ite c a b)=fun Y=>(do let x <- aw cl c Y;let t <- aV x;if t then aw cl a Y else aw cl b Y):=rfl
 rw [ee];obtain ⟨_,_,_,_,rfl⟩:=Pq h;rw [W3] at h;simp only [Bool.and_eq_true] at h;exact ⟨YT (gc C S h.1.1).2 (ga C S h.1.2).1 (gb C S h.2).1,Xx (gc C S h.1.1).2 (ga C S h.1.2).2 (gb C S h.2).2⟩
def SX:Good T cl .hJ:=by
 intro X sc e C S h;have ee:aw cl .hJ=fun _=>.ok (.bP []):=rfl
 rw [ee];obtain ⟨ks,vs,p,rfl⟩:=uD h;cases ks <;> cases vs <;> first | exact bG Z4 rfl | cases h
def Nt :Good T cl (.vals i):=by
 intro X sc e C S h;obtain ⟨_,p,es,q,rfl,h9⟩:=fj h;simp only [Bool.and_eq_true,decide_eq_true_eq] at h9;obtain ⟨⟨rfl,h2⟩,h3⟩:=h9;rcases es with _ | ⟨e',_ | ⟨e2,es⟩⟩ <;> try (cases h3;done)
 obtain ⟨x,p2,ap,cp,rfl,hl,h4⟩:=WK h3;simp only [Bool.and_eq_true,decide_eq_true_eq] at h4;exact bG (Vr C (S.om _ h2) h4.2 (S.s_ _ h4.1.1) h4.1.2 hl) rfl
def Tf {o:BO}{a:M} (ga:Good T cl a) (gb:Good T cl b):Good T cl (.bin o a b):=by
 intro X sc e C S h;have ee:aw cl (.bin o a b)=fun Y=>(do let x <- aw cl a Y;let y <- aw cl b Y;je o x y):=rfl
 rw [ee];obtain ⟨_,_,_,_,rfl⟩:=Nq h;rw [V1] at h;simp only [Bool.and_eq_true] at h;cases ZW h.1.1;exact bG (ZV o (ga C S h.1.2).1 (gb C S h.2).1) rfl
def QV {o:CO}{a:M} (ga:Good T cl a) (gb:Good T cl b):Good T cl (.cmp o a b):=by
 intro X sc e C S h;have ee:aw cl (.cmp o a b)=fun Y=>(do let x <- aw cl a Y;let y <- aw cl b Y;let r <- bw o x y;.ok (.bl r)):=rfl
 rw [ee];obtain ⟨x,ops,cs,p,rfl⟩:=yj h;rcases ops with _ | ⟨op,_ | ⟨W',ops⟩⟩ <;> rcases cs with _ | ⟨y,_ | ⟨y2,cs⟩⟩ <;> try (cases h;done)
 rw [V5] at h;simp only [Bool.and_eq_true] at h;cases Ht h.1.1.1;exact ⟨WG C.un o (ga C S h.1.2).1 (gb C S h.2).1 h.1.1.2,Z0 C.un o (ga C S h.1.2).1 (gb C S h.2).1 h.1.1.2⟩
def Lb {o:CO}{a:M} (ga:Good T cl a) (gb:Good T cl b) (gc:Good T cl c):Good T cl (.chain o o' a b c):=by
 intro X sc e C S h;have ee:aw cl (.chain o o' a b c)=fun Y=>(do let x <- aw cl a Y;let y <- aw cl b Y;let r <- bw o x y;if r then do let z <- aw cl c Y;let r2 <- bw o' y z;.ok (.bl r2) else .ok (.bl false)):=rfl
 rw [ee];obtain ⟨x,ops,cs,p,rfl⟩:=yj h;rcases ops with _ | ⟨op,_ | ⟨W',_ | ⟨ξ,ops⟩⟩⟩ <;> rcases cs with _ | ⟨y,_ | ⟨y2,_ | ⟨y3,cs⟩⟩⟩ <;> try (cases h;done)
 rw [Qj] at h;simp only [Bool.and_eq_true] at h;obtain ⟨⟨⟨⟨⟨⟨h1,h2⟩,h3⟩,h4⟩,h5⟩,h6⟩,h7⟩:=h;cases Ht h1;cases Ht h2;exact ⟨SN C.un o o' (ga C S h5).1 (gb C S h6).1 (gc C S h7).1 h4,S5 C.un o o' (ga C S h5).1 (gb C S h6).1 (gc C S h7).1 h4⟩
def RL (G:∀ m∈ms,Good T cl m):Good T cl (.and ms):=by
 intro X sc e C S h;have ee:aw cl (.and ms)=iW cl ms:=rfl;rw [ee];obtain ⟨op,es,p,rfl⟩:=Am h;cases op <;> try (cases h;done)
 rw [Wr] at h;simp only [Bool.and_eq_true,Bool.not_eq_true'] at h;obtain ⟨h1,h2⟩:=Jt C S (pos:=p) G h.1 h.2;exact ⟨h1,h2.pt⟩
def V0 (G:∀ m∈ms,Good T cl m):Good T cl (.or ms):=by
 intro X sc e C S h;have ee:aw cl (.or ms)=lB cl ms:=rfl;rw [ee];obtain ⟨op,es,p,rfl⟩:=Am h;cases op <;> try (cases h;done)
 rw [ZX] at h;simp only [Bool.and_eq_true,Bool.not_eq_true'] at h;obtain ⟨h1,h2⟩:=Ox C S (pos:=p) G h.1 h.2;exact ⟨h1,h2.pt⟩
def RQ {a:M} (ga:Good T cl a):Good T cl (.not a):=by
 intro X sc e C S h;have ee:aw cl (.not a)=fun Y=>(do let x <- aw cl a Y;let t <- aV x;.ok (.bl (!t))):=rfl
 rw [ee];obtain ⟨op,x,p,rfl⟩:=yc h;cases op <;> try (cases h;done)
 exact ⟨Y4 (ga C S h).1,Ym (ga C S h).2⟩
def Rj {a:M} (ga:Good T cl a):Good T cl (.neg a):=by
 intro X sc e C S h;have ee:aw cl (.neg a)=fun Y=>(do let x <- aw cl a Y;(match x with | .int i=>.ok (.int (-i)) | _=>.stuck)):=rfl
 rw [ee];obtain ⟨op,x,p,rfl⟩:=yc h;cases op <;> try (cases h;done)
 exact bG (Z5 (ga C S h).1) rfl
def W6 {a:M} (ga:Good T cl a) (gb:Good T cl b):Good T cl (.ix a b):=by
 intro X sc e C S h;have ee:aw cl (.ix a b)=fun Y=>(do let x <- aw cl a Y;let y <- aw cl b Y;f6 x y):=rfl
 rw [ee];obtain ⟨_,_,_,rfl⟩:=mW h;rw [YK] at h;simp only [Bool.and_eq_true] at h;exact bG (WI C.un (ga C S h.1.2).1 (gb C S h.2).1 h.1.1) rfl
def Kd (C:cF T cl X) (S:aL sc X) (g:Good T cl lo) (h:(match l with | none=>dh lo | some y=>!dh lo && a8 T X.N lo sc y)=true) :
  PO X l (Ee X (aK lo) fun Y=>if dh lo then .ok none else (do let d <- aw cl lo Y;lN d)):=by
 cases l with
 | none =>
  simp only at h;simp only [h,if_true];exact WN
 | some y =>
  simp only [Bool.and_eq_true,Bool.not_eq_true'] at h;simp only [h.1];exact WO (g C S h.2).1
theorem Ra {a hi:M} (ga:Good T cl a) (gl:Good T cl lo) (gh:Good T cl hi):Good T cl (.sZ a lo hi):=by
 intro X sc e C S h;have ee:aw cl (.sZ a lo hi)=fun Y=>(do
  let x <- aw cl a Y
  let l <- (if dh lo then .ok none else (do let d <- aw cl lo Y;lN d))
  let h <- (if dh hi then .ok none else (do let d <- aw cl hi Y;lN d))
  xy x l h):=rfl
 rw [ee];obtain ⟨x,sl,p,rfl⟩:=mW h;obtain ⟨l,u,st,p2,rfl⟩:=PL (show (bo 26 sl && _)=true from h);cases st <;> try (cases h;done)
 rw [Xo] at h;simp only [Bool.and_eq_true] at h;exact bG (Yj (ga C S h.1.1).1 (Kd C S gl h.1.2) (Kd C S gh h.2)) rfl
def Oq (G:∀ m∈ms,Good T cl m):Good T cl (.call f ms):=by
 intro X sc e C S h;have ee:aw cl (.call f ms)=fun Y=>(do let ds <- cj cl ms Y;cl f ds):=rfl
 rw [ee];obtain ⟨_,_,es,p,rfl,h9⟩:=fj h;replace h:=h9;clear h9;simp only [Bool.and_eq_true,decide_eq_true_eq] at h;obtain ⟨⟨⟨⟨h1,h2⟩,h3⟩,h4⟩,h5⟩:=h;cases es with
 | nil =>
  have:=Ab h4;cases ms with
  | nil =>
   simp only [T4,Fy,qW];exact bG (Ur C (S.om _ h2) h1 h3) rfl
  | cons _ _=>simp at this
 | cons x xs=>exact bG (Xi C (S.om _ h2) h1 h3 (jj C S G h4 h5) h5) rfl
def Tn {b:BI} (G:∀ m∈ms,Good T cl m):Good T cl (.blt b ms):=by
 intro X sc e C S h;have ee:aw cl (.blt b ms)=fun Y=>(do let ds <- cj cl ms Y;gj b ds):=rfl
 rw [ee];obtain ⟨_,_,es,p,rfl,h9⟩:=fj h;replace h:=h9;clear h9;simp only [Bool.and_eq_true,decide_eq_true_eq,Bool.not_eq_true'] at h;obtain ⟨⟨⟨⟨h1,h2⟩,h3⟩,h4⟩,h5⟩:=h;cases es with
 | nil=>cases h3
 | cons x xs =>
  by_cases hb:b=.bg
  .subst hb;cases xs with
   | cons _ _=>simp at h5
   | nil =>
    obtain ⟨_,_,oa,p2,rfl,O0⟩:=fj h5;replace h5:=O0;clear O0;simp only [Bool.and_eq_true,decide_eq_true_eq] at h5;obtain ⟨⟨⟨⟨q1,q2⟩,q3⟩,q4⟩,q5⟩:=h5;subst q1 h1;rcases oa with _ | ⟨y,_ | ⟨y2,ys⟩⟩
    .simp at q5
    .have O_:=q4;simp only [List.all_cons,List.all_nil,Bool.and_eq_true] at O_;exact bG (Iu C (S.om _ q2) (S.om _ h2) (jj C S G q3 q4) O_.1) rfl
    .simp at q5
  .have hp:Ce b=true:=by
    cases b <;> first | rfl | exact absurd rfl hb | cases h5
   have h6:cu T X.N ms sc (x::xs)=true:=by
    cases b <;> first | exact absurd rfl hb | exact h5 | cases hp
   exact bG (YC b C h1 (S.om _ h2) (jj C S G h6 h4) h4 hp) rfl
def OJ {a k d:M} (gk:Good T cl k) (gd:Good T cl d):Good T cl (.hV a k d):=by
 intro X sc e C S h;have h0:(Om a && Us "get" e _)=true:=h
 rw [Bool.and_eq_true] at h0;cases a <;> try (cases h0.1;done)
 rename_i i;have ee:aw cl (.hV (.var i) k d)=fun Y=>(do let x <- cY Y i;let y <- aw cl k Y;let z <- aw cl d Y;tY x y z):=rfl
 rw [ee];obtain ⟨x,p,ap,y,z,cp,rfl,hl,h9⟩:=Xq h0.2;simp only [Bool.and_eq_true,decide_eq_true_eq] at h9;obtain ⟨⟨⟨⟨⟨⟨h1,h2⟩,h3⟩,h4⟩,h5⟩,h6⟩,h7⟩:=h9;exact bG (Xp C.un h3 (S.s_ _ h1) h2 (gk C S h4).1 (gd C S h5).1 h6 h7 hl) rfl
def M8 {a:M}{t:Ty} (ga:Good T cl a):Good T cl (.isin a t):=by
 intro X sc e C S h;have ee:aw cl (.isin a t)=fun Y=>(do let x <- aw cl a Y;.ok (.bl (jE x t))):=rfl
 rw [ee];obtain ⟨_,_,es,p,rfl,h9⟩:=fj h;replace h:=h9;clear h9;rcases es with _ | ⟨y,_ | ⟨z,_ | ⟨z2,zs⟩⟩⟩ <;> try (cases h;done)
 obtain ⟨_,_,rfl⟩:=fu (show (bo 23 z && _)=true from h);replace h:(decide (_=("isinstance":Str)) && iK sc _ && a8 T X.N a sc y && noStar y && decide (_=t.nm) && iK sc _)=true:=h
 simp only [Bool.and_eq_true,decide_eq_true_eq] at h;obtain ⟨⟨⟨⟨⟨h1,h2⟩,h3⟩,h4⟩,h5⟩,h6⟩:=h;subst h1 h5;exact bG (Xd C t (S.om _ h2) (S.om _ h6) (ga C S h3).1 h4) rfl
def su (h:eG iter=true):∀ x,foldedSetIterable iter env x=pure x:=by
 intro x;cases iter <;> first | rfl | cases h
def oY (h:gR sc k tg iter=true):eG iter=true:=by
 cases k
 .exact h
 .obtain ⟨_,_,_,_,rfl,_⟩:=fj h;rfl
 .obtain ⟨_,_,_,_,rfl,_⟩:=fj h;rfl
 .obtain ⟨_,_,_,_,rfl,_⟩:=fj h;rfl
def JT {tg:Tg}:aw cl (.comp elt tg k src hc c eD)=fun Y=>(do
   let items <- (do let ss <- cj cl src Y;itemsOf k ss)
   let ys <- cQ (fun d=>do
    let ρ' <- c7 tg d (bL eD Y)
    let b <- (if hc then (do let x <- aw cl c ρ';aV x) else .ok true)
    if b then do let y <- aw cl elt ρ';.ok (some y) else .ok none) items
   if ys.length<=lim then .ok (.lst ys) else .stuck):=funext fun Y=>by
  simp only [qV];cases cj cl src Y <;> simp
def QL {tg:Tg} (ge:Good T cl elt) (gc:Good T cl c) (G:∀ m∈src,Good T cl m):Good T cl (.comp elt tg k src hc c eD):=by
 intro X sc e C S h;rw [JT];obtain ⟨i3,gens,scope,p,rfl⟩:=oE h;rcases gens with _ | ⟨⟨i4,iter,ifs,as⟩,_ | ⟨g2,gs⟩⟩ <;> try (cases h;done)
 rw [FZ] at h;simp only [Bool.and_eq_true,decide_eq_true_eq] at h;obtain ⟨⟨⟨⟨⟨⟨⟨h1,h2⟩,h3⟩,h4⟩,h5⟩,h6⟩,h7⟩,h8⟩:=h;subst h1;refine bG ?_ rfl;refine bN (yd C.calm (sY C S G h4 h5) (HD h2 S) (g:=A' X.K tg) (tt:=HA X hc (aK c) (aw cl c)) (te:=tM X (aK elt) (aw cl elt)) (fun bz bS fp xe=>?_) (su (oY h4))) fun Z H Q hq=>?_
 .have S':aL scope (cJ X scope bz bS fp xe):=Dv S;have C':=C.D' scope bz bS fp xe;refine ⟨jM C' S' h3,?_,(ge C' S' h7).1⟩;cases hc with
  | true =>
   rcases ifs with _ | ⟨i1,_ | ⟨i2,is⟩⟩ <;> try (cases h6;done)
   exact J5 (gc C' S' h6).2
  | false =>
   rcases ifs with _ | ⟨i1,is⟩ <;> try (cases h6;done)
   exact JN
 .exact CG h3 h8 (WZ hq)
theorem good:∀ m:M,Good T cl m
 | .var i=>T8
 | .con d=>T6
 | .tup ms=>Sw fun m hm=>good m
 | .lst ms=>TV fun m hm=>good m
 | .ft=>Rk
 | .hJ=>SX
 | .ite c a b=>Rb (good c) (good a) (good b)
 | .vals i=>Nt
 | .bin o a b=>Tf (good a) (good b)
 | .cmp o a b=>QV (good a) (good b)
 | .chain o o' a b c=>Lb (good a) (good b) (good c)
 | .and ms=>RL fun m hm=>good m
 | .or ms=>V0 fun m hm=>good m
 | .not a=>RQ (good a)
 | .neg a=>Rj (good a)
 | .ix a b=>W6 (good a) (good b)
 | .sZ a l h=>Ra (good a) (good l) (good h)
 | .hV a k d=>OJ (good k) (good d)
 | .call f ms=>Oq fun m hm=>good m
 | .blt b ms=>Tn fun m hm=>good m
 | .isin a t=>M8 (good a)
 | .comp elt tg k src hc c eD=>QL (good elt) (good c) fun m hm=>good m
termination_by m=>sizeOf m
decreasing_by
 all_goals simp_wf
 all_goals first | omega | (have:=List.sizeOf_lt_of_mem hm;omega)
end
noncomputable def gq:Expr->Bool
 | .ListComp ..=>false | .SetComp ..=>false | .DictComp ..=>false | _=>true
noncomputable def BX:M->Bool
 | .comp ..=>true | _=>false
def LQ (st:Stmt) (f:Str->Str->Expr->Bool->Bool):Bool:=k5 24 st && match st with
 | .Expr e _=>Mj e f
 | _=>false
variable {st:Stmt}
def FW {f:Str->Str->Expr->Bool->Bool} (h:LQ st f=true):∃ x p m ap v cp q,st=.Expr (.Call (.Attribute (.Name x p) m ap) [v] [] cp) q/\f x m v (ap.endLine == cp.line)=true:=by
 obtain ⟨e,q,rfl⟩:=zq h;obtain ⟨x,p,m,ap,v,cp,rfl,h2⟩:=Rh (show Mj e f=true from h);exact ⟨x,p,m,ap,v,cp,q,rfl,h2⟩
def Vg (st:Stmt) (f:Str->Expr->Expr->Bool):Bool:=k5 5 st && match st with
 | .Assign ts v _=>(match ts with
  | [tg]=>bo 21 tg && (match tg with | .Subscript o k _=>bo 23 o && (match o with | .Name x _=>f x k v | _=>false) | _=>false)
  | _=>false)
 | _=>false
def Td {f:Str->Expr->Expr->Bool} (h:Vg st f=true):∃ x p k p2 v q,st=.Assign [.Subscript (.Name x p) k p2] v q/\f x k v=true:=by
 obtain ⟨ts,v,q,rfl⟩:=Ay h;rcases ts with _ | ⟨tg,_ | ⟨Xs,ts⟩⟩ <;> try (cases h;done)
 obtain ⟨o,k,p2,rfl⟩:=mW (show (bo 21 tg && _)=true from h);obtain ⟨x,p,rfl⟩:=fu (show (bo 23 o && _)=true from h);exact ⟨x,p,k,p2,v,q,rfl,h⟩
def mZ:Tg->Expr->Bool
 | .one _,_=>true
 | _,v=>!GQ v
def XA (e:Expr):Bool:=bo 24 e && match e with | .List [] _=>true | _=>false
def Pc (e:Expr) (f:Str->Expr->Expr->Bool):Bool:=bo 16 e && match e with
 | .Call g es ks cp=>bo 20 g && (match g with
  | .Attribute c m ap=>bo 16 c && (match c with
   | .Call g2 oa HG se=>bo 20 g2 && (match g2 with
    | .Attribute o m2 mI=>bo 23 o && (match o,es,ks,oa,HG with
     | .Name x _,[v],[],[k,d],[]=>bo 24 d && (match d with
      | .List [] _=>decide (m="append") && decide (m2="setdefault") && (ap.endLine == cp.line) && (mI.endLine == se.line) && f x k v
      | _=>false)
     | _,_,_,_,_=>false)
    | _=>false)
   | _=>false)
  | _=>false)
 | _=>false
def Y6 {f:Str -> Expr -> Expr -> Bool} (h:Pc e f=true):∃ x p k lp mI se v ap cp,e=.Call (.Attribute (.Call (.Attribute (.Name x p) "setdefault" mI) [k,.List [] lp] [] se) "append" ap) [v] [] cp /\ (ap.endLine == cp.line)=true /\ (mI.endLine == se.line)=true /\ f x k v=true:=by
 obtain ⟨g,es,ks,cp,rfl⟩:=lC h;obtain ⟨c,m,ap,rfl⟩:=gW (show (bo 20 g && _)=true from h);obtain ⟨g2,oa,HG,se,rfl⟩:=lC (show (bo 16 c && _)=true from h);obtain ⟨o,m2,mI,rfl⟩:=gW (show (bo 20 g2 && _)=true from h);obtain ⟨x,p,rfl⟩:=fu (show (bo 23 o && _)=true from h);rcases es with _ | ⟨v,_ | ⟨v2,es⟩⟩ <;> try (cases h;done)
 rcases ks with _ | ⟨k,ks⟩ <;> try (cases h;done)
 rcases oa with _ | ⟨k,_ | ⟨d,_ | ⟨d2,oa⟩⟩⟩ <;> try (cases h;done)
 rcases HG with _ | ⟨k2,HG⟩ <;> try (cases h;done)
 obtain ⟨l,lp,rfl⟩:=Aa (show (bo 24 d && _)=true from h);rcases l with _ | ⟨a,l⟩ <;> try (cases h;done)
 have h2:(decide (m="append") && decide (m2="setdefault") && (ap.endLine == cp.line) && (mI.endLine == se.line) && f x k v)=true:=h
 simp only [Bool.and_eq_true,decide_eq_true_eq] at h2;obtain ⟨⟨⟨⟨rfl,rfl⟩,h3⟩,h4⟩,h5⟩:=h2;exact ⟨x,p,k,lp,mI,se,v,ap,cp,rfl,h3,h4,h5⟩
def EE (T:Tx) (N:zk) (sc:Scope) (i:Nat):GS->Stmt->Bool
 | .mz k v,st=>k5 24 st && match st with
  | .Expr e _=>Pc e fun x k' v'=>ju sc x && bR x && decide (N[i]?=some x) && a8 T N k sc k' && a8 T N v sc v' && noStar k' && noStar v'
  | _=>false
 | .a_ t ik src b,st=>k5 9 st && match st with
  | .For tg iter body f_ _=>f_.isEmpty && (gf N sc t tg && gR sc ik tg iter && cu T N src sc (iT ik iter) && (match body with | [s]=>EE T N sc i b s | _=>false))
  | _=>false
mutual
noncomputable def Ct (T:Tx) (N:zk) (sc:Scope):MS->Stmt->Bool
 | .set t e,st=>k5 5 st && match st with | .Assign [tg] v _=>gf N sc t tg && a8 T N e sc v && (gq v || BX e) && mZ t v | _=>false
 | .app i e,st=>LQ st fun x m v b=>ju sc x && bR x && decide (N[i]?=some x) && decide (m="append") && a8 T N e sc v && noStar v && b
 | .ext i e,st=>LQ st fun x m v b=>ju sc x && bR x && decide (N[i]?=some x) && decide (m="extend") && a8 T N e sc v && noStar v && b
 | .expr e,st=>k5 24 st && match st with | .Expr v _=>a8 T N e sc v && gq v | _=>false
 | .ret e,st=>k5 3 st && match st with
  | .Return (some v) _=>a8 T N e sc v
  | .Return none _=>dh e
  | _=>false
 | .ifs c a b,st=>k5 12 st && match st with | .If c' a' b' _=>a8 T N c sc c' && ko T N sc a a' && ko T N sc b b' | _=>false
 | .a_ t k src b,st=>k5 9 st && match st with | .For tg iter body f_ _=>f_.isEmpty && (gf N sc t tg && gR sc k tg iter && cu T N src sc (iT k iter) && ko T N sc b body) | _=>false
 | .r9,st=>match st with | .Raise ..=>true | _=>false
 | .og _ _,_=>false
 | .um i g,st=>EE T N sc i g st
 | .eh i k v,st=>Vg st fun x k' v'=>ju sc x && bR x && decide (N[i]?=some x) && kI k' && a8 T N k sc k' && a8 T N v sc v' && gq v'
 | .uu c b,st=>k5 11 st && match st with | .While c' b' f_ _=>f_.isEmpty && a8 T N c sc c' && ko T N sc b b' | _=>false
noncomputable def ko (T:Tx) (N:zk) (sc:Scope):List MS->zn->Bool
 | [],sts=>sts.isEmpty
 | m::ms,sts=>match sts with | st::sts=>Ct T N sc m st && ko T N sc ms sts | []=>false
end
variable {w c':Expr}{pos:Pos}{a' b':zn}
section
variable {T:Tx}{N:zk}{sc:Scope}{st:Stmt}{i:Nat}{e k v c:M}{t:Tg}{a b:List MS}{src:List M}{ik:IK}{sts:zn}{m:MS}
theorem Xu :Ct T N sc (.set t e) (.Assign [tg] w pos)=(gf N sc t tg && a8 T N e sc w && (gq w || BX e) && mZ t w):=rfl
theorem Uw :Ct T N sc (.expr e) (.Expr w pos)=(a8 T N e sc w && gq w):=rfl
theorem Wz :Ct T N sc (.ifs c a b) (.If c' a' b' pos)=(a8 T N c sc c' && ko T N sc a a' && ko T N sc b b'):=rfl
theorem Kg:ko T N sc [] sts=sts.isEmpty:=rfl
theorem Fz:ko T N sc (m::a) (st::sts)=(Ct T N sc m st && ko T N sc a sts):=rfl
end
section
variable {inv O:zi}{i j:Nat}{e k v c:M}{a b:List MS}{t:Tg}{ik:IK}{src:List M}{m:MS}
theorem QW:ux inv (.app i e) O=(if (without O (aK e)).contains i then some (some (without O (aK e))) else none):=rfl
theorem QZ:ux inv (.ext i e) O=(if (without O (aK e)).contains i then some (some (without O (aK e))) else none):=rfl
theorem Uk:ux inv (.ifs c a b) O=(do
  let x <- dB inv a O
  let y <- dB inv b O
  some (jm x y)):=rfl
theorem Rn:ux inv (.a_ t ik src b) O=(do
  let O1:=without (without O (bK src)) (aN t)
  let x <- dB O1 b O1
  let O2:=(jm (some O1) x).getD []
  let y <- dB O2 b O2
  match y with
  | none=>some (some O2)
  | some O3=>if O2.all (fun i=>O3.contains i) then some (some O2) else none):=rfl
theorem Dh:dB inv (m::a) O=(do
  let x <- ux inv m O
  match x with
  | none=>some none
  | some O1=>dB inv a O1):=rfl
end
def lH (g:G) (E:Ent) (Es Hs:Hp) (O':Ow) (inv:zi) (D:Ends):Out->Prop
 | .nx ρ'=>∀ O1,O'=some O1->∀ a9 H' av,FR g E Es O1 ρ' a9 H' av->ar Hs av->D.nx a9 H'
 | .rt d=>∀ v H' av,aI E.hp Es H' av->Rp g av d v->D.rt v H'
variable {inv:zi}
def lH.mono {E:Ent}{Es:Hp}{O':Ow}{D:Ends}{o:Out} (h:lH g E Es Hs O' inv D o) (m:ar Hs ay):lH g E Es ay O' inv D o:=by
 cases o with
 | nx Y=>exact fun O1 e a9 H' av F s=>h O1 e a9 H' av F (m.trans s)
 | rt d=>exact h
def gi (X:Cx) (E:Ent) (Es:Hp) (O:zi) (O':Ow) (inv:zi) (run:En->R Out):TS:=fun D Z H=>∃ Y Hs o,FR (aE X) E Es O Y Z H Hs/\run Y=.ok o/\lH (aE X) E Es Hs O' inv D o
def cI {t t':TS} (h:PS X st t) (i:∀ D Z H,t' D Z H->t D Z H):PS X st t':=fun ab s Z H D I hq=>h ab s Z H D I (i D Z H hq)
def nQ {st:zn}{t t':TS} (h:gu X st t) (i:∀ D Z H,t' D Z H->t D Z H):gu X st t':=fun ab s Z H D I hq=>h ab s Z H D I (i D Z H hq)
section
variable {g:G}{E:Ent}{Es:Hp}{O O':zi}{Y:En}{Z:St}{H Hs H' av:Hp}
def FR.vh (F:FR g E Es O Y Z H Hs)  (h:∀ i∈U,i ∉ O):Vs g Y Z Hs U:=⟨F.len,fun i hi d e=>F.val i d e (h i hi)⟩
def FR.iz (F:FR g E Es O Y Z H Hs) (U:zi):∃ av,FR g E Es (without O U) Y Z H av/\ar Hs av/\Vs g Y Z av U:=by
 obtain ⟨av,F',m,_⟩:=FR.uv U F;exact ⟨av,F',m,F'.vh fun i hi hm=>(bQ.mp hm).2 hi⟩
def FR.lL (F:FR g E Es O Y Z H Hs) (U:zi):∃ av,FR g E Es (without O U) Y Z H av/\ar Hs av/\Vs g Y Z av U/\gP Hs av:=by
 obtain ⟨av,F',m,w⟩:=FR.uv U F;exact ⟨av,F',m,F'.vh fun i hi hm=>(bQ.mp hm).2 hi,w⟩
theorem FR.putL:∀ {l:List (Nat × D × V)}{O:zi}{Y:En}{Z:St},FR g E Es O Y Z H Hs->(∀ q∈E.ab,q.1 ∉ l.map (·.1))->(∀ p∈l,Rp g Hs p.2.1 p.2.2)->FR g E Es (without O (l.map (·.1))) (putL Y (l.map fun p=>(p.1,p.2.1))) (putL Z (l.map fun p=>(p.1,p.2.2))) H Hs
 | [],O,Y,Z,F,hq,h=>F.gz fun i=>by rw [bQ];simp
 | (i,d,v)::l,O,Y,Z,F,hq,h=>by
  have F1:=F.D8 (i:=i) (fun q hm e=>hq q hm (by rw [List.map_cons,e];exact vj)) (h _ vj);have F2:=FR.putL F1 (fun q hm e=>hq q hm (vi _ e)) fun p hp=>h p (vi _ hp)
  simp only [List.map_cons,Mi.putL];refine F2.gz fun j=>?_
  rw [bQ,bQ,bQ];simp;constructor
  .rintro ⟨a,b,c⟩;exact ⟨⟨a,b⟩,c⟩
  .rintro ⟨⟨a,b⟩,c⟩;exact ⟨a,b,c⟩
end
variable {v:Expr}
def jx {t:Option Expr}{l:Nat} (h:gq v=true):swapsWith v t l env=pure false:=by
 cases v <;> first | rfl | cases h
def iV (h:mZ t v=true) (h1:gf N sc t tg=true):swappedStores [tg] v env=pure none:=by
 cases t with
 | one i =>
  obtain ⟨_,_,rfl,_⟩:=rY h1;cases v <;> rfl
 | two i j =>
  obtain ⟨_,_,_,_,_,_,rfl,_⟩:=sI h1;cases v <;> first | (cases h;done) | rfl
def dm (h:gf N sc t tg=true):(assignEach [tg] env).map (·.2)=[assign tg env]:=by
 cases t with
 | one i =>
  obtain ⟨_,_,rfl,_⟩:=rY h;rfl
 | two i j =>
  obtain ⟨_,_,_,_,_,_,rfl,_⟩:=sI h;rfl
variable {i4:Tg}{body:zn}{O2:zi}{y:Ow}
section
variable {T:Tx}{cl:Nat->List D->R D}{X:Cx}{sc:Scope}{E:Ent}{Es:Hp}{O:zi}{inv:zi}{pos:Pos}
def Qt {e:M} (C:cF T cl X) (S:aL sc X) (hq:∀ q∈E.ab,q.1 ∉ aN t) (h1:gf X.N sc t tg=true) (h2:a8 T X.N e sc v=true) (h3:gq v=true) (h4:mZ t v=true) :
  PS X (.Assign [tg] v pos) (gi X E Es O (some (without (without O (aK e)) (aN t))) inv (bZ cl (.set t e))):=by
 refine cI (lQ (good e C S h2).1 (jM C S h1) (jx (t:=some tg) (l:=pos.line) (env:=X.env) h3) (iV h4 h1) (dm h1)) fun D Z H=>?_
 rintro ⟨Y,Hs,o,F,h,k⟩;simp only [qr,qu,qv,qR,qw,qx,qy,qz] at h;obtain ⟨d,hd,hb⟩:=aj h;obtain ⟨ρ',iP,dM⟩:=aj hb;clear h hb;cases dM;obtain ⟨ay,F1,m1,vs⟩:=F.iz (aK e);refine ⟨Y,ay,d,F1.sub,vs,hd,fun x H1 bt g2 r2=>?_⟩;have F2:=F1.grown g2;refine rZ (X:=X) g2.sub iP r2 fun l hl mE ox=>?_
 have F3:=F2.putL (by rw [hl];exact hq) mE;rw [hl,<- ox] at F3;exact k _ rfl _ _ _ F3 (m1.trans (g2.same F1.sub))
noncomputable def LO (sc:Scope) (x:Str) (l1 l2:Nat) (scope:Scope):Bool:=(sc.names.lookup x == some .local) && l1 == l2 && !(scope.names.any fun (n,k)=>n == x && (k == .local || k == .cell))
def Hi {elt:Expr}{gs:List Comprehension}{p':Pos}{l:Nat} (hk:env.scope.kind=.function):swapsWith (.ListComp elt gs scope p) (some (.Name x p')) l env=pure (LO env.scope x p'.line p.line scope):=by
 show (pure (env.blockKind == .function && env.kindOf x == some .local && p'.line == p.line && !(scope.names.any fun (n,k)=>n == x && (k == .local || k == .cell))):Sem Bool)=_
 have hb:env.blockKind=.function:=by unfold Env.blockKind;rw [hk];rfl
 rw [hb];rfl
def RG {Pd:TS} (C:cF T cl X) (S:aL sc X) (h1:gf X.N sc t tg=true) (h2:a8 T X.N (.comp elt i4 k src hc c eD) sc v=true) (h4:mZ t v=true)
  (read:∀ D Z H,Pd D Z H->Q8 (Eg X (aK (.comp elt i4 k src hc c eD)) (aw cl (.comp elt i4 k src hc c eD))) (A' X.K t) D Z H):PS X (.Assign [tg] v pos) Pd:=by
 have xD:=h2;obtain ⟨i3,gens,scope,p,rfl⟩:=oE xD;rcases gens with _ | ⟨⟨HH,iter,ifs,as⟩,_ | ⟨g2,gs⟩⟩ <;> try (cases xD;done)
 rw [FZ] at xD;simp only [Bool.and_eq_true,decide_eq_true_eq] at xD;obtain ⟨⟨⟨⟨⟨⟨⟨q1,q2⟩,q3⟩,q4⟩,q5⟩,q6⟩,q7⟩,q8⟩:=xD;subst q1;have D':∀ bz bS fp xe,PG (cJ X scope bz bS fp xe) HH (A' X.K i4)/\B6 (cJ X scope bz bS fp xe) ifs (HA X hc (aK c) (aw cl c))/\PE (cJ X scope bz bS fp xe) i3 (tM X (aK elt) (aw cl elt)):=fun bz bS fp xe=>by
  have S':aL scope (cJ X scope bz bS fp xe):=Dv S;have C':=C.D' scope bz bS fp xe;refine ⟨jM C' S' q3,?_,(good elt C' S' q7).1⟩;cases hc with
  | true =>
   rcases ifs with _ | ⟨i1,_ | ⟨i2,is⟩⟩ <;> try (cases q6;done)
   exact J5 (good c C' S' q6).2
  | false =>
   rcases ifs with _ | ⟨i1,is⟩ <;> try (cases q6;done)
   exact JN
 have rd:∀ Z H (Q:VK),Eg X (aK (.comp elt i4 k src hc c eD)) (aw cl (.comp elt i4 k src hc c eD)) Z H Q->Bs (tI X (bK src) fun Y=>do let ss <- cj cl src Y;itemsOf k ss) (A' X.K i4) (HA X hc (aK c) (aw cl c)) (tM X (aK elt) (aw cl elt)) (bL (cD X.N scope)) Z H Q:=fun Z H Q h=>by
  rw [JT] at h;exact CG q3 q8 h
 have hE:PE X (.ListComp i3 [⟨HH,iter,ifs,0⟩] scope p) (Eg X (aK (.comp elt i4 k src hc c eD)) (aw cl (.comp elt i4 k src hc c eD))) :=
  bN (yd C.calm (sY C S (fun m _=>good m) q4 q5) (HD q2 S) D' (su (oY q4))) rd
 cases t with
 | two i j =>
  have lx:∀ l env,swapsWith (.ListComp i3 [⟨HH,iter,ifs,0⟩] scope p) (some tg) l env=pure false:=fun l env=>by
   obtain ⟨_,_,_,_,_,_,rfl,_⟩:=sI h1;rfl
  exact cI (lQ hE (jM C S h1) (lx pos.line X.env) (iV h4 h1) (dm h1)) read
 | one i =>
  have pE:=h1;clear h1;obtain ⟨x,p',rfl,h1⟩:=rY pE;obtain ⟨l1,l2⟩:=S.own _ h1.1;cases GH:LO X.env.scope x p'.line p.line scope with
  | false =>
   intro ab s Z H D I h;have e0:swapsWithSole [.Name x p'] (.ListComp i3 [⟨HH,iter,ifs,0⟩] scope p) pos.line X.env=pure (LO X.env.scope x p'.line p.line scope):=Hi (l:=pos.line) I.ok.kind;exact lQ hE (jM C S pE) (by rw [e0,GH]) (iV h4 pE) (dm pE) ab s Z H D I (read D Z H h)
  | true =>
   exact cI (Lp C.nd h1.2 l1 l2 (fun hk=>by rw [Hi hk,GH]) C.calm (sY C S (fun m _=>good m) q4 q5) (HD q2 S) D' (su (oY q4))) fun D Z H h=>rd _ _ _ (read D Z H h)
def KC (C:cF T cl X) (S:aL sc X) (hq:∀ q∈E.ab,q.1 ∉ aN t) (h1:gf X.N sc t tg=true) (h2:a8 T X.N (.comp elt i4 k src hc c eD) sc v=true) (h4:mZ t v=true) :
  PS X (.Assign [tg] v pos) (gi X E Es O (some (without (without O (aK (.comp elt i4 k src hc c eD))) (aN t))) inv (bZ cl (.set t (.comp elt i4 k src hc c eD)))):=by
 refine RG C S h1 h2 h4 fun D Z H=>?_
 rintro ⟨Y,Hs,o,F,h,kk⟩;simp only [qr,qu,qv,qR,qw,qx,qy,qz] at h;obtain ⟨d,hd,hb⟩:=aj h;obtain ⟨ρ',iP,dM⟩:=aj hb;clear h hb;cases dM;obtain ⟨ay,F1,m1,vs⟩:=F.iz (aK (.comp elt i4 k src hc c eD));refine ⟨Y,ay,d,F1.sub,vs,hd,fun x H1 bt g2 r2 _=>?_⟩;have F2:=F1.grown g2;refine rZ (X:=X) g2.sub iP r2 fun l hl mE ox=>?_
 have F3:=F2.putL (by rw [hl];exact hq) mE;rw [hl,<- ox] at F3;exact kk _ rfl _ _ _ F3 (m1.trans (g2.same F1.sub))
def Wu (C:cF T cl X) (S:aL sc X) (hq:∀ q∈E.ab,q.1≠i) (h1:gf X.N sc (.one i) tg=true) (h2:a8 T X.N (.lst ms) sc v=true) (h3:gq v=true) (h4:mZ (.one i) v=true) :
  PS X (.Assign [tg] v pos) (gi X E Es O (some (i::without (without O (aK (.lst ms))) [i])) inv (bZ cl (.set (.one i) (.lst ms)))):=by
 obtain ⟨_,_,rfl⟩:=Aa h2;rw [Ke] at h2;simp only [Bool.and_eq_true] at h2;refine cI (lQ (GD (jj C S (fun m _=>good m) h2.1 h2.2)) (jM C S h1) (jx (t:=some tg) (l:=pos.line) (env:=X.env) h3) (iV h4 h1) (dm h1)) fun D Z H=>?_
 rintro ⟨Y,Hs,o,F,h,k⟩;simp only [qr,wD,wE,wC] at h;obtain ⟨d,hd,hb⟩:=aj h;obtain ⟨ρ',iP,dM⟩:=aj hb;clear h hb;obtain ⟨ds,o_,hd2⟩:=aj hd;clear hd;obtain ⟨bX,LP⟩:=cG hd2;clear hd2;cases LP;cases iP;cases dM;obtain ⟨ay,F1,m1,vs⟩:=F.iz (bK ms);refine ⟨Y,ay,ds,F1.sub,vs,o_,fun xs H1 bt g2 r2=>⟨by rw [<- r2.length];exact vT bX iU,fun p hp=>?_⟩⟩;have F2:=F1.grown g2;have F3:=F2.A8 (i:=i) (d:=.lst ds) (o:=.lst xs) hq hp ⟨xs,aC,r2⟩;exact k _ rfl _ _ _ F3 (m1.trans (g2.same F1.sub))
def Wc (C:cF T cl X) (S:aL sc X) (hq:∀ q∈E.ab,q.1≠i) (h1:gf X.N sc (.one i) tg=true) (h2:a8 T X.N .ft sc v=true) (h3:gq v=true) (h4:mZ (.one i) v=true) :
  PS X (.Assign [tg] v pos) (gi X E Es O (some (i::without (without O (aK .ft)) [i])) inv (bZ cl (.set (.one i) .ft))):=by
 obtain ⟨ks,vs,p,rfl⟩:=uD h2;cases ks <;> try (cases h2;done)
 cases vs <;> try (cases h2;done)
 refine cI (lQ JG (jM C S h1) (jx (t:=some tg) (l:=pos.line) (env:=X.env) h3) (iV h4 h1) (dm h1)) fun D Z H=>?_
 rintro ⟨Y,Hs,o,F,h,k⟩;simp only [qr,wD,wE,wC,qP,wO] at h;cases h;obtain ⟨ay,F1,m1,vs⟩:=F.iz [];intro p hp;have F3:=F1.A8 (i:=i) (d:=.bE [] []) (o:=.ext (fR (aE X) p [] [] 0)) hq hp ⟨[],[],0,aC,rfl,ax.nil,ax.nil⟩;exact k _ rfl _ _ _ F3 m1
def Xk (C:cF T cl X) (S:aL sc X) (hq:∀ q∈E.ab,q.1≠i) (h1:gf X.N sc (.one i) tg=true) (h2:a8 T X.N .hJ sc v=true) (h3:gq v=true) (h4:mZ (.one i) v=true) :
  PS X (.Assign [tg] v pos) (gi X E Es O (some (i::without (without O (aK .hJ)) [i])) inv (bZ cl (.set (.one i) .hJ))):=by
 obtain ⟨ks,vs,p,rfl⟩:=uD h2;cases ks <;> try (cases h2;done)
 cases vs <;> try (cases h2;done)
 refine cI (lQ HW (jM C S h1) (jx (t:=some tg) (l:=pos.line) (env:=X.env) h3) (iV h4 h1) (dm h1)) fun D Z H=>?_
 rintro ⟨Y,Hs,o,F,h,k⟩;simp only [qr,wD,we,wC,qP,wO] at h;cases h;obtain ⟨ay,F1,m1,vs⟩:=F.iz [];intro p hp;have F3:=F1.A8 (i:=i) (d:=.bP []) (o:=.dK []) hq hp aC;exact k _ rfl _ _ _ F3 m1
def lu (h:cY Y i=.ok d):Y[i]?=some (some d):=by
 unfold cY at h;split at h
 .cases h;assumption
 .cases h
def Yo {e:M} (C:cF T cl X) (S:aL sc X) (hv:ju sc x=true) (ho:bR x=true) (hN:X.N[i]?=some x) (h2:a8 T X.N e sc v=true) (hn:noStar v=true) (hl:(ap.endLine == cp.line)=true)
  (hi:i ∈ without O (aK e)):PS X (.Expr (.Call (.Attribute (.Name x p) "append" ap) [v] [] cp) pos) (gi X E Es O (some (without O (aK e))) inv (bZ cl (.app i e))):=by
 unfold bR at ho;simp only [Bool.and_eq_true,Bool.not_eq_true'] at ho;refine cI (rT (Mq PySem.F.plainAttrs_list PySem.F.slot_list_append PySem.F.type_list_append vC (iM hN (S.s_ _ hv) ho.1.1 ho.1.2) (eF (good e C S h2).1 iQ (aG hn)) rfl (by rw [aG hn];rfl) hl (aG hn) rfl) rfl) fun D Z H=>?_
 rintro ⟨Y,Hs,o,F,h,k⟩;simp only [qr,qu,qv,qR,qw,qx,qy,qz] at h;obtain ⟨l,xI,hb⟩:=aj h;obtain ⟨d,hd,fy⟩:=aj hb;obtain ⟨l',fF,dM⟩:=aj fy;clear h hb fy;cases dM;obtain ⟨ay,F1,m1,vs⟩:=F.iz (aK e);have iP:=lu xI;obtain ⟨a,ea,a0,a1,ow⟩:=F1.own i hi l iP;cases l <;> try (cases fF;done)
 rename_i ds;simp only [tU] at fF;obtain ⟨bj,k_⟩:=cG fF;clear fF;cases k_;obtain ⟨xs,uB,EF⟩:=ow;refine ⟨.ref a,ea,.inl ⟨rfl,xs,cm.of uB⟩,Y,ay,d,F1.sub,vs,hd,fun y H1 bt g2 r2=>?_⟩;have F2:=F1.grown g2;have hl:=EF.length;have bX:=iU;refine ⟨a,xs,y,rfl,rfl,g2.keep a _ uB,by omega,?_⟩;have F3:=F2.mut (o:=.lst (xs++[y])) (d':=.lst (ds++[d])) hi iP ea ⟨_,aC,(EF.mono (g2.same F1.sub)).append (ax.one r2)⟩;exact k _ rfl _ _ _ F3 (m1.trans (g2.same F1.sub))
def ZJ {e:M} (C:cF T cl X) (S:aL sc X) (hv:ju sc x=true) (ho:bR x=true) (hN:X.N[i]?=some x) (h2:a8 T X.N e sc v=true) (hn:noStar v=true) (hl:(ap.endLine == cp.line)=true)
  (hi:i ∈ without O (aK e)):PS X (.Expr (.Call (.Attribute (.Name x p) "extend" ap) [v] [] cp) pos) (gi X E Es O (some (without O (aK e))) inv (bZ cl (.ext i e))):=by
 unfold bR at ho;simp only [Bool.and_eq_true,Bool.not_eq_true'] at ho;refine cI (rT (Mq PySem.F.plainAttrs_list PySem.F.slot_list_extend PySem.F.type_list_extend Ww (iM hN (S.s_ _ hv) ho.1.1 ho.1.2) (eF (good e C S h2).1 iQ (aG hn)) rfl (by rw [aG hn];rfl) hl (aG hn) rfl) rfl) fun D Z H=>?_
 rintro ⟨Y,Hs,o,F,h,k⟩;simp only [qr,qu,qv,qR,qw,qx,qy,qz] at h;obtain ⟨l,xI,hb⟩:=aj h;obtain ⟨d,hd,fy⟩:=aj hb;obtain ⟨l',fF,dM⟩:=aj fy;clear h hb fy;cases dM;obtain ⟨ay,F1,m1,vs⟩:=F.iz (aK e);have iP:=lu xI;obtain ⟨a,ea,a0,a1,ow⟩:=F1.own i hi l iP;cases l <;> try (cases fF;done)
 rename_i ds;obtain ⟨xs,uB,EF⟩:=ow;refine ⟨.ref a,ea,.inl ⟨rfl,xs,cm.of uB⟩,Y,ay,d,F1.sub,vs,hd,fun y H1 bt g2 r2=>?_⟩;have F2:=F1.grown g2;have hl:=EF.length;cases d <;> try (cases fF;done)
 .simp only [Ii] at fF;obtain ⟨bj,k_⟩:=cG fF;clear fF;cases k_;obtain ⟨b,zs,rfl,s1,rz⟩:=cP.mp r2;have hz:=rz.length;refine ⟨a,b,xs,zs,rfl,rfl,g2.keep a _ uB,.inl (bA g2.sub s1),by omega,?_⟩;have F3:=F2.mut (o:=.lst (xs++zs)) (d':=.lst (ds++_)) hi iP ea ⟨_,aC,(EF.mono (g2.same F1.sub)).append rz⟩;exact k _ rfl _ _ _ F3 (m1.trans (g2.same F1.sub))
def VN {e:M} (C:cF T cl X) (S:aL sc X) (h2:a8 T X.N e sc v=true) (h3:gq v=true):PS X (.Expr v pos) (gi X E Es O (some (without O (aK e))) inv (bZ cl (.expr e))):=by
 refine cI (rT (good e C S h2).1 (jx h3)) fun D Z H=>?_
 rintro ⟨Y,Hs,o,F,h,k⟩;simp only [qr,qu,qv,qR,qw,qx,qy,qz] at h;obtain ⟨d,hd,hb⟩:=aj h;clear h;cases hb;obtain ⟨ay,F1,m1,vs⟩:=F.iz (aK e);exact ⟨Y,ay,d,F1.sub,vs,hd,fun y H1 bt g2 r2=>k _ rfl _ _ _ (F1.grown g2) (m1.trans (g2.same F1.sub))⟩
def Yp {e:M} (C:cF T cl X) (S:aL sc X) (h2:a8 T X.N e sc v=true):PS X (.Return (some v) pos) (gi X E Es O none inv (bZ cl (.ret e))):=by
 refine cI (X7 (good e C S h2).1) fun D Z H=>?_
 rintro ⟨Y,Hs,o,F,h,k⟩;simp only [qr,qu,qv,qR,qw,qx,qy,qz] at h;obtain ⟨d,hd,hb⟩:=aj h;clear h;cases hb;obtain ⟨ay,F1,m1,vs⟩:=F.iz (aK e);exact ⟨Y,ay,d,F1.sub,vs,hd,fun y H1 bt g2 r2=>k y H1 bt (F1.grow.trans g2) r2⟩
theorem Wh {e:M} (h2:dh e=true):PS X (.Return none pos) (gi X E Es O none inv (bZ cl (.ret e))):=by
 refine cI Wb fun D Z H=>?_
 rintro ⟨Y,Hs,o,F,h,k⟩;cases e <;> try (cases h2;done)
 rename_i d;cases d <;> try (cases h2;done)
 simp only [qr,qu,qv,qR,qw,qx,qy,qz,wD,wE,wB,wC,qP] at h;cases h;exact k .ai H Hs F.grow (sG.mpr rfl)
def Z9 (hu:X.A.units+100 < cLine):Uh X (fun o i v H Q=>U0 X o i v H Q\/∃ a H',o=.ref a/\Gd H a i v H'/\Q H'):=fun ab s Z H o i v ov iv u Q I ro ri rv h=>by
 rcases h with h | ⟨a,H',rfl,g,q⟩
 .exact set_dict hu ab s Z H o i v ov iv u Q I ro ri rv h
 .cases ro;exact QB (by omega) I g ri rv fun s' I'=>⟨H',I',q⟩
def Wi {mk mv:M}{kx:Expr} (C:cF T cl X) (S:aL sc X) (hv:ju sc x=true) (ho:bR x=true) (hN:X.N[i]?=some x) (h2:a8 T X.N mk sc kx=true) (h3:a8 T X.N mv sc v=true) (h4:gq v=true) (hp:kI kx=true)
  (hi:i∈O):PS X (.Assign [.Subscript (.Name x p) kx p2] v pos) (gi X E Es O (some O) inv (bZ cl (.eh i mk mv))):=by
 unfold bR at ho;simp only [Bool.and_eq_true,Bool.not_eq_true'] at ho;have ma:swappedStores [.Subscript (.Name x p) kx p2] v X.env=pure none:=by cases v <;> rfl
 refine cI (lQ (good mv C S h3).1 (Yu (iM hN (S.s_ _ hv) ho.1.1 ho.1.2) (good mk C S h2).1 (Z9 C.un) (by intro _;cases kx <;> first | rfl | cases hp)) (jx (t:=some (.Subscript (.Name x p) kx p2)) (l:=pos.line) (env:=X.env) h4) ma rfl) fun D Z H=>?_
 rintro ⟨Y,Hs,o,F,h,k⟩;rw [qm] at h;obtain ⟨dv,Cn,hb⟩:=aj h;obtain ⟨l,xI,EG⟩:=aj hb;obtain ⟨dk,HI,fy⟩:=aj EG;obtain ⟨l',fF,dM⟩:=aj fy;clear h hb EG fy;cases dM;have iP:=lu xI;obtain ⟨a,ea,-,-,-⟩:=F.own i hi l iP;cases l <;> try (cases fF;done)
 rotate_left
 .rename_i ah;cases dk <;> try (cases fF;done)
  cases dv <;> try (cases fF;done)
  rename_i kk vv;obtain ⟨bj,k_⟩:=cG fF;clear fF;cases k_;obtain ⟨ay,F1,m1,lO,w1⟩:=F.lL (aK mv);refine ⟨Y,ay,_,F1.sub,lO,Cn,fun y H1 bt g2 r2=>?_⟩;obtain ⟨dP,g3,u1,_⟩:=tE F.sub w1 g2;have F2:=F.grown g3;cases aR.mp r2;obtain ⟨xF,F5,m5,LS,w5⟩:=F2.lL (aK mk);refine ⟨.ref a,ea,Y,xF,_,F5.sub,LS,HI,fun z H2 HK g6 r6=>?_⟩;obtain ⟨CA,g7,u7,_⟩:=tE F2.sub w5 g6;have F3:=F2.grown g7;cases aR.mp r6;obtain ⟨a',EH,a0,a1,ow⟩:=F3.own i hi _ iP;rw [ea] at EH;cases EH;have bX:=iU;refine .inr ⟨a,_,rfl,Gd.kk (k:=.inl kk) (v:=.int vv) (show H2 a=some (.dK _) from ow) (by rw [List.length_map];omega),?_⟩;have e:putK (ah.map fun p=>(.inl p.1,V.int p.2)) (.inl kk:Key) (V.int vv)=(mY ah kk vv).map fun p=>(.inl p.1,V.int p.2):=ZM kk vv ah
  rw [e];have F4:=F3.mut (o:=n_ (mY ah kk vv)) (d':=.bP (mY ah kk vv)) hi iP ea aC;exact k _ rfl _ _ _ F4 ((g3.trans g7).same F.sub)
 .rename_i ks HL;obtain ⟨LU,Bi⟩:=cG fF;clear fF;rw [Bool.and_eq_true] at LU;simp only [putD] at Bi;obtain ⟨⟨hk,bj,hlen⟩,k_⟩:=cG Bi;clear Bi;cases k_;obtain ⟨ay,F1,m1,lO,w1⟩:=F.lL (aK mv);refine ⟨Y,ay,dv,F1.sub,lO,Cn,fun y H1 bt g2 r2=>?_⟩;obtain ⟨dP,g3,u1,_⟩:=tE F.sub w1 g2;have F2:=F.grown g3;have ry:=zx u1 LU.1 r2;obtain ⟨xF,F5,m5,LS,w5⟩:=F2.lL (aK mk);refine ⟨.ref a,ea,Y,xF,dk,F5.sub,LS,HI,fun z H2 HK g6 r6=>?_⟩;obtain ⟨CA,g7,u7,_⟩:=tE F2.sub w5 g6;have F3:=F2.grown g7;have rz:=zx u7 LU.2 r6;obtain ⟨a',EH,a0,a1,ow⟩:=F3.own i hi _ iP;rw [ea] at EH;cases EH;obtain ⟨xs,ys,ep,uB,e1,rk,rv⟩:=ow;refine .inl ⟨a,dk,ks,xs,ys,rfl,rz.mono F3.sub,hk,⟨⟨ep,uB⟩,e1,rk.mono F3.sub⟩,by rw [e1,List.length_map] at bj;exact bj,fun b u kM eb ru=>?_⟩;subst eb;obtain ⟨q1,q3,q4⟩:=Ot (X:=X) (H:=CA) (a:=a) (u:=u) e1 rk rv rz (ry.mono (g7.same F2.sub)) hlen;have F4:=F3.mut (o:=.ext (fR (aE X) a (kW xs ys dk b u y).1 (kW xs ys dk b u y).2 kM)) (d':=.bE (jc ks HL dk dv).1 (jc ks HL dk dv).2) hi iP ea ⟨_,_,_,aC,q1,q3,q4⟩;exact k _ rfl _ _ _ F4 ((g3.trans g7).same F.sub)
def TJ {b:List MS} (C:cF T cl X) (S:aL sc X) (hp:PassesOwn (model X.prog X.w) X.A X.env X.xe) (h1:a8 T X.N c sc c'=true) (g_:∀ i∈O2,i∈O) (hy:∀ O3,y=some O3->∀ i∈O2,i∈O3)
  (hb:gu X body (gi X E Es O2 y O2 (bI cl b))):PS X (.While c' body [] pos) (gi X E Es O (some O2) inv (bZ cl (.uu c b))):=by
 refine cI (Q7 hp (good c C S h1).2 hb) fun D Z H=>?_
 rintro ⟨Y,Hs,o,F,h,kk⟩;rw [GZ] at h;obtain ⟨dP,F3,m3⟩:=F.gV g_;refine ⟨fun m Z H=>∃ dJ av,FR (aE X) E Es O2 dJ Z H av/\ar dP av/\jd (fun Y=>do let x <- aw cl c Y;aV x) (fun Y=>bI cl b Y) Y m dJ=.ok o,⟨D5,Y,dP,F3,ar.refl _,h⟩,?_⟩;rintro m nK H1 ⟨dJ,av,F',s',jH⟩;cases m with
 | zero=>cases jH
 | succ m =>
  unfold jd at jH;obtain ⟨t,ht,i5⟩:=aj jH;clear jH;obtain ⟨d,hd,XB⟩:=aj ht;cases cV XB;obtain ⟨ay,F1,m1,vs,w1⟩:=F'.lL (aK c);refine ⟨dJ,ay,t,F1.sub,vs,hd,fun H2 bt g2=>?_⟩;obtain ⟨kH,g4,_,_⟩:=tE F'.sub w1 g2;have F4:=F'.grown g4;have s4:ar dP kH:=s'.trans (g4.same F'.sub);cases t with
  | false =>
   rw [if_neg (by decide)];rw [if_neg (by decide)] at i5;cases i5;exact kk O2 rfl _ _ _ F4 (m3.trans s4)
  | true =>
   rw [if_pos rfl];rw [if_pos rfl] at i5;obtain ⟨o1,jw,EI⟩:=aj i5;clear i5;refine ⟨fun a9 H'=>∃ Bn av,FR (aE X) E Es O2 Bn a9 H' av/\ar dP av/\jd (fun Y=>do let x <- aw cl c Y;aV x) (fun Y=>bI cl b Y) Y m Bn=.ok o,fun a9 H' q=>⟨m,jv _,q⟩,dJ,kH,o1,F4,jw,?_⟩;cases o1 with
   | nx LV =>
    intro O3 e3 a9 H' CA F7 s7;obtain ⟨LW,F8,m8⟩:=F7.gV (hy O3 e3);exact ⟨aP Y LV,LW,F8.less (vg _ _) fun j d' q=>vA q,(s4.trans s7).trans m8,EI⟩
   | rt d3 =>
    cases EI;exact kk
end
theorem fX:∀ (U:zi) (Y:En),(fH Y U).length=Y.length
 | [],Y=>rfl
 | i::U,Y=>by rw [fH,fX U,List.length_set]
theorem pH:∀ {U:zi}{Y:En}{j:Nat}{d:D},(fH Y U)[j]?=some (some d)->j ∉ U/\Y[j]?=some (some d)
 | [],Y,j,d,h=>⟨by simp,h⟩
 | i::U,Y,j,d,h=>by
  obtain ⟨h1,h2⟩:=pH (U:=U) (Y:=Y.set i none) h;by_cases e:j=i
  .subst e;have hl:j < Y.length:=by
    have:=(yi.mp h2).1;simpa using this
   rw [List.getElem?_set_self hl] at h2;cases h2
  .rw [List.getElem?_set_ne (Ne.symm e)] at h2;exact ⟨by simp [e,h1],h2⟩
theorem zm:∀ {U:zi}{Y:En}{j:Nat}{d:D},j ∉ U->Y[j]?=some (some d)->(fH Y U)[j]?=some (some d)
 | [],Y,j,d,_,h=>h
 | i::U,Y,j,d,hu,h=>by
  have Pe:j≠i/\j ∉ U:=by simpa using hu
  show (fH (Y.set i none) U)[j]?=some (some d)
  exact zm Pe.2 (by rw [List.getElem?_set_ne (Ne.symm Pe.1)];exact h)
theorem Ck {α:Type}{j:Nat}:∀ (l:List (Nat × α)) (xs:List (Option α)),j ∉ l.map (·.1)->(putL xs l)[j]?=xs[j]?
 | [],xs,_=>rfl
 | (i,a)::l,xs,h=>by
  have h':j≠i/\j ∉ l.map (·.1):=by
   rw [List.map_cons,List.mem_cons,not_or] at h;exact h
  rw [putL,Ck l _ h'.2,List.getElem?_set_ne (Ne.symm h'.1)]
def iA (g:G) (H Hs:Hp):List D->List Addr->Prop
 | [],bs=>bs=[]
 | v::vs,bs=>∃ b kq ds zs,bs=b::kq/\v=.lst ds/\H b=some (.lst zs)/\ax g Hs ds zs/\iA g H Hs vs kq
variable {Z:St}
section
variable {g:G}{E:Ent}{Es:Hp}{H Hs H' av:Hp}{a:Addr}
theorem iA.mono:∀ {vs:List D}{bs:List Addr},(∀ b∈bs,∀ o,H b=some o->H' b=some o)->ar Hs av->iA g H Hs vs bs->iA g H' av vs bs
 | [],bs,_,_,h=>h
 | v::vs,bs,k,m,h=>by
  obtain ⟨b,kq,ds,zs,rfl,e,h1,r,h2⟩:=h;exact ⟨b,kq,ds,zs,rfl,e,k b vj _ h1,r.mono m,iA.mono (fun c hc=>k c (vi _ hc)) m h2⟩
theorem iA.here:∀ {vs:List D}{bs:List Addr},iA g H Hs vs bs->∀ b∈bs,∃ o,H b=some o
 | [],bs,h,b,hb=>by cases h;cases hb
 | v::vs,bs,h,b,hb=>by
  obtain ⟨b0,kq,ds,zs,rfl,e,h1,r,h2⟩:=h;rcases vV.mp hb with z | z
  .exact ⟨_,z ▸ h1⟩
  .exact iA.here h2 b z
theorem iA.snoc {p:Addr}:∀ {vs:List D}{bs:List Addr},iA g H Hs vs bs->H p=some (.lst [])->iA g H Hs (vs++[.lst []]) (bs++[p])
 | [],bs,h,hp=>by cases h;exact ⟨p,[],[],[],rfl,rfl,hp,ax.nil,rfl⟩
 | v::vs,bs,h,hp=>by
  obtain ⟨b,kq,ds,zs,rfl,e,h1,r,h2⟩:=h;exact ⟨b,kq++[p],ds,zs,rfl,e,h1,r,iA.snoc h2 hp⟩
theorem iA.Hc:∀ {vs:List D}{bs:List Addr},(∀ b∈bs,av b=H b)->ar Hs av->iA g H Hs vs bs->ax g av vs (bs.map V.ref)
 | [],bs,_,_,h=>by cases h;exact ax.nil
 | v::vs,bs,k,m,h=>by
  obtain ⟨b,kq,ds,zs,rfl,rfl,h1,r,h2⟩:=h;rw [List.map_cons];exact ax.cons (cP.mpr ⟨b,zs,rfl,cm.of (by rw [k b List.mem_cons_self];exact h1),r.mono m⟩) (iA.Hc (fun c hc=>k c (vi _ hc)) m h2)
theorem vp {k:D}:∀ {xs:List (D × Addr × Value)}{vs:List D}{bs:List Addr},iA g H Hs vs bs->xs.length=bs.length ->
  (∃ ds zs b,dD (xs.map (·.1)) vs k=some (.lst ds)/\ia xs (bs.map V.ref) k=some (.ref b)/\b∈bs/\H b=some (.lst zs)/\ax g Hs ds zs/\k∈xs.map (·.1))\/(dD (xs.map (·.1)) vs k=none/\ia xs (bs.map V.ref) k=none/\k ∉ xs.map (·.1))
 | [],vs,bs,h,hl=>.inr ⟨by cases vs <;> rfl,rfl,by simp⟩
 | x::xs,[],bs,h,hl=>by cases h;simp at hl
 | x::xs,v::vs,bs,h,hl=>by
  obtain ⟨b,kq,ds,zs,rfl,rfl,h1,r,h2⟩:=h;by_cases e:x.1=k
  .exact .inl ⟨ds,zs,b,if_pos e,if_pos e,vj,h1,r,by rw [List.map_cons,e];exact vj⟩
  .have e1:dD ((x::xs).map (·.1)) (.lst ds::vs) k=dD (xs.map (·.1)) vs k:=if_neg e;have e2:ia (x::xs) ((b::kq).map V.ref) k=ia xs (kq.map V.ref) k:=if_neg e;rw [e1,e2];rcases vp (k:=k) h2 (by simpa using hl) with ⟨nr,XE,b',q1,q2,q3,q4,q5,q6⟩ | ⟨q1,q2,q3⟩
   .exact .inl ⟨nr,XE,b',q1,q2,vi _ q3,q4,q5,vi _ q6⟩
   .refine .inr ⟨q1,q2,fun z=>?_⟩;rcases vV.mp z with z | z
    .exact e z.symm
    .exact q3 z
theorem GX {k nv:D}:∀ {ks vs:List D},ks.length=vs.length->k ∉ ks->((ks.zip vs).map fun p=>if p.1=k then nv else p.2)=vs
 | [],vs,hl,_=>by cases vs with | nil=>rfl | cons _ _=>simp at hl
 | c::ks,[],hl,_=>by simp at hl
 | c::ks,v::vs,hl,hk=>by
  have gT:k≠c/\k ∉ ks:=by simpa using hk
  rw [List.zip_cons_cons,List.map_cons,GX (by simpa using hl) gT.2];show (if c=k then nv else v)::vs=_
  rw [if_neg (Ne.symm gT.1)]
theorem iA.len:∀ {vs:List D}{bs:List Addr},iA g H Hs vs bs->vs.length=bs.length
 | [],bs,h=>by cases h;rfl
 | v::vs,bs,h=>by
  obtain ⟨b,kq,ds,zs,rfl,_,_,_,h2⟩:=h;simp [iA.len h2]
theorem Qg {k v:D}{z:V}{b:Addr}{ds:List D}{zs:List V} (rz:Rp g Hs v z) (hb:H b=some (.lst zs)) (rb:ax g Hs ds zs):∀ {xs:List (D × Addr × Value)}{vs:List D}{bs:List Addr},iA g H Hs vs bs->xs.length=bs.length->(xs.map (·.1)).Nodup->bs.Nodup ->
  dD (xs.map (·.1)) vs k=some (.lst ds)->ia xs (bs.map V.ref) k=some (.ref b)->b∈bs->iA g (upd H b (.lst (zs++[z]))) Hs (((xs.map (·.1)).zip vs).map fun p=>if p.1=k then .lst (ds++[v]) else p.2) bs
 | [],vs,bs,h,hl,n1,n2,h1,h2,h3=>by cases vs <;> cases h1
 | x::xs,[],bs,h,hl,n1,n2,h1,h2,h3=>by cases h1
 | x::xs,v0::vs,bs,h,hl,n1,n2,h1,h2,h3=>by
  obtain ⟨b0,kq,HM,XG,rfl,rfl,q1,r,q2⟩:=h;rw [List.map_cons,List.nodup_cons] at n1;rw [List.nodup_cons] at n2;have hlen:(xs.map (·.1)).length=vs.length:=by rw [List.length_map,q2.len];simpa using hl
  rw [List.map_cons,List.zip_cons_cons,List.map_cons];by_cases e:x.1=k
  .have e1:dD ((x::xs).map (·.1)) (.lst HM::vs) k=some (.lst HM):=if_pos e;have e2:ia (x::xs) ((b0::kq).map V.ref) k=some (.ref b0):=if_pos e;rw [e1] at h1;cases h1;rw [e2] at h2;cases h2;rw [hb] at q1;cases q1;rw [GX hlen (by rw [<- e];exact n1.1)];refine ⟨b,kq,ds++[v],zs++[z],rfl,by show (if x.1=k then _ else _)=_;rw [if_pos e],aC,rb.append (ax.one rz),q2.mono (fun c hc o q=>?_) (ar.refl _)⟩;rw [ak (fun e:c=b=>n2.1 (by rw [<- e];exact hc))];exact q
  .have e1:dD ((x::xs).map (·.1)) (.lst HM::vs) k=dD (xs.map (·.1)) vs k:=if_neg e;have e2:ia (x::xs) ((b0::kq).map V.ref) k=ia xs (kq.map V.ref) k:=if_neg e;rw [e1] at h1;rw [e2] at h2;have EJ:b∈kq:=by
    rcases vp (k:=k) q2 (xs:=xs) (by simpa using hl) with ⟨_,_,b',_,j2,j3,_⟩ | ⟨_,j2,_⟩
    .rw [h2] at j2;cases j2;exact j3
    .rw [h2] at j2;cases j2
   have dE:b0≠b:=fun z=>n2.1 (by rw [z];exact EJ)
   exact ⟨b0,kq,HM,XG,rfl,by show (if x.1=k then _ else _)=_;rw [if_neg e],by rw [ak dE];exact q1,r,Qg rz hb rb q2 (by simpa using hl) n1.2 n2.2 h1 h2 EJ⟩
structure DX (g:G) (E:Ent) (H Hs:Hp) (a:Addr) (ks vs:List D) (xs:List (D × Addr × Value)) (bs:List Addr) (ep:Nat):Prop where
 at_:H a=some (.ext (fR g a xs (bs.map V.ref) ep))
 keys:ks=xs.map (·.1)
 rep:ax g Hs ks (xs.map fun x=>V.ref x.2.1)
 ol:iA g H Hs vs bs
 len:xs.length=bs.length
 nk:ks.Nodup
 nb:bs.Nodup
 na:a ∉ bs
 eb:∀ b∈bs,E.hp b=none/\Hs b=none
 ea:E.hp a=none
 sa:Hs a=none
def DO (g:G) (E:Ent) (H Hs:Hp) (a:Addr) (ks vs:List D):Prop:=∃ xs bs ep,DX g E H Hs a ks vs xs bs ep
def DX.grown {vs:List D}{xs:List (D × Addr × Value)}{bs:List Addr} (d:DX g E H Hs a ks vs xs bs ep) (hs:ar Hs H) (w:aI H Hs H' av):DX g E H' av a ks vs xs bs ep:=by
 have m:=w.same hs;refine ⟨w.keep _ _ d.at_,d.keys,d.rep.mono m,d.ol.mono (fun b _ o q=>w.keep b o q) m,d.len,d.nk,d.nb,d.na,fun b hb=>⟨(d.eb b hb).1,?_⟩,d.ea,by rw [w.old _ _ d.at_];exact d.sa⟩;obtain ⟨o,ho⟩:=d.ol.here b hb;rw [w.old b o ho];exact (d.eb b hb).2
def DO.grown {vs:List D} (d:DO g E H Hs a ks vs) (hs:ar Hs H) (w:aI H Hs H' av):DO g E H' av a ks vs:=let ⟨xs,bs,ep,q⟩:=d;⟨xs,bs,ep,q.grown hs w⟩
def FR.EK {b:Addr} (F:FR g E Es [] Y Z H Hs) (h1:E.hp b=none) (h2:Hs b=none):FR g E Es [] Y Z (upd H b o) Hs:=by
 refine ⟨⟨fun c u q=>?_,F.grow.old,fun c u q=>?_⟩,F.len,F.val,(fun j hj=>by cases hj),(fun j hj=>by cases hj),F.pin⟩
 .rw [ak (aq q h1)];exact F.grow.keep c u q
 .rw [ak (aq q h2)];exact F.grow.sub c u q
end
def KD {J:It}{Pf:Hp}{ds:List D}{gt:TG}{tb:TS}{D:Ends} (src:Src g J Pf ds) (Pv:Nat->St->Hp->Prop) (h0:Pv 0 Z H) (xN:∀ i Z H,Pv i Z H->ar Pf H)
  (step:∀ i d x Z H H',ds[i]?=some d->Pv i Z H->J.kQ i H x H'->gt x Z H' fun sF H2=>tb { D with nx:=Pv (i+1),ct:=Pv (i+1),bk:=D.nx } sF H2) (hd:∀ Z H,Pv ds.length Z H->D.nx Z H) :
  ∃ W:Nat->Nat->St->Hp->Prop,(∃ m,W 0 m Z H)/\∀ i m Z H,W i m Z H ->
   (J.stop i H/\D.nx Z H)\/(J.go i H/\∃ N:St->Hp->Prop,(∀ a9 H',N a9 H'->∃ m',m' < m/\W (i+1) m' a9 H')/\∀ x H',J.kQ i H x H'->gt x Z H' fun sF H2=>tb { D with nx:=N,ct:=N,bk:=D.nx } sF H2):=by
 refine ⟨fun i m Z H=>m=ds.length - i/\i<=ds.length/\Pv i Z H,⟨ds.length,by simp,v3 _,h0⟩,?_⟩;rintro i m Z H ⟨rfl,hi,p⟩;by_cases bj:i < ds.length
 .refine .inr ⟨src.go i H (xN i Z H p) bj,Pv (i+1),fun a9 H' p'=>⟨ds.length - (i+1),by omega,rfl,bj,p'⟩,fun x H' y=>?_⟩;exact step i ds[i] x Z H H' (by simp [bj]) p y
 .have e:i=ds.length:=by omega
  subst e;exact .inl ⟨src.stop H (xN _ Z H p),hd Z H p⟩
def tG (X:Cx) (E:Ent) (Es:Hp) (i:Nat) (U:zi) (run:En->D->R D):TS:=fun D Z H=>∃ Y Hs a ks vs d',FR (aE X) E Es [] Y Z H Hs/\Z[i]?=some (some (.ref a))/\DO (aE X) E H Hs a ks vs/\run Y (.bE ks vs)=.ok d' /\
 ∀ a9 H' av m_ tT,d'=.bE m_ tT->FR (aE X) E Es [] (fH Y U) a9 H' av->ar Hs av->a9[i]?=some (some (.ref a))->DO (aE X) E H' av a m_ tT->D.nx a9 H'
section
variable {T:Tx}{cl:Nat->List D->R D}{X:Cx}{sc:Scope}{E:Ent}{Es:Hp}{pos:Pos}{i:Nat}
def XC {k v:M}{k' v':Expr}{lp mI se:Pos} (C:cF T cl X) (S:aL sc X) (hv:ju sc x=true) (ho:bR x=true) (hN:X.N[i]?=some x) (h1:a8 T X.N k sc k'=true) (h2:a8 T X.N v sc v'=true) (n1:noStar k'=true) (n2:noStar v'=true) (l1:(ap.endLine == cp.line)=true) (l2:(mI.endLine == se.line)=true) :
  PS X (.Expr (.Call (.Attribute (.Call (.Attribute (.Name x p) "setdefault" mI) [k',.List [] lp] [] se) "append" ap) [v'] [] cp) pos) (tG X E Es i [] (jZ cl (.mz k v))):=by
 unfold bR at ho;simp only [Bool.and_eq_true,Bool.not_eq_true'] at ho;refine cI (rT (Mq PySem.F.plainAttrs_list PySem.F.slot_list_append PySem.F.type_list_append vC
  (Xl C.un (iM hN (S.s_ _ hv) ho.1.1 ho.1.2) (good k C S h1).1 (GD iQ) ⟨rfl,by rw [aG n1];rfl,l2,by rw [aG n1];rfl⟩)
  (eF (good v C S h2).1 iQ (aG n2)) rfl (by rw [aG n2];rfl) l1 (aG n2) rfl) rfl) fun DD Z H=>?_
 rintro ⟨Y,Hs,a,ks,vs,d',F,ei,⟨xs,bs,ep,dx⟩,h,kk⟩;rw [wa] at h;obtain ⟨dk,HI,hb⟩:=aj h;obtain ⟨dv,Cn,fy⟩:=aj hb;clear h hb;simp only [vM] at fy;obtain ⟨⟨hk,bj,hlen⟩,dM⟩:=cG fy;clear fy;have r_:=iU;have fin:∀ (H1 ay:Hp) (oy lO:List D) (HP:List (D × Addr × Value)) (EL:List Addr) (LX:Nat) (b:Addr) (l:List D) (zs:List V),FR (aE X) E Es [] Y Z H1 ay->ar Hs ay->DX (aE X) E H1 ay a oy lO HP EL LX ->
   dD oy lO dk=some (.lst l)->ia HP (EL.map V.ref) dk=some (.ref b)->b∈EL->H1 b=some (.lst zs)->ax (aE X) ay l zs->l.length < lim->d'=.bE oy ((oy.zip lO).map fun p=>if p.1=dk then .lst (l++[dv]) else p.2) ->
   (JE X.K "list" (.ref b) H1 /\ Vb (tM X (aK v) (aw cl v)) Rv Z H1 fun ys H2=>JH (.ref b) ys H2 fun _ H3=>DD.nx Z H3):=by
  intro H1 ay oy lO HP EL LX b l zs F1 s1 EM g1 g2 g3 g4 g5 g6 ed;refine ⟨.inl ⟨rfl,zs,cm.of g4⟩,Y,ay,dv,F1.sub,F1.vh (fun _ _ z=>by cases z),Cn,fun z H2 bt w2 r2=>?_⟩;have F2:=F1.grown w2;have c9:=EM.grown F1.sub w2;have hz:=g5.length;refine ⟨b,zs,z,rfl,rfl,w2.keep _ _ g4,by omega,?_⟩;have eb:=c9.eb b g3;have XI:a≠b:=fun z=>c9.na (z ▸ g3)
  refine kk Z _ bt _ _ ed (F2.EK eb.1 eb.2) (s1.trans (w2.same F1.sub)) ei ⟨HP,EL,LX,by rw [ak XI];exact c9.at_,c9.keys,c9.rep,?_,c9.len,c9.nk,c9.nb,c9.na,c9.eb,c9.ea,c9.sa⟩;have XN:=c9.keys;subst XN;exact Qg r2 (w2.keep _ _ g4) (g5.mono (w2.same F1.sub)) c9.ol c9.len c9.nk c9.nb g1 g2 g3
 refine ⟨.ref a,ei,a,ks,xs,_,rfl,⟨⟨ep,dx.at_⟩,dx.keys,dx.rep.mono F.sub⟩,Y,Hs,dk,F.sub,F.vh (fun _ _ z=>by cases z),HI,fun y H1 ay w1 r1=>⟨v3 _,fun p hp=>?_⟩⟩;have F1:=F.grown w1;have EM:=dx.grown F.sub w1;have w2:aI H1 ay (upd H1 p (.lst [])) ay:=aI.own F1.sub hp;have F2:=F1.grown w2;have c9:=EM.grown F1.sub w2;have s2:ar Hs ay:=w1.same F.sub;refine ⟨dk,ks,xs,_,r1.mono F2.sub,hk,⟨⟨ep,c9.at_⟩,c9.keys,c9.rep.mono F2.sub⟩,by rw [dx.keys,List.length_map] at bj;exact bj,fun v0 xS=>?_,fun xS b u kM ey ru=>?_⟩
 .rcases vp (k:=dk) c9.ol c9.len with ⟨l,zs,b,q1,q2,q3,q4,q5,q6⟩ | ⟨q1,q2,q3⟩
  .rw [xS] at q2;cases q2;rw [<- c9.keys] at q1;rw [q1] at dM;obtain ⟨hl,XO⟩:=cG dM;have ed:d'=.bE ks ((ks.zip vs).map fun p=>if p.1=dk then .lst (l++[dv]) else p.2):=by
    have e:=NT XO;rw [<- e];have hm:dk∈ks:=by rw [c9.keys];exact q6
    unfold jc;rw [if_pos hm]
   exact fin _ ay ks vs xs bs ep b l zs F2 s2 c9 q1 xS q3 q4 q5 hl ed
  .rw [xS] at q2;cases q2
 .rcases vp (k:=dk) c9.ol c9.len with ⟨l,zs,b',q1,q2,q3,q4,q5,q6⟩ | ⟨q1,q2,q3⟩
  .rw [xS] at q2;cases q2
  .rw [<- c9.keys] at q1 q3;rw [q1] at dM;have ed:=NT dM;have Pl:p≠a:=fun z=>by rw [z,EM.at_] at hp;cases hp
   have XT:p ∉ bs:=fun z=>by
    obtain ⟨o,ho⟩:=EM.ol.here p z;rw [ho] at hp;cases hp
   have Ep:E.hp p=none:=by
    cases q:E.hp p with
    | none=>rfl
    | some u=>rw [F1.grow.keep p u q] at hp;cases hp
   have Sp:ay p=none:=by
    cases q:ay p with
    | none=>rfl
    | some u=>rw [F1.sub p u q] at hp;cases hp
   subst ey;have F3:=F2.EK (b:=a) (o:=.ext (fR (aE X) a (xs++[(dk,b,u)]) ((bs++[p]).map V.ref) kM)) c9.ea c9.sa;have XU:(upd (upd H1 p (.lst [])) a (.ext (fR (aE X) a (xs++[(dk,b,u)]) ((bs++[p]).map V.ref) kM))) p=some (.lst []):=by rw [ak Pl,aC]
   have XW:iA (aE X) (upd (upd H1 p (.lst [])) a (.ext (fR (aE X) a (xs++[(dk,b,u)]) ((bs++[p]).map V.ref) kM))) ay vs bs:=c9.ol.mono (fun c hc o q=>by
    rw [ak (fun e:c=a=>c9.na (by rw [<- e];exact hc))];exact q) (ar.refl _)
   have HQ:DX (aE X) E (upd (upd H1 p (.lst [])) a (.ext (fR (aE X) a (xs++[(dk,b,u)]) ((bs++[p]).map V.ref) kM))) ay a (ks++[dk]) (vs++[.lst []]) (xs++[(dk,b,u)]) (bs++[p]) kM:=by
    refine ⟨aC,by rw [List.map_append,c9.keys];rfl,by rw [List.map_append];exact c9.rep.append (ax.one r1),XW.snoc XU,by simp [c9.len],?_,?_,?_,?_,c9.ea,c9.sa⟩
    .rw [List.nodup_append];refine ⟨c9.nk,by simp,fun c hc e he=>?_⟩;rw [List.mem_singleton.mp he];exact fun z=>q3 (z ▸ hc)
    .rw [List.nodup_append];refine ⟨c9.nb,by simp,fun c hc e he=>?_⟩;rw [List.mem_singleton.mp he];exact fun z=>XT (z ▸ hc)
    .intro z;rcases ym.mp z with z | z
     .exact c9.na z
     .exact Pl (yn.mp z).symm
    .intro c hc;rcases ym.mp hc with z | z
     .exact c9.eb c z
     .rw [List.mem_singleton.mp z];exact ⟨Ep,Sp⟩
   have LY:ks.length=vs.length:=hlen;rcases vp (k:=dk) HQ.ol HQ.len with ⟨l,zs,b',j1,j2,j3,j4,j5,j6⟩ | ⟨_,_,j3⟩
   .rw [<- HQ.keys] at j1;have gk:∀ (as bs:List D),as.length=bs.length->dk ∉ as->dD (as++[dk]) (bs++[.lst []]) dk=some (.lst []):=by
     intro as;induction as with
     | nil=>intro bs hl _;cases bs with | nil=>exact if_pos rfl | cons _ _=>simp at hl
     | cons c as ih =>
      intro bs hl hn;cases bs with
      | nil=>simp at hl
      | cons e bs =>
       have kN:dk≠c/\dk ∉ as:=by simpa using hn
       rw [List.cons_append,List.cons_append];exact (if_neg (Ne.symm kN.1)).trans (ih bs (by simpa using hl) kN.2)
    have gv:∀ (as:List (D × Addr × Value)) (cs:List Addr),as.length=cs.length->dk ∉ as.map (·.1)->ia (as++[(dk,b,u)]) ((cs++[p]).map V.ref) dk=some (.ref p):=by
     intro as;induction as with
     | nil=>intro cs hl _;cases cs with | nil=>exact if_pos rfl | cons _ _=>simp at hl
     | cons c as ih =>
      intro cs hl hn;cases cs with
      | nil=>simp at hl
      | cons e cs =>
       have kN:dk≠c.1/\dk ∉ as.map (·.1):=by
        rw [List.map_cons,List.mem_cons,not_or] at hn;exact hn
       rw [List.cons_append,List.cons_append,List.map_cons];exact (if_neg (Ne.symm kN.1)).trans (ih cs (by simpa using hl) kN.2)
    have Pm:=gk ks vs LY q3;rw [j1] at Pm;cases Pm;have Po:=gv xs bs c9.len (by rw [<- c9.keys];exact q3);rw [j2] at Po;cases Po;have em:(bs.map V.ref)++[V.ref p]=(bs++[p]).map V.ref:=by rw [List.map_append];rfl
    rw [em];refine fin _ ay _ _ _ _ _ p [] zs F3 s2 HQ j1 j2 j3 j4 j5 (by decide) ?_;rw [<- ed,List.zip_append LY,List.map_append,GX LY q3];show _=D.bE (ks++[dk]) (vs++[if dk=dk then _ else _])
    rw [if_pos rfl];rfl
   .exact absurd (by rw [List.map_append];exact vn _ (yn.mpr rfl)) j3
def YM {b:GS} (C:cF T cl X) (S:aL sc X) (hp:PassesOwn (model X.prog X.w) X.A X.env X.xe) (hq:∀ q∈E.ab,q.1 ∉ aN t) (hi:i ∉ aN t)
  (h1:gf X.N sc t tg=true) (h2:gR sc k tg iter=true) (h3:cu T X.N src sc (iT k iter)=true)
  (hb:PS X st (tG X E Es i (fT b) (jZ cl b))):PS X (.For tg iter [st] [] pos) (tG X E Es i (aN t++fT b) (jZ cl (.a_ t k src b))):=by
 refine cI (O8 hp C.calm (sY C S (fun m _=>good m) h2 h3) (jM C S h1) (lg hb BR) (su (oY h2))) fun DD Z H=>?_
 rintro ⟨Y,Hs,a,ks,vs,d',F,ei,dO,h,kk⟩;rw [wb] at h;obtain ⟨ss,ED,fy⟩:=aj h;obtain ⟨ds,o_,kr⟩:=aj fy;clear h fy;refine ⟨Y,Hs,ds,F.sub,F.vh (fun _ _ z=>by cases z),by simp only [ED,qP];exact o_,fun J H1 bt g2 sr=>?_⟩;have F2:=F.grown g2;have XX:=dO.grown F.sub g2;have mm:ar Hs bt:=g2.same F.sub;have F3:FR (aE X) E Es [] (fH Y (aN t++fT b)) Z H1 bt:=F2.less (fX _ _) fun j d q=>(pH q).2
 refine KD sr (fun n Z H=>∃ av oy lO,FR (aE X) E Es [] (fH Y (aN t++fT b)) Z H av/\ar bt av/\Z[i]?=some (some (.ref a))/\DO (aE X) E H av a oy lO /\
  lM (fun x d=>do let dJ <- c7 t x (fH Y (aN t++fT b));jZ cl b dJ d) (ds.drop n) (.bE oy lO)=.ok d') ⟨bt,ks,vs,F3,ar.refl _,ei,XX,kr⟩ (fun n Z H ⟨av,_,_,F',s',_⟩=>s'.trans F'.sub) ?_ ?_
 .rintro n d x nK CB LZ Be ⟨av,oy,lO,F',s',EN,EO,jH⟩ L1;obtain ⟨bj,ed⟩:=yi.mp Be;rw [List.drop_eq_getElem_cons bj,ed] at jH;unfold lM at jH;obtain ⟨d1,i7,i5⟩:=aj jH;clear jH;obtain ⟨Bn,sg,ER⟩:=aj i7;clear i7;obtain ⟨kH,g4,rx⟩:=sr.kQ n CB x LZ av d s' F'.sub Be L1;have F4:=F'.grown g4;have XY:=EO.grown F'.sub g4;have s4:ar bt kH:=s'.trans (g4.same F'.sub);refine rZ (X:=X) g4.sub sg rx fun l hl mE ox=>?_
  have F5:=F4.putL (by rw [hl];exact hq) mE;rw [<- ox] at F5;have F6:FR (aE X) E Es [] Bn _ _ kH:=F5.gz fun j=>by rw [bQ];simp
  have xj:i ∉ (l.map fun p=>(p.1,p.2.2)).map (·.1):=by
   rw [List.map_map];show i ∉ l.map (·.1)
   rw [hl];exact hi
  refine ⟨Bn,kH,a,oy,lO,d1,F6,by rw [Ck _ _ xj];exact EN,XY,ER,fun a9 H' xF m_ tT e1 F7 s7 XZ X0=>?_⟩;subst e1;refine ⟨xF,m_,tT,F7.less ?_ fun j e q=>?_,s4.trans s7,XZ,X0,i5⟩
  .rw [fX,fX,ox,oZ,fX]
  .have q2:=pH q;have q3:j ∉ aN t/\j ∉ fT b:=by simpa using q2.1
   refine zm q3.2 ?_;rw [ox,Ck _ _ (by rw [List.map_map];show j ∉ l.map (·.1);rw [hl];exact q3.1)];exact q
 .rintro nK CB ⟨av,oy,lO,F',s',EN,EO,jH⟩;rw [List.drop_length] at jH;cases jH;exact kk nK CB av oy lO rfl F' (mm.trans s') EN EO
theorem goodG:∀ (g:GS) {st:Stmt},(∀ q∈E.ab,q.1 ∉ fT g)->i ∉ fT g->cF T cl X->aL sc X->PassesOwn (model X.prog X.w) X.A X.env X.xe->EE T X.N sc i g st=true->PS X st (tG X E Es i (fT g) (jZ cl g))
 | .mz k v,st,hq,hi,C,S,hp,h=>by
  obtain ⟨e,q,rfl⟩:=zq h;obtain ⟨x,p,k',lp,mI,se,v',ap,cp,rfl,l1,l2,h9⟩:=Y6 h;simp only [Bool.and_eq_true,decide_eq_true_eq] at h9;obtain ⟨⟨⟨⟨⟨⟨h1,h2⟩,h3⟩,h4⟩,h5⟩,h6⟩,h7⟩:=h9;exact XC C S h1 h2 h3 h4 h5 h6 h7 l1 l2
 | .a_ t k src b,st,hq,hi,C,S,hp,h=>by
  obtain ⟨tg,iter,body,f_,p,rfl⟩:=Kq h;rcases body with _ | ⟨s,_ | ⟨s2,body⟩⟩
  .have h':(f_.isEmpty && (gf X.N sc t tg && gR sc k tg iter && cu T X.N src sc (iT k iter) && false))=true:=h;simp at h'
  rotate_left
  .have h':(f_.isEmpty && (gf X.N sc t tg && gR sc k tg iter && cu T X.N src sc (iT k iter) && false))=true:=h;simp at h'
  replace h:(f_.isEmpty && (gf X.N sc t tg && gR sc k tg iter && cu T X.N src sc (iT k iter) && EE T X.N sc i b s))=true:=h;simp only [Bool.and_eq_true,List.isEmpty_iff] at h;obtain ⟨rfl,⟨⟨h1,h2⟩,h3⟩,h4⟩:=h;have mi:i ∉ aN t/\i ∉ fT b:=by
   have:i ∉ aN t++fT b:=hi;simpa using this
  exact YM C S hp (fun q hm z=>hq q hm (vk _ z)) mi.1 h1 h2 h3 (goodG b (fun q hm z=>hq q hm (vn _ z)) mi.2 C S hp h4)
def Yq {g:GS} (C:cF T cl X) (S:aL sc X) (hp:PassesOwn (model X.prog X.w) X.A X.env X.xe) (hq:∀ q∈E.ab,q.1 ∉ fT g) (h:EE T X.N sc i g st=true) (hi:i∈O) (hn:i ∉ fT g) :
  PS X st (gi X E Es O (some [i]) inv (bZ cl (.um i g))):=by
 refine cI (goodG (E:=E) (Es:=Es) g hq hn C S hp h) fun DD Z H=>?_
 rintro ⟨Y,Hs,o,F,h,kk⟩;rw [wZ] at h;obtain ⟨d,hd,hb⟩:=aj h;obtain ⟨_,he,fy⟩:=aj hb;obtain ⟨d',kr,dM⟩:=aj fy;clear h hb fy;cases dM;have iP:=lu hd;cases d <;> try (cases he;done)
 rename_i X1 HL;cases X1 <;> cases HL <;> try (cases he;done)
 obtain ⟨ay,F1,m1⟩:=F.gV (O':=[i]) fun j hj=>by rw [List.mem_singleton.mp hj];exact hi
 obtain ⟨a,ea,a0,a1,xs,ys,ep,hH,e1,rk,rv⟩:=F1.own i (yn.mpr rfl) _ iP;have ex:xs=[]:=by
  cases xs with
  | nil=>rfl
  | cons _ _=>cases e1
 subst ex;have ey:=rv.nil_inv;subst ey;have xj:i < Y.length:=(yi.mp iP).1;have F2:FR (aE X) E Es [] (fH Y (i::fT g)) Z H ay:=by
  refine ⟨F1.grow,by rw [fX];exact F1.len,fun j d q _=>?_,(fun j hj=>by cases hj),(fun j hj=>by cases hj),F1.pin⟩;obtain ⟨q1,q2⟩:=pH q;exact F1.val j d q2 fun z=>q1 (by rw [List.mem_singleton.mp z];exact vj)
 refine ⟨_,ay,a,[],[],d',F2,ea,⟨[],[],ep,hH,rfl,ax.nil,rfl,rfl,List.nodup_nil,List.nodup_nil,by simp,(fun b hb=>by cases hb),a0,a1⟩,kr,fun a9 H' av m_ tT ed F' s' EN EO=>?_⟩;subst ed;obtain ⟨xs,bs,kM,dx⟩:=EO
 classical
 have m3:ar av (fun c=>if c∈bs then H' c else av c):=fun c o q=>by
  show (if c∈bs then H' c else av c)=_
  have hc:c ∉ bs:=fun z=>by
   rw [(dx.eb c z).2] at q;cases q
  rw [if_neg hc];exact q
 have F8:FR (aE X) E Es [] (fH Y (i::fT g)) a9 H' av:=F'.less (by rw [fX,fX,fX]) fun j d q=>zm (fun z=>(pH q).1 (vi _ z)) q
 have F9:FR (aE X) E Es [i] ((fH Y (i::fT g)).set i (some (.bE m_ tT))) a9 H' (fun c=>if c∈bs then H' c else av c):=by
  refine ⟨⟨F8.grow.keep,fun c u q=>?_,fun c u q=>?_⟩,by rw [List.length_set];exact F8.len,fun j d q hj=>?_,fun j hj d q=>?_,fun j hj k hk xB=>?_,F8.pin⟩
  .show (if c∈bs then H' c else av c)=_
   have hc:c ∉ bs:=fun z=>by
    rw [(dx.eb c z).1] at q;cases q
   rw [if_neg hc];exact F8.grow.old c u q
  .have q':(if c∈bs then H' c else av c)=some u:=q;by_cases hc:c∈bs
   .rw [if_pos hc] at q';exact q'
   .rw [if_neg hc] at q';exact F8.sub c u q'
  .have di:j≠i:=fun z=>hj (yn.mpr z)
   rw [List.getElem?_set_ne (Ne.symm di)] at q;obtain ⟨v,ev,rv⟩:=F8.val j d q (by simp);exact ⟨v,ev,rv.mono m3⟩
  .have di:=yn.mp hj;subst di;rw [List.getElem?_set_self (by rw [fX];exact xj)] at q;cases q;exact ⟨a,EN,dx.ea,(if_neg dx.na).trans dx.sa,xs,bs.map V.ref,kM,dx.at_,dx.keys,dx.rep.mono m3,dx.ol.Hc (fun b hb=>if_pos hb) m3⟩
  .exact absurd ((yn.mp hj).trans (yn.mp hk).symm) xB
 exact kk [i] rfl a9 H' _ F9 ((m1.trans s').trans m3)
end
section
variable {T:Tx}{cl:Nat->List D->R D}{X:Cx}{sc:Scope}{E:Ent}{Es:Hp}{O:zi}{inv:zi}{pos:Pos}
def lH.ES {x:Ow}{D:Ends}{o:Out} (h:lH g E Es Hs (jm x y) inv D o):lH g E Es Hs x inv D o:=by
 cases o with
 | rt d=>exact h
 | nx Y =>
  intro O1 e a9 H' av F s;subst e;cases y with
  | none=>exact h O1 rfl a9 H' av F s
  | some b =>
   obtain ⟨bt,F2,m⟩:=F.gV (O':=O1.filter fun i=>b.contains i) fun i hi=>(yz.mp hi).1
   exact h _ rfl a9 H' bt F2 (s.trans m)
def lH.ET {x:Ow}{D:Ends}{o:Out} (h:lH g E Es Hs (jm x y) inv D o):lH g E Es Hs y inv D o:=by
 cases o with
 | rt d=>exact h
 | nx Y =>
  intro O1 e a9 H' av F s;subst e;cases x with
  | none=>exact h O1 rfl a9 H' av F s
  | some b =>
   obtain ⟨bt,F2,m⟩:=F.gV (O':=b.filter fun i=>O1.contains i) fun i hi=>by
    have:=(yz.mp hi).2;simpa using this
   exact h _ rfl a9 H' bt F2 (s.trans m)
def VP (C:cF T cl X) (S:aL sc X) (h1:a8 T X.N c sc c'=true) :
  PT X c' (fun Z H Q=>∃ Y Hs d b,ar Hs H/\Vs (aE X) Y Z Hs (aK c)/\aw cl c Y=.ok d/\u6 c d=.ok b/\∀ H' av,aI H Hs H' av->Q b H'):=by
 intro ab s Z H Q I;rintro ⟨Y,Hs,d,b,hs,hv,hd,ht,k⟩;cases d <;> try (cases ht;done)
 .cases ht;exact (good c C S h1).2 ab s Z H Q I ⟨Y,Hs,_,hs,hv,hd,k⟩
 .rename_i ds;cases c <;> try (cases ht;done)
  cases ht;obtain ⟨x,y,z,p,rfl⟩:=oE h1;refine RX (good _ C S h1).1 (mX rfl) ab s Z H Q I ⟨Y,Hs,_,hs,hv,hd,fun v H1 ay g1 r1=>?_⟩;obtain ⟨a,xs,rfl,hx,hr⟩:=cP.mp r1;refine ⟨_,.inl ⟨xs,bA g1.sub hx,rfl⟩,?_⟩;have e:(!xs.isEmpty)=!ds.isEmpty:=by
   have:=hr.length;cases xs <;> cases ds <;> first | rfl | (simp at this)
  rw [e];exact k _ _ g1
def X2 {a b:List MS}{x:Ow} (C:cF T cl X) (S:aL sc X) (h1:a8 T X.N c sc c'=true) (ha:gu X a' (gi X E Es O x inv (bI cl a))) (hb:gu X b' (gi X E Es O y inv (bI cl b))) :
  PS X (.If c' a' b' pos) (gi X E Es O (jm x y) inv (bZ cl (.ifs c a b))):=by
 refine cI (U7 (VP C S h1) ha hb) fun D Z H=>?_
 rintro ⟨Y,Hs,o,F,h,k⟩;simp only [qr,qu,qv,qR,qw,qx,qy,qz] at h;obtain ⟨d,hd,hb⟩:=aj h;obtain ⟨t,ht,dM⟩:=aj hb;clear h hb;obtain ⟨ay,F1,m1,vs,w1⟩:=F.lL (aK c);refine ⟨Y,ay,d,t,F1.sub,vs,hd,ht,fun H1 bt g2=>?_⟩;obtain ⟨dP,g3,_,_⟩:=tE F.sub w1 g2;have m2:=g3.same F.sub;cases t with
 | true=>(try dsimp only);rw [if_pos rfl];rw [if_pos rfl] at dM;exact ⟨Y,dP,o,F.grown g3,dM,k.ES.mono m2⟩
 | false=>(try dsimp only);rw [if_neg (by decide)];rw [if_neg (by decide)] at dM;exact ⟨Y,dP,o,F.grown g3,dM,k.ET.mono m2⟩
def Mz {b:List MS} (C:cF T cl X) (S:aL sc X) (hp:PassesOwn (model X.prog X.w) X.A X.env X.xe) (hq:∀ q∈E.ab,q.1 ∉ aN t)
  (h1:gf X.N sc t tg=true) (h2:gR sc k tg iter=true) (h3:cu T X.N src sc (iT k iter)=true) (g_:∀ i∈O2,i∈without (without O (bK src)) (aN t)) (hy:∀ O3,y=some O3->∀ i∈O2,i∈O3)
  (hb:gu X body (gi X E Es O2 y O2 (bI cl b))):PS X (.For tg iter body [] pos) (gi X E Es O (some O2) inv (bZ cl (.a_ t k src b))):=by
 refine cI (O8 hp C.calm (sY C S (fun m _=>good m) h2 h3) (jM C S h1) hb (su (oY h2))) fun D Z H=>?_
 rintro ⟨Y,Hs,o,F,h,kk⟩;simp only [qr,qu,qv,qR,qw,qx,qy,qz] at h;obtain ⟨ss,ED,fy⟩:=aj h;obtain ⟨ds,o_,kr⟩:=aj fy;clear h fy;obtain ⟨ay,F1,m1,vs⟩:=F.iz (bK src);refine ⟨Y,ay,ds,F1.sub,vs,by simp only [ED,qP];exact o_,fun J H1 bt g2 sr=>?_⟩;have F2:=F1.grown g2;obtain ⟨dP,F3,m3⟩:=F2.gV (O':=O2) fun i hi=>(bQ.mp (g_ i hi)).1
 have mm:ar Hs dP:=(m1.trans (g2.same F1.sub)).trans m3;refine KD sr (fun i Z H=>∃ dJ av,FR (aE X) E Es O2 dJ Z H av/\ar dP av/\iC (fun d Y=>do let dJ <- c7 t d Y;bI cl b dJ) Y (ds.drop i) dJ=.ok o) ⟨Y,dP,F3,ar.refl _,kr⟩ (fun i Z H ⟨dJ,av,F',s',_⟩=>(m3.trans s').trans F'.sub) ?_ ?_
 .rintro i d x nK CB LZ Be ⟨dJ,av,F',s',jH⟩ L1;obtain ⟨bj,ed⟩:=yi.mp Be;rw [List.drop_eq_getElem_cons bj,ed] at jH;unfold iC at jH;obtain ⟨o1,jw,i5⟩:=aj jH;clear jH;obtain ⟨Bn,sg,ER⟩:=aj jw;clear jw;obtain ⟨kH,g4,rx⟩:=sr.kQ i CB x LZ av d (m3.trans s') F'.sub Be L1;have F4:=F'.grown g4;have s4:ar dP kH:=s'.trans (g4.same F'.sub);refine rZ (X:=X) g4.sub sg rx fun l hl mE ox=>?_
  have F5:=F4.putL (by rw [hl];exact hq) mE;rw [hl,<- ox] at F5;obtain ⟨HK,F6,m6⟩:=F5.gV (O':=O2) fun j hj=>bQ.mpr ⟨hj,(bQ.mp (g_ j hj)).2⟩
  refine ⟨Bn,HK,o1,F6,ER,?_⟩;have s6:ar dP HK:=s4.trans m6;cases o1 with
  | nx LV =>
   intro O3 e3 a9 H' CA F7 s7;obtain ⟨LW,F8,m8⟩:=F7.gV (hy O3 e3);exact ⟨aP Y LV,LW,F8.less (vg _ _) fun j d' q=>vA q,(s6.trans s7).trans m8,i5⟩
  | rt d3 =>
   intro v H' CA g7 r7;cases i5;exact kk v H' CA g7 r7
 .rintro nK CB ⟨dJ,av,F',s',jH⟩;rw [List.drop_length] at jH;cases jH;exact kk O2 rfl _ _ _ F' (mm.trans s')
def U8 (T:Tx) (cl:Nat->List D->R D) (m:MS):Prop:=∀ (X:Cx) (sc:Scope) (st:Stmt) (inv O:zi) (O':Ow) (E:Ent) (Es:Hp),(∀ q∈E.ab,q.1 ∉ Te m)->cF T cl X->aL sc X->PassesOwn (model X.prog X.w) X.A X.env X.xe->Ct T X.N sc m st=true->ux inv m O=some O'->PS X st (gi X E Es O O' inv (bZ cl m))
theorem tQ {T:Tx}{cl:Nat->List D->R D}:∀ {ms:List MS},(∀ m∈ms,U8 T cl m)->∀ {X:Cx}{sc:Scope}{sts:zn}{inv O:zi}{O':Ow}{E:Ent}{Es:Hp},(∀ q∈E.ab,q.1 ∉ vd ms)->cF T cl X->aL sc X->PassesOwn (model X.prog X.w) X.A X.env X.xe->ko T X.N sc ms sts=true->dB inv ms O=some O'->gu X sts (gi X E Es O O' inv (bI cl ms))
 | [],G,X,sc,sts,inv,O,O',E,Es,hq,C,S,hp,h,hc=>by
  rw [Kg,List.isEmpty_iff] at h;subst h;cases hc;refine nQ BR fun D Z H=>?_
  rintro ⟨Y,Hs,o,F,h,k⟩;simp only [qq,qQ] at h;cases h;exact k O rfl Z H Hs F (ar.refl _)
 | m::ms,G,X,sc,[],inv,O,O',E,Es,hq,C,S,hp,h,hc=>by cases h
 | m::ms,G,X,sc,st::sts,inv,O,O',E,Es,hq,C,S,hp,h,hc=>by
  simp only [Fz,Bool.and_eq_true] at h;rw [Dh] at hc;cases e1:ux inv m O with
  | none=>rw [e1] at hc;cases hc
  | some x =>
   rw [e1] at hc;have h1:=G m vj X sc st inv O _ E Es (fun q hm z=>hq q hm (vk _ z)) C S hp h.1 e1;cases x with
   | none =>
    have c_:O'=none:=by
     have:some (none:Ow)=some O':=hc;cases this;rfl
    subst c_;refine nQ (lg h1 (CT (sts:=sts))) fun D Z H=>?_
    rintro ⟨Y,Hs,o,F,h,k⟩;simp only [qq,qQ] at h;obtain ⟨o1,jw,h2⟩:=aj h;clear h;refine ⟨Y,Hs,o1,F,jw,?_⟩;cases o1 with
    | nx ρ'=>intro O1 e;cases e
    | rt d=>cases h2;exact k
   | some O1 =>
    have h2:=tQ (fun q hq=>G q (vi _ hq)) (E:=E) (Es:=Es) (fun q hm z=>hq q hm (vn _ z)) C S hp h.2 (show dB inv ms O1=some O' from hc);refine nQ (lg h1 h2) fun D Z H=>?_
    rintro ⟨Y,Hs,o,F,h,k⟩;simp only [qq,qQ] at h;obtain ⟨o1,jw,h2⟩:=aj h;clear h;refine ⟨Y,Hs,o1,F,jw,?_⟩;cases o1 with
    | nx ρ' =>
     intro O2 e a9 H' av F' s';cases e;exact ⟨ρ',av,o,F',h2,k.mono s'⟩
    | rt d=>cases h2;exact k
theorem pW {T:Tx}{cl:Nat->List D->R D}:∀ m:MS,U8 T cl m
 | .set t e=>fun X sc st inv O O' E Es hq C S hp h hc=>by
  obtain ⟨Pp,v,p,rfl⟩:=Ay h;rcases Pp with _ | ⟨tg,_ | ⟨Xs,Pp⟩⟩ <;> try (cases h;done)
  rw [Xu] at h;simp only [Bool.and_eq_true,Bool.not_eq_true'] at h;obtain ⟨⟨⟨h1,h2⟩,EJ⟩,h4⟩:=h;by_cases Pw:BX e=true
  .cases e <;> try (cases Pw;done)
   cases t with
   | two i j =>
    skip
    cases hc;exact KC C S hq h1 h2 h4
   | one i =>
    cases hc;exact KC C S hq h1 h2 h4
  have h3:gq v=true:=by
   simp only [Bool.or_eq_true] at EJ;rcases EJ with z | z
   .exact z
   .exact absurd z Pw
  cases t with
  | two i j =>
   skip
   cases hc;exact Qt C S hq h1 h2 h3 h4
  | one i =>
   skip
   cases hc;by_cases hf:Qm e=true
   .rw [if_pos hf];cases e <;> try (cases hf;done)
    .exact Wu C S (fun q hm z=>hq q hm (by rw [z];exact yn.mpr rfl)) h1 h2 h3 h4
    .exact Wc C S (fun q hm z=>hq q hm (by rw [z];exact yn.mpr rfl)) h1 h2 h3 h4
    .exact Xk C S (fun q hm z=>hq q hm (by rw [z];exact yn.mpr rfl)) h1 h2 h3 h4
   .rw [if_neg hf];exact Qt C S hq h1 h2 h3 h4
 | .app i e=>fun X sc st inv O O' E Es hq C S hp h hc=>by
  .obtain ⟨_,_,_,_,_,_,_,rfl,h9⟩:=FW h;replace h:=h9;clear h9;simp only [Bool.and_eq_true,decide_eq_true_eq] at h;obtain ⟨⟨⟨⟨⟨⟨h1,h2⟩,h3⟩,h4⟩,h5⟩,h6⟩,h7⟩:=h;subst h4;rw [QW] at hc;split at hc
   .rename_i hi;cases hc;exact Yo C S h1 h2 h3 h5 h6 h7 (by simpa using hi)
   .cases hc
 | .ext i e=>fun X sc st inv O O' E Es hq C S hp h hc=>by
  .obtain ⟨_,_,_,_,_,_,_,rfl,h9⟩:=FW h;replace h:=h9;clear h9;simp only [Bool.and_eq_true,decide_eq_true_eq] at h;obtain ⟨⟨⟨⟨⟨⟨h1,h2⟩,h3⟩,h4⟩,h5⟩,h6⟩,h7⟩:=h;subst h4;rw [QZ] at hc;split at hc
   .rename_i hi;cases hc;exact ZJ C S h1 h2 h3 h5 h6 h7 (by simpa using hi)
   .cases hc
 | .eh i k v=>fun X sc st inv O O' E Es hq C S hp h hc=>by
  obtain ⟨_,_,_,_,_,_,rfl,h9⟩:=Td h;simp only [Bool.and_eq_true,decide_eq_true_eq] at h9;obtain ⟨⟨⟨⟨⟨⟨h1,h2⟩,h3⟩,h4⟩,h5⟩,h6⟩,h7⟩:=h9;replace hc:(if O.contains i then some (some O) else none)=some O':=hc;split at hc
  .rename_i hi;cases hc;exact Wi C S h1 h2 h3 h5 h6 h7 h4 (by simpa using hi)
  .cases hc
 | .uu c b=>fun X sc st inv O O' E Es hq C S hp h hc=>by
  obtain ⟨c',body,f_,p,rfl⟩:=Nf h;cases f_ <;> try (cases h;done)
  replace h:(a8 T X.N c sc c' && ko T X.N sc b body)=true:=h;rw [Bool.and_eq_true] at h;replace hc:(do
   let x <- dB O b O
   let O2:=(jm (some O) x).getD []
   let y <- dB O2 b O2
   match y with
   | none=>some (some O2)
   | some O3=>if O2.all (fun i=>O3.contains i) then some (some O2) else none)=some O':=hc
  dsimp only at hc;cases e1:dB O b O with
  | none=>rw [e1] at hc;cases hc
  | some x =>
   rw [e1] at hc;simp only [Option.bind_eq_bind,Option.bind_some] at hc;generalize L3:(jm (some O) x).getD []=O2 at hc;cases e2:dB O2 b O2 with
   | none=>rw [e2] at hc;cases hc
   | some y =>
    rw [e2] at hc;simp only [Option.bind_some] at hc;have g_:∀ i∈O2,i∈O:=by
     rw [<- L3];cases x with
     | none=>exact fun i hi=>hi
     | some b'=>exact fun i hi=>(yz.mp hi).1
    have L4:O'=some O2/\∀ O3,y=some O3->∀ i∈O2,i∈O3:=by
     cases y with
     | none=>simp only at hc;cases hc;exact ⟨rfl,fun O3 e=>by cases e⟩
     | some O3 =>
      simp only at hc;split at hc
      .rename_i ha;cases hc;refine ⟨rfl,fun O4 e i hi=>?_⟩;cases e;have:=yv.mp ha i hi;simpa using this
      .cases hc
    obtain ⟨rfl,hy⟩:=L4;exact TJ C S hp h.1 g_ hy (tQ (fun m _=>pW m) hq C S hp h.2 e2)
 | .um i g=>fun X sc st inv O O' E Es hq C S hp h hc=>by
  have c_:(if O.contains i && !(fT g).contains i then some (some [i]) else none)=some O':=hc;split at c_
  .rename_i hi;cases c_;simp only [Bool.and_eq_true,Bool.not_eq_true'] at hi;exact Yq C S hp hq h (by simpa using hi.1) (by simpa using hi.2)
  .cases c_
 | .expr e=>fun X sc st inv O O' E Es hq C S hp h hc=>by
  obtain ⟨_,_,rfl⟩:=zq h;rw [Uw] at h;simp only [Bool.and_eq_true] at h;cases hc;exact VN C S h.1 h.2
 | .ret e=>fun X sc st inv O O' E Es hq C S hp h hc=>by
  obtain ⟨v,p,rfl⟩:=Lr h;cases hc;cases v with
  | none=>exact Wh h
  | some v=>exact Yp C S h
 | .ifs c a b=>fun X sc st inv O O' E Es hq C S hp h hc=>by
  obtain ⟨_,_,_,_,rfl⟩:=ZD h;rw [Wz] at h;simp only [Bool.and_eq_true] at h;obtain ⟨⟨h1,h2⟩,h3⟩:=h;rw [Uk] at hc;cases e1:dB inv a O with
  | none=>rw [e1] at hc;cases hc
  | some x =>
   rw [e1] at hc;cases e2:dB inv b O with
   | none=>rw [e2] at hc;cases hc
   | some y =>
    rw [e2] at hc;cases (show some (jm x y)=some O' from hc);exact X2 C S h1 (tQ (fun m _=>pW m) (fun q hm z=>hq q hm (vk _ z)) C S hp h2 e1) (tQ (fun m _=>pW m) (fun q hm z=>hq q hm (vn _ z)) C S hp h3 e2)
 | .a_ t k src b=>fun X sc st inv O O' E Es hq C S hp h hc=>by
  .obtain ⟨tg,iter,body,f_,p,rfl⟩:=Kq h;cases f_ <;> try (cases h;done)
   replace h:(gf X.N sc t tg && gR sc k tg iter && cu T X.N src sc (iT k iter) && ko T X.N sc b body)=true:=h;simp only [Bool.and_eq_true] at h;obtain ⟨⟨⟨h1,h2⟩,h3⟩,h4⟩:=h;rw [Rn] at hc;dsimp only at hc;cases e1:dB (without (without O (bK src)) (aN t)) b (without (without O (bK src)) (aN t)) with
   | none=>rw [e1] at hc;cases hc
   | some x =>
    rw [e1] at hc;simp only [Option.bind_eq_bind,Option.bind_some] at hc;generalize L3:(jm (some (without (without O (bK src)) (aN t))) x).getD []=O2 at hc;cases e2:dB O2 b O2 with
    | none=>rw [e2] at hc;cases hc
    | some y =>
     rw [e2] at hc;simp only [Option.bind_some] at hc;have g_:∀ i∈O2,i∈without (without O (bK src)) (aN t):=by
      rw [<- L3];cases x with
      | none=>exact fun i hi=>hi
      | some b'=>exact fun i hi=>(yz.mp hi).1
     have L4:O'=some O2/\∀ O3,y=some O3->∀ i∈O2,i∈O3:=by
      cases y with
      | none=>simp only at hc;cases hc;exact ⟨rfl,fun O3 e=>by cases e⟩
      | some O3 =>
       simp only at hc;split at hc
       .rename_i ha;cases hc;refine ⟨rfl,fun O4 e i hi=>?_⟩;cases e;have:=yv.mp ha i hi;simpa using this
       .cases hc
     obtain ⟨rfl,hy⟩:=L4;exact Mz C S hp (fun q hm z=>hq q hm (vk _ z)) h1 h2 h3 g_ hy (tQ (fun m _=>pW m) (fun q hm z=>hq q hm (vn _ z)) C S hp h4 e2)
 | .og j e=>fun X sc st inv O O' E Es hq C S hp h hc=>by cases h
 | .r9=>fun X sc st inv O O' E Es hq C S hp h hc=>by
  refine cI Ud fun D Z H=>?_
  rintro ⟨Y,Hs,o,F,h,k⟩;simp only [qr,qu,qv,qR,qw,qx,qy,qz] at h;cases h
termination_by m=>sizeOf m
decreasing_by
 all_goals simp_wf
 all_goals (have:=List.sizeOf_lt_of_mem ‹_∈_›;omega)
end
def uX (N ps:zk) (sc:Scope):Bool :=
 decide (sc.kind=.function) && !sc.isCoroutine && !sc.isGenerator && decide N.Nodup && decide (N.take ps.length=ps) && (ps.all fun x=>j7 sc x) && sc.names.all fun y=>decide (y.2≠.free)
def pJ {ps:zk} (h:uX N ps sc=true):cS N ps sc:=by
 unfold uX at h;simp only [Bool.and_eq_true,decide_eq_true_eq,Bool.not_eq_true',List.all_eq_true] at h;obtain ⟨⟨⟨⟨⟨⟨h1,h2⟩,h3⟩,h4⟩,h5⟩,h6⟩,h7⟩:=h;exact ⟨h1,h2,h3,h4,h5,fun x hx=>jq (h6 x hx),fun y hy=>h7 y hy⟩
def vY (T:Tx) (d:Def) (N ps:zk) (st:Stmt):Bool :=
 uX N ps (aM st) && decide (d.np=ps.length) && decide (d.nn=N.length) && ko T N (aM st) d.body (cT st) && (!d.D6 || (dB [] d.body []).isSome)
def G8 {m k:Nat} (hs:ar Hs H) (r:ax g Hs ds vs) (e:m=k):FR g ⟨H,[]⟩ Hs [] (ds.map some++List.replicate m none) (vs.map some++List.replicate k none) H Hs:=by
 subst e;refine ⟨aI.refl hs,by simp [r.length],fun i d h _=>?_,fun i hi=>(by cases hi),fun i hi=>(by cases hi),fun q hq=>by cases hq⟩;by_cases hi:i < ds.length
 .rw [List.getElem?_append_left (by simpa using hi),List.getElem?_map] at h;cases q:ds[i]? with
  | none=>rw [q] at h;cases h
  | some d' =>
   rw [q] at h;cases h;obtain ⟨v,ev,rv⟩:=r.getD q;refine ⟨v,?_,rv⟩;rw [List.getElem?_append_left (by rw [List.length_map,<- r.length];exact hi),List.getElem?_map,ev];rfl
 .rw [List.getElem?_append_right (by simpa using hi),List.getElem?_replicate] at h;split at h <;> cases h
noncomputable def v5 (K:zd):Value->Bool
 | .ref cc=>(match K.lookup cc with
  | some ⟨.type t,_,.fields vs,_⟩=>decide (t="code") && (match (vs[11]?:Option Value) with
   | some (.ref p)=>(match vs.getD 18 .none with
    | .str _ _=>(match vs.getD 7 .none with
     | .int _ _=>(match vs.getD 9 .none with
      | .bool _=>(match vs.getD 10 .none with
       | .int _ _=>decide (cc≠p)
       | _=>false)
      | _=>false)
     | _=>false)
    | _=>false)
   | _=>false)
  | _=>false)
 | _=>false
structure FF (K:zd) (x:Str) (st:Stmt):Prop where
 ex:∃ a fd,PySem.W.nsIn K mainGlobals x=some (some (.ref a))/\nS K x x st a fd/\v5 K fd.code=true
def fB (K:zd) (x:Str) (a:Addr):Bool:=(match PySem.W.nsIn K mainGlobals x with
 | some (some (.ref b))=>decide (b=a)
 | _=>false) && PySem.W.codeIn K (.ref (a - 1)) x && PySem.W.keepIn K (.ref a) && v5 K (.ref (a - 1))
def X9 {m:Value} (l:K.lookup a=some (fO x st m a)) (h:fB K x a=true):FF K x st:=by
 unfold fB at h;simp only [Bool.and_eq_true] at h;obtain ⟨⟨⟨h1,h2⟩,h3⟩,h4⟩:=h;split at h1
 .rename_i b e;cases of_decide_eq_true h1;exact ⟨⟨_,_,e,Zk l h2 h3,h4⟩⟩
 .cases h1
theorem N7 {ns:zk}{sf:Nat -> Stmt}{mf:Nat -> Value}{af:Nat -> Addr} (hl:(List.range n).map (fun i=>K.lookup (af i))=(List.range n).map fun i=>some (fO (ns.getD i "law") (sf i) (mf i) (af i))) (hb:((List.range n).all fun i=>fB K (ns.getD i "law") (af i))=true) (i:Nat) (h:i < n):FF K (ns.getD i "law") (sf i) :=
 X9 (List.map_inj_left.mp hl i (yA.mpr h)) (yv.mp hb i (yA.mpr h))
noncomputable def TY (l:List (Str × D)) (K:zd):Bool:=l.all fun p=>match PySem.W.nsIn K mainGlobals p.1,p.2 with
 | some (some (.int i _)),.int j=>decide (i=j)
 | _,_=>false
variable {h:Heap}{mg:w8}
def X_ {l:List (Str × D)} (X:K.In h) (G:h.Ns mainGlobals mg) (hb:TY l K=true) (e:l.lookup x=some d):Hn d (mg x):=by
 have h1:=yv.mp hb _ (y8 e);dsimp only at h1;split at h1
 .rename_i e1;cases of_decide_eq_true h1;rw [PySem.W.mg_of X G e1];exact ⟨_,rfl⟩
 .cases h1
def L5 (K:zd):Bool:=n8.all fun f=>match PySem.W.nsIn K mainGlobals f with
 | some none=>true
 | _=>false
def YA (X:K.In h) (G:h.Ns mainGlobals mg) (hb:L5 K=true) (f:Str) (hf:f∈n8):mg f=none:=by
 have h1:=yv.mp hb f hf;split at h1
 .rename_i e;exact PySem.W.mg_none_of X G e
 .cases h1
variable {α:Type}
theorem YE {p:List α->Prop} (h:∀ a,p [a]):∀ us:List α,us.length=1->p us
 | [_],_=>h _
theorem PD {p:List α->Prop} (h:∀ a b,p [a,b]):∀ us:List α,us.length=2->p us
 | [_,_],_=>h _ _
theorem YI {p:List α->Prop} (h:∀ a b c,p [a,b,c]):∀ us:List α,us.length=3->p us
 | [_,_,_],_=>h _ _ _
theorem YN {p:List α->Prop} (h:∀ a b c d,p [a,b,c,d]):∀ us:List α,us.length=4->p us
 | [_,_,_,_],_=>h _ _ _ _
end Mi
namespace Mi
open PySem L2
theorem aY {α:Type}{f:D->R (Option D)}{enc e:α->D}{p:α->Bool}:∀ (l:List α),(∀ a∈l,f (enc a)=.ok (if p a then some (e a) else none))->cQ f (l.map enc)=.ok ((l.filter p).map e)
 | [],_=>rfl
 | a::l,h=>by
  have h1:=h a vj;have h2:=aY l fun b hb=>h b (vi _ hb)
  simp only [List.map_cons,cQ,h1,h2,qP,List.filter_cons];cases p a <;> simp
variable {α:Type}
def cR {f:D->R (Option D)}{enc e:α->D} (l:List α) (h:∀ a∈l,f (enc a)=.ok (some (e a))):cQ f (l.map enc)=.ok (l.map e):=by
 have:=aY (f:=f) (enc:=enc) (e:=e) (p:=fun _=>true) l (by simpa using h);rw [List.filter_eq_self.mpr (fun _ _=>rfl)] at this;exact this
theorem cB {α β:Type}{f:D->En->R Out}{cA:En} (enc:β->D) (S:α->En) (step:α->β->α) (P:α->List β->Prop)
  (h:∀ a x xs,P a (x::xs)->P (step a x) xs/\∃ ρ',f (enc x) (S a)=.ok (.nx ρ')/\aP cA ρ'=S (step a x)):∀ (xs:List β) (a:α),P a xs->iC f cA (xs.map enc) (S a)=.ok (.nx (S (xs.foldl step a)))
 | [],a,_=>rfl
 | x::xs,a,p=>by
  obtain ⟨p2,ρ',h1,h2⟩:=h a x xs p;simp only [List.map_cons,iC,h1,qP,h2,List.foldl_cons];exact cB enc S step P h xs (step a x) p2
theorem CK {α β:Type} (g:β->List α):∀ (xs:List β) (a:List α),xs.foldl (fun acc x=>acc++g x) a=a++xs.flatMap g
 | [],a=>by simp
 | x::xs,a=>by simp [CK g xs]
variable {β:Type}{f:D->En->R Out}{cA:En}
def dU (enc:β->D) (S:List α->En) (g:β->List α) (B:Nat) (xs:List β)
  (h:∀ (acc:List α),∀ x∈xs,acc.length+(g x).length<=B->∃ ρ',f (enc x) (S acc)=.ok (.nx ρ')/\aP cA ρ'=S (acc++g x)) (a:List α) (hB:a.length+(xs.flatMap g).length<=B):iC f cA (xs.map enc) (S a)=.ok (.nx (S (a++xs.flatMap g))):=by
 rw [<- CK];refine cB enc S _ (fun acc ys=>acc.length+(ys.flatMap g).length<=B/\∀ y∈ys,y∈xs) (fun acc x ys p=>?_) xs a ⟨hB,fun y hy=>hy⟩;obtain ⟨p,q⟩:=p;simp only [List.flatMap_cons,List.length_append] at p;exact ⟨⟨by simp only [List.length_append];omega,fun y hy=>q y (vi _ hy)⟩,h acc x (q x vj) (by omega)⟩
def rD (enc:β->D) (S:α->En) (step:α->β->α) (P:α->Prop) (xs:List β)
  (h:∀ a,∀ x∈xs,P a->P (step a x)/\∃ ρ',f (enc x) (S a)=.ok (.nx ρ')/\aP cA ρ'=S (step a x)) (a:α) (hP:P a):iC f cA (xs.map enc) (S a)=.ok (.nx (S (xs.foldl step a))):=by
 refine cB enc S step (fun a ys=>P a/\∀ y∈ys,y∈xs) (fun a x ys p=>?_) xs a ⟨hP,fun y hy=>hy⟩;obtain ⟨h1,h2⟩:=h a x (p.2 x vj) p.1;exact ⟨⟨h1,fun y hy=>p.2 y (vi _ hy)⟩,h2⟩
noncomputable abbrev eN (n:Nat):D:=.int n
def ao (r:zi):D:=.tup (r.map eN)
def eP (p:Nat × Nat):D:=.tup [eN p.1,eN p.2]
abbrev ag:=List (Nat × Nat)
def eM (m:ag):D:=.tup (m.map eP)
def eB (lv:zi) (bs:List ag):D:=.tup [ao lv,.tup (bs.map eM)]
structure Enc {α:Type} (enc:α->D):Prop where
 inj:∀ a b,enc a=enc b->a=b
 key:∀ a,keyOk (enc a)=true
 dp:∀ a,dep (enc a)<=4
theorem gK {α:Type}{enc:α->D} (h:∀ a,keyOk (enc a)=true):∀ l:List α,bT (l.map enc)=true
 | []=>rfl
 | a::l=>by simp [bT,h a,gK h l]
theorem iH {α:Type}{enc:α->D}{n:Nat} (h:∀ a,dep (enc a)<=n):∀ l:List α,ba (l.map enc)<=n
 | []=>v3 _
 | a::l=>by
  simp only [List.map_cons,ba];have:=h a;have:=iH h l;omega
def xu:Enc eN:=⟨fun a b h=>by injection h with h;exact Int.ofNat.inj h,fun _=>rfl,fun _=>v3 _⟩
def lE:Enc ao:=by
 refine ⟨fun a b h=>?_,fun a=>?_,fun a=>?_⟩
 .unfold ao at h;injection h with h;exact (List.map_inj_right xu.inj).mp h
 .simp only [ao,keyOk];exact gK xu.key a
 .simp only [ao,dep];have:=iH (n:=0) (fun a=>vE (dep (eN a))) a;omega
def Et:Enc eP:=by
 refine ⟨fun a b h=>?_,fun a=>rfl,fun a=>by simp [eP,dep,ba,eN]⟩;unfold eP at h;injection h with h;injection h with h1 h2;injection h2 with h2 _;exact Prod.ext (xu.inj _ _ h1) (xu.inj _ _ h2)
def YO (p:Nat × Nat):dep (eP p)=1:=by simp [eP,dep,ba,eN]
def nu:Enc eM:=by
 refine ⟨fun a b h=>?_,fun a=>?_,fun a=>?_⟩
 .unfold eM at h;injection h with h;exact (List.map_inj_right Et.inj).mp h
 .simp only [eM,keyOk];exact gK Et.key a
 .simp only [eM,dep];have:=iH (n:=1) (fun p=>Nat.le_of_eq (YO p)) a;omega
section
variable {α:Type}{enc:α->D} [DecidableEq α]
def Enc.eqs (E:Enc enc) (l l':List α):cL (l.map enc) (l'.map enc)=decide (l=l'):=by
 rw [vf (gK E.key l) (gK E.key l')];by_cases h:l=l'
 .subst h;simp
 .rw [decide_eq_false h,decide_eq_false fun z=>h ((List.map_inj_right E.inj).mp z)]
def Enc.flat (E:Enc enc) (l l':List α):aZ (.lst (l.map enc)) (.lst (l'.map enc))=true:=by
 have h1:=iH E.dp l;have h2:=iH E.dp l';have e:∀ l:List α,dep (.lst (l.map enc))=ba (l.map enc)+1:=fun l=>by rw [dep]
 unfold aZ;rw [e,e,decide_eq_true (show ba (l.map enc)+1<=30 by omega),decide_eq_true (show ba (l'.map enc)+1<=30 by omega)];rfl
def Enc.x3 (E:Enc enc) (l l':List α):bw .eq (.lst (l.map enc)) (.lst (l'.map enc))=.ok (decide (l=l')):=by
 simp only [bw,E.flat,if_true,aH,E.eqs]
def Enc.EU (E:Enc enc) (l l':List α):bw .ne (.lst (l.map enc)) (.lst (l'.map enc))=.ok (!decide (l=l')):=by
 simp only [bw,E.flat,if_true,aH,E.eqs]
def Enc.iE (E:Enc enc) (l:List α):bw .eq (.lst (l.map enc)) (.lst [])=.ok l.isEmpty:=by
 have:=E.x3 l [];rw [List.map_nil] at this;rw [this];cases l <;> simp
def Enc.lP (E:Enc enc) (l:List α):bw .ne (.lst (l.map enc)) (.lst [])=.ok (!l.isEmpty):=by
 have:=E.EU l [];rw [List.map_nil] at this;rw [this];cases l <;> simp
end
def Km (m:ag):isKey (eM m)=true:=by
 have h1:=nu.key m;have h2:=nu.dp m;unfold isKey;rw [h1,decide_eq_true (show dep (eM m)<=6 by omega)];rfl
def U4 (ks:List ag) (m:ag):lA (ks.map eM) (eM m)=true:=by
 have h:(ks.map eM).all isKey=true:=by
  rw [List.all_eq_true];intro a ha;obtain ⟨x,_,rfl⟩:=yl.mp ha;exact Km x
 unfold lA;rw [Km,h];rfl
noncomputable def dw {α:Type} [DecidableEq α] (ks:List α) (m:α):List α:=if m∈ks then ks else ks++[m]
def eK (ks:List ag):D:=.bE (ks.map eM) (List.replicate ks.length (.bl true))
variable {vs:List D}
def YH {ks:List D}{k v r:D} (h:putD (.bE ks vs) k v=.ok r) (hv:nt v=true) (hk:nt k=true):Bu (.bE ks vs) k v=.ok r:=by
 show (if (nt v && nt k)=true then putD (.bE ks vs) k v else .stuck)=_
 rw [hv,hk];exact h
theorem YF:∀ m:ag,nt (eM m)=true
 | []=>rfl
 | _::m=>YF m
def Ou (ks:List ag) (m:ag) (h:ks.length < lim):Bu (eK ks) (eM m) (.bl true)=.ok (eK (dw ks m)):=by
 refine YH ?_ rfl (YF m);have hk:=U4 ks m;simp only [eK,putD,List.length_map,List.length_replicate];rw [if_pos ⟨hk,h,trivial⟩];have hm:eM m∈ks.map eM↔m∈ks:=⟨fun z=>by obtain ⟨a,ha,e⟩:=yl.mp z;rw [nu.inj _ _ e] at ha;exact ha,fun z=>yl.mpr ⟨m,z,rfl⟩⟩;unfold dw jc;by_cases cz:m∈ks
 .rw [if_pos (hm.mpr cz),if_pos cz];have:((ks.map eM).zip (List.replicate ks.length (D.bl true))).map (fun p=>if p.1=eM m then D.bl true else p.2)=List.replicate ks.length (D.bl true):=by
   refine List.ext_getElem (by simp) fun i h1 h2=>?_
   simp
  rw [this]
 .rw [if_neg fun z=>cz (hm.mp z),if_neg cz];simp [List.replicate_succ']
def S7 [DecidableEq α] {ks:List α}{m x:α}:x∈dw ks m↔x∈ks\/x=m:=by
 unfold dw;split
 .constructor
  .exact .inl
  .rintro (h | rfl) <;> assumption
 .simp
def K6 [DecidableEq α] {ks:List α}{m:α} (h:ks.Nodup):(dw ks m).Nodup:=by
 unfold dw;split
 .exact h
 .rename_i hm;rw [List.nodup_append];refine ⟨h,by simp,fun a ha b hb=>?_⟩;rw [List.mem_singleton.mp hb];rintro rfl;exact hm ha
theorem pO {α:Type} [DecidableEq α] {x:α}:∀ {ms ks:List α},x∈ms.foldl dw ks↔x∈ks\/x∈ms
 | [],ks=>by simp
 | m::ms,ks=>by
  rw [List.foldl_cons,pO,S7,List.mem_cons,or_assoc]
theorem rJ {α:Type} [DecidableEq α]:∀ {ms ks:List α},ks.Nodup->(ms.foldl dw ks).Nodup
 | [],ks,h=>h
 | m::ms,ks,h=>by rw [List.foldl_cons];exact rJ (K6 h)
def tu [DecidableEq α] (ks:List α) (m:α):(dw ks m).length<=ks.length+1:=by
 unfold dw;split
 .omega
 .simp
theorem vR {α:Type} [DecidableEq α]:∀ (ms ks:List α),(ms.foldl dw ks).length<=ks.length+ms.length
 | [],ks=>by simp
 | m::ms,ks=>by
  have:=vR ms (dw ks m);have:=tu ks m;simp only [List.foldl_cons,List.length_cons];omega
def x4 (p q:Nat × Nat):Prop:=p.1 < q.1\/(p.1=q.1/\p.2 < q.2)
def sh (a b:ag):Prop:=∃ c x y s t,a=c++x::s/\b=c++y::t/\x4 x y
variable {p q:Nat × Nat}
def YR (h:x4 p q):ck (eP p) (eP q)=true:=by
 obtain ⟨a,b⟩:=p;obtain ⟨c,d⟩:=q;simp only [eP,ck,bU,eN];rcases h with h | ⟨h1,h2⟩
 .have:¬ (D.int (a:Int)=D.int (c:Int)):=fun z=>by injection z with z;simp only at h;omega
  rw [if_neg this];simp only at h;simp;omega
 .simp only at h1 h2;subst h1;rw [if_pos rfl];have:¬ (D.int (b:Int)=D.int (d:Int)):=fun z=>by injection z with z;omega
  rw [if_neg this];simp;omega
def XQ (h:x4 p q):p≠q:=by
 rintro rfl;rcases h with h | ⟨_,h⟩ <;> omega
variable {x y:Nat × Nat}
def Uo (c:ag) {s t:ag} (h:x4 x y):bU ((c++x::s).map eP) ((c++y::t).map eP)=true:=by
 induction c with
 | nil =>
  simp only [List.nil_append,List.map_cons,bU];rw [if_neg fun z=>XQ h (Et.inj _ _ z)];exact YR h
 | cons z c ih =>
  simp only [List.cons_append,List.map_cons,bU,if_true];exact ih
variable {a b:ag}
def Vh (h:sh a b):ck (eM a) (eM b)=true:=by
 obtain ⟨c,x,y,s,t,rfl,rfl,h⟩:=h;simp only [eM,ck];exact Uo c h
def sh.app (h:sh a b) (u v:ag):sh (a++u) (b++v):=by
 obtain ⟨c,x,y,s,t,rfl,rfl,h⟩:=h;exact ⟨c,x,y,s++u,t++v,by simp,by simp,h⟩
def sh.last (c:ag) (h:x4 x y):sh (c++[x]) (c++[y]):=⟨c,x,y,[],[],rfl,rfl,h⟩
def Qx (h:sh a b):a≠b:=by
 rintro rfl;have:=Vh h;rw [xO] at this;cases this
def YU (p q:Nat × Nat):bV (eP p) (eP q)=true:=by
 simp only [eP,bV,eV];split
 .split
  .rfl
  .rfl
 .rfl
theorem MF:∀ (a b:ag),eV (a.map eP) (b.map eP)=true
 | [],b=>by simp [eV]
 | x::a,[]=>by simp [eV]
 | x::a,y::b=>by
  simp only [List.map_cons,eV];split
  .exact MF a b
  .exact YU x y
def YV (a b:ag):bV (eM a) (eM b)=true:=by simp only [eM,bV];exact MF a b
def Ie {ks L:List ag} (hn:ks.Nodup) (hL:L.Pairwise sh) (hm:∀ m,m∈ks↔m∈L) (hl:L.length < 64) (h0:∀ m∈L,m≠[]):gn (.bE (ks.map eM) vs)=.ok (.lst (L.map eM)):=by
 have nL:L.Nodup:=hL.imp fun h=>Qx h
 have perm:L.Perm ks:=(List.perm_ext_iff_of_nodup nL hn).mpr fun m=>(hm m).symm
 have hlen:=perm.length_eq;have hc:jF (ks.map eM):=fun a ha b hb=>by
  obtain ⟨x,_,rfl⟩:=yl.mp ha;obtain ⟨y,_,rfl⟩:=yl.mp hb;exact YV x y
 have iF:jo (ks.map eM)=L.map eM:=yJ hc (perm.map eM) (List.pairwise_map.mpr (hL.imp fun h=>by
  unfold kG;exact Fx (Vh h)))
 have ok:jW (ks.map eM)=true:=by
  unfold jW;simp only [Bool.and_eq_true,Bool.or_eq_true,decide_eq_true_eq,List.length_map,List.all_eq_true];refine ⟨⟨⟨⟨by omega,?_⟩,fun a ha b hb=>hc a ha b hb⟩,gK nu.key ks⟩,.inr ?_⟩
  .have:=iH nu.dp ks;omega
  .intro d hd;obtain ⟨m,YY,rfl⟩:=yl.mp hd;have:=h0 m ((hm m).mp YY);cases m with
   | nil=>exact absurd rfl this
   | cons p m=>rfl
 simp only [gn,Bj,qP,ok,if_true,iF]
noncomputable def bY (rs:ze) (l:Nat):ze:=rs.flatMap fun r=>(List.range l).map fun s=>r++[s]
def rows (lv:zi):ze:=lv.foldl bY [[]]
def fP:zi->zi->Prop
 | [],[]=>True
 | l::ls,x::xs=>x < l/\fP ls xs
 | _,_=>False
theorem Cz:∀ {lv:zi}{rs:ze}{r:zi},r∈lv.foldl bY rs↔∃ a∈rs,∃ t,r=a++t/\fP lv t
 | [],rs,r=>by
  simp only [List.foldl_nil];constructor
  .intro h;exact ⟨r,h,[],by simp,trivial⟩
  .rintro ⟨a,ha,t,rfl,ht⟩;cases t with
   | nil=>simpa using ha
   | cons _ _=>exact ht.elim
 | l::lv,rs,r=>by
  rw [List.foldl_cons,Cz];constructor
  .rintro ⟨a,ha,t,rfl,ht⟩;unfold bY at ha;rw [List.mem_flatMap] at ha;obtain ⟨b,hb,ha⟩:=ha;obtain ⟨s,hs,rfl⟩:=yl.mp ha;exact ⟨b,hb,s::t,by simp,yA.mp hs,ht⟩
  .rintro ⟨a,ha,t,rfl,ht⟩;cases t with
   | nil=>exact ht.elim
   | cons s t =>
    refine ⟨a++[s],?_,t,by simp,ht.2⟩;unfold bY;rw [List.mem_flatMap];exact ⟨a,ha,yl.mpr ⟨s,yA.mpr ht.1,rfl⟩⟩
variable {lv r:zi}
def kE :r∈rows lv↔fP lv r:=by
 unfold rows;rw [Cz];constructor
 .rintro ⟨a,ha,t,rfl,ht⟩;rw [List.mem_singleton.mp ha];exact ht
 .intro h;exact ⟨[],by simp,r,by simp,h⟩
theorem fP.len:∀ {lv r:zi},fP lv r->r.length=lv.length
 | [],[],_=>rfl
 | _::_,_::_,h=>by simp [fP.len h.2]
 | [],_::_,h=>h.elim
 | _::_,[],h=>h.elim
theorem fP.get':∀ {lv r:zi}{i:Nat},fP lv r->∀ {x:Nat},r[i]?=some x->∃ l,lv[i]?=some l/\x < l
 | _,[],i,_,l,e=>by simp at e
 | [],x::r,i,h,_,e=>h.elim
 | l::lv,x::r,0,h,l',e=>by simp at e;subst e;exact ⟨l,rfl,h.1⟩
 | l::lv,x::r,i+1,h,l',e=>by simpa using fP.get' h.2 (i:=i) (by simpa using e)
noncomputable def prod (lv:zi):Nat:=lv.foldl (· * ·) 1
theorem DK {α:Type} (k:Nat):∀ (l:List α),(l.map fun _=>k).sum=l.length * k
 | []=>by simp
 | a::l=>by simp [DK k l,Nat.succ_mul,Nat.add_comm]
def vW (rs:ze) (l:Nat):(bY rs l).length=rs.length * l:=by
 unfold bY;rw [List.length_flatMap];simp only [List.length_map,List.length_range];exact DK l rs
theorem Df:∀ (lv:zi) (rs:ze) (k:Nat),rs.length=k->(lv.foldl bY rs).length=lv.foldl (· * ·) k
 | [],rs,k,h=>h
 | l::lv,rs,k,h=>by
  rw [List.foldl_cons,List.foldl_cons];exact Df lv _ _ (by rw [vW,h])
theorem uq (lv:zi):(rows lv).length=prod lv:=Df lv [[]] 1 rfl
noncomputable def dN:Nat->zi->List (Nat × Nat)
 | _,[]=>[]
 | n,l::ls=>(List.range l).map (fun s=>(n,s))++dN (n+1) ls
theorem jU:∀ {n:Nat}{lv:zi}{p:Nat × Nat},p∈dN n lv↔n<=p.1/\∃ l,lv[p.1 - n]?=some l/\p.2 < l
 | n,[],p=>by simp [dN]
 | n,l::ls,p=>by
  obtain ⟨t,s⟩:=p;simp only [dN,List.mem_append,jU,List.mem_map,List.mem_range,Prod.mk.injEq];constructor
  .rintro (⟨a,ha,rfl,rfl⟩ | ⟨h1,l',h2,h3⟩)
   .exact ⟨vE _,l,by simp,ha⟩
   .refine ⟨by omega,l',?_,h3⟩;rw [show t - n=(t - (n+1))+1 by omega];simpa using h2
  .rintro ⟨h1,l',h2,h3⟩;by_cases e:t=n
   .subst e;simp at h2;subst h2;exact .inl ⟨s,h3,rfl,rfl⟩
   .right;refine ⟨by omega,l',?_,h3⟩;rw [show t - n=(t - (n+1))+1 by omega] at h2;simpa using h2
theorem pI:∀ (n:Nat) (lv:zi),(dN n lv).Pairwise x4
 | n,[]=>List.Pairwise.nil
 | n,l::ls=>by
  simp only [dN];rw [List.pairwise_append];refine ⟨List.pairwise_map.mpr (List.pairwise_lt_range.imp fun h=>.inr ⟨rfl,h⟩),pI (n+1) ls,fun a ha b hb=>?_⟩;obtain ⟨s,_,rfl⟩:=yl.mp ha;have:=(jU.mp hb).1;exact .inl (Nat.lt_of_succ_le this)
noncomputable def behind (m:ag) (p:Nat × Nat):Bool:=match m.getLast? with | none=>true | some q=>decide (q.1 < p.1)
def among (ps:List (Nat × Nat)):Nat->List ag
 | 0=>[[]]
 | k+1=>(among ps k).flatMap fun m=>(ps.filter (behind m)).map fun p=>m++[p]
abbrev dW (m:ag):Prop:=m.Pairwise fun p q=>p.1 < q.1
variable {m:ag}
def Az (h:dW m):behind m p=true↔∀ q∈m,q.1 < p.1:=by
 unfold behind;cases e:m.getLast? with
 | none =>
  rw [List.getLast?_eq_none_iff] at e;subst e;simp
 | some q =>
  obtain ⟨m',rfl⟩:=List.getLast?_eq_some_iff.mp e;simp only [decide_eq_true_eq];constructor
  .intro hq x hx;rcases ym.mp hx with hx | hx
   .have:=(List.pairwise_append.mp h).2.2 x hx q (by simp);omega
   .rw [List.mem_singleton.mp hx];exact hq
  .intro hx;exact hx q (by simp)
theorem lZ {ps:List (Nat × Nat)}:∀ {k:Nat}{m:ag},m∈among ps k↔m.length=k/\dW m/\∀ p∈m,p∈ps
 | 0,m=>by
  simp only [among,List.mem_singleton];constructor
  .rintro rfl;simp
  .rintro ⟨h,_⟩;exact List.length_eq_zero_iff.mp h
 | k+1,m=>by
  simp only [among,List.mem_flatMap,List.mem_map,List.mem_filter];constructor
  .rintro ⟨a,ha,p,⟨hp,hb⟩,rfl⟩;obtain ⟨h1,h2,h3⟩:=lZ.mp ha;refine ⟨by simp [h1],?_,fun q hq=>?_⟩
   .unfold dW;rw [List.pairwise_append];exact ⟨h2,by simp,fun x hx y hy=>by rw [List.mem_singleton.mp hy];exact (Az h2).mp hb x hx⟩
   .rcases ym.mp hq with hq | hq
    .exact h3 q hq
    .rw [List.mem_singleton.mp hq];exact hp
  .rintro ⟨h1,h2,h3⟩;have dE:m≠[]:=fun z=>by subst z;simp at h1
   obtain ⟨a,p,rfl⟩:∃ a p,m=a++[p]:=⟨m.dropLast,m.getLast dE,(List.dropLast_concat_getLast dE).symm⟩;obtain ⟨q1,q2,q3⟩:=List.pairwise_append.mp h2;refine ⟨a,lZ.mpr ⟨by simpa using h1,q1,fun x hx=>h3 x (by simp [hx])⟩,p,⟨h3 p (by simp),(Az q1).mpr fun x hx=>q3 x hx p (by simp)⟩,rfl⟩
theorem oU {ps:List (Nat × Nat)} (h:ps.Pairwise x4):∀ k,(among ps k).Pairwise sh
 | 0=>by simp [among]
 | k+1=>by
  simp only [among];rw [List.pairwise_flatMap];refine ⟨fun m _=>List.pairwise_map.mpr ((h.filter _).imp fun q=>sh.last m q),(oU h k).imp fun q x hx y hy=>?_⟩;obtain ⟨p,_,rfl⟩:=yl.mp hx;obtain ⟨p',_,rfl⟩:=yl.mp hy;exact q.app _ _
noncomputable def aQ:Nat->zi->List (Nat × Nat)
 | _,[]=>[]
 | n,x::xs=>(n,x)::aQ (n+1) xs
theorem jC:∀ {n:Nat}{r:zi}{p:Nat × Nat},p∈aQ n r↔n<=p.1/\r[p.1 - n]?=some p.2
 | n,[],p=>by simp [aQ]
 | n,x::xs,p=>by
  obtain ⟨t,s⟩:=p;simp only [aQ,List.mem_cons,jC,Prod.mk.injEq];constructor
  .rintro (⟨rfl,rfl⟩ | ⟨h1,h2⟩)
   .simp
   .refine ⟨by omega,?_⟩;rw [show t - n=(t - (n+1))+1 by omega];simpa using h2
  .rintro ⟨h1,h2⟩;by_cases e:t=n
   .subst e;simp at h2;exact .inl ⟨rfl,h2.symm⟩
   .right;refine ⟨by omega,?_⟩;rw [show t - n=(t - (n+1))+1 by omega] at h2;simpa using h2
theorem nH:∀ (n:Nat) (r:zi),dW (aQ n r)
 | n,[]=>List.Pairwise.nil
 | n,x::xs=>by
  unfold dW aQ;rw [List.pairwise_cons];exact ⟨fun p hp=>by have:=(jC.mp hp).1;simp only;omega,nH (n+1) xs⟩
noncomputable def aA (r:zi) (m:ag):Bool:=m.all fun p=>decide (r[p.1]?=some p.2)
def ug :aA r m=true↔∀ p∈m,r[p.1]?=some p.2:=by
 unfold aA;simp [List.all_eq_true]
variable {k:Nat}
def kh :m∈among (aQ 0 r) k↔m.length=k/\dW m/\aA r m=true:=by
 rw [lZ,ug];refine and_congr_right fun _=>and_congr_right fun _=>?_
 constructor
 .intro h p hp;simpa using (jC.mp (h p hp)).2
 .intro h p hp;exact jC.mpr ⟨v3 _,by simpa using h p hp⟩
noncomputable def eZ (acc:List ag) (p:Nat × Nat):List ag:=acc++acc.map fun m=>m++[p]
def subs (l:ag):List ag:=l.foldl eZ [[]]
theorem Di:∀ {l:ag}{acc:List ag}{m:ag},m∈l.foldl eZ acc↔∃ a∈acc,∃ t,t.Sublist l/\m=a++t
 | [],acc,m=>by
  simp only [List.foldl_nil,List.sublist_nil];constructor
  .intro h;exact ⟨m,h,[],rfl,by simp⟩
  .rintro ⟨a,ha,t,rfl,rfl⟩;simpa using ha
 | p::l,acc,m=>by
  rw [List.foldl_cons,Di];constructor
  .rintro ⟨a,ha,t,ht,rfl⟩;unfold eZ at ha;rcases ym.mp ha with ha | ha
   .exact ⟨a,ha,t,ht.cons p,rfl⟩
   .obtain ⟨b,hb,rfl⟩:=yl.mp ha;exact ⟨b,hb,p::t,ht.cons_cons p,by simp⟩
  .rintro ⟨a,ha,t,ht,rfl⟩;cases ht with
   | cons _ h=>exact ⟨a,by unfold eZ;simp [ha],t,h,rfl⟩
   | cons_cons _ h =>
    rename_i t';exact ⟨a++[p],by unfold eZ;simp [ha],t',h,by simp⟩
theorem rG:∀ {l m:ag},dW l->dW m->(∀ p∈m,p∈l)->m.Sublist l
 | [],m,_,_,h=>by
  cases m with
  | nil=>exact List.Sublist.refl _
  | cons p m=>exact absurd (h p vj) (by simp)
 | q::l,[],_,_,_=>List.nil_sublist _
 | q::l,p::m,hl,hm,h=>by
  unfold dW at hl hm;rw [List.pairwise_cons] at hl hm;rcases vV.mp (h p vj) with rfl | hp
  .refine List.Sublist.cons_cons p (rG hl.2 hm.2 fun x hx=>?_);rcases vV.mp (h x (vi _ hx)) with rfl | h'
   .have:=hm.1 x hx;omega
   .exact h'
  .refine List.Sublist.cons q (rG hl.2 (List.pairwise_cons.mpr hm) fun x hx=>?_);rcases vV.mp (h x hx) with rfl | h'
   .exfalso;have h1:=hl.1 p hp;rcases vV.mp hx with rfl | hx
    .omega
    .have:=hm.1 x hx;omega
   .exact h'
def DY :m∈subs (aQ 0 r)↔dW m/\aA r m=true:=by
 unfold subs;rw [Di,ug];constructor
 .rintro ⟨a,ha,t,ht,rfl⟩;rw [List.mem_singleton.mp ha,List.nil_append];refine ⟨(nH 0 r).sublist ht,fun p hp=>?_⟩;simpa using (jC.mp (ht.subset hp)).2
 .rintro ⟨h1,h2⟩;exact ⟨[],by simp,m,rG (nH 0 r) h1 fun p hp=>jC.mpr ⟨v3 _,by simpa using h2 p hp⟩,by simp⟩
theorem Dm:∀ (l:ag) (acc:List ag),(l.foldl eZ acc).length=acc.length * 2 ^ l.length
 | [],acc=>by simp
 | p::l,acc=>by
  rw [List.foldl_cons,Dm];unfold eZ;rw [List.length_append,List.length_map,List.length_cons,Nat.pow_succ,<- Nat.two_mul,Nat.mul_comm 2 acc.length,Nat.mul_assoc,Nat.mul_comm 2]
theorem gF:∀ (n:Nat) (r:zi),(aQ n r).length=r.length
 | _,[]=>rfl
 | n,x::xs=>by simp [aQ,gF (n+1) xs]
def oV (lv:zi) (m:ag):Prop:=dW m/\∀ p∈m,∃ l,lv[p.1]?=some l/\p.2 < l
structure WB (lv:zi) (bs:List ag):Prop where
 one:1<=lv.length
 four:lv.length<=4
 HR:∀ (i l:Nat),lv[i]?=some l->1<=l/\l<=3
 PF:∀ (i l:Nat),lv[i]?=some l->2<=i->l<=2
 nb:bs.length<=3
 Bx:∀ b∈bs,oV lv b/\1<=b.length/\b.length<=3
def nG (bs:List ag) (r:zi):Bool:=!(bs.any fun b=>aA r b)
def ae (lv:zi) (bs:List ag):ze:=(rows lv).filter (nG bs)
def allM (lv:zi) (k:Nat):List ag:=among (dN 0 lv) k
def pD :m∈allM lv k↔m.length=k/\oV lv m:=by
 unfold allM oV;rw [lZ];refine and_congr_right fun _=>and_congr_right fun _=>?_
 constructor
 .intro h p hp;simpa using (jU.mp (h p hp)).2
 .intro h p hp;exact jU.mpr ⟨v3 _,by simpa using h p hp⟩
def yw (lv:zi) (k:Nat):(allM lv k).Pairwise sh:=oU (pI 0 lv) k
theorem JQ:∀ {lv:zi}{n:Nat}{m:ag},(∀ (i l:Nat),lv[i]?=some l->1<=l)->dW m->(∀ p∈m,n<=p.1/\∃ l,lv[p.1 - n]?=some l/\p.2 < l)->∃ r,fP lv r/\∀ p∈m,r[p.1 - n]?=some p.2
 | [],n,m,_,_,h=>⟨[],trivial,fun p hp=>by obtain ⟨_,l,e,_⟩:=h p hp;simp at e⟩
 | l::lv,n,m,h1,hr,h=>by
  have pE:∀ (i l:Nat),lv[i]?=some l->1<=l:=fun i l' e=>h1 (i+1) l' (by simpa using e)
  have go:∀ (m':ag),dW m'->(∀ p∈m',p∈m/\n+1<=p.1)->∃ r,fP lv r/\∀ p∈m',r[p.1 - (n+1)]?=some p.2:=fun m' Y1 kU=>JQ pE Y1 fun p hp=>by
   obtain ⟨Y2,hn⟩:=kU p hp;obtain ⟨_,l',e,hl⟩:=h p Y2;rw [show p.1 - n=(p.1 - (n+1))+1 by omega] at e;exact ⟨hn,l',by simpa using e,hl⟩
  have up:∀ {r:zi}{x:Nat}{p:Nat × Nat},n+1<=p.1->r[p.1 - (n+1)]?=some p.2->(x::r)[p.1 - n]?=some p.2:=fun {r x p} hn e=>by
   rw [show p.1 - n=(p.1 - (n+1))+1 by omega];simpa using e
  cases m with
  | nil =>
   obtain ⟨r,q1,q2⟩:=go [] List.Pairwise.nil (by simp);exact ⟨0::r,⟨h1 0 l rfl,q1⟩,by simp⟩
  | cons p m =>
   unfold dW at hr;rw [List.pairwise_cons] at hr;by_cases e:p.1=n
   .obtain ⟨r,q1,q2⟩:=go m hr.2 fun q hq=>⟨vi _ hq,by have:=hr.1 q hq;omega⟩
    obtain ⟨_,l',e',hl⟩:=h p vj;rw [e,Nat.sub_self] at e';simp at e';subst e';refine ⟨p.2::r,⟨hl,q1⟩,fun q hq=>?_⟩;rcases vV.mp hq with rfl | hq
    .rw [e,Nat.sub_self];rfl
    .exact up (by have:=hr.1 q hq;omega) (q2 q hq)
   .have cy:∀ q∈p::m,n+1<=q.1:=fun q hq=>by
     have h0:=(h p vj).1;rcases vV.mp hq with rfl | hq
     .omega
     .have:=hr.1 q hq;omega
    obtain ⟨r,q1,q2⟩:=go (p::m) (List.pairwise_cons.mpr hr) fun q hq=>⟨hq,cy q hq⟩
    exact ⟨0::r,⟨h1 0 l rfl,q1⟩,fun q hq=>up (cy q hq) (q2 q hq)⟩
def S9 (h1:∀ (i l:Nat),lv[i]?=some l->1<=l) (h:oV lv m):∃ r∈rows lv,aA r m=true:=by
 obtain ⟨r,q1,q2⟩:=JQ (n:=0) h1 h.1 fun p hp=>⟨v3 _,by simpa using h.2 p hp⟩
 exact ⟨r,kE.mpr q1,ug.mpr fun p hp=>by simpa using q2 p hp⟩
def Gh (hr:fP lv r) (h:dW m) (hm:aA r m=true):oV lv m :=
 ⟨h,fun p hp=>hr.get' (ug.mp hm p hp)⟩
def aB (lv:zi) (bs:List ag) (k:Nat):List ag:=(allM lv k).filter fun m=>(ae lv bs).any fun t=>aA t m
theorem bind_eq {α β:Type}{r:R α}{a:α} (h:r=.ok a) {f:α->R β}:(r >>= f)=f a:=by rw [h];rfl
def EV (bs:List ag):D:=.tup (bs.map eM)
theorem qD (r:zi):itemsOf .seq [ao r]=.ok (r.map eN):=rfl
theorem qj (m:ag):itemsOf .seq [eM m]=.ok (m.map eP):=rfl
theorem qN (bs:List ag):itemsOf .seq [EV bs]=.ok (bs.map eM):=rfl
theorem yL:∀ (n:Nat) (r:zi),aX n (r.map eN)=(aQ n r).map eP
 | _,[]=>rfl
 | n,x::xs=>by simp [aX,aQ,yL (n+1) xs,eP]
def qA (r:zi):itemsOf .enum [ao r]=.ok ((aQ 0 r).map eP):=by
 show R.ok (aX 0 (r.map eN))=_
 rw [yL]
def qB (r:zi):gj .bg [ao r]=.ok (.lst ((aQ 0 r).map eP)):=by
 show R.ok (D.lst (aX 0 (r.map eN)))=_
 rw [yL]
def iI (k:Nat) (h:k<=lim):itemsOf .jS [.int k]=.ok ((List.range k).map eN):=by
 show (if _ then _ else _)=_
 rw [if_pos ⟨by omega,by omega⟩];simp
def qk (r:zi):mR (ao r)=.ok (.int r.length):=congrArg (fun n:Nat=>R.ok (D.int n)) (List.length_map eN)
def zC (r:ag):mR (eM r)=.ok (.int r.length):=by simp [mR,eM]
def zD (enc:α->D) (l:List α):mR (.lst (l.map enc))=.ok (.int l.length):=by simp [mR]
def Ih {s:Nat} (h:r.length < lim):mO (ao r) (.tup [eN s])=.ok (ao (r++[s])):=by
 simp only [mO,ao,List.length_map,List.length_singleton];rw [if_pos (by omega)];simp
def Mx (h:m.length < lim):mO (eM m) (.tup [eP p])=.ok (eM (m++[p])):=by
 simp only [mO,eM,List.length_map,List.length_singleton];rw [if_pos (by omega)];simp
def Uz {α:Type}{enc:α->D}{l l':List α} (h:l.length+l'.length<=lim):mO (.lst (l.map enc)) (.lst (l'.map enc))=.ok (.lst ((l++l').map enc)):=by
 simp only [mO,List.length_map];rw [if_pos h];simp
def Vj {α:Type}{enc:α->D}{l l':List α} (h:l.length+l'.length<=lim):Ii (.lst (l.map enc)) (.lst (l'.map enc))=.ok (.lst ((l++l').map enc)):=by
 simp only [Ii,List.length_map];rw [if_pos h];simp
def nP {α:Type}{enc:α->D}{l:List α}{a:α} (h:l.length < lim):tU (.lst (l.map enc)) (enc a)=.ok (.lst ((l++[a]).map enc)):=by
 simp only [tU,List.length_map];rw [if_pos h];simp
theorem zE (p:Nat × Nat):f6 (eP p) (.int 0)=.ok (eN p.1):=rfl
theorem zF (p:Nat × Nat):f6 (eP p) (.int 1)=.ok (eN p.2):=rfl
theorem zG (lv:zi) (bs:List ag):f6 (eB lv bs) (.int 0)=.ok (ao lv):=rfl
theorem zH (lv:zi) (bs:List ag):f6 (eB lv bs) (.int 1)=.ok (EV bs):=rfl
variable {i:Nat}
def G6 {x:Nat} (h:r[i]?=some x):f6 (ao r) (.int (i:Int))=.ok (eN x):=by
 have hl:i < r.length:=(yi.mp h).1;simp only [ao,f6,pd,List.length_map];rw [if_pos (by omega),if_pos (by omega)];simp [h]
def Ca {α:Type}{enc:α->D}{l:List α}{x:α} (h:l[i]?=some x):f6 (.lst (l.map enc)) (.int (i:Int))=.ok (enc x):=by
 have hl:i < l.length:=(yi.mp h).1;simp only [f6,pd,List.length_map];rw [if_pos (by omega),if_pos (by omega)];simp [h]
def JR (h:m.getLast?=some q):f6 (eM m) (.int (-1))=.ok (eP q):=by
 obtain ⟨m',rfl⟩:=List.getLast?_eq_some_iff.mp h;simp only [eM,f6,pd,List.length_map,List.length_append,List.length_singleton];rw [if_neg (by omega),if_pos (by omega)];simp [show (-1+((m'.length:Int)+1)).toNat=m'.length by omega]
def zO (a b:Int):bw .eq (.int a) (.int b)=.ok (decide (a=b)):=by
 have e:bw .eq (.int a) (.int b)=(if aZ (.int a) (.int b)=true then R.ok (aH (.int a) (.int b)) else .stuck):=rfl;rw [e,if_pos (by simp [aZ,dep,ly])];congr 1
def zP (a b:Int):bw .ne (.int a) (.int b)=.ok (!decide (a=b)):=by
 have e:bw .ne (.int a) (.int b)=(if aZ (.int a) (.int b)=true then R.ok (!aH (.int a) (.int b)) else .stuck):=rfl;rw [e,if_pos (by simp [aZ,dep,ly])];congr 2
def oH (a b:Nat):decide ((a:Int)=(b:Int))=decide (a=b):=by
 by_cases h:a=b
 .subst h;simp
 .rw [decide_eq_false h,decide_eq_false (by omega)]
theorem uT {α:Type} (p:α->Bool):∀ l:List α,boolsOf (l.map fun a=>D.bl (p a))=some (l.map p)
 | []=>rfl
 | a::l=>by simp [boolsOf,uT p l]
def Eu (p:α->Bool) (l:List α):gj .all [.lst (l.map fun a=>D.bl (p a))]=.ok (.bl (l.all p)):=by
 rw [Fp (uT p l)];simp [List.all_map]
def Y3 (p:α->Bool) (l:List α):gj .any [.lst (l.map fun a=>D.bl (p a))]=.ok (.bl (l.any p)):=by
 rw [Fw (uT p l)];simp [List.any_map]
theorem sU {α β:Type}{f:α->List β}{k:Nat}:∀ (l:List α),(∀ a∈l,(f a).length<=k)->(l.flatMap f).length<=l.length * k
 | [],_=>by simp
 | a::l,h=>by
  have h1:=h a vj;have h2:=sU l fun b hb=>h b (vi _ hb)
  simp only [List.flatMap_cons,List.length_append,List.length_cons,Nat.succ_mul];omega
theorem lW (ps:List (Nat × Nat)):∀ k,(among ps k).length<=ps.length ^ k
 | 0=>by simp [among]
 | k+1=>by
  have h:=sU (f:=fun m=>(ps.filter (behind m)).map fun p=>m++[p]) (k:=ps.length) (among ps k) fun m _=>by rw [List.length_map];exact yf _ _
  have h2:=Nat.mul_le_mul_right ps.length (lW ps k);rw [Nat.pow_succ];exact vT h h2
noncomputable def Ma:ze:=[1,2,3].flatMap fun a=>[a]::[1,2,3].flatMap fun b=>[a,b]::[1,2].flatMap fun c=>[a,b,c]::[1,2].map fun d=>[a,b,c,d]
def WB.mem {bs:List ag} (h:WB lv bs):lv∈Ma:=by
 have h1:=h.HR;have h2:=h.PF;have h3:=h.four;have h4:=h.one;have By:∀ {x:Nat},1<=x/\x<=3->x∈[1,2,3]:=fun {x} hx=>by simp;omega
 have L6:∀ {x:Nat},1<=x->x<=2->x∈[1,2]:=fun {x} hx hy=>by simp;omega
 unfold Ma;rcases lv with _ | ⟨a,_ | ⟨b,_ | ⟨c,_ | ⟨d,_ | ⟨e,es⟩⟩⟩⟩⟩
 .simp at h4
 .exact yy.mpr ⟨a,By (h1 0 a rfl),vj⟩
 .exact yy.mpr ⟨a,By (h1 0 a rfl),vi _ (yy.mpr ⟨b,By (h1 1 b rfl),vj⟩)⟩
 .exact yy.mpr ⟨a,By (h1 0 a rfl),vi _ (yy.mpr ⟨b,By (h1 1 b rfl),vi _ (yy.mpr ⟨c,L6 (h1 2 c rfl).1 (h2 2 c rfl (by omega)),vj⟩)⟩)⟩
 .exact yy.mpr ⟨a,By (h1 0 a rfl),vi _ (yy.mpr ⟨b,By (h1 1 b rfl),vi _ (yy.mpr ⟨c,L6 (h1 2 c rfl).1 (h2 2 c rfl (by omega)),vi _ (yl.mpr ⟨d,L6 (h1 3 d rfl).1 (h2 3 d rfl (by omega)),rfl⟩)⟩)⟩)⟩
 .simp at h3
def kJ:∀ lv∈Ma,prod lv<=36/\(dN 0 lv).length<=10/\(allM lv 1).length < 64/\(allM lv 2).length < 64/\(allM lv 3).length < 64:=by decide +kernel
def qO {γ:Type} (x:R α) (f:α->R β) (g:β->R γ):((x >>= f) >>= g)=(x >>= fun a=>f a >>= g):=by cases x <;> rfl
theorem zL (a b:Int):bw .lt (.int a) (.int b)=.ok (decide (a < b)):=rfl
theorem zM (a b:Int):bw .le (.int a) (.int b)=.ok (decide (a<=b)):=rfl
theorem zN (a b:Int):bw .gt (.int a) (.int b)=.ok (decide (b < a)):=rfl
theorem qK (c:M) (b:Bool):u6 c (.bl b)=.ok b:=rfl
theorem qL (e:M) (t:Tg) (k:IK) (s:List M) (h:Bool) (c:M) (p:List Bool) (ds:List D):u6 (.comp e t k s h c p) (.lst ds)=.ok (!ds.isEmpty):=rfl
theorem qa (a b:D):je .add a b=mO a b:=rfl
theorem wV (a b:Int):mO (.int a) (.int b)=.ok (.int (a+b)):=rfl
theorem wr (a b:Int):je .sub (.int a) (.int b)=.ok (.int (a - b)):=rfl
def Em {a b:Int} (h:jJ a=true\/jJ b=true):je .mul (.int a) (.int b)=.ok (.int (a * b)):=by
 show (if (jJ a || jJ b)=true then _ else _)=_
 rw [if_pos (by simpa using h)]
def EY {a b:Int} (h:0 < b):je .mod (.int a) (.int b)=.ok (.int (a % b)):=by
 show (if 0 < b then _ else _)=_
 rw [if_pos h]
theorem qb (d:D):gj .len [d]=mR d:=rfl
theorem qd (a b:Int):gj .min2 [.int a,.int b]=.ok (.int (if b < a then b else a)):=rfl
theorem qC (d:D):gj .sorted [d]=gn d:=rfl
theorem qM (l:List D):gj .tuple [.lst l]=.ok (.tup l):=rfl
theorem qf (x:Int):jE (.int x) .int=true:=rfl
theorem qg (x:Int):jE (.int x) .bool=false:=rfl
theorem qh (x:List D):jE (.tup x) .tuple=true:=rfl
theorem qi (x:List D):jE (.lst x) .list=true:=rfl
theorem qE (ds:List D):itemsOf .seq [.lst ds]=.ok ds:=rfl
theorem fY {α β:Type} (f:α->β):∀ l:List α,l.flatMap (fun k=>[f k])=l.map f
 | []=>rfl
 | a::l=>by simp [fY f l]
theorem jX {α:Type} (p:α->Bool):∀ l:List α,l.flatMap (fun a=>if p a then [a] else [])=l.filter p
 | []=>rfl
 | a::l=>by
  rw [List.flatMap_cons,jX p l,List.filter_cons];cases p a <;> simp
theorem zip_map:∀ (a b:zi),rm (a.map eN) (b.map eN)=(a.zip b).map eP
 | [],b=>by cases b <;> rfl
 | x::a,[]=>rfl
 | x::a,y::b=>by simp only [List.map_cons,rm,List.zip_cons_cons,zip_map a b];rfl
def Qs (a b:zi):itemsOf .zip [ao a,ao b]=.ok ((a.zip b).map eP):=by
 rw [<- zip_map];rfl
abbrev Y_ (k:Nat) (t:zi):List ag:=among (aQ 0 t) k
def Qe (k:Nat) (t:zi):(Y_ k t).Nodup:=by
 have h:(aQ 0 t).Pairwise x4:=(nH 0 t).imp fun h=>.inl h
 exact (oU h k).imp fun h=>Qx h
noncomputable def cn {α:Type} (enc:α->D) (ks:List α) (f:α->List D):D:=.bE (ks.map enc) (ks.map fun a=>.lst (f a))
structure ku {α:Type} (enc:α->D):Prop where
 inj:∀ a b,enc a=enc b->a=b
 L7:∀ (ks:List α) a,lA (ks.map enc) (enc a)=true
def uY:ku eM:=⟨nu.inj,U4⟩
def Dg (r:zi):isKey (ao r)=true:=by
 have h1:=lE.key r;have h2:=lE.dp r;unfold isKey;rw [h1,decide_eq_true (show dep (ao r)<=6 by omega)];rfl
def Rt:ku ao:=by
 refine ⟨lE.inj,fun ks a=>?_⟩;have h:(ks.map ao).all isKey=true:=by
  rw [List.all_eq_true];intro a ha;obtain ⟨x,_,rfl⟩:=yl.mp ha;exact Dg x
 unfold lA;rw [Dg,h];rfl
variable {d:D}
section
variable {α:Type} [DecidableEq α] {enc:α->D}
theorem uf (K:ku enc) (f:α->List D) (a:α):∀ ks:List α,dD (ks.map enc) (ks.map fun a=>.lst (f a)) (enc a)=if a∈ks then some (.lst (f a)) else none
 | []=>rfl
 | x::ks=>by
  simp only [List.map_cons,dD];by_cases h:x=a
  .subst h;simp
  .rw [if_neg fun z=>h (K.inj _ _ z),uf K f a ks];have:a≠x:=fun z=>h z.symm
   simp [this]
def J9 (K:ku enc) {ks:List α}{f:α->List D}{a:α} (hf:a ∉ ks->f a=[]):tY (cn enc ks f) (enc a) (.lst [])=.ok (.lst (f a)):=by
 have e:tY (cn enc ks f) (enc a) (.lst [])=.ok ((dD (ks.map enc) (ks.map fun a=>.lst (f a)) (enc a)).getD (.lst [])):=if_pos (K.L7 ks a);rw [e,uf K];by_cases h:a∈ks
 .rw [if_pos h];rfl
 .rw [if_neg h,hf h];rfl
def Va (K:ku enc) {ks:List α}{f:α->List D}{a:α} (h:a∈ks):f6 (cn enc ks f) (enc a)=.ok (.lst (f a)):=by
 have e:f6 (cn enc ks f) (enc a)=(match dD (ks.map enc) (ks.map fun a=>.lst (f a)) (enc a) with | some d=>.ok d | none=>.stuck):=if_pos (K.L7 ks a);rw [e,uf K,if_pos h]
noncomputable def uP (f:α->List D) (a:α) (d:D):α->List D:=fun x=>if x=a then f a++[d] else f x
def Zf (K:ku enc) {ks:List α}{f:α->List D}{a:α} (h:ks.length < lim) (hf:a ∉ ks->f a=[]) (hl:(f a).length < lim):vM (cn enc ks f) (enc a) d=.ok (cn enc (dw ks a) (uP f a d)):=by
 have hm:enc a∈ks.map enc↔a∈ks:=⟨fun z=>by obtain ⟨b,hb,e⟩:=yl.mp z;rw [K.inj _ _ e] at hb;exact hb,fun z=>yl.mpr ⟨a,z,rfl⟩⟩;simp only [cn,vM,List.length_map];rw [if_pos ⟨K.L7 ks a,h,trivial⟩,uf K];unfold dw;by_cases cz:a∈ks
 .rw [if_pos cz,if_pos cz];show (if (f a).length < lim then R.ok _ else .stuck)=_
  rw [if_pos hl];unfold jc;rw [if_pos (hm.mpr cz)];congr 2;refine List.ext_getElem (by simp) fun i h1 h2=>?_
  simp only [List.getElem_map,List.getElem_zip,uP];by_cases e:ks[i]'(by simpa using h2)=a
  .rw [if_pos (by rw [e]),if_pos e]
  .rw [if_neg fun z=>e (K.inj _ _ z),if_neg e]
 .rw [if_neg cz,if_neg cz];have e1:ks.map (fun x=>D.lst (f x))=ks.map fun x=>D.lst (uP f a d x):=by
   refine List.map_congr_left fun x hx=>?_
   have:x≠a:=fun z=>cz (z ▸ hx)
   simp [uP,this]
  rw [List.map_append,List.map_append,e1];simp [uP,hf cz]
end
structure cE {α β:Type} [DecidableEq α] (κ:β->α) (w:β->D) (ds:List β) (s:List α × (α->List D)):Prop where
 ks:s.1=(ds.map κ).foldl dw []
 fn:∀ a,s.2 a=(ds.filter fun x=>decide (κ x=a)).map w
section
variable {α β:Type} [DecidableEq α] {κ:β->α}{w:β->D}
def jl (κ:β->α) (w:β->D) (s:List α × (α->List D)) (x:β):List α × (α->List D):=(dw s.1 (κ x),uP s.2 (κ x) (w x))
def cE.nil:cE κ w [] ([],fun _=>[]):=⟨rfl,fun _=>rfl⟩
def cE.step {ds:List β}{s:List α × (α->List D)} (h:cE κ w ds s) (x:β):cE κ w (ds++[x]) (jl κ w s x):=by
 refine ⟨?_,fun a=>?_⟩
 .rw [List.map_append,List.foldl_append,<- h.ks];rfl
 .show uP s.2 (κ x) (w x) a=_
  unfold uP;rw [List.filter_append,List.map_append,h.fn,h.fn];by_cases e:a=κ x
  .subst e;rw [if_pos rfl];simp
  .rw [if_neg e];have:¬ κ x=a:=fun z=>e z.symm
   simp [this]
def cE.mem {ds:List β}{s:List α × (α->List D)} (h:cE κ w ds s) {a:α}:a∈s.1↔∃ x∈ds,κ x=a:=by
 rw [h.ks,pO];simp
def cE.out {ds:List β}{s:List α × (α->List D)} (h:cE κ w ds s) {a:α} (hn:a ∉ s.1):s.2 a=[]:=by
 rw [h.fn];have:(ds.filter fun x=>decide (κ x=a))=[]:=by
  rw [List.filter_eq_nil_iff];intro x hx e;exact hn (h.mem.mpr ⟨x,hx,by simpa using e⟩)
 rw [this];rfl
theorem Gv:∀ (ks acc:List α),(ks.foldl dw acc).length<=acc.length+ks.length
 | [],acc=>by simp
 | k::ks,acc=>by
  have h1:=Gv ks (dw acc k);have h2:=tu acc k;simp only [List.foldl_cons,List.length_cons];omega
def cE.len {ds:List β}{s:List α × (α->List D)} (h:cE κ w ds s):s.1.length<=ds.length:=by
 have:=Gv (ds.map κ) [];rw [h.ks];simpa using this
def cE.L8 {ds:List β}{s:List α × (α->List D)} (h:cE κ w ds s) (a:α):(s.2 a).length<=ds.length:=by
 rw [h.fn,List.length_map];exact yf _ _
def cE.mz {enc:α->D} (K:ku enc) {ds:List β}{s:List α × (α->List D)} (h:cE κ w ds s) (x:β) (hl:ds.length < lim):vM (cn enc s.1 s.2) (enc (κ x)) (w x)=.ok (cn enc (jl κ w s x).1 (jl κ w s x).2):=by
 have h1:=h.len;have h2:=h.L8 (κ x);exact Zf K (by omega) h.out (by omega)
def pQ (κ:β->α) (w:β->D) (ds:List β):List α × (α->List D):=ds.foldl (jl κ w) ([],fun _=>[])
def Q5 (ds:List β):cE κ w ds (pQ κ w ds):=by
 have key:∀ (rest done:List β) (s:List α × (α->List D)),cE κ w done s->cE κ w (done++rest) (rest.foldl (jl κ w) s):=by
  intro rest;induction rest with
  | nil=>intro done s h;rw [List.append_nil];exact h
  | cons x rest ih =>
   intro done s h;have:=ih (done++[x]) _ (h.step x);rw [List.append_assoc] at this;exact this
 exact key ds [] _ cE.nil
theorem uw {enc:α->D} (K:ku enc) {e:β->D}{f:D->D->R D}:∀ (ds done:List β) (s:List α × (α->List D)),cE κ w done s->done.length+ds.length < lim->(∀ x∈ds,∀ ks g,f (e x) (cn enc ks g)=vM (cn enc ks g) (enc (κ x)) (w x))->cE κ w (done++ds) (ds.foldl (jl κ w) s)/\lM f (ds.map e) (cn enc s.1 s.2)=.ok (cn enc (ds.foldl (jl κ w) s).1 (ds.foldl (jl κ w) s).2)
 | [],done,s,hs,_,_=>⟨by rw [List.append_nil];exact hs,rfl⟩
 | x::ds,done,s,hs,hl,h=>by
  simp only [List.length_cons] at hl;obtain ⟨h1,h2⟩:=uw K ds (done++[x]) _ (hs.step x) (by simp only [List.length_append,List.length_singleton];omega) fun y hy=>h y (vi _ hy)
  rw [List.append_assoc] at h1;refine ⟨h1,?_⟩;rw [List.map_cons,lM,h x List.mem_cons_self,hs.mz K x (by omega),qP];exact h2
def NZ {enc:α->D} (K:ku enc) {e:β->D}{f:D->D->R D}{ds:List β} (hl:ds.length < lim) (h:∀ x∈ds,∀ ks g,f (e x) (cn enc ks g)=vM (cn enc ks g) (enc (κ x)) (w x)):lM f (ds.map e) (.bE [] [])=.ok (cn enc (pQ κ w ds).1 (pQ κ w ds).2) :=
 (uw K ds [] ([],fun _=>[]) cE.nil (by simpa using hl) h).2
noncomputable def uN (κ:β->α) (acc:List β):List β->List β
 | []=>acc
 | x::xs=>uN κ (if κ x∈acc.map κ then acc else acc++[x]) xs
theorem CV (κ:β->α):∀ (xs acc:List β),(xs.map κ).foldl dw (acc.map κ)=(uN κ acc xs).map κ
 | [],acc=>rfl
 | x::xs,acc=>by
  rw [List.map_cons,List.foldl_cons,uN,<- CV κ xs];congr 1;unfold dw;split
  .rfl
  .rw [List.map_append];rfl
theorem yP (κ:β->α):∀ (xs acc:List β),(uN κ acc xs).Sublist (acc++xs)
 | [],acc=>by rw [List.append_nil];exact List.Sublist.refl _
 | x::xs,acc=>by
  rw [uN];have h:=yP κ xs (if κ x∈acc.map κ then acc else acc++[x]);refine h.trans ?_;split
  .exact List.Sublist.append_left (List.sublist_cons_self x xs) acc
  .rw [List.append_assoc];exact List.Sublist.refl _
def iB (κ:β->α) (L:List β):List (List β):=(uN κ [] L).map fun a=>L.filter fun x=>decide (κ x=κ a)
def Lh (L:List β):(pQ κ w L).1.map (pQ κ w L).2=(iB κ L).map fun l=>l.map w:=by
 have h:=Q5 (κ:=κ) (w:=w) L;have e:(pQ κ w L).1=(uN κ [] L).map κ:=h.ks.trans (CV κ L []);rw [e,iB,List.map_map,List.map_map];refine List.map_congr_left fun a _=>?_
 exact h.fn (κ a)
end
def bp (m:ag):Nat->ze->zi
 | _,[]=>[]
 | n,t::ts=>if aA t m then n::bp m (n+1) ts else bp m (n+1) ts
noncomputable def lb:Nat->List Bool->zi
 | _,[]=>[]
 | n,r::rs=>if r then lb (n+1) rs else n::lb (n+1) rs
def aJ (ts:ze) (m:ag):List Bool:=ts.map fun t=>!aA t m
theorem G3 (m:ag):∀ (n:Nat) (ts:ze),∀ x∈bp m n ts,n<=x
 | n,[],x,hx=>by cases hx
 | n,t::ts,x,hx=>by
  unfold bp at hx;split at hx
  .rcases vV.mp hx with z | z
   .omega
   .have:=G3 m (n+1) ts x z;omega
  .have:=G3 m (n+1) ts x hx;omega
theorem xJ (m:ag):∀ (n:Nat) (ts:ze),lb n (aJ ts m)=bp m n ts
 | n,[]=>rfl
 | n,t::ts=>by
  have ih:=xJ m (n+1) ts;unfold aJ at ih;rw [aJ,List.map_cons,lb,bp,ih];cases aA t m <;> simp
theorem Bq:∀ (n:Nat) (rs:List Bool),∀ x∈lb n rs,n<=x
 | n,[],x,hx=>by cases hx
 | n,r::rs,x,hx=>by
  unfold lb at hx;split at hx
  .have:=Bq (n+1) rs x hx;omega
  .rcases vV.mp hx with z | z
   .omega
   .have:=Bq (n+1) rs x z;omega
theorem Cv:∀ (n:Nat) (rs qs:List Bool),rs.length=qs.length->lb n rs=lb n qs->rs=qs
 | n,[],[],_,_=>rfl
 | n,[],_::_,h,_=>by simp at h
 | n,_::_,[],h,_=>by simp at h
 | n,r::rs,q::qs,h,e=>by
  have hl:rs.length=qs.length:=by simpa using h
  unfold lb at e;cases r <;> cases q
  .simp only [Bool.false_eq_true,if_false] at e;injection e with _ e;rw [Cv (n+1) rs qs hl e]
  .simp only [Bool.false_eq_true,if_false,if_true] at e;have:=Bq (n+1) qs n (by rw [<- e];exact vj);omega
  .simp only [Bool.false_eq_true,if_false,if_true] at e;have:=Bq (n+1) rs n (by rw [e];exact vj);omega
  .simp only [if_true] at e;rw [Cv (n+1) rs qs hl e]
variable {ts:ze}
def Cw {rs:List Bool} (h:rs.length=ts.length):bp m 0 ts=lb 0 rs↔aJ ts m=rs:=by
 constructor
 .intro e;rw [<- xJ] at e;exact Cv 0 _ _ (by rw [h];simp [aJ]) e
 .rintro rfl;exact (xJ m 0 ts).symm
def W5 {m':ag}:bp m 0 ts=bp m' 0 ts↔aJ ts m=aJ ts m':=by
 rw [<- xJ m' 0 ts];exact Cw (by simp [aJ])
mutual
theorem JB:∀ (d:D),dep d < 1000->aH d d=true
 | .ai,_=>by simp [aH]
 | .bl _,_=>by simp [aH]
 | .int _,_=>by simp [aH]
 | .tup ds,h=>by rw [dep] at h;rw [aH];exact yR ds (by omega)
 | .lst ds,h=>by rw [dep] at h;rw [aH];exact yR ds (by omega)
 | .bE _ _,h=>by rw [dep] at h;omega
 | .bP _,h=>by rw [dep] at h;omega
theorem yR:∀ (ds:List D),ba ds < 1000->cL ds ds=true
 | [],_=>by simp [cL]
 | d::ds,h=>by
  rw [ba] at h;rw [cL,JB d (by omega),yR ds (by omega)];rfl
end
def Y' (h:dep d<=30) (k:ly d d=true:=by rfl):bw .ne d d=.ok false:=by
 show (if aZ d d=true then R.ok (!aH d d) else .stuck)=_
 rw [JB d (by omega),if_pos]
 .rfl
 unfold aZ;rw [decide_eq_true h,k];rfl
def SJ (t:zi) (k:Nat):(among (aQ 0 t) k).Nodup:=Qe k t
theorem yp (ds:List D):itemsOf .enum [.lst ds]=.ok (aX 0 ds):=rfl
theorem zK (a b:D):bw .i8 a b=(inD a b >>= fun r=>R.ok (!r)):=rfl
end Mi
namespace L2
open PySem PySem.Spec PyProof.Rows
noncomputable def drop (H:Hp) (c:Addr):Hp:=fun b=>if b=c then none else H b
variable {H:Hp}{c:Addr}
theorem bW :drop H c c=none:=if_pos rfl
def aU {b:Addr} (h:b≠c):drop H c b=H b:=if_neg h
noncomputable abbrev aW:HO:=.ext fun _=>True
section
variable {P:Program}{w:World}{H H1:Hp}{h h1:Heap}{c:Addr}{o:Obj}{u:HO}{fs:List Addr}
def xV (e:h.get? c=some o):bO P w H h c (.br o aW):=⟨e,trivial,⟨o,e⟩,fun _ _ _ _=>trivial⟩
def c6.lend (ok:c6 P w H h) (hn:H c=none) (e:h.get? c=some o):c6 P w (upd H c (.br o aW)) h:=fun b u q=>by
 by_cases hb:b=c
 .subst hb;rw [aC] at q;cases q;exact xV e
 .rw [ak hb] at q;exact (ok b u q).fE (fun _ _ _ z=>z) (fun d z=>by rw [ak (aq z hn)];exact z) (fun d xs z=>by rw [ak (aq z hn)];exact z) (fun d _ z _=>by rw [ak (aq z hn)];exact z)
def c6.drop (ok:c6 P w H h) (hf:H c=some (.br o u)) (hl:¬ jV o):c6 P w (drop H c) h:=fun b v q=>by
 have hb:b≠c:=fun z=>by subst z;rw [bW] at q;cases q
 rw [aU hb] at q;have ne:∀ d y,H d=some y->y≠.br o u->d≠c:=fun d y z n y'=>by subst y';rw [hf] at z;cases z;exact n rfl
 exact (ok b v q).fE (fun _ _ _ z=>z) (fun d z=>by rw [aU (ne d _ z fun y=>nomatch y)];exact z) (fun d xs z=>by rw [aU (ne d _ z fun y=>nomatch y)];exact z) (fun d od z g=>by
  rw [aU (ne d _ z fun y=>by cases y;exact hl g)];exact z)
def Cm (hn:H c=none) (e:h.get? c=some o) (hl:¬ jV o) (HU:c ∉ fs) (x:Un fs [] (upd H c (.br o aW)) H1 h h1) (ok:c6 P w H1 h1):Un fs [] H (drop H1 c) h h1/\c6 P w (drop H1 c) h1:=by
 have f1:H1 c=some (.br o aW):=x.gp c o aW aC;have e1:h1.get? c=some o:=(ok c _ f1).1;have st:∀ b u,H b=some u->b≠c:=fun b u q z=>by subst z;rw [hn] at q;cases q
 refine ⟨⟨fun b ob q n hb hx=>?_,fun b ob q n hb hx=>?_,fun b ob q n hx=>?_,fun b ob q hx=>x.there b ob q hx,fun b xs q=>?_,fun b ob xs q=>?_,fun b ps q=>?_⟩,ok.drop f1 hl⟩
 .by_cases fb:b=c
  .subst fb;rw [e] at q;cases q;exact e1
  .exact x.keep b ob q (by rw [ak fb];exact n) hb hx
 .have fb:b≠c:=fun z=>HU (z ▸ hb)
  exact x.slot b ob q (by rw [ak fb];exact n) hb hx
 .by_cases fb:b=c
  .subst fb;exact bW
  .rw [aU fb];exact x.free b ob q (by rw [ak fb];exact n) hx
 .rw [aU (st b _ q)];exact x.ig b xs (by rw [ak (st b _ q)];exact q)
 .rw [aU (st b _ q)];exact x.gp b ob xs (by rw [ak (st b _ q)];exact q)
 .rw [aU (st b _ q)];exact x.gr b ps (by rw [ak (st b _ q)];exact q)
def yI (hf:H c=some (.br o aW)) (e:h.get? c=some o) (HU:c ∉ fs) (x:Un fs [] (drop H c) H1 h h1) (ok:c6 P w H1 h1):Un fs [] H (upd H1 c (.br o aW)) h h1/\c6 P w (upd H1 c (.br o aW)) h1:=by
 have n1:H1 c=none:=x.free c o e bW (by simp);have e1:h1.get? c=some o:=x.keep c o e bW HU (by simp);refine ⟨⟨fun b ob q n hb hx=>?_,fun b ob q n hb hx=>?_,fun b ob q n hx=>?_,fun b ob q hx=>x.there b ob q hx,fun b xs q=>?_,fun b ob xs q=>?_,fun b ps q=>?_⟩,ok.lend n1 e1⟩
 .have fb:b≠c:=fun z=>by subst z;rw [hf] at n;cases n
  exact x.keep b ob q (by rw [aU fb];exact n) hb hx
 .have fb:b≠c:=fun z=>HU (z ▸ hb)
  exact x.slot b ob q (by rw [aU fb];exact n) hb hx
 .have fb:b≠c:=fun z=>by subst z;rw [hf] at n;cases n
  rw [ak fb];exact x.free b ob q (by rw [aU fb];exact n) hx
 .have fb:b≠c:=fun z=>by subst z;rw [hf] at q;cases q
  rw [ak fb];exact x.ig b xs (by rw [aU fb];exact q)
 .by_cases fb:b=c
  .subst fb;rw [aC];rw [hf] at q;exact q
  .rw [ak fb];exact x.gp b ob xs (by rw [aU fb];exact q)
 .have fb:b≠c:=fun z=>by subst z;rw [hf] at q;cases q
  obtain ⟨m,z⟩:=x.gr b ps (by rw [aU fb];exact q);exact ⟨m,by rw [ak fb];exact z⟩
end
variable {p:Pos}
def DP {p0:Pos}{c v:Value}{l:zg} (h:TriplesOk l) (e:codeAmong p0 (l++[rawInt p.line,rawInt p.col,c])=some v):codeAmong p0 l=some v\/v=c:=by
 fun_induction TriplesOk l with
 | case1 =>
  right;simp only [List.nil_append,rawInt,codeAmong] at e;split at e
  .cases e;rfl
  .cases e
 | case2 a t b u x rest ih =>
  simp only [List.cons_append,codeAmong] at e ⊢;split at e
  .rename_i hc;rw [if_pos hc];exact .inl e
  .rename_i hc;rw [if_neg hc];exact ih h e
 | case3=>exact h.elim
variable {Pt cc:Addr}{q:zt}{params:Arguments}{body:Expr}{scope:Scope}{pos:Pos}
section
variable {X:Cx}{ab:w4}{Z:St}{H H':Hp}{s:Shared}
def Inv.L9 {h2:Heap}{tk:Nat} (I:Inv X ab Z H s) (hP:H Pt=some (.kz q)) (hx:Heap.ExtBut Pt s.heap h2) (mono:∀ b o,H b=some o->H' b=some o) (new:∀ b,H' b≠none->H b=none->s.heap.objs.size<=b) (ok:c6 X.prog X.w H' h2) :
  Inv X ab Z H' { s with heap:=h2,toks:=tk }:=by
 have Co:∀ b,H b=none->b≠Pt:=fun b n z=>by subst z;rw [n] at hP;cases hP
 refine I.step (g':=s.gens) (d':=s.drawn) (ch:=[]) (fun _ z=>nomatch z) (fun b o _ _ _ e n=>hx b o (Co b n) e) (fun b o _ _ _ e n=>⟨o.slots,hx b o (Co b n) e⟩) (fun b o _ e n=>?_) (fun b o _ e=>?_) (fun b xs e=>mono _ _ e) (fun b o u e=>mono _ _ e) (fun b ps e=>⟨#[],by rw [mono _ _ e];simp⟩) (fun m hm=>hm.extBut hx (Co _ I.free)) ok I.bare
 .cases z:H' b with
  | none=>rfl
  | some u=>exact absurd (v4 (vz e) (new b (by rw [z];simp) n)) (yk _)
 .by_cases hb:b=Pt
  .subst hb;obtain ⟨ps,e2,_⟩:=ok b _ (mono _ _ hP);exact ⟨_,e2⟩
  .exact ⟨o,hx b o hb e⟩
def ZS {Q Q':Str} (h:mF q Q) (h':mF q Q'):Q'=Q:=by
 unfold mF at h h';rw [h] at h';cases h';rfl
def FQ {lq:Str}{E:zb}{Q:zb}{iJ:List (Str × Addr)}
  (I:Inv X ab Z H s) (kB:closureFor scope X.env=pure iJ) (gX:X.env.code=.ref cc) (C:PySem.W.CodeHd s.heap cc Pt) (hP:H Pt=some (.kz q)) (xE:mF q lq) (si:defaultsOf params X.env=([],[])) (EW:X.env.qual ++ "<lambda>"=lq)
  (h:∀ f c' oc pm c8 h' tk H',Inv X ab Z H' { s with heap:=h',toks:=tk } -> (∀ b o,H b=some o -> H' b=some o) -> (∀ b,H' b ≠ none -> H b=none -> s.heap.objs.size <= b) -> H f=none -> H' f=some (.br (PySem.W.kla_obj "<lambda>" lq params body scope iJ pm c' c8) aW) ->
   H' c'=some (.br oc aW)->fg lq oc->(∀ b o,b≠Pt->s.heap.get? b=some o->h'.get? b=some o)->Q (.ref f) { s with heap:=h',toks:=tk }) :
  wpAny (model X.prog X.w) X.A (eval (.Lambda params body scope pos) X.env) Q E s:=by
 obtain ⟨ps,PH,tr,good⟩:=I.az Pt _ hP;obtain ⟨bm,ob,b1,b2,b3,b4,b5,b6,b7⟩:=I.mod.bm;have hg:s.heap.Ns mainGlobals X.mg:=I.mod.glob.keeps I.bk;have Zl:mainGlobals≠Pt:=fun z=>by
  obtain ⟨o,es,ep,e,_⟩:=I.mod.glob;have:=(I.bs _ _ e).2;rw [z,hP] at this;cases this
 have Zp:bm≠Pt:=fun z=>by
  have:=(I.bs _ _ b4).2;rw [z,hP] at this;cases this
 have hB:s.heap.BuiltinsAt X.mg Pt:=⟨bm,ob,b1,b2,b3,Zp,I.bk _ _ b4,b5,b6,b7⟩;refine PySem.W.kla_eval si ?_;rw [EW];cases D9:codeAmong pos ps.toList with
 | none =>
  refine PySem.W.kla_makeFunction (mg:=X.mg) (ps:=ps) kB I.ok.glob hg gX C PH tr D9 Zl hB fun c' c8 h' tk hx sR bj L_ Zs=>?_
  obtain ⟨c₂,oc,vs,t,e2,oI,hd,hv⟩:=L_;cases e2;have nc:H c'=none:=I.az.fresh sR;have EX:s.heap.objs.size<=h'.objs.size:=vT sR (Nat.le_of_lt bj);have nf:H h'.objs.size=none:=I.az.fresh EX;have ZA:h'.objs.size≠c':=vS bj;have EC:Heap.ExtBut Pt s.heap (h'.push (PySem.W.kla_obj "<lambda>" lq params body scope iJ ((X.mg "__name__").getD .none) c' c8)):=fun b o hb e=>vw _ (hx b o hb e)
  have mono:∀ b o,H b=some o -> upd (upd H c' (.br oc aW)) h'.objs.size (.br (PySem.W.kla_obj "<lambda>" lq params body scope iJ ((X.mg "__name__").getD .none) c' c8) aW) b=some o:=fun b o e=>by
   rw [ak (aq e nf),ak (aq e nc)];exact e
  have ny:∀ b,upd (upd H c' (.br oc aW)) h'.objs.size (.br (PySem.W.kla_obj "<lambda>" lq params body scope iJ ((X.mg "__name__").getD .none) c' c8) aW) b ≠ none -> H b=none -> s.heap.objs.size <= b:=fun b n1 n2=>by
   by_cases z:b=h'.objs.size
   .rw [z];exact EX
   .rw [ak z] at n1;by_cases z2:b=c'
    .rw [z2];exact sR
    .rw [ak z2] at n1;exact absurd n2 n1
  have cH:upd (upd H c' (.br oc aW)) h'.objs.size (.br (PySem.W.kla_obj "<lambda>" lq params body scope iJ ((X.mg "__name__").getD .none) c' c8) aW) c'=some (.br oc aW):=by rw [ak (Ne.symm ZA),aC]
  have ZE:c6 X.prog X.w (upd (upd H c' (.br oc aW)) h'.objs.size (.br (PySem.W.kla_obj "<lambda>" lq params body scope iJ ((X.mg "__name__").getD .none) c' c8) aW)) (h'.push (PySem.W.kla_obj "<lambda>" lq params body scope iJ ((X.mg "__name__").getD .none) c' c8)):=fun b u e=>by
   by_cases z:b=h'.objs.size
   .subst z;rw [aC] at e;cases e;exact xV (vy _ rfl)
   .by_cases z2:b=c'
    .subst z2;rw [cH] at e;cases e;exact xV (vw _ oI)
    .have e':=e;rw [ak z,ak z2] at e';by_cases z3:b=Pt
     .subst z3;rw [hP] at e';cases e';refine ⟨_,vw _ Zs,?_,fun p0 v xS=>?_⟩
      .rw [Array.toList_append];exact TriplesOk_snoc _ _ _ _ tr
      .rw [Array.toList_append] at xS;rcases DP tr xS with q1 | q1
       .obtain ⟨d,od,Q',e1,g1,g2,g3⟩:=good p0 v q1;exact ⟨d,od,Q',e1,mono _ _ g1,g2,g3⟩
       .exact ⟨c',oc,lq,q1,cH,⟨vs,t,hd,hv⟩,xE⟩
     .refine (I.az b u e').fE (fun b2 o2 dM q2=>EC b2 o2 ?_ q2) (fun d z=>mono _ _ z) (fun d xs z=>mono _ _ z) (fun d od z _=>mono _ _ z);rcases dM with rfl | dM
      .exact z3
      .rintro rfl;rw [hP] at dM;cases dM
  exact h h'.objs.size c' oc _ c8 _ tk _ (I.L9 hP EC mono ny ZE) mono ny nf aC cH ⟨vs,t,hd,hv⟩ (fun b o hb e=>EC b o hb e)
 | some v =>
  obtain ⟨c',oc,Q',rfl,g1,g2,g3⟩:=good pos v D9;cases ZS xE g3;refine PySem.W.kla_makeFunctionHit (mg:=X.mg) (ps:=ps) kB I.ok.glob hg gX C PH tr D9 hB fun c8 h' tk hk hsz=>?_
  have nf:H h'.objs.size=none:=I.az.fresh hsz;have Cb:∀ b o,s.heap.get? b=some o -> (h'.push (PySem.W.kla_obj "<lambda>" lq params body scope iJ ((X.mg "__name__").getD .none) c' c8)).get? b=some o:=fun b o e=>vw _ (hk b o e)
  have mono:∀ b o,H b=some o -> upd H h'.objs.size (.br (PySem.W.kla_obj "<lambda>" lq params body scope iJ ((X.mg "__name__").getD .none) c' c8) aW) b=some o:=fun b o e=>by rw [ak (aq e nf)]; exact e
  have ny:∀ b,upd H h'.objs.size (.br (PySem.W.kla_obj "<lambda>" lq params body scope iJ ((X.mg "__name__").getD .none) c' c8) aW) b ≠ none -> H b=none -> s.heap.objs.size <= b:=fun b n1 n2=>by
   by_cases z:b=h'.objs.size
   .rw [z];exact hsz
   .rw [ak z] at n1;exact absurd n2 n1
  exact h h'.objs.size c' oc _ c8 _ tk _ (I.laid Cb hsz (xV (vy _ rfl))) mono ny nf aC (mono _ _ g1) g2 (fun b o _ e=>Cb b o e)
end
structure k6 (scope:Scope) (xb xt:Str):Prop where
 kind:scope.kind=.function
 co:scope.isCoroutine=false
 gen:scope.isGenerator=false
 gL:∀ x∈scope.names,x.2≠.cell
 par:scope.names.lookup xt=some .local
 eD:scope.names.lookup xb=some .free
 only:∀ y,scope.names.lookup y=some .free->y=xb
 ne:xb≠xt
def pX (P:Program) (w:World) (K:zd) (mg:w8) (base:Heap) (xb xt:Str) (scope:Scope) (f c:Addr) (cdv:Value) (A:Around) (outer:List Env) (s:Shared) (H:Hp):Cx where
 prog:=P
 w:=w
 K:=K
 mg:=mg
 base:=base
 A:=A.deeper (PySem.W.envX fC scope s.heap.objs.size f cdv [(xb,c)])
 N:=[xb,xt]
 bq:=s
 kL:=drop H c
 env:=PySem.W.envX fC scope s.heap.objs.size f cdv [(xb,c)]
 outer:=outer
 stack:=PySem.W.envX fC scope s.heap.objs.size f cdv [(xb,c)]::outer
 ex:=[]
 calm:=true
 fn:=fun _=>false
 pn:=[]
 xe:=fun _ _=>False
variable {Q:VK}
section
variable {P:Program}{w:World}{K:zd}{mg:w8}{base:Heap}{A:Around}{outer:List Env}{s:Shared}{H:Hp}{f c c':Addr}{params:Arguments}{body:Expr}{scope:Scope}{pm c8:Value}{oc bh:Obj}{xb xt:Str}{ub u:Value}{vb vt:V}
def Xn {E:XK}{t:TE} (e0:ip P w K mg base A outer s H) (lz:A.depth < recursionLimit) (hh:A.handled=none) (L:k6 scope xb xt) (hf:H f=some (.br (PySem.W.kla_obj "<lambda>" fC params body scope [(xb,c)] pm c' c8) aW)) (c_:H c'=some (.br oc aW)) (iq:fg fC oc)
  (hc:H c=some (.br bh aW)) (cw:bh.data=.cell (some ub)) (ir:bindArgs (PySem.W.kla_fn "<lambda>" fC params body scope [(xb,c)] pm (.ref c') c8) ⟨[u],[]⟩=pure [(xt,u)]) (rb:RelV vb ub) (rt:RelV vt u)
  (d_:PE (pX P w K mg base xb xt scope f c (.ref c') A outer s H) body t) (ht:t [some vb,some vt] (drop H c) fun v H1=>H1 c=none->Q v (upd H1 c (.br bh aW))) :
  codeAny (model P w) A (.call (.ref f) ⟨[u],[]⟩) (CR fh outer P w H s Q E) s:=by
 have ef:=(e0.az f _ hf).1;have Mb:=(e0.az c' _ c_).1;have ec:=(e0.az c _ hc).1;have HV:¬ jV bh:=fun ⟨_,vs,t,z,_⟩=>by rw [cw] at z;cases z
 have Bz:c ∉ j0 outer:=fun z=>by rw [e0.l9 c z] at hc;cases hc
 have eJ:s.heap.CodeRec (.ref c') fC:=by
  obtain ⟨vs,t,h1,h2⟩:=iq;exact ⟨c',oc,vs,t,rfl,Mb,h1,h2⟩
 have lim:s.heap.NoLimit:=e0.mod.nolimit.keeps fun b o e=>(e0.bs b o e).1
 refine PySem.W.kla_callFunE lz ef rfl L.co L.gen rfl eJ ?_;rw [ir];refine ve (wpAny_newFunctionEnv L.gL (fun y hy=>by cases yn.mp hy;exact L.par) (fun e_ nN t_=>⟨lim.fresh _ t_,?_⟩) L.kind);show codeAny _ _ (.expr body (PySem.W.envX fC scope s.heap.objs.size f (.ref c') [(xb,c)])) _ _
 have eI:∀ b o,s.heap.get? b=some o->e_.get? b=some o:=fun b o e=>t_.extBut b o (vF (vz e)) (vw _ e)
 have I:Inv (pX P w K mg base xb xt scope f c (.ref c') A outer s H) [] [some vb,some vt] (drop H c) { s with heap:=e_,toks:=s.toks+1 }:=by
  have mS:∀ b:Addr,b ∉ (pX P w K mg base xb xt scope f c (.ref c') A outer s H).ex:=fun b z=>absurd (show b∈([]:List Addr) from z) (by simp)
  have look:∀ y d,(pX P w K mg base xb xt scope f c (.ref c') A outer s H).env.cells.lookup y=some d->y=xb/\d=c:=fun y d h=>by
   have h':(match y == xb with | true=>some c | false=>none)=some d:=h;split at h'
   .rename_i e;cases h';exact ⟨beq_iff_eq.mp e,rfl⟩
   .cases h'
  have x5:(pX P w K mg base xb xt scope f c (.ref c') A outer s H).env.cells.lookup xb=some c:=by
   show (match xb == xb with | true=>some c | false=>none)=some c
   rw [beq_self_eq_true]
  have dn:∀ b,H b=none->drop H c b=none:=fun b n=>by
   by_cases z:b=c
   .rw [z];exact bW
   .rw [aU z];exact n
  refine ⟨⟨e0.mod,L.kind,rfl,rfl,vE _,fun y z d h1 h2=>(look y d h1).1.trans (look z d h2).1.symm,fun y hy=>?_,fun y d z _=>(by cases z),fun _=>hh,Around.frames_deeper e0.frames,.inr ⟨rfl,rfl⟩,fun b z=>absurd z (mS b),fun b o e=>⟨(e0.bs b o e).1,dn b (e0.bs b o e).2⟩,e0.l8,fun b _ _=>mS b,fun b z=>absurd z (mS b),e0.dA,fun b hb=>dn b (e0.l9 b hb),?_⟩,
   rfl,e0.bare,Un.kept eI,⟨_,nN,fun i y v h1 h2 h3=>?_⟩,fun y d h=>?_,(e0.az.drop hc HV).fresh (vE _),fun y d h=>?_,fun p hp=>absurd (show p∈([]:w4) from hp) (by simp),(e0.az.drop hc HV).kept eI,rfl⟩
  .have hy:scope.names.lookup y=some .cell\/scope.names.lookup y=some .free:=hy;rcases hy with hy | hy
   .exact absurd rfl (L.gL _ (y8 hy))
   .exact ⟨c,by rw [L.only y hy];exact x5⟩
  .intro n Q hn a o fd d Mc vs p e1 e2 e3 e4 e5 e6 e7;obtain ⟨q,e,g⟩:=e0.tab n Q hn a o fd d Mc vs p e1 e2 e3 e4 e5 e6 e7;refine ⟨q,?_,g⟩;show drop H c p=_
   rw [aU (fun z=>by rw [z,hc] at e;cases e)];exact e
  .match i,h1,h2 with
   | 0,h1,h2 =>
    cases h1;cases h2;exact ⟨ub,rb,.inr ⟨.inr L.eD,c,x5,bh,eI _ _ ec,cw⟩⟩
   | 1,h1,h2 =>
    cases h1;cases h2;refine ⟨u,rt,.inl ⟨L.par,?_⟩⟩;show (match xt == xt with | true=>some u | false=>none)=some u
    rw [beq_self_eq_true]
   | i+2,h1,h2=>cases h1
  .obtain ⟨_,rfl⟩:=look y d h;exact ⟨some ub,bh,eI _ _ ec,cw⟩
  .obtain ⟨_,rfl⟩:=look y d h;exact bW
 refine PySem.W.kla_codeExpr (wpAny_mono (d_ [] _ _ _ _ I ht) (fun v s' hq=>?_) fun _ _ z=>y4 z);obtain ⟨v',H1,J,rv,q⟩:=hq;obtain ⟨un,ok⟩:=yI hc ec Bz J.base J.az;exact ⟨v',_,J.os,J.bare,un,ok,rv,q (J.base.free c bh ec bW (show c ∉ ([]:List Addr) by simp))⟩
end
structure mM (P:Program) (w:World) (K:zd) (mg:w8) (base:Heap) (A:Around) (outer:List Env) (f:Addr) (fd:FuncData) (ps:zk) (sp:Sp):Prop where
 len:∀ vs H Q E,sp vs H Q E->vs.length=ps.length
 run:∀ (s:Shared) (H:Hp) (args:Args) (us:zg) (vs:List V) (Q:VK) (E:XK),ip P w K mg base A outer s H->BindsTo s fd args (ps.zip us)->Vals vs us->sp vs H Q E->codeAny (model P w) A (.call (.ref f) args) (CR fh outer P w H s Q E) s
def Pn {P:Program}{w:World}{K:zd}{mg:w8}{base:Heap}{A:Around}{outer:List Env}{f:Addr}{name qual:Str}{body:zn}{dV kV doc pm cdv ct oc:Value}{an od:zv}
  {iO:zw}{N ps:zk}{sp:Sp} (lk:K.lookup f=some ⟨oc,od,.func (PySem.W.fnOf name qual params body scope dV kV doc pm an cdv ct),iO⟩) (eJ:PySem.W.codeIn K cdv qual=true) (S:cS N ps scope) (lz:A.depth < recursionLimit) (hh:A.handled=none)
  (len:∀ vs H Q E,sp vs H Q E->vs.length=ps.length)
  (d_:∀ (s:Shared) (H:Hp) (vs:List V) (Q:VK) (E:XK),sp vs H Q E ->
   ∃ t,gu (fG fh P w K mg base N qual scope f cdv A outer s H E) body t/\t { nx:=fun _ H'=>Q .ai H',rt:=Q } (start N vs) H) :
  mM P w K mg base A outer f (PySem.W.fnOf name qual params body scope dV kV doc pm an cdv ct) ps sp:=by
 refine ⟨len,fun s H args us vs Q E e0 hb r lr=>?_⟩;have hl:=len _ _ _ _ lr;have KX:K.In s.heap:=e0.mod.C1.keeps fun b o e=>(e0.bs b o e).1
 have lim:s.heap.NoLimit:=e0.mod.nolimit.keeps fun b o e=>(e0.bs b o e).1
 have oT:∀ y∈ps.zip us,scope.names.lookup y.1=some .local\/(scope.names.lookup y.1=some .cell/\((cellsFrom (s.heap.objs.size+1) scope.names []).lookup y.1).isSome=true):=fun ⟨n,v⟩ hy=>by
  rcases S.par n (List.of_mem_zip hy).1 with q | q
  .exact .inl q
  .exact .inr ⟨q,PySem.W.cellsFrom_some _ _ _ (.inl q)⟩
 refine codeAny_call_function lz (KX _ _ lk) rfl S.co S.gen rfl (PySem.W.codeRec_of KX eJ) (hb _ _ _ _ ?_);refine wpAny_newFunctionEnv_cells S.kind oT fun env he s1 x=>?_
 subst he;refine ⟨lim.keeps x.toInCall.keep,codeAny_func ?_⟩;obtain ⟨t,ht,hq⟩:=d_ s H vs Q E lr;have I:Inv (fG fh P w K mg base N qual scope f cdv A outer s H E) [] (start N vs) H s1:=Dd S hh e0 hl r x;refine wpAny_mono (ht [] s1 (start N vs) H _ I hq) (fun fl s' hs=>?_) fun e s' hs=>hs
 have fin:∀ {a9:St}{H':Hp}{v:V}{u:Value},Inv (fG fh P w K mg base N qual scope f cdv A outer s H E) [] a9 H' s'->RelV v u->Q v H'->CE outer P w H s Q u s' :=
  fun {a9 H' v u} J rv q=>⟨v,H',J.os,J.bare,J.base,J.az,rv,q⟩
 cases fl with
 | ret u =>
  obtain ⟨v,a9,H',J,rv,q⟩:=hs;exact fin J rv q
 | next =>
  obtain ⟨a9,H',J,q⟩:=hs;exact fin (v:=V.ai) (u:=Value.none) J rfl q
 | brk =>
  obtain ⟨_,_,_,q⟩:=hs;exact y4 q
 | cont =>
  obtain ⟨_,_,_,q⟩:=hs;exact y4 q
section
variable {X:Cx}{ab:w4}{Z:St}{H:Hp}{s:Shared}{k:Nat}{fa c:Addr}{fd:FuncData}{ps:zk}{sp:Sp}{xb:Str}{bh:Obj}{ub:Value}
def RP {vs:List V}{us:zg} (F:mM X.prog X.w X.K X.mg X.base X.A X.stack fa fd ps sp) (hb:Binds X.K fd ps []) (I:Inv X ab Z H s) (kB:X.env.cells.lookup xb=some c) (tw:X.fn xb=true)
  (ec:s.heap.get? c=some bh) (cw:bh.data=.cell (some ub)) (r:Vals vs us) (h:sp vs (upd H c (.br bh aW)) (fun v H1=>Q v (drop H1 c)) E0):wpAny (model X.prog X.w) X.A (call (.ref fa) us) (EP X ab Z Q) X.xe s:=by
 have hn:H c=none:=I.cq xb c kB;have HV:¬ jV bh:=fun ⟨_,vs,t,z,_⟩=>by rw [cw] at z;cases z
 have c0:X.bq.heap.objs.size<=c:=I.ok.AA xb c tw kB;have old:∀ b o,X.bq.heap.get? b=some o->b≠c:=fun b o e z=>absurd (v4 (vz e) (z ▸ c0)) (yk _)
 have Bz:c ∉ j0 X.stack:=fun z=>by
  rcases vV.mp (I.ij c z) with e | e
  .exact I.tv xb c kB e
  .obtain ⟨_,o,ho,_⟩:=I.ok.dA.mem e;exact old c o ho rfl
 have e0:=I.mP;have e1:ip X.prog X.w X.K X.mg X.base X.A X.stack s (upd H c (.br bh aW)):=⟨e0.frames,e0.mod,fun b o e=>⟨(e0.bs b o e).1,by rw [ak (old b o (I.ok.bs b o e).1)];exact (e0.bs b o e).2⟩,e0.l8,e0.dA,fun b hb=>by rw [ak (fun z:b=c=>Bz (by rw [<- z];exact hb))];exact e0.l9 b hb,e0.az.lend hn ec,e0.bare,fun n Q kN a o fd d oc vs p e1 e2 e3 e4 e5 e6 e7=>by
  obtain ⟨q,e,g⟩:=e0.tab n Q kN a o fd d oc vs p e1 e2 e3 e4 e5 e6 e7;exact ⟨q,by rw [ak (aq e hn)];exact e,g⟩⟩
 have hl:(us++[]).length=ps.length:=by rw [List.append_nil,<- r.length];exact F.len _ _ _ _ h
 have nh:=hb s us I.gO hl;rw [List.append_nil] at nh;refine wpAny_call (codeAny_mono (F.run s _ ⟨us,[]⟩ us vs _ E0 e1 nh r h) fun r s' hq=>?_);cases r with
 | error e=>exact y4 hq
 | ok fl =>
  cases fl with
  | ret u =>
   obtain ⟨v,H',os,bare,un,ok,rv,q⟩:=hq;obtain ⟨EZ,E1⟩:=Cm hn ec HV Bz un ok;exact I.after ⟨v,drop H' c,os,bare,EZ,E1,rv,q⟩
  | next=>exact y4 hq
  | brk=>exact y4 hq
  | cont=>exact y4 hq
def ZH (X:Cx) (xb:Str) (params:Arguments) (body:Expr) (scope:Scope):TE:=fun Z H Q=>∀ f c' oc pm c8 c H',X.env.cells.lookup xb=some c -> (∀ b o,H b=some o -> H' b=some o) -> H f=none -> H c=none -> H' c=none -> H' f=some (.br (PySem.W.kla_obj "<lambda>" fC params body scope [(xb,c)] pm c' c8) aW) ->
 H' c'=some (.br oc aW)->fg fC oc->Q (.ref f) H'
def Zr (lS:X.env.scope.names.lookup xb=some .cell) (BA:∀ c,X.env.cells.lookup xb=some c->closureFor scope X.env=pure [(xb,c)]) (gX:X.env.code=.ref cc)
  (C:∀ h:Heap,X.K.In h -> PySem.W.CodeHd h cc Pt) (E2:∀ H,nJ X.K X.mg H -> ∃ q,H Pt=some (.kz q) /\ mF q fC) (si:defaultsOf params X.env=([],[])) (EW:X.env.qual ++ "<lambda>"=fC) :
  PE X (.Lambda params body scope pos) (ZH X xb params body scope):=by
 intro ab s Z H Q I h;obtain ⟨c,hc⟩:=I.ok.has xb (.inl lS);obtain ⟨q,hP,xE⟩:=E2 H I.mP.tab;have hn:H c=none:=I.cq xb c hc;refine FQ I (BA c hc) gX (C _ I.gO) hP xE si EW fun f c' oc pm c8 h' tk H' J mono ny nf hf c_ iq _=>?_
 exact ⟨.ref f,H',J,rfl,h f c' oc pm c8 c H' hc mono nf hn (J.cq xb c hc) hf c_ iq⟩
def Vx {BB p2:Pos}{xc y:Str}{i0 i1:Nat} (F:mM X.prog X.w X.K X.mg X.base X.A X.stack fa fd ps sp) (hb:Binds X.K fd ps []) (hg:Gl X xc) (hm:X.mg xc=some (.ref fa)) (hk:PySem.W.keepIn X.K (.ref fa)=true)
  (h0:X.N[i0]?=some xb) (lS:X.env.scope.names.lookup xb=some .cell) (tw:X.fn xb=true) (h1:X.N[i1]?=some y) (ZI:nE X.env.scope y) (i7:(y == ("__debug__":Str))=false) (hd2:(y == ("__classdict__":Str))=false) (tJ:(xc == ("__debug__":Str))=false)
  (BA:∀ c,X.env.cells.lookup xb=some c -> closureFor scope X.env=pure [(xb,c)]) (gX:X.env.code=.ref cc) (C:∀ h:Heap,X.K.In h -> PySem.W.CodeHd h cc Pt) (E2:∀ H,nJ X.K X.mg H -> ∃ q,H Pt=some (.kz q) /\ mF q fC) (si:defaultsOf params X.env=([],[])) (EW:X.env.qual ++ "<lambda>"=fC) :
  PE X (.Call (.Name xc p) [.Name y p2,.Lambda params body scope BB] [] pos) (fun Z H Q=>∃ vb vt,Z[i0]?=some (some vb)/\Z[i1]?=some (some vt)/\∀ f c' oc pm c8 c bh ub H',(∀ b o,H b=some o->H' b=some o)->H c=none->H' c=none ->
   H' f=some (.br (PySem.W.kla_obj "<lambda>" fC params body scope [(xb,c)] pm c' c8) aW) -> H' c'=some (.br oc aW) -> fg fC oc -> bh.data=.cell (some ub) -> RelV vb ub -> sp [vt,.ref f] (upd H' c (.br bh aW)) (fun v H1=>Q v (drop H1 c)) E0):=by
 intro ab s Z H Q I h;obtain ⟨vb,vt,e0,e1,h⟩:=h;refine wpAny_Call_Name_kw (xK I hg hm ?_ tJ);have pa:=eF (iM (pos:=p2) h1 ZI i7 hd2) (eF (Zr (X:=X) (pos:=BB) (params:=params) (body:=body) lS BA gX C E2 si EW) iQ);refine PySem.W.callWith_K (h₀:=X.base) I.ok.mod.C1 hk (a7 (pa pos ab s Z H (fun vs H1=>∃ f c' oc pm c8 c,vs=[vt,.ref f] /\ X.env.cells.lookup xb=some c /\ (∀ b o,H b=some o -> H1 b=some o) /\ H c=none /\ H1 f=some (.br (PySem.W.kla_obj "<lambda>" fC params body scope [(xb,c)] pm c' c8) aW) /\ H1 c'=some (.br oc aW) /\ fg fC oc) I ?_) fun us s1 ⟨vs,H1,I1,r,f,c',oc,pm,c8,c,ev,hc,mono,hn,hf,c_,iq⟩=>⟨I1.gO,?_⟩)
 .exact ⟨vt,e1,fun f c' oc pm c8 c H' hc mono nf hn kN hf c_ iq=>⟨f,c',oc,pm,c8,c,rfl,hc,mono,hn,hf,c_,iq⟩⟩
 .subst ev;obtain ⟨m,nN,hl⟩:=I1.loc;obtain ⟨ub,rb,lk⟩:=hl i0 xb vb h0 e0 (.inr (.inl lS));rcases lk with ⟨gT,_⟩ | ⟨_,c2,fq,bh,oI,cw⟩
  .have:X.env.scope.names.lookup xb=some .local:=gT;rw [lS] at this;cases this
  .rw [hc] at fq;cases fq;exact RP F hb I1 hc tw oI cw r (h f c' oc pm c8 c bh ub H1 mono hn (I1.cq xb c hc) hf c_ iq cw rb)
def RZ {x:Str}{j:Nat}{e:Expr}{ta:TE}{W:Addr -> V -> Hp -> VK -> Prop} (hN:X.N[j]?=some x) (hv:nE X.env.scope x) (i7:(x == ("__debug__":Str))=false) (hd2:(x == ("__classdict__":Str))=false) (ha:PE X e ta) (hs:starEach [e] X.env=(false,eval e X.env)::starEach [] X.env)
  (hW:∀ f ab s Z H v u Q,Inv X ab Z H s->RelV v u->W f v H Q->PySem.W.FnAt f s.heap/\wpAny (model X.prog X.w) X.A (call (.ref f) [u]) (EP X ab Z Q) X.xe s) (hF:∀ f s H,c6 X.prog X.w H s->(∃ ob,H f=some (.br ob aW)/\∃ oc od fd sl,ob=⟨oc,od,.func fd,sl⟩)->PySem.W.FnAt f s) :
  PE X (.Call (.Name x p) [e] [] pos) (fun Z H Q=>∃ f,Z[j]?=some (some (.ref f))/\(∃ ob,H f=some (.br ob aW)/\∃ oc od fd sl,ob=⟨oc,od,.func fd,sl⟩)/\ta Z H fun v H1=>W f v H1 Q):=by
 intro ab s Z H Q I h;obtain ⟨f,ef,hf,ht⟩:=h;refine wpAny_Call_Name_kw (a7 (iM (pos:=p) hN hv i7 hd2 ab s Z H (fun v H1=>v=.ref f/\H1=H) I ⟨.ref f,ef,rfl,rfl⟩) fun fv s0 ⟨v0,H0,I0,r0,e0,eH⟩=>?_);subst e0 eH;obtain rfl:fv=Value.ref f:=r0;refine PySem.W.callWith_F (hF f _ _ I0.az hf) (a7 ((eF ha iQ hs) pos ab s0 Z H0 (fun vs H1=>match vs with | [v]=>W f v H1 Q | _=>False) I0 ht) fun us s1 ⟨vs,H1,I1,r,hw⟩=>?_) hs rfl;rcases vs with _ | ⟨v,_ | ⟨v2,vs⟩⟩
 .exact hw.elim
 .obtain ⟨u,rfl,ru⟩:=vals1 r;exact hW f ab s1 Z H1 v u Q I1 ru hw
 .exact hw.elim
end
end L2
namespace Mi
open PySem L2
open PyProof.Rows hiding St
noncomputable def Cj (p:Pos):Arguments:={ posonlyargs:=[],args:=[{ arg:="test",annotation:=none,pos:=p }],vararg:=none,kwonlyargs:=[],kw_defaults:=[],kwarg:=none,defaults:=[] }
noncomputable def xW (p1 p2 p3 p4:Pos):Expr:=.Call (.Name "is_test" p1) [.Name "book" p2,.Name "test" p3] [] p4
noncomputable def dg:Scope:={ kind:=.function,names:=[(Str.ofString "test",.local),(Str.ofString "book",.free),(Str.ofString "is_test",.globalImplicit)],isGenerator:=false,isCoroutine:=false,more:=[] }
def CN:k6 dg "book" "test":=by
 refine ⟨rfl,rfl,rfl,by decide +kernel,by decide +kernel,by decide +kernel,fun y h=>?_,by decide +kernel⟩;have h2:=y8 h;simp only [dg,List.mem_cons,List.not_mem_nil,or_false] at h2;rcases h2 with h2 | h2 | h2
 .cases h2
 .cases h2;rfl
 .cases h2
abbrev ZN (p0 p1 p2 p3 p4:Pos) (c:Addr) (pm:Value) (c':Addr) (c8:Value):Obj:=PySem.W.kla_obj "<lambda>" fC (Cj p0) (xW p1 p2 p3 p4) dg [("book",c)] pm c' c8
def v8 (p:D->R D):List D->Prop
 | []=>True
 | d::ds=>p d=.ok (.bl true)/\v8 p ds
structure iL (g:G) (H Hs:Hp) (f:Addr) (b:D):Prop where
 ex:∃ p0 p1 p2 p3 p4 c c' oc bh ub vb pm c8,H f=some (.br (ZN p0 p1 p2 p3 p4 c pm c' c8) aW)/\H c'=some (.br oc aW)/\fg fC oc/\H c=some (.br bh aW)/\bh.data=.cell (some ub)/\RelV vb ub/\Hs c=none/\Rp g Hs b vb
variable {Hs:Hp}{f:Addr}{b:D}
def iL.grow {g:G}{H H' av:Hp} (x:iL g H Hs f b) (hs:ar Hs H) (w:aI H Hs H' av):iL g H' av f b:=by
 obtain ⟨p0,p1,p2,p3,p4,c,c',oc,bh,ub,vb,pm,c8,h1,h2,h3,h4,h5,h6,h7,h8⟩:=x.ex;exact ⟨p0,p1,p2,p3,p4,c,c',oc,bh,ub,vb,pm,c8,w.keep _ _ h1,w.keep _ _ h2,h3,w.keep _ _ h4,h5,h6,(w.old _ _ h4).trans h7,h8.mono (w.same hs)⟩
structure fV (T:Tx) (cl:Nat->List D->R D) (P:Program) (w:World) (K:zd) (mg:w8) (base:Heap) (n:Nat):Prop where
 blt:∀ f∈n8,mg f=none
 gl:∀ x d,T.gl.lookup x=some d->Hn d (mg x)
 fns:∀ f x,T.F[f]?=some x->∃ a fd ps,eU P w K mg base fh n a fd ps (oq ⟨P,w,K⟩ (cl f) ps.length)/\mg x=some (.ref a)/\PySem.W.keepIn K (.ref a)=true/\Binds K fd ps []/\∀ ds d,cl f ds=.ok d->ds.length=ps.length
variable {X:Cx}{c:Addr}{cdv dV doc pm ct oc:Value}{p1 p2 p3 p4 p5 p6:Pos}{q:Nat}{params:Arguments}{an od:zv}{iO:zw}
section
variable {T:Tx}{cl:Nat->List D->R D}{P:Program}{w:World}{K:zd}{mg:w8}{base:Heap}{n:Nat}
def fV.Md (F:fV T cl X.prog X.w X.K X.mg X.base n) (hc:X.calm=true) (J_:X.N.Nodup) (hr:cO n X.A):cF T cl X:=by
 refine ⟨hc,J_,by have:=hr.un;omega,F.blt,F.gl,fun f x hF=>?_⟩;obtain ⟨a,fd,ps,q1,q3,q4,q5,q6⟩:=F.fns f x hF;exact ⟨n,a,fd,ps,q1,hr,q3,q4,q5,q6⟩
variable {A:Around}{outer:List Env}{s:Shared}{H:Hp}
def Nb :aL dg (pX P w K mg base "book" "test" dg f c cdv A outer s H) :=
 ⟨fun y h=>oh h,fun y h=>oG h,fun y h=>h,fun y h=>by
  have h1:=jq h;refine ⟨h1,?_⟩;rcases h1 with e | e
  .exact .inr e
  .exact absurd rfl (CN.gL _ (y8 e))⟩
def Ro {g:Nat}{Q:VK}{fa:Addr}{ab:w4}{Z:St}{v:V}{u:Value}{d z:D} (F:fV T cl X.prog X.w X.K X.mg X.base n) (hT:T.F[g]?=some (Str.ofString "is_test")) (hr:∀ env,cO n (X.A.deeper env)) (lz:X.A.depth < recursionLimit) (hh:X.A.handled=none)
  (I:Inv X ab Z H s) (ru:RelV v u) (hs:ar Hs H) (hc:iL (aE X) H Hs fa b) (rd:Rp (aE X) Hs d v) (hz:cl g [b,d]=.ok z) (k:XD X H Hs Q z) :
  PySem.W.FnAt fa s.heap/\wpAny (model X.prog X.w) X.A (call (.ref fa) [u]) (EP X ab Z Q) X.xe s:=by
 obtain ⟨p0,p1,p2,p3,p4,c,c',oc,bh,ub,vb,pm,c8,h1,h2,h3,h4,h5,h6,h7,h8⟩:=hc.ex;have ef:=(I.az fa _ h1).1;refine ⟨⟨_,_,_,_,ef⟩,?_⟩;have ok:a8 T ["book","test"] (.call g [.var 0,.var 1]) dg (xW p1 p2 p3 p4)=true:=by
  show (bR "is_test" && iK dg "is_test" && decide (T.F[g]?=some (Str.ofString "is_test")) && cu T ["book","test"] [.var 0,.var 1] dg [.Name "book" p2,.Name "test" p3] && [Expr.Name "book" p2,.Name "test" p3].all noStar)=true
  rw [decide_eq_true hT];rfl
 have C:cF T cl (pX X.prog X.w X.K X.mg X.base "book" "test" dg fa c (.ref c') X.A X.stack s H):=fV.Md (X:=pX X.prog X.w X.K X.mg X.base "book" "test" dg fa c (.ref c') X.A X.stack s H) F rfl (show ([("book":Str),"test"]:zk).Nodup by decide +kernel) (hr _)
 have hb:=(good (T:=T) (cl:=cl) (.call g [.var 0,.var 1]) C Nb ok).1;have E3:ar Hs (drop H c):=fun b o e=>by
  rw [aU (fun z=>by rw [z,h7] at e;cases e)];exact hs b o e
 refine wpAny_call (codeAny_mono (Xn (E:=E0) (vb:=vb) (vt:=v) (Q:=Q) I.mP lz hh CN h1 h2 h3 h4 h5 ?_ h6 ru hb ?_) fun r s' hq=>?_)
 .rfl
 .refine ⟨[some b,some d],Hs,z,E3,⟨rfl,fun i hi e he=>?_⟩,?_,fun v' H' av g' r' n'=>?_⟩
  .match i,he with
   | 0,he=>cases he;exact ⟨vb,rfl,h8⟩
   | 1,he=>cases he;exact ⟨v,rfl,rd⟩
   | i+2,he=>cases he
  .show (do let ds <- cj cl [.var 0,.var 1] [some b,some d];cl g ds)=_
   exact hz
  .have E4:av c=none:=g'.sub.free n';refine k v' _ av ⟨fun a o e=>?_,fun a o e=>?_,fun a o e=>?_⟩ r'
   .by_cases za:a=c
    .subst za;rw [aC];rw [h4] at e;exact e
    .rw [ak za];exact g'.keep a o (by rw [aU za];exact e)
   .by_cases za:a=c
    .subst za;rw [E4,h7]
    .exact g'.old a o (by rw [aU za];exact e)
   .rw [ak (fun za=>by rw [za,E4] at e;cases e)];exact g'.sub a o e
 .cases r with
  | error e=>exact y4 hq
  | ok fl =>
   cases fl with
   | ret u=>exact I.after hq
   | next=>exact y4 hq
   | brk=>exact y4 hq
   | cont=>exact y4 hq
noncomputable def tj:zk:=["things","is_right","place","thing"]
noncomputable def cN:Scope:={ kind:=.function,names:=[(Str.ofString "things",.local),(Str.ofString "is_right",.local),(Str.ofString "place",.local),(Str.ofString "thing",.local),(Str.ofString "isinstance",.globalImplicit),(Str.ofString "list",.globalImplicit),(Str.ofString "BadTests",.globalImplicit),(Str.ofString "enumerate",.globalImplicit)],isGenerator:=false,isCoroutine:=false,more:=[] }
noncomputable def Hj (p1 p2 p3 p4 p5:Pos) (r:zn):Stmt:=.If (.UnaryOp .Not (.Call (.Name "is_right" p1) [.Name "thing" p2] [] p3) p4) r [] p5
def vL (p1 p2 p3 p4 p5 p6:Pos) (e1 c1:Option Expr) (q1 q2 q3 q4 q5 q6 q7 q8 q9 pN uC x6 x8:Pos) (j:Nat) (r2:zn):zn :=
 [.If (.UnaryOp .Not (.Call (.Name "isinstance" p1) [.Name "things" p2,.Name "list" p3] [] p4) p5) [.Raise e1 c1 x8] [] p6,
  .For (.Tuple [.Name "place" q1,.Name "thing" q2] j q3) (.Call (.Name "enumerate" q4) [.Name "things" q5] [] q6) [Hj q7 q8 q9 pN uC r2] [] x6]
noncomputable def oz (cl:Nat->List D->R D) (g:Nat) (b:D):Nat->List D->R D:=fun k ds=>if k=5000 then (match ds with | [t]=>cl g [b,t] | _=>.stuck) else cl k ds
section
variable {cl:Nat->List D->R D}{X:Cx}{n g:Nat}{T:Tx}{b:D}{E:Ent}{Es:Hp}{fa:Addr}{O inv:zi}
def Yy {r:zn} (F:fV T cl X.prog X.w X.K X.mg X.base n) (hT:T.F[g]?=some (Str.ofString "is_test")) (hr:∀ env,cO n (X.A.deeper env)) (lz:X.A.depth < recursionLimit) (hh:X.A.handled=none) (hN:X.N=tj) (lS:X.env.scope=cN)
  (hp:E.ab=[(1,fa)]) (hs:ar Es E.hp) (hc:iL (aE X) E.hp Es fa b):PS X (Hj p1 p2 p3 p4 p5 r) (gi X E Es O (some (without O [3])) inv (bZ (oz cl g b) (.og 1 (.var 3)))):=by
 have s_:∀ x∈tj,nE X.env.scope x:=fun x hx=>by
  rw [lS];refine .inl ?_;have:∀ x∈tj,cN.names.lookup x=some .local:=by decide +kernel
  exact this x hx
 have Me:PE X (.Name "thing" p2) (Ac 3):=iM (by rw [hN]; rfl) (s_ _ (by decide +kernel)) (by decide +kernel) (by decide +kernel)
 have E5:=RZ (X:=X) (p:=p1) (pos:=p3) (W:=fun f v H Q=>∃ Hs d z,ar Hs H /\ iL (aE X) H Hs f b /\ Rp (aE X) Hs d v /\ cl g [b,d]=.ok z /\ XD X H Hs Q z) (j:=1) (x:="is_right") (by rw [hN]; rfl) (s_ _ (by decide +kernel)) (by decide +kernel) (by decide +kernel) Me rfl
  (fun f ab s Z H v u Q I ru ⟨Hs,d,z,h1,h2,h3,h4,h5⟩=>Ro F hT hr lz hh I ru h1 h2 h3 h4 h5)
  (fun f s H ok ⟨ob,h1,oc,od,fd,sl,h2⟩=>by subst h2;exact ⟨oc,od,fd,sl,(ok f _ h1).1⟩)
 have ZO:=Nk (pos:=p4) (PJ E5 (mX rfl));refine cI (U7 ZO CT BR) fun D Z H=>?_
 rintro ⟨Y,Hs,o,Fr,h,k⟩;rw [Pa] at h;obtain ⟨d,hd,h⟩:=aj h;obtain ⟨z,hz,h⟩:=aj h;have ZT:cl g [b,d]=.ok z:=hz;cases z <;> try (cases h;done)
 rename_i bb;cases bb <;> try (cases h;done)
 cases h;obtain ⟨ay,F1,m1,vs⟩:=Fr.iz [3];have LP:Y[3]?=some (some d):=lu hd;obtain ⟨v,ev,rv⟩:=vs.2 3 (yn.mpr rfl) d LP;have ep:=F1.pin (1,fa) (by rw [hp];exact yn.mpr rfl);have cg:=hc.grow hs F1.grow;refine ⟨fa,ep,?_,v,ev,ay,d,.bl true,F1.sub,cg,rv,ZT,fun v' H' av g' r'=>⟨true,ni.mp r',?_⟩⟩
 .obtain ⟨p0,p1,p2,p3,p4,c,c',oc,bh,ub,vb,pm,c8,h1,_⟩:=cg.ex;exact ⟨_,h1,_,_,_,_,rfl⟩
 .show (if (!true)=true then Gi D Z H' else _)
  exact k _ rfl Z H' av (F1.grown g') (m1.trans (g'.same F1.sub))
theorem Fe {x9:D}:∀ (ts:List D) (k:Nat),v8 (fun t=>cl g [b,t]) ts->iC (fun d Y=>do let dJ <- c7 (.two 2 3) d Y;bI (oz cl g b) [.og 1 (.var 3)] dJ) [some x9,none,none,none] (aX k ts) [some x9,none,none,none]=.ok (.nx [some x9,none,none,none])
 | [],_,_=>rfl
 | t::ts,k,h=>by
  have h1:(oz cl g b) 5000 [t]=.ok (.bl true):=h.1;show iC _ _ (.tup [.int k,t]::aX (k+1) ts) _=_
  unfold iC;have h2:(c7 (.two 2 3) (.tup [.int k,t]) [some x9,none,none,none] >>= fun dJ=>bI (oz cl g b) [.og 1 (.var 3)] dJ)=.ok (.nx [some x9,none,some (.int k),some t]):=by
   show (bZ (oz cl g b) (.og 1 (.var 3)) [some x9,none,some (.int k),some t] >>= uF _ [])=_
   rw [Pa];show (((oz cl g b) 5000 [t] >>= fun r=>RM [some x9,none,some (.int k),some t] r) >>= uF _ [])=_
   rw [h1];rfl
  show ((c7 (.two 2 3) (.tup [.int k,t]) [some x9,none,none,none] >>= fun dJ=>bI (oz cl g b) [.og 1 (.var 3)] dJ) >>= _)=_
  rw [h2];exact Fe ts (k+1) h.2
end
def ZU (g:G) (cl:Nat->List D->R D) (q:Nat):Sp:=fun vs H Q _=>∃ vt fa b ts Hs,vs=[vt,.ref fa]/\ar Hs H/\iL g H Hs fa b/\Rp g Hs (.lst ts) vt/\v8 (fun t=>cl q [b,t]) ts/\∀ H' av,aI H Hs H' av->Q .ai H'
def ZY {ZZ:Nat->List D->R D} (F:fV T cl P w K mg base n):fV ⟨[],[]⟩ ZZ P w K mg base n:=⟨F.blt,fun x d h=>(by cases h),fun f x h=>(by simp at h)⟩
def Z3 (r:cO (n+1) A) (e1 e2 e3:Env):cO n (((A.deeper e1).deeper e2).deeper e3) :=
 ⟨r.hd,by have:=r.dp;show A.depth+1+1+1+3 * n+5 < _;omega,by have:=r.un;show A.units+3+3+3+16 * n+200 < _;omega⟩
def Z_ (r:cO (n+1) A) (e1 e2:Env):cO n ((A.deeper e1).deeper e2) :=
 ⟨r.hd,by have:=r.dp;show A.depth+1+1+3 * n+5 < _;omega,by have:=r.un;show A.units+3+3+16 * n+200 < _;omega⟩
def Zw {kV:Value}{x1 c1:Option Expr}{q1 q2 q3 q4 q5 q6 q7 q8 q9 pN uC x6 x8:Pos}{j:Nat}{r2:zn}{e1:Env}
  (F:fV T cl P w K mg base n) (hT:T.F[q]?=some (Str.ofString "is_test")) (hr:cO (n+1) A)
  (lk:K.lookup f=some ⟨oc,od,.func (PySem.W.fnOf "check_list" "check_list" params (vL p1 p2 p3 p4 p5 p6 x1 c1 q1 q2 q3 q4 q5 q6 q7 q8 q9 pN uC x6 x8 j r2) cN dV kV doc pm an cdv ct),iO⟩) (eJ:PySem.W.codeIn K cdv "check_list"=true) :
  mM P w K mg base (A.deeper e1) outer f (PySem.W.fnOf "check_list" "check_list" params (vL p1 p2 p3 p4 p5 p6 x1 c1 q1 q2 q3 q4 q5 q6 q7 q8 q9 pN uC x6 x8 j r2) cN dV kV doc pm an cdv ct) ["things","is_right"] (ZU ⟨P,w,K⟩ cl q):=by
 have S:cS tj ["things","is_right"] cN:=pJ (by decide +kernel)
 refine Pn lk eJ S (by have:=hr.dp;show A.depth+1 < _;omega) hr.hd (fun vs H Q E h=>?_) fun s H vs Q E h=>?_
 .obtain ⟨vt,fa,b,ts,Hs,rfl,_⟩:=h;rfl
 .obtain ⟨vt,fa,b,ts,Hs,rfl,hs,hc,rt,cy,k⟩:=h;have Cs:=Z_ hr e1 (envOfC "check_list" cN s.heap.objs.size f cdv)
  have C:cF ⟨[],[]⟩ (oz cl q b) (fG fh P w K mg base tj "check_list" cN f cdv (A.deeper e1) outer s H E):=fV.Md (X:=fG fh P w K mg base tj "check_list" cN f cdv (A.deeper e1) outer s H E) (ZY F) rfl S.nd Cs
  have SR:aL cN (fG fh P w K mg base tj "check_list" cN f cdv (A.deeper e1) outer s H E):=⟨fun y h=>oh h,fun y h=>oG h,fun y h=>h,fun y h=>⟨jq h,.inl rfl⟩⟩
  have h1:=pW (T:=⟨[],[]⟩) (cl:=oz cl q b) (.ifs (.not (.isin (.var 0) .list)) [.r9] []) (fG fh P w K mg base tj "check_list" cN f cdv (A.deeper e1) outer s H E) cN (.If (.UnaryOp .Not (.Call (.Name "isinstance" p1) [.Name "things" p2,.Name "list" p3] [] p4) p5) [.Raise x1 c1 x8] [] p6) [] [] (some []) ⟨H,[(1,fa)]⟩ Hs (fun z hz=>by simp [Te,vd]) C SR PassesOwn.leaving rfl rfl
  have h2:=Yy (cl:=cl) (g:=q) (X:=fG fh P w K mg base tj "check_list" cN f cdv (A.deeper e1) outer s H E) (T:=T) (b:=b) (E:=⟨H,[(1,fa)]⟩) (Es:=Hs) (fa:=fa) (O:=[]) (inv:=[]) (p1:=q7) (p2:=q8) (p3:=q9) (p4:=pN) (p5:=uC) (r:=r2) F hT (fun env=>Z3 hr e1 _ env) (by have:=hr.dp; show A.depth+1+1 < _; omega) hr.hd rfl rfl rfl hs hc
  have h3:=Mz (T:=⟨[],[]⟩) (cl:=oz cl q b) (X:=fG fh P w K mg base tj "check_list" cN f cdv (A.deeper e1) outer s H E) (sc:=cN) (E:=⟨H,[(1,fa)]⟩) (Es:=Hs) (O:=[]) (inv:=[]) (pos:=x6) (t:=.two 2 3) (k:=.enum) (src:=[.var 0]) (b:=[.og 1 (.var 3)]) (tg:=.Tuple [.Name "place" q1,.Name "thing" q2] j q3) (iter:=.Call (.Name "enumerate" q4) [.Name "things" q5] [] q6) (body:=[Hj q7 q8 q9 pN uC r2]) (O2:=[]) (y:=some []) C SR PassesOwn.leaving (fun z hz=>by rw [List.mem_singleton.mp hz]; show (1:Nat) ∉ [2,3]; decide) rfl rfl rfl (fun i hi=>by cases hi) (fun O3 _ i hi=>by cases hi) (BK ?_)
  .refine ⟨_,lg h1 (BK h3),?_⟩;have Z':FR ⟨P,w,K⟩ ⟨H,[(1,fa)]⟩ Hs [] [some (.lst ts),none,none,none] [some vt,some (.ref fa),none,none] H Hs:=by
    refine ⟨aI.refl hs,rfl,fun i d h _=>?_,fun i hi=>(by cases hi),fun i hi=>(by cases hi),fun z hz=>by rw [List.mem_singleton.mp hz];rfl⟩
    match i,h with
    | 0,h=>cases h;exact ⟨vt,rfl,rt⟩
    | 1,h=>cases h
    | 2,h=>cases h
    | 3,h=>cases h
    | i+4,h=>cases h
   refine ⟨[some (.lst ts),none,none,none],Hs,.nx [some (.lst ts),none,none,none],Z',rfl,fun O1 e a9 H' av F' s'=>?_⟩;cases e;refine ⟨[some (.lst ts),none,none,none],av,.nx [some (.lst ts),none,none,none],F',Fe ts 0 cy,fun O1 e sF H2 bt F2 s2=>?_⟩;exact k H2 bt F2.grow
  .refine cI h2 fun D Z H=>?_
   rintro ⟨Y,Hs,o,Fr,h,kk⟩;refine ⟨Y,Hs,o,Fr,?_,kk⟩;obtain ⟨o1,jw,h4⟩:=aj (show (bZ (oz cl q b) (.og 1 (.var 3)) Y >>= uF (oz cl q b) [])=.ok o from h);cases o1 <;> cases h4 <;> exact jw
noncomputable def Mk:zk:=["book","tests"]
noncomputable def gB:Scope:={ kind:=.function,names:=[(Str.ofString "book",.cell),(Str.ofString "tests",.local),(Str.ofString "check_list",.globalImplicit)],isGenerator:=false,isCoroutine:=false,more:=[] }
def Aw (p1 p2 p3 p4 p5 p6 p7 p8 p9 i6:Pos):zn:=[.Expr (.Call (.Name "check_list" p1) [.Name "tests" p2,.Lambda (Cj p3) (xW p4 p5 p6 p7) dg p8] [] p9) i6]
def VD {env:Env} (h:env.cells.lookup (Str.ofString "book")=some c):closureFor dg env=pure [(Str.ofString "book",c)]:=by
 unfold closureFor;simp [dg,cellOf,h]
structure E6 (K:zd) (mg:w8) (act:Addr) (cdv:Value):Prop where
 cl:∃ f params dV kV doc pm cv ct oc an od iO p1 p2 p3 p4 p5 p6 x1 c1 q1 q2 q3 q4 q5 q6 q7 q8 q9 pN uC x6 x8 j r2,K.lookup f=some ⟨oc,od,.func (PySem.W.fnOf "check_list" "check_list" params (vL p1 p2 p3 p4 p5 p6 x1 c1 q1 q2 q3 q4 q5 q6 q7 q8 q9 pN uC x6 x8 j r2) cN dV kV doc pm an cv ct),iO⟩ /\ PySem.W.codeIn K cv "check_list"=true /\
  mg (Str.ofString "check_list")=some (.ref f) /\ PySem.W.keepIn K (.ref f)=true /\ Binds K (PySem.W.fnOf "check_list" "check_list" params (vL p1 p2 p3 p4 p5 p6 x1 c1 q1 q2 q3 q4 q5 q6 q7 q8 q9 pN uC x6 x8 j r2) cN dV kV doc pm an cv ct) ["things","is_right"] []
 code:∃ cc Pt oc vs file tf flags tg uS text tt,cdv=.ref cc /\ K.lookup cc=some oc /\ oc.cls=.type "code" /\ oc.data=.fields vs /\ vs[11]?=some (.ref Pt) /\ vs.getD 11 .none=.ref Pt /\ vs.getD 18 .none=.str file tf /\ vs.getD 7 .none=.int flags tg /\ vs.getD 9 .none=.bool uS /\ vs.getD 10 .none=.int text tt /\ cc ≠ Pt
 me:mg "check_tests"=some (.ref act)
def Tt {act:Addr}{kV:Value}{p7 p8 p9 i6:Pos}{c:List D->R D}
  (F:fV T cl P w K mg base n) (hT:T.F[q]?=some (Str.ofString "is_test")) (hc:∀ ds z,c ds=.ok z -> ∃ b ts,ds=[b,.lst ts] /\ z=.ai /\ v8 (fun t=>cl q [b,t]) ts)
  (lk:K.lookup act=some ⟨oc,od,.func (PySem.W.fnOf "check_tests" "check_tests" params (Aw p1 p2 p3 p4 p5 p6 p7 p8 p9 i6) gB dV kV doc pm an cdv ct),iO⟩) (eJ:PySem.W.codeIn K cdv "check_tests"=true) (L:E6 K mg act cdv) :
  eU P w K mg base fh (n+1) act (PySem.W.fnOf "check_tests" "check_tests" params (Aw p1 p2 p3 p4 p5 p6 p7 p8 p9 i6) gB dV kV doc pm an cdv ct) ["book","tests"] (oq ⟨P,w,K⟩ c 2):=by
 have S:cS Mk ["book","tests"] gB:=pJ (by decide +kernel)
 have len:∀ (vs:List V) (H:Hp) (Q:VK) (E:XK),oq ⟨P,w,K⟩ c 2 vs H Q E -> vs.length=([("book":Str),"tests"]:zk).length:=fun vs H Q E h=>by
  obtain ⟨ds,Hs,z,h,_⟩:=h;exact h
 refine ⟨len,fun A outer s H args us vs Q E hr e0 hb r lr=>(Pn (N:=Mk) lk eJ S (by have:=hr.dp;omega) hr.hd len fun s H vs Q E h=>?_).run s H args us vs Q E e0 hb r lr⟩;obtain ⟨ds,Hs,z,hlen,hs,rs,Mm,k⟩:=h;obtain ⟨b,ts,rfl,rfl,cy⟩:=hc _ _ Mm;obtain ⟨vb,ws,rfl,rb,al⟩:=rs.cons_inv;obtain ⟨vt,ws,rfl,rt,am⟩:=al.cons_inv;cases am.nil_inv;obtain ⟨fc,HZ,π,τ,be,χ,ψ,ω,bi,Γ,Δ,bn,a1,a2,a3,a4,a5,a6,x1,c1,b1,b2,b3,b4,b5,b6,b7,b8,b9,Mn,Mo,My,MA,j,r2,g1,g2,g3,g4,g5⟩:=L.cl;obtain ⟨cc,Pt,E7,E8,file,tf,flags,tg,uS,text,tt,d1,d2,d3,d4,d5,d6,d7,d8,d9,MB,nz⟩:=L.code;have RA:=Zw (e1:=envOfC "check_tests" gB s.heap.objs.size act cdv) (outer:=envOfC "check_tests" gB s.heap.objs.size act cdv::outer) F hT hr g1 g2
 have Me:=Vx (X:=fG fh P w K mg base Mk "check_tests" gB act cdv A outer s H E) (xb:="book") (y:="tests") (xc:="check_list") (i0:=0) (i1:=1) (params:=Cj p3) (body:=xW p4 p5 p6 p7) (scope:=dg) (BB:=p8) (p:=p1) (p2:=p2) (pos:=p9) (cc:=cc) (Pt:=Pt)
  RA g5 (show gB.names.lookup (Str.ofString "check_list")=some .globalImplicit by decide +kernel) g3 g4 rfl (show gB.names.lookup (Str.ofString "book")=some .cell by decide +kernel) rfl rfl (.inl (show gB.names.lookup (Str.ofString "tests")=some .local by decide +kernel)) (by decide +kernel) (by decide +kernel) (by decide +kernel)
  (fun c h=>VD h) d1 (fun h X=>⟨E7,E8,file,tf,flags,tg,uS,text,tt,X _ _ d2,d3,d4,d5,d6,d7,d8,d9,MB,nz⟩) (fun H' tab=>tab _ _ (.inl ⟨rfl,rfl⟩) act _ _ cc E7 E8 Pt L.me lk rfl d1 d2 d4 d5) rfl (show ("check_tests":Str) ++ ".<locals>." ++ "<lambda>"=fC by decide +kernel)
 refine ⟨_,BK (rT Me (jx rfl)),?_⟩;refine ⟨vb,vt,rfl,rfl,fun f c' oc pm c8 cx bh ub H' mono hn kN hf c_ iq cw bv=>?_⟩;have nf:f≠cx:=fun z=>by rw [z,kN] at hf;cases hf
 have nc:c'≠cx:=fun z=>by rw [z,kN] at c_;cases c_
 have lS:Hs cx=none:=hs.free hn;refine ⟨vt,f,b,ts,Hs,rfl,fun a o e=>?_,⟨p3,p4,p5,p6,p7,cx,c',oc,bh,ub,vb,pm,c8,by rw [ak nf];exact hf,by rw [ak nc];exact c_,iq,aC,cw,bv,lS,rb⟩,rt,cy,fun H1 ay w1=>?_⟩
 .rw [ak (fun z=>by rw [z,lS] at e;cases e)];exact mono _ _ (hs a o e)
 .have o1:ay cx=none:=(w1.old cx _ aC).trans lS;refine k .ai (drop H1 cx) ay ⟨fun a o e=>?_,fun a o e=>?_,fun a o e=>?_⟩ (sG.mpr rfl)
  .have na:a≠cx:=fun z=>by rw [z,hn] at e;cases e
   rw [aU na];exact w1.keep a o (by rw [ak na];exact mono _ _ e)
  .have na:a≠cx:=fun z=>by rw [z,hn] at e;cases e
   exact w1.old a o (by rw [ak na];exact mono _ _ e)
  .rw [aU (fun z=>by rw [z,o1] at e;cases e)];exact w1.sub a o e
end
end Mi
namespace L2
open PySem PySem.Spec PyProof.Rows
structure gN (scope:Scope) (x1 x2 xt:Str):Prop where
 kind:scope.kind=.function
 co:scope.isCoroutine=false
 gen:scope.isGenerator=false
 gL:∀ x∈scope.names,x.2≠.cell
 par:scope.names.lookup xt=some .local
 MC:scope.names.lookup x1=some .free
 MD:scope.names.lookup x2=some .free
 only:∀ y,scope.names.lookup y=some .free->y=x1\/y=x2
 ne:x1≠x2
def lY (P:Program) (w:World) (K:zd) (mg:w8) (base:Heap) (x1 x2 xt:Str) (scope:Scope) (f c1 c2:Addr) (cdv:Value) (A:Around) (outer:List Env) (s:Shared) (H:Hp):Cx where
 prog:=P
 w:=w
 K:=K
 mg:=mg
 base:=base
 A:=A.deeper (PySem.W.envX fZ scope s.heap.objs.size f cdv [(x1,c1),(x2,c2)])
 N:=[x1,x2,xt]
 bq:=s
 kL:=drop (drop H c1) c2
 env:=PySem.W.envX fZ scope s.heap.objs.size f cdv [(x1,c1),(x2,c2)]
 outer:=outer
 stack:=PySem.W.envX fZ scope s.heap.objs.size f cdv [(x1,c1),(x2,c2)]::outer
 ex:=[]
 calm:=true
 fn:=fun _=>false
 pn:=[]
 xe:=fun _ _=>False
variable {Q:VK}{t:TE}
section
variable {P:Program}{w:World}{K:zd}{mg:w8}{base:Heap}{A:Around}{outer:List Env}{s:Shared}{H:Hp}{f c1 c2 c':Addr}{params:Arguments}{body:Expr}{scope:Scope}{pm c8:Value}{oc o1 o2:Obj}{x1 x2 xt:Str}{u1 u2 u:Value}{v1 v2 vt:V}
def RB {E:XK} (e0:ip P w K mg base A outer s H) (lz:A.depth < recursionLimit) (hh:A.handled=none) (L:gN scope x1 x2 xt) (hf:H f=some (.br (PySem.W.kla_obj "<lambda>" fZ params body scope [(x1,c1),(x2,c2)] pm c' c8) aW)) (c_:H c'=some (.br oc aW)) (iq:fg fZ oc)
  (sj:H c1=some (.br o1 aW)) (i7:o1.data=.cell (some u1)) (fq:H c2=some (.br o2 aW)) (hd2:o2.data=.cell (some u2)) (dE:c1 ≠ c2) (ir:bindArgs (PySem.W.kla_fn "<lambda>" fZ params body scope [(x1,c1),(x2,c2)] pm (.ref c') c8) ⟨[u],[]⟩=pure [(xt,u)]) (r1:RelV v1 u1) (r2:RelV v2 u2) (rt:RelV vt u)
  (d_:PE (lY P w K mg base x1 x2 xt scope f c1 c2 (.ref c') A outer s H) body t) (ht:t [some v1,some v2,some vt] (drop (drop H c1) c2) fun v H1=>H1 c1=none->H1 c2=none->Q v (upd (upd H1 c2 (.br o2 aW)) c1 (.br o1 aW))) :
  codeAny (model P w) A (.call (.ref f) ⟨[u],[]⟩) (CR fh outer P w H s Q E) s:=by
 have ef:=(e0.az f _ hf).1;have Mb:=(e0.az c' _ c_).1;have H_:=(e0.az c1 _ sj).1;have Ic:=(e0.az c2 _ fq).1;have B_:¬ jV o1:=fun ⟨_,vs,t,z,_⟩=>by rw [i7] at z;cases z
 have mh:¬ jV o2:=fun ⟨_,vs,t,z,_⟩=>by rw [hd2] at z;cases z
 have ME:c1 ∉ j0 outer:=fun z=>by rw [e0.l9 c1 z] at sj;cases sj
 have MG:c2 ∉ j0 outer:=fun z=>by rw [e0.l9 c2 z] at fq;cases fq
 have E9:drop H c1 c2=some (.br o2 aW):=by rw [aU (Ne.symm dE)];exact fq
 have eJ:s.heap.CodeRec (.ref c') fZ:=by
  obtain ⟨vs,t,h1,h2⟩:=iq;exact ⟨c',oc,vs,t,rfl,Mb,h1,h2⟩
 have lim:s.heap.NoLimit:=e0.mod.nolimit.keeps fun b o e=>(e0.bs b o e).1
 have PM:c6 P w (drop (drop H c1) c2) s.heap:=(e0.az.drop sj B_).drop E9 mh;refine PySem.W.kla_callFunE lz ef rfl L.co L.gen rfl eJ ?_;rw [ir];refine ve (wpAny_newFunctionEnv L.gL (fun y hy=>by cases yn.mp hy;exact L.par) (fun e_ nN t_=>⟨lim.fresh _ t_,?_⟩) L.kind);show codeAny _ _ (.expr body (PySem.W.envX fZ scope s.heap.objs.size f (.ref c') [(x1,c1),(x2,c2)])) _ _
 have eI:∀ b o,s.heap.get? b=some o->e_.get? b=some o:=fun b o e=>t_.extBut b o (vF (vz e)) (vw _ e)
 have I:Inv (lY P w K mg base x1 x2 xt scope f c1 c2 (.ref c') A outer s H) [] [some v1,some v2,some vt] (drop (drop H c1) c2) { s with heap:=e_,toks:=s.toks+1 }:=by
  have mS:∀ b:Addr,b ∉ (lY P w K mg base x1 x2 xt scope f c1 c2 (.ref c') A outer s H).ex:=fun b z=>absurd (show b∈([]:List Addr) from z) (by simp)
  have look:∀ y d,(lY P w K mg base x1 x2 xt scope f c1 c2 (.ref c') A outer s H).env.cells.lookup y=some d->(y=x1/\d=c1)\/(y=x2/\d=c2):=fun y d h=>by
   have h':([(x1,c1),(x2,c2)]:List (Str × Addr)).lookup y=some d:=h;simp only [List.lookup] at h';split at h'
   .rename_i e;cases h';exact .inl ⟨beq_iff_eq.mp e,rfl⟩
   .split at h'
    .rename_i e;cases h';exact .inr ⟨beq_iff_eq.mp e,rfl⟩
    .cases h'
  have Iq:(lY P w K mg base x1 x2 xt scope f c1 c2 (.ref c') A outer s H).env.cells.lookup x1=some c1:=by
   show ([(x1,c1),(x2,c2)]:List (Str × Addr)).lookup x1=some c1
   simp [List.lookup]
  have Iy:(lY P w K mg base x1 x2 xt scope f c1 c2 (.ref c') A outer s H).env.cells.lookup x2=some c2:=by
   show ([(x1,c1),(x2,c2)]:List (Str × Addr)).lookup x2=some c2
   have:(x2 == x1)=false:=beq_eq_false_iff_ne.mpr (Ne.symm L.ne);simp [List.lookup,this]
  have dn:∀ b,H b=none->drop (drop H c1) c2 b=none:=fun b n=>by
   by_cases z:b=c2
   .rw [z];exact bW
   .rw [aU z];by_cases z:b=c1
    .rw [z];exact bW
    .rw [aU z];exact n
  have dc:∀ d,d=c1\/d=c2->drop (drop H c1) c2 d=none:=fun d z=>by
   rcases z with rfl | rfl
   .rw [aU dE];exact bW
   .exact bW
  have ca:∀ y d,(lY P w K mg base x1 x2 xt scope f c1 c2 (.ref c') A outer s H).env.cells.lookup y=some d->d=c1\/d=c2:=fun y d h=>(look y d h).imp (·.2) (·.2)
  refine ⟨⟨e0.mod,L.kind,rfl,rfl,vE _,fun y z d h1 h2=>?_,fun y hy=>?_,fun y d z _=>(by cases z),fun _=>hh,Around.frames_deeper e0.frames,.inr ⟨rfl,rfl⟩,fun b z=>absurd z (mS b),fun b o e=>⟨(e0.bs b o e).1,dn b (e0.bs b o e).2⟩,e0.l8,fun b _ _=>mS b,fun b z=>absurd z (mS b),e0.dA,fun b hb=>dn b (e0.l9 b hb),?_⟩,
   rfl,e0.bare,Un.kept eI,⟨_,nN,fun i y v h1 h2 h3=>?_⟩,fun y d h=>?_,PM.fresh (vE _),fun y d h=>?_,fun p hp=>absurd (show p∈([]:w4) from hp) (by simp),PM.kept eI,rfl⟩
  .rcases look y d h1 with ⟨a1,b1⟩ | ⟨a1,b1⟩ <;> rcases look z d h2 with ⟨a2,b2⟩ | ⟨a2,b2⟩
   .rw [a1,a2]
   .exact absurd (b1.symm.trans b2) dE
   .exact absurd (b2.symm.trans b1) dE
   .rw [a1,a2]
  .have hy:scope.names.lookup y=some .cell\/scope.names.lookup y=some .free:=hy;rcases hy with hy | hy
   .exact absurd rfl (L.gL _ (y8 hy))
   .rcases L.only y hy with e | e
    .exact ⟨c1,by rw [e];exact Iq⟩
    .exact ⟨c2,by rw [e];exact Iy⟩
  .intro n Q hn a o fd d Mc vs p e1 e2 e3 e4 e5 e6 e7;obtain ⟨q,e,g⟩:=e0.tab n Q hn a o fd d Mc vs p e1 e2 e3 e4 e5 e6 e7;refine ⟨q,?_,g⟩;show drop (drop H c1) c2 p=_
   rw [aU (fun z=>by rw [z,fq] at e;cases e),aU (fun z=>by rw [z,sj] at e;cases e)];exact e
  .match i,h1,h2 with
   | 0,h1,h2 =>
    cases h1;cases h2;exact ⟨u1,r1,.inr ⟨.inr L.MC,c1,Iq,o1,eI _ _ H_,i7⟩⟩
   | 1,h1,h2 =>
    cases h1;cases h2;exact ⟨u2,r2,.inr ⟨.inr L.MD,c2,Iy,o2,eI _ _ Ic,hd2⟩⟩
   | 2,h1,h2 =>
    cases h1;cases h2;refine ⟨u,rt,.inl ⟨L.par,?_⟩⟩;show (match xt == xt with | true=>some u | false=>none)=some u
    rw [beq_self_eq_true]
   | i+3,h1,h2=>cases h1
  .rcases look y d h with ⟨_,rfl⟩ | ⟨_,rfl⟩
   .exact ⟨some u1,o1,eI _ _ H_,i7⟩
   .exact ⟨some u2,o2,eI _ _ Ic,hd2⟩
  .exact dc d (ca y d h)
 refine PySem.W.kla_codeExpr (wpAny_mono (d_ [] _ _ _ _ I ht) (fun v s' hq=>?_) fun _ _ z=>y4 z);obtain ⟨v',H1,J,rv,q⟩:=hq;obtain ⟨EZ,E1⟩:=yI E9 Ic MG J.base J.az;obtain ⟨un,ok⟩:=yI sj H_ ME EZ E1;have n2:H1 c2=none:=J.base.free c2 o2 Ic bW (show c2 ∉ ([]:List Addr) by simp);have n1:H1 c1=none:=J.base.free c1 o1 H_ (by show drop (drop H c1) c2 c1=none;rw [aU dE];exact bW) (show c1 ∉ ([]:List Addr) by simp);exact ⟨v',_,J.os,J.bare,un,ok,rv,q n1 n2⟩
end
variable {X:Cx}{A:Around}{ab:w4}{Z:St}{H:Hp}{s:Shared}
def Fl {H':Hp}{xb:Str}{c:Addr}{o:Obj} (I:Inv X ab Z H s) (e0:ip X.prog X.w X.K X.mg X.base A X.stack s H') (hn:H' c=none) (kB:X.env.cells.lookup xb=some c) (tw:X.fn xb=true) (ec:s.heap.get? c=some o) :
  ip X.prog X.w X.K X.mg X.base A X.stack s (upd H' c (.br o aW))/\c ∉ j0 X.stack:=by
 have c0:X.bq.heap.objs.size<=c:=I.ok.AA xb c tw kB;have old:∀ b o,X.bq.heap.get? b=some o->b≠c:=fun b o e z=>absurd (v4 (vz e) (z ▸ c0)) (yk _)
 have Bz:c ∉ j0 X.stack:=fun z=>by
  rcases vV.mp (I.ij c z) with e | e
  .exact I.tv xb c kB e
  .obtain ⟨_,o,ho,_⟩:=I.ok.dA.mem e;exact old c o ho rfl
 exact ⟨⟨e0.frames,e0.mod,fun b o e=>⟨(e0.bs b o e).1,by rw [ak (old b o (I.ok.bs b o e).1)];exact (e0.bs b o e).2⟩,e0.l8,e0.dA,fun b hb=>by rw [ak (fun z:b=c=>Bz (by rw [<- z];exact hb))];exact e0.l9 b hb,e0.az.lend hn ec,e0.bare,fun n Q kN a o fd d oc vs p e1 e2 e3 e4 e5 e6 e7=>by
  obtain ⟨q,e,g⟩:=e0.tab n Q kN a o fd d oc vs p e1 e2 e3 e4 e5 e6 e7;exact ⟨q,by rw [ak (aq e hn)];exact e,g⟩⟩,Bz⟩
def Qz {f c1 c2 c':Addr}{params:Arguments}{body:Expr}{scope:Scope}{pm c8:Value}{oc o1 o2:Obj}{x1 x2 xt:Str}{u1 u2 u:Value}{v1 v2 vt:V}
  (hA:A.frames=X.A.frames) (lz:A.depth < recursionLimit) (hh:A.handled=none) (I:Inv X ab Z H s) (L:gN scope x1 x2 xt) (hf:H f=some (.br (PySem.W.kla_obj "<lambda>" fZ params body scope [(x1,c1),(x2,c2)] pm c' c8) aW)) (c_:H c'=some (.br oc aW)) (iq:fg fZ oc)
  (xI:X.env.cells.lookup x1=some c1) (ci:X.fn x1=true) (e1:s.heap.get? c1=some o1) (i7:o1.data=.cell (some u1)) (k_:X.env.cells.lookup x2=some c2) (cr:X.fn x2=true) (e2:s.heap.get? c2=some o2) (hd2:o2.data=.cell (some u2)) (dE:c1≠c2)
  (ir:bindArgs (PySem.W.kla_fn "<lambda>" fZ params body scope [(x1,c1),(x2,c2)] pm (.ref c') c8) ⟨[u],[]⟩=pure [(xt,u)]) (r1:RelV v1 u1) (r2:RelV v2 u2) (rt:RelV vt u)
  (d_:PE (lY X.prog X.w X.K X.mg X.base x1 x2 xt scope f c1 c2 (.ref c') A X.stack s (upd (upd H c1 (.br o1 aW)) c2 (.br o2 aW))) body t) (ht:t [some v1,some v2,some vt] H fun v H1=>H1=H/\Q v H) (tm:∀ (a b:VK),(∀ v H,a v H->b v H)->t [some v1,some v2,some vt] H a->t [some v1,some v2,some vt] H b) :
  wpAny (model X.prog X.w) A (call (.ref f) [u]) (EP X ab Z Q) (fun _ _=>False) s:=by
 have n1:H c1=none:=I.cq x1 c1 xI;have n2:H c2=none:=I.cq x2 c2 k_;have B_:¬ jV o1:=fun ⟨_,vs,t,z,_⟩=>by rw [i7] at z;cases z
 have mh:¬ jV o2:=fun ⟨_,vs,t,z,_⟩=>by rw [hd2] at z;cases z
 have e0:=I.mP;have db:ip X.prog X.w X.K X.mg X.base A X.stack s H:=⟨hA.trans e0.frames,e0.mod,e0.bs,e0.l8,e0.dA,e0.l9,e0.az,e0.bare,e0.tab⟩;obtain ⟨ea,ME⟩:=Fl I db n1 xI ci e1;have PQ:upd H c1 (.br o1 aW) c2=none:=by rw [ak (Ne.symm dE)];exact n2
 obtain ⟨eb,MG⟩:=Fl I ea PQ k_ cr e2;have dL:f≠c1:=fun z=>by rw [z,n1] at hf;cases hf
 have f8:f≠c2:=fun z=>by rw [z,n2] at hf;cases hf
 have ii:c'≠c1:=fun z=>by rw [z,n1] at c_;cases c_
 have im:c'≠c2:=fun z=>by rw [z,n2] at c_;cases c_
 have ed:drop (drop (upd (upd H c1 (.br o1 aW)) c2 (.br o2 aW)) c1) c2=H:=funext fun b=>by
  by_cases z2:b=c2
  .rw [z2,bW,n2]
  .rw [aU z2];by_cases z1:b=c1
   .rw [z1,bW,n1]
   .rw [aU z1,ak z2,ak z1]
 have run:=RB (Q:=fun v H2=>H2=upd (upd H c2 (.br o2 aW)) c1 (.br o1 aW)/\Q v H) (E:=E0) eb lz hh L (by rw [ak f8,ak dL];exact hf) (by rw [ak im,ak ii];exact c_) iq (by rw [ak dE,aC]) i7 aC hd2 dE ir r1 r2 rt d_ (by
  rw [ed];exact tm _ _ (fun v H1 ⟨z,q⟩ _ _=>by subst z;exact ⟨rfl,q⟩) ht)
 refine wpAny_call (codeAny_mono run fun r s' hq=>?_);cases r with
 | error e=>exact y4 hq
 | ok fl =>
  cases fl with
  | ret u =>
   obtain ⟨v,H',os,bare,un,ok,rv,eH,q⟩:=hq;obtain ⟨EZ,E1⟩:=Cm PQ e2 mh MG un ok;obtain ⟨PR,PU⟩:=Cm n1 e1 B_ ME EZ E1;have io:drop (drop H' c2) c1=H:=by
    subst eH;funext b;by_cases z1:b=c1
    .rw [z1,bW,n1]
    .rw [aU z1];by_cases z2:b=c2
     .rw [z2,bW,n2]
     .rw [aU z2,ak z1,ak z2]
   rw [io] at PR PU;exact I.after ⟨v,H,os,bare,PR,PU,rv,q⟩
  | next=>exact y4 hq
  | brk=>exact y4 hq
  | cont=>exact y4 hq
end L2
namespace Mi
open PySem L2
open PyProof.Rows hiding St
noncomputable def Ak (p:Pos):Arguments:={ posonlyargs:=[],args:=[{ arg:="place",annotation:=none,pos:=p }],vararg:=none,kwonlyargs:=[],kw_defaults:=[],kwarg:=none,defaults:=[] }
noncomputable def vD (p1 p2 p3 p4 p5 p6 p7 p8 p9 i6 sk sv:Pos):Expr:=.Call (.Name "max" p1) [.Subscript (.Name "many" p2) (.Name "place" p3) p4,.BinOp (.Call (.Name "len" p5) [.Name "meetings" p6] [] p7) .Sub (.Subscript (.Name "many" p8) (.Name "place" p9) i6) sk] [] sv
noncomputable def iY:Scope:={ kind:=.function,names:=[(Str.ofString "place",.local),(Str.ofString "many",.free),(Str.ofString "meetings",.free),(Str.ofString "max",.globalImplicit),(Str.ofString "len",.globalImplicit)],isGenerator:=false,isCoroutine:=false,more:=[] }
def TX:gN iY "meetings" "many" "place":=by
 refine ⟨rfl,rfl,rfl,by decide +kernel,by decide +kernel,by decide +kernel,by decide +kernel,fun y h=>?_,by decide +kernel⟩;have h2:=y8 h;simp only [iY,List.mem_cons,List.not_mem_nil,or_false] at h2;rcases h2 with h2 | h2 | h2 | h2 | h2
 .cases h2
 .cases h2;exact .inr rfl
 .cases h2;exact .inl rfl
 .cases h2
 .cases h2
noncomputable def cK (n v:Int):Int:=if n - v > v then n - v else v
def MH (K:zd):TE:=fun Z H Q=>∃ m xs a ah k v,Z[0]?=some (some (V.ref m))/\cm K H m xs/\Z[1]?=some (some (V.ref a))/\H a=some (n_ ah)/\Z[2]?=some (some (V.int k))/\bM ah k=some v/\Q (.int (cK xs.length v)) H
variable {K:zd}{H:Hp}
def RW {Z:St} (a b:VK) (h:∀ v H,a v H->b v H):MH K Z H a->MH K Z H b:=by
 rintro ⟨m,xs,c,ah,k,v,h1,h2,h3,h4,h5,h6,q⟩;exact ⟨m,xs,c,ah,k,v,h1,h2,h3,h4,h5,h6,h _ _ q⟩
variable {X:Cx}{p1 p2 p3 p4 p5 p6 p7 p8 p9 i6 sk sv:Pos}
def Wq (hN:X.N=[("meetings":Str),"many","place"]) (hs:X.env.scope=iY) (hc:X.calm=true) (MI:X.mg "max"=none) (hlen:X.mg "len"=none):PE X (vD p1 p2 p3 p4 p5 p6 p7 p8 p9 i6 sk sv) (MH X.K):=by
 have v0:∀ {p:Pos},PE X (.Name "meetings" p) (Ac 0):=fun {p}=>iM (by rw [hN]; rfl) (by rw [hs]; exact .inr (.inr (by decide +kernel))) (by decide +kernel) (by decide +kernel)
 have v1:∀ {p:Pos},PE X (.Name "many" p) (Ac 1):=fun {p}=>iM (by rw [hN]; rfl) (by rw [hs]; exact .inr (.inr (by decide +kernel))) (by decide +kernel) (by decide +kernel)
 have v2:∀ {p:Pos},PE X (.Name "place" p) (Ac 2):=fun {p}=>iM (by rw [hN]; rfl) (by rw [hs]; exact .inl (by decide +kernel)) (by decide +kernel) (by decide +kernel)
 have gm:Gl X "max":=by show X.env.scope.names.lookup _=_; rw [hs]; decide +kernel
 have gl:Gl X "len":=by show X.env.scope.names.lookup _=_; rw [hs]; decide +kernel
 have ix:∀ {p q r:Pos},PE X (.Subscript (.Name "many" p) (.Name "place" q) r) (B3 T5 (Ac 1) (Ac 2)):=fun {p q r}=>Ve Qy v1 v2 (GP rfl)
 have ln:∀ {p q r:Pos},PE X (.Call (.Name "len" p) [.Name "meetings" q] [] r) _:=fun {p q r}=>gM vX gl hlen PySem.boot_len (eF v0 iQ rfl) (by decide +kernel) (by decide +kernel) rfl rfl
 refine bN (gM (Cy hc) gm MI boot_max (eF ix (eF (Uy QD ln ix) iQ rfl) rfl) (by decide +kernel) (by decide +kernel) rfl rfl) fun Z H Q=>?_
 rintro ⟨m,xs,a,ah,k,v,h1,h2,h3,h4,h5,h6,q⟩;refine ⟨_,h3,_,h5,a,ah,k,v,rfl,rfl,h4,h6,?_⟩;refine ⟨_,h1,m,xs,rfl,.inl h2,?_⟩;refine ⟨_,h3,_,h5,a,ah,k,v,rfl,rfl,h4,h6,?_⟩;exact ⟨_,_,rfl,rfl,v,_,rfl,q⟩
noncomputable def jI (kf:Int->Int):Int->List Int->Int
 | b,[]=>b
 | b,a::l=>jI kf (if kf a < kf b then a else b) l
variable {s:Shared}
section
variable {X:Cx}{A:Around}{ab:w4}{Z:St}{H:Hp}{l f I S:Addr}{ns:List Int}{kf:Int->Int}{R:Result->Shared->Prop}
def nW {b:Addr}{h':Heap}{t':Nat} (fp:eY X ab H b) (J:Inv X ab Z H s) (k:∀ c o,c≠b->s.heap.get? c=some o->h'.get? c=some o):Inv X ab Z H { s with heap:=h',toks:=t' } :=
 J.turned k fp.1 fp.2.1 fp.2.2.2.1 fp.2.2.2.2.1 fp.2.2.2.2.2
def VG (hh:A.handled=none) (hl:cm X.K H l (ns.map V.int)) (E_:l≠I) (BC:S≠I) (fI:eY X ab H I) (fS:eY X ab H S)
  (turn:∀ (c3:w4) (s:Shared) (n:Int) (u:Value),n∈ns->Inv X c3 Z H s->RelV (.int n) u->wpAny (model X.prog X.w) A.in1 (call (.ref f) [u]) (EP X c3 Z fun v H1=>H1=H/\v=.int (kf n)) (fun _ _=>False) s) :
  ∀ (r j:Nat) (s:Shared) (b:Int) (t1 t2:Tok) (c:Nat),ns.length - (j+1)=r -> j+1 <= ns.length -> Inv X ab Z H s -> s.heap.IsListIter I l (j+1) -> s.heap.get? S=some (seqObj "list" #[.int b t1,.int (kf b) t2] c) ->
   (∀ s' t,Inv X ab Z H s'->R (.ok (.ret (.int (jI kf b (ns.drop (j+1))) t))) s') ->
   codeAny (model X.prog X.w) A (.builtin "min.loop" ⟨[.ref I,.ref f,.ref S],[]⟩) R s:=by
 have k7:(toString "min" ++ toString ".loop":String)="min.loop":=by decide
 intro r;induction r with
 | zero =>
  intro j s b t1 t2 c hr hj J hit hS hR;obtain ⟨its,rr,pl,hz⟩:=J.list hl;have hlen:=rr.length;rw [List.length_map] at hlen;have W:=Walks.list (prog:=X.prog) (w:=X.w) (A:=A.in1) hh I l E_ its.toArray;have hsz:its.toArray.size=ns.length:=by rw [List.size_toArray];exact hlen.symm
  have Ll:j+1=ns.length:=by omega
  refine codeAny_builtin PySem.F.entry_min_loop ?_;rw [Around.under_plainId PySem.F.plain_min_loop _];show wpAny _ A.in1 (seqItems? (.ref S) >>= _) _ _ s
  refine z0 (wpAny_seqItems hS rfl ?_);show wpAny _ A.in1 (tryCatch (pyNext (.ref I)) _ >>= _) _ _ s
  refine z0 (wpAny_tryCatch (W.done s _ _ ⟨by rw [hsz,<- Ll];exact hit,pl.isList⟩ fun h' tk gT=>?_));have nX:=gT S _ (by simpa using BC) hS;have J1:Inv X ab Z H { s with heap:=h',toks:=tk }:=nW fI J fun c o hc e=>gT c o (by simpa using hc) e
  have s1:=y6 h' S (Obj.mapSeq fun _=>(#[]:zt));show wpAny _ A.in1 (updateSeq S (fun _=>#[]) >>= _) _ _ _
  refine z0 (wpAny_updateSeq nX rfl (z0 (wpAny_letGo (ve ?_))));have:=hR _ t1 (nW fS (t':=tk) J1 (h':=h'.update S (Obj.mapSeq fun _=>(#[]:zt))) fun c o hc e=>(s1.2 c hc).trans e);rw [List.drop_of_length_le (by omega),jI] at this;exact this
 | succ r ih =>
  intro j s b t1 t2 c hr hj J hit hS hR;have bj:j+1 < ns.length:=by omega
  obtain ⟨its,rr,pl,hz⟩:=J.list hl;have hlen:=rr.length;rw [List.length_map] at hlen;have W:=Walks.list (prog:=X.prog) (w:=X.w) (A:=A.in1) hh I l E_ its.toArray;have hsz:its.toArray.size=ns.length:=by rw [List.size_toArray];exact hlen.symm
  refine codeAny_builtin PySem.F.entry_min_loop ?_;rw [Around.under_plainId PySem.F.plain_min_loop _];show wpAny _ A.in1 (seqItems? (.ref S) >>= _) _ _ s
  refine z0 (wpAny_seqItems hS rfl ?_);show wpAny _ A.in1 (tryCatch (pyNext (.ref I)) _ >>= _) _ _ s
  refine z0 (wpAny_tryCatch (W.item (j+1) s _ _ (by rw [hsz];exact bj) ⟨hit,pl.isList⟩ fun v h' tk hP iu gT=>?_));have hv:its[j+1]?=some v:=by simpa using hP
  obtain ⟨x_,BD,oI,kF⟩:=id iu.1;have nX:=gT S _ (by simpa using BC) hS;have J1:Inv X ab Z H { s with heap:=h',toks:=tk }:=nW fI J fun c o hc e=>gT c o (by simpa using hc) e
  have hn:(ns.map V.int)[j+1]?=some (.int ns[j+1]):=by rw [List.getElem?_map,List.getElem?_eq_getElem bj];rfl
  obtain ⟨u,hu,ru⟩:=rr.get hn;rw [hv] at hu;cases hu;have J2:Inv X (ab ++ [(S,seqObj "list" #[.int b t1,.int (kf b) t2] c),(I,x_)]) Z H { s with heap:=h',toks:=tk }:=J1.hZ fun p hp=>by
   rcases ym.mp hp with hp | hp
   .exact J1.pin p (vn _ hp)
   .rcases vV.mp hp with rfl | hp
    .exact ⟨nX,fS.1,fS.2.1,fS.2.2.1,fun v z=>by cases z⟩
    .rw [List.mem_singleton.mp hp];exact ⟨BD,fI.1,fI.2.1,fI.2.2.1,fun v z=>by rw [kF] at z;cases z⟩
  show wpAny _ A.in1 (tryCatch (holding [v] (call (.ref f) [v])) _ >>= _) _ _ _
  refine z0 (wpAny_tryCatch (wpAny_holding (wpAny_mono (turn _ _ ns[j+1] v (List.getElem_mem bj) J2 ru) (fun x s2 he=>?_) fun _ _ hF=>hF.elim)));obtain ⟨vx,H2,J3,rx,eH,ev⟩:=he;subst eH ev;obtain ⟨t3,rfl⟩:=rx;have CC:=(J3.pin (S,seqObj "list" #[.int b t1,.int (kf b) t2] c) (vn _ (vn _ (.head _)))).1
  have IA:=(J3.pin (I,x_) (vn _ (vn _ (.tail _ (.head _))))).1;have J4:Inv X ab Z H2 s2:=J3.da;show wpAny _ A.in1 (tryCatch (holding [v,.int (kf ns[j+1]) t3] (richCompare .Lt (.int (kf ns[j+1]) t3) (.int (kf b) t2) >>= _)) _ >>= _) _ _ _
  refine z0 (wpAny_tryCatch (wpAny_holding (z0 (HT.Hf A.in1 s2 (kf ns[j+1]) t3 (kf b) t2 X.prog X.w _ _ ?_))));refine z0 (wpAny_holding (yY ?_));refine z0 (wpAny_letGo (ve ?_));have ed:ns.drop (j+1)=ns[j+1]::ns.drop (j+1+1):=List.drop_eq_getElem_cons bj;rw [ed,jI] at hR;obtain ⟨t4,rfl⟩:=ru;by_cases nh:kf ns[j+1] < kf b
  .have s1:=y6 s2.heap S (Obj.mapSeq fun _=>#[.int ns[j+1] t4,.int (kf ns[j+1]) t3]);obtain ⟨c2,fq⟩:∃ c2,(s2.heap.update S (Obj.mapSeq fun _=>#[.int ns[j+1] t4,.int (kf ns[j+1]) t3])).get? S=some (seqObj "list" #[.int ns[j+1] t4,.int (kf ns[j+1]) t3] c2):=⟨_,get?_update_seq CC fun _=>#[.int ns[j+1] t4,.int (kf ns[j+1]) t3]⟩
   rw [if_pos nh] at hR;simp only [nh,decide_true,if_true];refine z0 (wpAny_updateSeq CC rfl (z0 (wpAny_letGo ?_)));rw [k7];exact ve ⟨plainId_quiet PySem.F.plain_min_loop _,ih (j+1) _ _ t4 t3 c2 (by omega) bj (nW fS (t':=s2.toks) J4 fun c o hc e=>(s1.2 c hc).trans e) ⟨x_,(s1.2 I (Ne.symm BC)).trans IA,oI,kF⟩ fq hR⟩
  .rw [if_neg nh] at hR;simp only [nh,decide_false,Bool.false_eq_true,if_false];refine z0 (wpAny_letGo ?_);rw [k7];exact ve ⟨plainId_quiet PySem.F.plain_min_loop _,ih (j+1) _ _ t1 t2 c (by omega) bj J4 ⟨x_,IA,oI,kF⟩ CC hR⟩
end
section
variable {X:Cx}{A:Around}{ab:w4}{Z:St}{H:Hp}{l f:Addr}{ns:List Int}{n:Int}{kf:Int->Int}{s:Shared}
def Xc {Q:zb}{E:zb} (hh:A.handled=none) (J:Inv X ab Z H s) (hl:cm X.K H l ((n::ns).map V.int))
  (turn:∀ (c3:w4) (s:Shared) (m:Int) (u:Value),m∈n::ns->Inv X c3 Z H s->RelV (.int m) u->wpAny (model X.prog X.w) A.in1 (call (.ref f) [u]) (EP X c3 Z fun v H1=>H1=H/\v=.int (kf m)) (fun _ _=>False) s)
  (hQ:∀ s' t,Inv X ab Z H s'->Q (.int (jI kf n ns) t) s') :
  wpAny (model X.prog X.w) A (call (.builtin "min") [.ref l] [(Str.ofString "key",.ref f)]) Q E s:=by
 have k7:(toString "min" ++ toString ".loop":String)="min.loop":=by decide
 obtain ⟨its,rr,pl,hz⟩:=J.list hl;have BE:=pl.isList;obtain ⟨ol,DB,_⟩:=id BE;have r_:l < s.heap.objs.size:=vz DB;refine kmk_tree PySem.F.kind_min PySem.F.plain_min PySem.F.entry_min (kmk_min_key _ _) ?_;show wpAny _ A.in1 (Builtin.Builtins.bindParams "min" ["key","default"] 0 ⟨[],[(Str.ofString "key",.ref f)]⟩ >>= _) _ _ s
 refine z0 (wpAny_of_eq (show Builtin.Builtins.bindParams "min" ["key","default"] 0 ⟨[],[(Str.ofString "key",.ref f)]⟩=pure [some (.ref f),none] from rfl) ?_)
 refine z0 (ve ?_);refine z0 (wpAny_pyIter_list BE ?_);refine z0 (wpAny_newList ?_ (v3 _));rw [k7];have hS:(s.heap.push { cls:=.type "list_iterator",data:=.fields #[.ref l,.int 0 0] }).objs.size=s.heap.objs.size+1:=size_push' ..
 have E_:l≠s.heap.objs.size:=vF r_;have BC:s.heap.objs.size+1≠s.heap.objs.size:=vS (jv _);refine ve ⟨plainId_quiet PySem.F.plain_min_loop _,?_⟩;have gI:((s.heap.push { cls:=.type "list_iterator",data:=.fields #[.ref l,.int 0 0] }).push (seqObj "list" #[] 0)).get? s.heap.objs.size=some { cls:=.type "list_iterator",data:=.fields #[.ref l,.int 0 0] } :=
  vw _ (vy _ rfl)
 have gS:((s.heap.push { cls:=.type "list_iterator",data:=.fields #[.ref l,.int 0 0] }).push (seqObj "list" #[] 0)).get? (s.heap.objs.size+1)=some (seqObj "list" #[] 0):=by rw [<- hS]; exact vy _ rfl
 have fI:eY X ab H s.heap.objs.size:=J.gw (vE _) J.fresh;have fS:eY X ab H (s.heap.objs.size+1):=J.gw (Nat.le_succ _) (J.az.fresh (Nat.le_succ _));have J0:Inv X ab Z H { s with heap:=(s.heap.push { cls:=.type "list_iterator",data:=.fields #[.ref l,.int 0 0] }).push (seqObj "list" #[] 0) }:=J.kept (t':=s.toks) fun b o e=>vw _ (vw _ e)
 rw [hS];have hlen:=rr.length;rw [List.length_map,List.length_cons] at hlen;have W:=Walks.list (prog:=X.prog) (w:=X.w) (A:=A.in1) hh s.heap.objs.size l E_ its.toArray;have hsz:its.toArray.size=ns.length+1:=by rw [List.size_toArray];exact hlen.symm
 obtain ⟨eo,Θ,Ξ,_⟩:=J0.list hl;have jp:((s.heap.push { cls:=.type "list_iterator",data:=.fields #[.ref l,.int 0 0] }).push (seqObj "list" #[] 0)).IsList l its.toArray:=by
  obtain ⟨o,e,r⟩:=BE;exact ⟨o,vw _ (vw _ e),r⟩
 refine codeAny_builtin PySem.F.entry_min_loop ?_;rw [Around.under_plainId PySem.F.plain_min_loop _];show wpAny _ A.in1 (seqItems? (.ref _) >>= _) _ _ _
 refine z0 (wpAny_seqItems gS rfl ?_);show wpAny _ A.in1 (tryCatch (pyNext (.ref s.heap.objs.size)) _ >>= _) _ _ _
 refine z0 (wpAny_tryCatch (W.item 0 _ _ _ (by rw [hsz];omega) ⟨⟨_,gI,rfl,rfl⟩,jp⟩ fun v h' tk hP iu gT=>?_));have hv:its[0]?=some v:=by simpa using hP
 obtain ⟨x_,BD,oI,kF⟩:=id iu.1;have nX:=gT (s.heap.objs.size+1) _ (by simpa using BC) gS;have J1:Inv X ab Z H { s with heap:=h',toks:=tk }:=by
  have z:=nW (h':=h') (t':=tk) fI J0 fun c o hc e=>gT c o (by simpa using hc) e
  exact z
 obtain ⟨u,hu,ru⟩:=rr.get (i:=0) (x:=.int n) rfl;rw [hv] at hu;cases hu;have J2:Inv X (ab ++ [(s.heap.objs.size+1,seqObj "list" #[] 0),(s.heap.objs.size,x_)]) Z H { s with heap:=h',toks:=tk }:=J1.hZ fun p hp=>by
  rcases ym.mp hp with hp | hp
  .exact J1.pin p (vn _ hp)
  .rcases vV.mp hp with rfl | hp
   .exact ⟨nX,fS.1,fS.2.1,fS.2.2.1,fun v z=>by cases z⟩
   .rw [List.mem_singleton.mp hp];exact ⟨BD,fI.1,fI.2.1,fI.2.2.1,fun v z=>by rw [kF] at z;cases z⟩
 show wpAny _ A.in1 (tryCatch (holding [v] (call (.ref f) [v])) _ >>= _) _ _ _
 refine z0 (wpAny_tryCatch (wpAny_holding (wpAny_mono (turn _ _ n v vj J2 ru) (fun x s2 he=>?_) fun _ _ hF=>hF.elim)));obtain ⟨vx,H2,J3,rx,eH,ev⟩:=he;subst eH ev;obtain ⟨t3,rfl⟩:=rx;obtain ⟨t4,rfl⟩:=ru;have CC:=(J3.pin (s.heap.objs.size+1,seqObj "list" #[] 0) (vn _ (vn _ (.head _)))).1
 have IA:=(J3.pin (s.heap.objs.size,x_) (vn _ (vn _ (.tail _ (.head _))))).1;have J4:Inv X ab Z H2 s2:=J3.da;have s1:=y6 s2.heap (s.heap.objs.size+1) (Obj.mapSeq fun _=>#[.int n t4,.int (kf n) t3]);obtain ⟨c2,fq⟩:∃ c2,(s2.heap.update (s.heap.objs.size+1) (Obj.mapSeq fun _=>#[.int n t4,.int (kf n) t3])).get? (s.heap.objs.size+1)=some (seqObj "list" #[.int n t4,.int (kf n) t3] c2):=⟨_,get?_update_seq CC fun _=>#[.int n t4,.int (kf n) t3]⟩
 show wpAny _ A.in1 (updateSeq (s.heap.objs.size+1) (fun _=>#[.int n t4,.int (kf n) t3]) >>= _) _ _ _
 refine z0 (wpAny_updateSeq CC rfl ?_);rw [k7];exact ve ⟨plainId_quiet PySem.F.plain_min_loop _,VG (ns:=n::ns) hh hl E_ BC fI fS turn _ 0 _ n t4 t3 c2 rfl (by simp) (nW fS (t':=s2.toks) J4 fun c o hc e=>(s1.2 c hc).trans e) ⟨x_,(s1.2 _ (Ne.symm BC)).trans IA,oI,kF⟩ fq fun s' t K=>hQ s' t K⟩
end
def Sv {env:Env}{c1 c2:Addr} (h1:env.cells.lookup (Str.ofString "meetings")=some c1) (h2:env.cells.lookup (Str.ofString "many")=some c2):closureFor iY env=pure [(Str.ofString "meetings",c1),(Str.ofString "many",c2)]:=by
 unfold closureFor;simp [iY,cellOf,h1,h2]
def O5:bootBuiltins "min"=some (.builtin "min"):=by decide +kernel
structure BF (X:Cx):Prop where
 calm:X.calm=true
 dp:X.A.depth+2 < recursionLimit
 ML:X.env.scope.names.lookup (Str.ofString "meetings")=some .cell
 MM:X.env.scope.names.lookup (Str.ofString "many")=some .cell
 kt:X.fn "meetings"=true
 kw:X.fn "many"=true
 n0:X.N[0]?=some (Str.ofString "meetings")
 n2:X.N[2]?=some (Str.ofString "many")
 MO:Gl X "min"
 MQ:X.mg "min"=none
 MR:X.mg "max"=none
 MT:X.mg "len"=none
 code:∃ cc Pt,X.env.code=.ref cc/\(∀ h:Heap,X.K.In h->PySem.W.CodeHd h cc Pt)/\∀ H,nJ X.K X.mg H->∃ q,H Pt=some (.kz q)/\mF q fZ
 qn:X.env.qual ++ "<lambda>"=fZ
variable {p p0 lp r pos:Pos}
def Wn {arg:Expr}{ta:TE} (N:BF X) (he:PE X arg ta) (hn:starEach [arg] X.env=(false,eval arg X.env)::starEach [] X.env) :
  PE X (.Call (.Name "min" p) [arg] [⟨some "key",.Lambda (Ak p0) (vD p1 p2 p3 p4 p5 p6 p7 p8 p9 i6 sk sv) iY lp,r⟩] pos) (fun Z H Q=>ta Z H fun v H1=>∃ l n ns m xs a ah,v=.ref l /\ cm X.K H1 l ((n::ns).map V.int) /\ Z[0]?=some (some (V.ref m)) /\ cm X.K H1 m xs /\ Z[2]?=some (some (V.ref a)) /\ H1 a=some (n_ ah) /\ (∀ k ∈ n::ns,∃ v,bM ah k=some v) /\
   ∀ H2,(∀ b o,H1 b=some o->H2 b=some o)->Q (.int (jI (fun k=>cK xs.length ((bM ah k).getD 0)) n ns)) H2):=by
 intro ab s Z H Q I h;refine wpAny_Call_Name_kw (gY I N.MO N.MQ O5 ?_ (by decide) (by decide));refine PyProof.Rows.callWith_kw ?_ (by rw [hn];rfl) (by rw [hn];rfl) rfl rfl;refine a7 (eF he iQ hn pos ab s Z H (fun vs H1=>match vs with | [v]=>∃ l n ns m xs a ah,v=.ref l/\cm X.K H1 l ((n::ns).map V.int)/\Z[0]?=some (some (V.ref m))/\cm X.K H1 m xs/\Z[2]?=some (some (V.ref a))/\H1 a=some (n_ ah)/\(∀ k∈n::ns,∃ v,bM ah k=some v)/\(∀ H2,(∀ b o,H1 b=some o->H2 b=some o)->Q (.int (jI (fun k=>cK xs.length ((bM ah k).getD 0)) n ns)) H2) | _=>False) I h) fun us s1 ⟨vs,H1,I1,r1,hw⟩=>?_
 rcases vs with _ | ⟨v1,_ | ⟨v2,vs⟩⟩
 .exact hw.elim
 rotate_left
 .exact hw.elim
 .obtain ⟨l,n,ns,m,xs,a,ah,rfl,hl,h0,hm,h2,ha,hk,q⟩:=hw;obtain ⟨u,rfl,ru⟩:=vals1 r1;obtain rfl:u=Value.ref l:=ru;obtain ⟨c1,sj⟩:=I1.ok.has "meetings" (.inl N.ML)
  obtain ⟨c2,fq⟩:=I1.ok.has "many" (.inl N.MM)
  obtain ⟨cc,Pt,gX,C,E2⟩:=N.code;obtain ⟨tq,hP,xE⟩:=E2 H1 I1.mP.tab;have dE:c1≠c2:=fun z=>by
   subst z;exact absurd (I1.ok.inj _ _ _ sj fq) (by decide +kernel)
  refine PyProof.Rows.kws_cons (FQ I1 (Sv sj fq) gX (C _ I1.gO) hP xE rfl N.qn fun f c' oc pm c8 h' tk H' J mono ny nf hf c_ iq _=>PyProof.Rows.kws_nil ?_);refine Xc (kf:=fun k=>cK xs.length ((bM ah k).getD 0)) (J.ok.hd N.calm) J (bA mono hl) (fun c3 s2 k u lc J2 lf=>?_) fun s' t K=>⟨V.int (jI (fun k=>cK xs.length ((bM ah k).getD 0)) n ns),H',K,⟨t,rfl⟩,q H' mono⟩
  obtain ⟨mm,nN,y_⟩:=J2.loc;obtain ⟨u1,li,Iq⟩:=y_ 0 _ _ N.n0 h0 (.inr (.inl N.ML));obtain ⟨u2,lm,Iy⟩:=y_ 2 _ _ N.n2 h2 (.inr (.inl N.MM));rcases Iq with ⟨z,_⟩ | ⟨_,d1,i7,o1,jw,lT⟩
  .have:X.env.scope.names.lookup (Str.ofString "meetings")=some .local:=z
   rw [N.ML] at this;cases this
  rcases Iy with ⟨z,_⟩ | ⟨_,d2,hd2,o2,kR,BG⟩
  .have:X.env.scope.names.lookup (Str.ofString "many")=some .local:=z
   rw [N.MM] at this;cases this
  rw [sj] at i7;cases i7;rw [fq] at hd2;cases hd2;obtain ⟨v,hv⟩:=hk k lc;have lz:=N.dp;refine Qz (A:=X.A.in1) rfl (by show X.A.depth < _;omega) (J2.ok.hd N.calm) J2 TX hf c_ iq sj N.kt jw lT fq N.kw kR BG dE rfl li lm lf (Wq rfl rfl rfl N.MR N.MT) ⟨m,xs,a,ah,k,v,rfl,bA mono hm,rfl,mono _ _ ha,rfl,hv,rfl,rfl,?_⟩ (fun a b h=>RW a b h);simp only [hv,Option.getD_some]
noncomputable def xU (r:En->R Out):Out->R Out
 | .nx Y=>r Y
 | o=>.ok o
theorem JM {T:Tx}{cl:Nat->List D->R D}{X:Cx}{sc:Scope}{E:Ent}{Es:Hp}{inv:zi}{O1:zi}{O2:Ow}{rest:zn}{r2:En->R Out} (C:cF T cl X) (S:aL sc X) (hp:PassesOwn (model X.prog X.w) X.A X.env X.xe) (h2:gu X rest (gi X E Es O1 O2 inv r2)) :
  ∀ {ms:List MS}{sts:zn}{O:zi},(∀ q∈E.ab,q.1 ∉ vd ms)->ko T X.N sc ms sts=true->dB inv ms O=some (some O1)->gu X (sts++rest) (gi X E Es O O2 inv fun Y=>bI cl ms Y >>= xU r2)
 | [],sts,O,hq,h,hc=>by
  rw [Kg,List.isEmpty_iff] at h;subst h;cases hc;refine nQ h2 fun D Z H=>?_
  rintro ⟨Y,Hs,o,F,h,k⟩;exact ⟨Y,Hs,o,F,h,k⟩
 | m::ms,[],O,hq,h,hc=>by cases h
 | m::ms,st::sts,O,hq,h,hc=>by
  simp only [Fz,Bool.and_eq_true] at h;rw [Dh] at hc;cases e1:ux inv m O with
  | none=>rw [e1] at hc;cases hc
  | some x =>
   rw [e1] at hc;have h1:=pW m X sc st inv O _ E Es (fun q hm z=>hq q hm (vk _ z)) C S hp h.1 e1;cases x with
   | none=>cases hc
   | some O3 =>
    have h3:=JM C S hp h2 (ms:=ms) (sts:=sts) (O:=O3) (fun q hm z=>hq q hm (vn _ z)) h.2 hc;refine nQ (lg h1 h3) fun D Z H=>?_
    rintro ⟨Y,Hs,o,F,h,k⟩;obtain ⟨o1,jw,hb⟩:=aj h;obtain ⟨o0,lw,EG⟩:=aj (show (bZ cl m Y >>= uF cl ms)=.ok o1 from jw);clear h jw;refine ⟨Y,Hs,o0,F,lw,?_⟩;cases o0 with
    | nx ρ' =>
     intro O4 e a9 H' av F' s';cases e;refine ⟨ρ',av,o,F',?_,k.mono s'⟩;show (bI cl ms ρ' >>= xU r2)=.ok o
     rw [show bI cl ms ρ'=.ok o1 from EG];exact hb
    | rt d=>cases EG;cases hb;exact k
def Bk:D->D->R D
 | .bP ah,.lst ms=>(match gn (.bP ah) with
   | .ok (.lst ds)=>(match intsOf ds with | some (n::ns)=>.ok (.int (jI (fun k=>cK ms.length ((bM ah k).getD 0)) n ns)) | _=>.stuck)
   | _=>.stuck)
 | _,_=>.stuck
def V9 {c m d:D} (h:Bk c m=.ok d):∃ ah ms ds n ns,c=.bP ah/\m=.lst ms/\gn (.bP ah)=.ok (.lst ds)/\intsOf ds=some (n::ns)/\d=.int (jI (fun k=>cK ms.length ((bM ah k).getD 0)) n ns):=by
 cases c <;> try (cases h;done)
 cases m <;> try (cases h;done)
 rename_i ah ms;replace h:(match gn (.bP ah) with
   | .ok (.lst ds)=>(match intsOf ds with | some (n::ns)=>R.ok (D.int (jI (fun k=>cK ms.length ((bM ah k).getD 0)) n ns)) | _=>.stuck)
   | _=>.stuck)=.ok d:=h
 split at h <;> try (cases h;done)
 rename_i ds e1;split at h <;> try (cases h;done)
 rename_i n ns e2;cases h;exact ⟨ah,ms,ds,n,ns,rfl,rfl,e1,e2,rfl⟩
def Ga {ah:List (Int × Int)}{k:Int} (h:k∈ah.map (·.1)):∃ v,bM ah k=some v:=by
 obtain ⟨p,hp,rfl⟩:=yl.mp h;unfold bM;cases e:ah.find? fun q=>decide (q.1=p.1) with
 | none=>exact absurd (List.find?_eq_none.mp e p hp) (by simp)
 | some q=>exact ⟨q.2,rfl⟩
def runK (Y:En):R Out:=do
 let c <- cY Y 2
 let m <- cY Y 0
 let d <- Bk c m
 .ok (.nx (Y.set 5 (some d)))
variable {cl:Nat->List D->R D}{sc:Scope}{E:Ent}{Es:Hp}{O inv:zi}{q1 q2 q3 q4:Pos}
def W9 {T:Tx}{tg:Expr} (C:cF T cl X) (S:aL sc X) (N:BF X) (hq:∀ q∈E.ab,q.1≠5) (h1:gf X.N sc (.one 5) tg=true)
  (h2:a8 T X.N (.blt .sorted [.var 2]) sc (.Call (.Name "sorted" q1) [.Name "many" q2] [] q3)=true) (hi:2 ∈ O) (h0:0 ∉ O) :
  PS X (.Assign [tg] (.Call (.Name "min" p) [.Call (.Name "sorted" q1) [.Name "many" q2] [] q3] [⟨some "key",.Lambda (Ak p0) (vD p1 p2 p3 p4 p5 p6 p7 p8 p9 i6 sk sv) iY lp,r⟩] q4) pos) (gi X E Es O (some (without O [5])) inv runK):=by
 refine cI (lQ (Wn N (good _ C S h2).1 (aG rfl)) (jM C S h1) rfl (iV rfl h1) (dm h1)) fun DD Z H=>?_
 rintro ⟨Y,Hs,o,F,h,k⟩;obtain ⟨c,hc,hb⟩:=aj (show (cY Y 2 >>= fun c=>cY Y 0 >>= fun m=>Bk c m >>= fun d=>R.ok (Out.nx (Y.set 5 (some d))))=.ok o from h);obtain ⟨m,hm,fy⟩:=aj hb;obtain ⟨d,hd,dM⟩:=aj fy;clear h hb fy;cases dM;obtain ⟨ah,ms,ds,n,ns,rfl,rfl,hs,hints,rfl⟩:=V9 hd;have sg:=lu hc;have MU:=lu hm;obtain ⟨a,ea,-,-,ow⟩:=F.own 2 hi _ sg;obtain ⟨v0,mo,r0⟩:=F.val 0 _ MU h0;obtain ⟨m',zs,rfl,sm,rz⟩:=cP.mp r0;obtain ⟨ay,F1,m1,vs,w1⟩:=F.lL [2];refine ⟨Y,ay,.lst ds,F1.sub,vs,?_,fun v H1 bt g2 r2=>?_⟩
 .show (do let ds <- cj cl [.var 2] Y;gj .sorted ds)=_
  rw [qI,wA,hc,qW];exact hs
 .obtain ⟨l,xs,rfl,sl,rr⟩:=cP.mp r2;cases KN rr hints;have Fc:∀ k∈n::ns,k∈ah.map (·.1):=fun k hk=>by
   have e:=Kv hints;obtain ⟨Φ,he⟩:=cG (show (if jW (ah.map fun p=>D.int p.1) then R.ok (D.lst (jo (ah.map fun p=>D.int p.1))) else .stuck)=.ok (.lst ds) from hs);cases he;have Cb:D.int k∈jo (ah.map fun p=>D.int p.1):=by rw [e];exact yl.mpr ⟨k,hk,rfl⟩
   obtain ⟨p,hp,ep⟩:=yl.mp ((jR _).mem_iff.mp Cb);cases ep;exact yl.mpr ⟨p,hp,rfl⟩
  have Lv:=rz.length;refine ⟨l,n,ns,m',zs,a,ah,rfl,bA g2.sub sl,mo,bA (fun b o e=>g2.keep b o (F.sub b o e)) sm,ea,g2.keep a _ ow,fun k hk=>Ga (Fc k hk),fun H2 mono=>?_⟩;obtain ⟨dP,g3,_,_⟩:=tE F.sub w1 g2;have g4:aI H1 dP H2 dP:=⟨mono,fun _ _ _=>rfl,fun b o e=>mono b o (g3.sub b o e)⟩;have g5:=g3.trans g4;have F2:=(F.grown g5).D8 (i:=5) (d:=.int (jI (fun k=>cK ms.length ((bM ah k).getD 0)) n ns)) (v:=.int (jI (fun k=>cK zs.length ((bM ah k).getD 0)) n ns)) hq (aR.mpr (by rw [Lv]));exact k _ rfl _ _ _ F2 (g5.same F.sub)
noncomputable def lj:zk:=["meetings","places","many","meeting","place","found"]
noncomputable def xX:List MS:=[.set (.one 2) .hJ,.a_ (.one 3) .seq [.var 0] [.a_ (.one 4) .seq [.ix (.var 1) (.var 3)] [.eh 2 (.var 4) (.bin .add (.hV (.var 2) (.var 4) (.con (.int 0))) (.con (.int 1)))]],.ifs (.cmp .eq (.blt .len [.var 2]) (.con (.int 0))) [.ret (.con .ai)] []]
noncomputable def pK:List MS:=[.ret (.ite (.cmp .lt (.ix (.var 2) (.var 5)) (.blt .len [.var 0])) (.var 5) (.con .ai))]
def xG (cl:Nat->List D->R D) (Y:En):R Out:=bI cl xX Y >>= xU fun Y=>runK Y >>= xU (bI cl pK)
structure PV (T:Tx) (K:zd) (mg:w8) (tp:Addr) (cdv:Value) (body:zn) (scope:Scope):Prop where
 bd:∃ s1 s2 s3 s5 t0 p p0 p1 p2 p3 p4 p5 p6 p7 p8 p9 i6 sk sv lp r pos q1 q2 q3 q4,body=[s1,s2,s3,.Assign [.Name "found" t0] (.Call (.Name "min" p) [.Call (.Name "sorted" q1) [.Name "many" q2] [] q3] [⟨some "key",.Lambda (Ak p0) (vD p1 p2 p3 p4 p5 p6 p7 p8 p9 i6 sk sv) iY lp,r⟩] q4) pos,s5] /\
  ko T lj scope xX [s1,s2,s3]=true /\ ko T lj scope pK [s5]=true /\ a8 T lj (.blt .sorted [(.var 2)]) scope (.Call (.Name "sorted" q1) [.Name "many" q2] [] q3)=true /\ gf lj scope (.one 5) (.Name "found" t0)=true
 sc:uX lj [("meetings":Str),"places"] scope=true
 c1:scope.names.lookup (Str.ofString "meetings")=some .cell
 c2:scope.names.lookup (Str.ofString "many")=some .cell
 gm:scope.names.lookup (Str.ofString "min")=some .globalImplicit
 code:∃ cc Pt oc vs file tf flags tg uS text tt,cdv=.ref cc /\ K.lookup cc=some oc /\ oc.cls=.type "code" /\ oc.data=.fields vs /\ vs[11]?=some (.ref Pt) /\ vs.getD 11 .none=.ref Pt /\ vs.getD 18 .none=.str file tf /\ vs.getD 7 .none=.int flags tg /\ vs.getD 9 .none=.bool uS /\ vs.getD 10 .none=.int text tt /\ cc ≠ Pt
 me:mg "next_place"=some (.ref tp)
variable {O1:zi}{O2:Ow}{st:Stmt}{rest:zn}{r2:En->R Out}
def WM {r1:En->R Out} (h1:PS X st (gi X E Es O (some O1) inv r1)) (h2:gu X rest (gi X E Es O1 O2 inv r2)):gu X (st::rest) (gi X E Es O O2 inv fun Y=>r1 Y >>= xU r2):=by
 refine nQ (lg h1 h2) fun D Z H=>?_
 rintro ⟨Y,Hs,o,F,h,k⟩;obtain ⟨o1,jw,hb⟩:=aj h;clear h;refine ⟨Y,Hs,o1,F,jw,?_⟩;cases o1 with
 | nx ρ' =>
  intro O4 e a9 H' av F' s';cases e;exact ⟨ρ',av,o,F',hb,k.mono s'⟩
 | rt d=>cases hb;exact k
variable {P:Program}{w:World}{mg:w8}{base:Heap}{n:Nat}{cdv:Value}
def NP {T:Tx}{tp:Addr}{params:Arguments}{body:zn}{scope:Scope}{dV kV doc pm ct oc:Value}{an od:zv}{iO:zw}{c:List D->R D}
  (F:fV T cl P w K mg base n) (hc:∀ ds z,c ds=.ok z->∃ m q,ds=[m,q]/\xG cl [some m,some q,none,none,none,none]=.ok (.rt z))
  (lk:K.lookup tp=some ⟨oc,od,.func (PySem.W.fnOf "next_place" "next_place" params body scope dV kV doc pm an cdv ct),iO⟩) (eJ:PySem.W.codeIn K cdv "next_place"=true) (B:PV T K mg tp cdv body scope) :
  eU P w K mg base fh (n+1) tp (PySem.W.fnOf "next_place" "next_place" params body scope dV kV doc pm an cdv ct) [("meetings":Str),"places"] (oq ⟨P,w,K⟩ c 2):=by
 have S:cS lj [("meetings":Str),"places"] scope:=pJ B.sc
 refine U5 lk eJ S (fun vs H Q E h=>by obtain ⟨ds,Hs,z,h,_⟩:=h;exact h) fun A outer s H vs Q E hr lr=>?_
 obtain ⟨ds,Hs,z,hlen,hs,rs,Mm,k⟩:=lr;obtain ⟨m,q,rfl,kr⟩:=hc _ _ Mm;obtain ⟨s1,s2,s3,s5,t0,p,p0,p1,p2,p3,p4,p5,p6,p7,p8,p9,i6,sk,sv,lp,r,pos,q1,q2,q3,q4,eb,b1,b2,b3,b4⟩:=B.bd;obtain ⟨cc,Pt,E7,E8,file,tf,flags,tg,uS,text,tt,d1,d2,d3,d4,d5,d6,d7,d8,d9,MB,nz⟩:=B.code;have C:cF T cl (fG fh P w K mg base lj "next_place" scope tp cdv A outer s H E).tF:=fV.Md (X:=(fG fh P w K mg base lj "next_place" scope tp cdv A outer s H E).tF) F rfl S.nd hr
 have SR:aL scope (fG fh P w K mg base lj "next_place" scope tp cdv A outer s H E).tF:=⟨fun y h=>oh h,fun y h=>oG h,fun y h=>h,fun y h=>⟨jq h,.inl rfl⟩⟩
 have NA:BF (fG fh P w K mg base lj "next_place" scope tp cdv A outer s H E).tF :=
  ⟨rfl,by have:=hr.dp;show (A.deeper _).depth+2 < _;omega,B.c1,B.c2,rfl,rfl,rfl,rfl,B.gm,F.blt _ (by decide +kernel),F.blt _ (by decide +kernel),F.blt _ (by decide +kernel),
   ⟨cc,Pt,d1,fun h X=>⟨E7,E8,file,tf,flags,tg,uS,text,tt,X _ _ d2,d3,d4,d5,d6,d7,d8,d9,MB,nz⟩,fun H' tab=>tab _ _ (.inr ⟨rfl,rfl⟩) tp _ _ cc E7 E8 Pt B.me lk rfl d1 d2 d4 d5⟩,(show ("next_place":Str) ++ ".<locals>." ++ "<lambda>"=fZ by decide +kernel)⟩
 obtain ⟨O1,MV⟩:∃ O1,dB [] xX []=some (some O1)/\2∈O1/\0 ∉ O1:=⟨[2],by decide +kernel⟩;obtain ⟨O3,no⟩:∃ O3,dB [] pK (without O1 [5])=some O3:=⟨none,rfl⟩;have h5:=tQ (E:=⟨H,[]⟩) (Es:=Hs) (fun m _=>pW m) (fun q hm=>by cases hm) C SR PassesOwn.never b2 no;have h4:=WM (W9 (p:=p) (p0:=p0) (p1:=p1) (p2:=p2) (p3:=p3) (p4:=p4) (p5:=p5) (p6:=p6) (p7:=p7) (p8:=p8) (p9:=p9) (i6:=i6) (sk:=sk) (sv:=sv) (lp:=lp) (r:=r) (pos:=pos) (q1:=q1) (q2:=q2) (q3:=q3) (q4:=q4) (E:=⟨H,[]⟩) (Es:=Hs) (inv:=[]) C SR NA (fun q hm=>by cases hm) b4 b3 MV.2.1 MV.2.2) h5;have cy:=JM C SR PassesOwn.never h4 (fun q hm=>by cases hm) b1 MV.1;rw [eb];refine ⟨_,gu.tF cy,_,Hs,_,?_,kr,?_⟩
 .exact G8 (m:=4) (k:=lj.length - vs.length) hs rs (by rw [<- rs.length];rfl)
 .exact fun v H' av g' r'=>k v H' av g' r'
inductive XS where
 | lam (g:Nat) | Ff
noncomputable def mG (p:D->R D):List D->R Unit
 | []=>.ok ()
 | d::ds=>(match p d with
   | .ok (.bl true)=>mG p ds
   | _=>.stuck)
def La (cl:Nat->List D->R D) (g:Nat) (Y:En):R Out:=match cY Y 0,cY Y 1 with
 | .ok b,.ok (.lst ts)=>(match mG (fun t=>cl g [b,t]) ts with
   | .ok _=>.ok (.nx Y)
   | _=>.stuck)
 | _,_=>.stuck
def Ae (cl:Nat->List D->R D):List XS->En->R Out
 | [.lam g],Y=>La cl g Y
 | [.Ff],Y=>(match xG cl Y with | .ok (.rt d)=>.ok (.rt d) | _=>.stuck)
 | _,_=>.stuck
noncomputable def oR:R Out->R D
 | .ok (.rt d)=>.ok d
 | .ok (.nx _)=>.ok .ai
 | _=>.stuck
noncomputable def jN:R Out->R D
 | .ok (.rt d)=>.ok d
 | .ok (.nx _)=>.ok .ai
 | _=>.stuck
noncomputable def sx (d:Def) (args:List D):En:=args.map some++List.replicate (d.nn - d.np) none
def xQ (cl:Nat->List D->R D) (tab:List Def) (f:Nat) (args:List D):R D:=match tab[f]? with
 | some d=>if args.length=d.np/\d.D6=true then oR (bI cl d.body (sx d args)) else .stuck
 | none=>.stuck
def xM (cl:Nat->List D->R D) (b:List XS) (args:List D):Option Def->R D
 | none=>.stuck
 | some d=>if args.length=d.np then jN (Ae cl b (sx d args)) else .stuck
abbrev mJ:=List (Nat × List XS)
def au (tab:List Def) (xt:mJ):Nat->Nat->List D->R D
 | 0,_,_=>.stuck
 | n+1,f,args=>match xt.lookup f with
  | some b=>xM (au tab xt n) b args tab[f]?
  | none=>xQ (au tab xt n) tab f args
section
variable {tab:List Def}{xt:mJ}{n f:Nat}{d:Def}{args:List D}{z:D}{b:List XS}
def R6 (hx:xt.lookup f=none) (ht:tab[f]?=some d) (hl:args.length=d.np) (hn:d.D6=true):au tab xt (n+1) f args=oR (bI (au tab xt n) d.body (sx d args)):=by
 show (match xt.lookup f with | some b=>_ | none=>_)=_
 rw [hx];show xQ _ _ _ _=_
 unfold xQ;rw [ht];exact if_pos ⟨hl,hn⟩
def Oe (hx:xt.lookup f=some b) (ht:tab[f]?=some d) (hl:args.length=d.np):au tab xt (n+1) f args=jN (Ae (au tab xt n) b (sx d args)):=by
 show (match xt.lookup f with | some b=>_ | none=>_)=_
 rw [hx];show xM _ _ _ _=_
 rw [ht];exact if_pos hl
theorem bx (d:D):oR (.ok (.rt d))=.ok d:=rfl
theorem bF (Y:En):oR (.ok (.nx Y))=.ok .ai:=rfl
theorem bC (d:D):jN (.ok (.rt d))=.ok d:=rfl
theorem bD (Y:En):jN (.ok (.nx Y))=.ok .ai:=rfl
def Hg (hx:xt.lookup f=none) (ht:tab[f]?=some d) (h:au tab xt (n+1) f args=.ok z):∃ o,args.length=d.np/\d.D6=true/\bI (au tab xt n) d.body (sx d args)=.ok o/\(o=.rt z\/(z=.ai/\∃ Y,o=.nx Y)):=by
 replace h:(match xt.lookup f with | some b=>xM (au tab xt n) b args tab[f]? | none=>xQ (au tab xt n) tab f args)=.ok z:=h;rw [hx] at h;unfold xQ at h;rw [ht] at h;obtain ⟨hl,h1⟩:=cG h;cases hr:bI (au tab xt n) d.body (sx d args) with
 | stuck=>rw [hr] at h1;cases h1
 | ok o =>
  rw [hr] at h1;refine ⟨o,hl.1,hl.2,rfl,?_⟩;cases o with
  | rt d'=>cases h1;exact .inl rfl
  | nx Y=>cases h1;exact .inr ⟨rfl,Y,rfl⟩
end
structure u3 (T:Tx) (K:zd) (mg:w8) (x:Str) (b:List XS) (d:Def) (ps:zk) (st:Stmt) (a:Addr) (fd:FuncData):Prop where
 ex:∃ q p1 p2 p3 p4 p5 p6 p7 p8 p9 i6,b=[.lam q] /\ T.F[q]?=some (Str.ofString "is_test") /\ cT st=Aw p1 p2 p3 p4 p5 p6 p7 p8 p9 i6
 sc:aM st=gB
 nm:x=Str.ofString "check_tests"
 par:ps=[("book":Str),"tests"]
 np:d.np=2
 nn:d.nn=2
 lam:E6 K mg a fd.code
structure IB (T:Tx) (K:zd) (mg:w8) (x:Str) (b:List XS) (d:Def) (ps:zk) (st:Stmt) (a:Addr) (fd:FuncData):Prop where
 ex:b=[.Ff]
 nm:x=Str.ofString "next_place"
 par:ps=[("meetings":Str),"places"]
 np:d.np=2
 nn:d.nn=6
 nw:PV T K mg a fd.code (cT st) (aM st)
structure BH (T:Tx) (tab:List Def) (xt:mJ) (K:zd) (mg:w8):Prop where
 blt:∀ f∈n8,mg f=none
 gl:∀ x d,T.gl.lookup x=some d->Hn d (mg x)
 fn:∀ (f:Nat) (x:Str),T.F[f]?=some x->∃ d N ps st a fd,tab[f]?=some d/\nS K x x st a fd/\mg x=some (.ref a)/\Binds K fd ps []/\(match xt.lookup f with | none=>vY T d N ps st=true | some b=>u3 T K mg x b d ps st a fd\/IB T K mg x b d ps st a fd)
def GR (T:Tx) (tab:List Def) (xt:mJ) (P:Program) (w:World) (K:zd) (mg:w8) (base:Heap) (n:Nat):Prop:=∀ (f:Nat) (x:Str),T.F[f]?=some x ->
  ∃ a fd ps,eU P w K mg base fh n a fd ps (oq ⟨P,w,K⟩ (au tab xt n f) ps.length)/\mg x=some (.ref a)/\PySem.W.keepIn K (.ref a)=true/\Binds K fd ps []/\∀ ds d,au tab xt n f ds=.ok d->ds.length=ps.length
variable {CX:sL}{A:Around}{outer:List Env}{q:Str}{xe:zb}
section
variable {T:Tx}{tab:List Def}{xt:mJ}{P:Program}{w:World}{K:zd}{mg:w8}{base:Heap}{n:Nat}{f:Nat}{x:Str}{d:Def}{N ps:zk}{st:Stmt}{a:Addr}{fd:FuncData}{b:List XS}
def VH (Pr:BH T tab xt K mg) (IH:GR T tab xt P w K mg base n) {E:XK} (S:cS N ps (aM st)) (hr:cO n (A.deeper (envOfC q (aM st) s.heap.objs.size a cdv)))  :
  cF T (au tab xt n) ((fG CX P w K mg base N q (aM st) a cdv A outer s H E).gZ xe):=by
 refine ⟨rfl,S.nd,?_,Pr.blt,Pr.gl,fun f' x' Fh=>?_⟩
 .have:=hr.un;show (A.deeper _).units+100 < cLine
  omega
 .obtain ⟨a',AN,mx,q1,q2⟩:=IH f' x' Fh;exact ⟨n,a',AN,mx,q1,hr,q2⟩
def QK {E:XK}:aL (aM st) ((fG CX P w K mg base N q (aM st) a cdv A outer s H E).gZ xe) :=
 ⟨fun y h=>oh h,fun y h=>oG h,fun y h=>h,fun y h=>⟨jq h,.inl rfl⟩⟩
def Gf (Pr:BH T tab xt K mg) (IH:GR T tab xt P w K mg base n) (hx:xt.lookup f=none) (ht:tab[f]?=some d) (F:nS K x x st a fd) (hd:vY T d N ps st=true) :
  eU P w K mg base fh (n+1) a fd ps (oq ⟨P,w,K⟩ (au tab xt (n+1) f) ps.length)/\∀ ds z,au tab xt (n+1) f ds=.ok z->ds.length=ps.length:=by
 unfold vY at hd;simp only [Bool.and_eq_true,decide_eq_true_eq] at hd;obtain ⟨⟨⟨⟨h1,h2⟩,h3⟩,h4⟩,h5⟩:=hd;have S:=pJ h1;refine ⟨F.ok S (fun vs H Q E h=>?_) (fun cdv A outer s H vs Q E hr h=>?_),fun ds z h=>?_⟩
 .obtain ⟨ds,Hs,z,h,_⟩:=h;exact h
 .obtain ⟨ds,Hs,z,hlen,hs,r,hc,k⟩:=h;obtain ⟨o,CD,pc,kr,ho⟩:=Hg hx ht hc;rw [pc] at h5;obtain ⟨O',hO⟩:=yo.mp (show (dB [] d.body []).isSome=true from h5);have C:=VH (CX:=fh) (outer:=outer) (H:=H) (E:=E) (xe:=fun _ _=>False) Pr IH S hr;have SR:=QK (CX:=fh) (P:=P) (w:=w) (K:=K) (mg:=mg) (base:=base) (N:=N) (st:=st) (a:=a) (cdv:=cdv) (A:=A) (outer:=outer) (s:=s) (H:=H) (E:=E) (q:=x) (xe:=fun _ _=>False);refine ⟨_,tQ (E:=⟨H,[]⟩) (Es:=Hs) (fun m _=>pW m) (fun q hm=>by cases hm) C SR PassesOwn.never h4 hO,?_⟩;refine ⟨_,Hs,o,?_,kr,?_⟩
  .have hl:=r.length;exact G8 hs r (by rw [h3,h2];omega)
  .rcases ho with rfl | ⟨rfl,ρ',rfl⟩
   .exact fun v H' av g' r'=>k v H' av g' r'
   .exact fun O1 _ a9 H' av F' _=>k .ai H' av F'.grow (sG.mpr rfl)
 .obtain ⟨o,CD,_⟩:=Hg hx ht h;rw [CD,h2]
theorem Ko {p:D->R D}:∀ {ts:List D}{u:Unit},mG p ts=.ok u->v8 p ts
 | [],_,_=>trivial
 | t::ts,u,h=>by
  replace h:(match p t with | .ok (.bl true)=>mG p ts | _=>.stuck)=.ok u:=h;split at h
  .rename_i e;exact ⟨e,Ko h⟩
  .cases h
def Xe (Pr:BH T tab xt K mg) (IH:GR T tab xt P w K mg base n) (hx:xt.lookup f=some b) (ht:tab[f]?=some d) (F:nS K x x st a fd) (hd:u3 T K mg x b d ps st a fd) :
  eU P w K mg base fh (n+1) a fd ps (oq ⟨P,w,K⟩ (au tab xt (n+1) f) ps.length)/\∀ ds z,au tab xt (n+1) f ds=.ok z->ds.length=ps.length:=by
 obtain ⟨q,p1,p2,p3,p4,p5,p6,p7,p8,p9,i6,rfl,hT,pi⟩:=hd.ex;have ce:∀ ds,au tab xt (n+1) f ds=if ds.length=d.np then jN (Ae (au tab xt n) [.lam q] (sx d ds)) else .stuck:=fun ds=>by
  show (match xt.lookup f with | some b=>_ | none=>_)=_
  rw [hx];show xM _ _ _ _=_
  rw [ht];rfl
 have two:∀ ds:List D,ds.length=d.np->∃ u v,ds=[u,v]/\sx d ds=[some u,some v]:=fun ds hl=>by
  rw [hd.np] at hl
  match ds,hl with
  | [u,v],_ =>
   refine ⟨u,v,rfl,?_⟩;unfold sx;rw [hd.nn,hd.np];rfl
 have lam:∀ u v,jN (Ae (au tab xt n) [.lam q] [some u,some v])=(match v with | .lst ts=>(match mG (fun t=>au tab xt n q [u,t]) ts with | .ok _=>.ok .ai | _=>.stuck) | _=>.stuck):=fun u v=>by
  show jN (La (au tab xt n) q [some u,some v])=_
  cases v <;> try rfl
  rename_i ts;show jN ((match mG (fun t=>au tab xt n q [u,t]) ts with | .ok _=>.ok (.nx [some u,some (.lst ts)]) | _=>.stuck))=(match mG (fun t=>au tab xt n q [u,t]) ts with | .ok _=>.ok .ai | _=>.stuck)
  cases mG (fun t=>au tab xt n q [u,t]) ts <;> rfl
 have hc:∀ ds z,au tab xt (n+1) f ds=.ok z->∃ u ts,ds=[u,.lst ts]/\z=.ai/\v8 (fun t=>au tab xt n q [u,t]) ts:=fun ds z h=>by
  rw [ce] at h;obtain ⟨hl,h1⟩:=cG h;obtain ⟨u,v,rfl,e⟩:=two ds hl;rw [e,lam] at h1;cases v <;> try (cases h1;done)
  rename_i ts;replace h1:(match mG (fun t=>au tab xt n q [u,t]) ts with | .ok _=>R.ok D.ai | _=>.stuck)=.ok z:=h1;split at h1
  .rename_i e2;cases h1;exact ⟨u,ts,rfl,rfl,Ko e2⟩
  .cases h1
 refine ⟨?_,fun ds z h=>?_⟩
 .have FP:fV T (au tab xt n) P w K mg base n:=⟨Pr.blt,Pr.gl,fun f' x' Fh=>by
   obtain ⟨a',AN,mx,q⟩:=IH f' x' Fh;exact ⟨a',AN,mx,q⟩⟩
  have MW:=hd.lam;have w_:=hd.nm;have BM:=hd.par;subst w_ BM;obtain ⟨oc,od,kV,doc,pm,an,cdv,ct,iO,rfl,lk,eJ⟩:=F.ex;rw [pi,hd.sc] at lk ⊢;exact Tt FP hT hc lk eJ MW
 .obtain ⟨u,ts,rfl,_⟩:=hc ds z h;rw [hd.par];rfl
end
variable {xt:mJ}{x:Str}{d:Def}{a:Addr}
def py {T:Tx}{tab:List Def}{f:Nat}{ps:zk}{fd:FuncData}{b:List XS} (Pr:BH T tab xt K mg) (IH:GR T tab xt P w K mg base n) (hx:xt.lookup f=some b) (ht:tab[f]?=some d) (F:nS K x x st a fd) (hd:IB T K mg x b d ps st a fd) :
  eU P w K mg base fh (n+1) a fd ps (oq ⟨P,w,K⟩ (au tab xt (n+1) f) ps.length)/\∀ ds z,au tab xt (n+1) f ds=.ok z->ds.length=ps.length:=by
 have hb:=hd.ex;subst hb;have hc:∀ ds z,au tab xt (n+1) f ds=.ok z->∃ m q,ds=[m,q]/\xG (au tab xt n) [some m,some q,none,none,none,none]=.ok (.rt z):=fun ds z h=>by
  replace h:(match xt.lookup f with | some b=>xM (au tab xt n) b ds tab[f]? | none=>xQ (au tab xt n) tab f ds)=.ok z:=h;rw [hx] at h;replace h:xM (au tab xt n) [.Ff] ds tab[f]?=.ok z:=h;rw [ht] at h;obtain ⟨hl,h1⟩:=cG h;rw [hd.np] at hl
  match ds,hl with
  | [m,q],_ =>
   refine ⟨m,q,rfl,?_⟩;have e:sx d [m,q]=[some m,some q,none,none,none,none]:=by
    unfold sx;rw [hd.nn,hd.np];rfl
   rw [e] at h1;replace h1:jN (match xG (au tab xt n) [some m,some q,none,none,none,none] with | .ok (.rt d)=>.ok (.rt d) | _=>.stuck)=.ok z:=h1;split at h1
   .rename_i e2;cases h1;exact e2
   .cases h1
 refine ⟨?_,fun ds z h=>?_⟩
 .have FP:fV T (au tab xt n) P w K mg base n:=⟨Pr.blt,Pr.gl,fun f' x' Fh=>by
   obtain ⟨a',AN,mx,q⟩:=IH f' x' Fh;exact ⟨a',AN,mx,q⟩⟩
  have B:=hd.nw;have w_:=hd.nm;have BM:=hd.par;subst w_ BM;obtain ⟨oc,od,kV,doc,pm,an,cdv,ct,iO,rfl,lk,eJ⟩:=F.ex;exact NP FP hc lk eJ B
 .obtain ⟨m,q,rfl,_⟩:=hc ds z h;rw [hd.par];rfl
theorem xT {T:Tx}{tab:List Def}{xt:mJ}{P:Program}{w:World}{K:zd}{mg:w8} (Pr:BH T tab xt K mg) (base:Heap):∀ (n:Nat),GR T tab xt P w K mg base n
 | 0,f,x,hF=>by
  obtain ⟨d,N,ps,st,a,fd,ht,F,hm,hb,hd⟩:=Pr.fn f x hF;refine ⟨a,fd,ps,⟨fun vs H Q E h=>?_,fun A outer s H args us vs Q E hr he Ψ hv h=>?_⟩,hm,F.kp,hb,fun ds d h=>?_⟩
  .obtain ⟨ds,Hs,d,_,_,_,h,_⟩:=h;cases h
  .obtain ⟨ds,Hs,d,_,_,_,h,_⟩:=h;cases h
  .cases h
 | n+1,f,x,hF=>by
  obtain ⟨d,N,ps,st,a,fd,ht,F,hm,hb,hd⟩:=Pr.fn f x hF
  suffices q:eU P w K mg base fh (n+1) a fd ps (oq ⟨P,w,K⟩ (au tab xt (n+1) f) ps.length)/\∀ ds z,au tab xt (n+1) f ds=.ok z->ds.length=ps.length from ⟨a,fd,ps,q.1,hm,F.kp,hb,q.2⟩
  cases hx:xt.lookup f with
  | none=>rw [hx] at hd;exact Gf Pr (xT Pr base n) hx ht F hd
  | some b=>rw [hx] at hd;exact hd.elim (Xe Pr (xT Pr base n) hx ht F) (py Pr (xT Pr base n) hx ht F)
variable {loose:zk}
def sn {l:PySem.W.OpenLaw}{q:Program}{XP:(w8)->Heap->Prop}{YP:World->Heap->Prop}{dr:DefRec}{K:Params->zd}{T:Tx}{tab:List Def}{fl:Nat}{par:Str}{N:zk}
  (hn:l.most=some 63) (C6:dr.params.defaults=[]) (hr:cO (n+1) callerA) (ht:tab[fl]?=some d) (hx:xt.lookup fl=none) (hd:vY T d N [par] st=true)
  (hY:∀ (w:World) (h:Heap),YP w h->(K w.params).In h) (C8:∀ (p:Params) (b:Addr) (o:Obj),(K p).lookup b=some o->Ly o) (hT:∀ (w:World) (bq:Shared) (mg mb:w8) (h:Heap),PySem.W.Ground q loose [] XP w bq mg mb h->YP w h->∃ tP,Bp mg h tP)
  (F:∀ (w:World) (mg:w8) (h:Heap),(K w.params).In h->h.Ns mainGlobals mg->BH T tab xt (K w.params) mg)
  (FL:∀ (w:World),FF (K w.params) dr.name st)
  (hb:∀ (kV doc pm:Value) (an:zv) (cdv ct u:Value),bindArgs (PySem.W.fnOf dr.name dr.name (eE st) (cT st) (aM st) .none kV doc pm an cdv ct) ⟨[u],[]⟩=pure [(par,u)])
  (sw:∀ ns:List Int,ns.length<=63->au tab xt (n+1) fl [.lst (ns.map D.int)]=.ok (.bl true)) :
  PySem.W.WalkO q loose XP YP l.row.toRowW dr [] (fun f vs=>PySem.call f vs):=by
 refine L2.Xj (n:=63) (k:=n+1) (x:=par) (CX:=fun _=>fh) (sp:=fun w=>oq ⟨l.prog,w,K w.params⟩ (au tab xt (n+1) fl) 1) hn (by decide) C6 hr hY C8 hT (fun w mg fa h KX G C7=>?_) (fun w H a ns hl hO hS=>?_) (fun _ _ _ _ _ z=>z)
 .obtain ⟨a,fd,ha,FF,_⟩:=(FL w).ex;have e:=C7.symm.trans (PySem.W.mg_of KX G ha);cases e;refine ⟨fd,fun s u=>?_,fun base kb nb=>(Gf (F w mg h KX G) (xT (F w mg h KX G) base n) hx ht FF hd).1⟩;obtain ⟨oc,od,kV,doc,pm,an,cdv,ct,iO,rfl,lk,eJ⟩:=FF.ex;exact .of_eq (hb kV doc pm an cdv ct u)
 .exact ⟨[.lst (ns.map D.int)],H,.bl true,rfl,ar.refl _,ax.one (cP.mpr ⟨a,_,rfl,hS,vO ns⟩),sw ns hl,fun v H' av g' r=>ni.mp r⟩
def Bh {v:Value} (h:v5 K v=true):∃ cc Pt oc vs file tf flags tg uS text tt,v=.ref cc /\ K.lookup cc=some oc /\ oc.cls=.type "code" /\ oc.data=.fields vs /\ vs[11]?=some (.ref Pt) /\ vs.getD 11 .none=.ref Pt /\ vs.getD 18 .none=.str file tf /\ vs.getD 7 .none=.int flags tg /\ vs.getD 9 .none=.bool uS /\ vs.getD 10 .none=.int text tt /\ cc ≠ Pt:=by
 unfold v5 at h;split at h <;> try (cases h;done)
 rename_i cc;split at h <;> try (cases h;done)
 rename_i t dd vs sl e;rw [Bool.and_eq_true] at h;obtain ⟨h0,h⟩:=h;cases of_decide_eq_true h0;split at h <;> try (cases h;done)
 rename_i p GG;split at h <;> try (cases h;done)
 rename_i sB sK tz;split at h <;> try (cases h;done)
 rename_i f7 t7 e7;split at h <;> try (cases h;done)
 rename_i f9 e9;split at h <;> try (cases h;done)
 rename_i ul ut u8;refine ⟨cc,p,_,vs,sB,sK,f7,t7,f9,ul,ut,rfl,e,rfl,rfl,GG,?_,tz,e7,e9,u8,of_decide_eq_true h⟩;simp [Array.getD_eq_getD_getElem?,GG]
variable {h:Heap}{i:Nat}
def Zc {T:Tx}{tab:List Def}{BN:Stmt}{q:Nat}{a1 a2 a3 a4 a5 a6:Pos}{x1 c1:Option Expr}{b1 b2 b3 b4 b5 b6 b7 b8 b9 Mn Mo My MA:Pos}{j:Nat}{r2:zn}
  (X:K.In h) (G:h.Ns mainGlobals mg) (fl:FF K (Str.ofString "check_tests") st) (fc:FF K (Str.ofString "check_list") BN) (hx:xt.lookup i=some [.lam q]) (ht:tab[i]?=some d) (hq:T.F[q]?=some (Str.ofString "is_test"))
  (hb:cT st=Aw p1 p2 p3 p4 p5 p6 p7 p8 p9 i6) (hs:aM st=gB) (fb:cT BN=vL a1 a2 a3 a4 a5 a6 x1 c1 b1 b2 b3 b4 b5 b6 b7 b8 b9 Mn Mo My MA j r2) (lS:aM BN=cN) (CD:d.np=2) (uj:d.nn=2)
  (fy:∀ (kV doc pm:Value) (an:zv) (cdv ct:Value) (us:zg),us.length=([("book":Str),"tests"]:zk).length -> bindArgs (PySem.W.fnOf (Str.ofString "check_tests") (Str.ofString "check_tests") (eE st) (cT st) (aM st) .none kV doc pm an cdv ct) ⟨us,[]⟩=pure (([("book":Str),"tests"]:zk).zip us))
  (dM:∀ (kV doc pm:Value) (an:zv) (cdv ct:Value) (us:zg),us.length=([("things":Str),"is_right"]:zk).length -> bindArgs (PySem.W.fnOf (Str.ofString "check_list") (Str.ofString "check_list") (eE BN) (cT BN) (aM BN) .none kV doc pm an cdv ct) ⟨us,[]⟩=pure (([("things":Str),"is_right"]:zk).zip us)) :
  ∃ d N ps st a fd,tab[i]?=some d /\ nS K (Str.ofString "check_tests") (Str.ofString "check_tests") st a fd /\ mg (Str.ofString "check_tests")=some (.ref a) /\ L2.Binds K fd ps [] /\ (match xt.lookup i with | none=>vY T d N ps st=true | some b=>u3 T K mg (Str.ofString "check_tests") b d ps st a fd \/ IB T K mg (Str.ofString "check_tests") b d ps st a fd):=by
 obtain ⟨a,fd,e,F,MX⟩:=fl.ex;obtain ⟨ac,Ω,ec,FC,_⟩:=fc.ex;have me:=PySem.W.mg_of X G e;refine ⟨d,[],[("book":Str),"tests"],st,a,fd,ht,F,me,F.binds fy,?_⟩
 rw [hx];refine .inl ⟨⟨q,p1,p2,p3,p4,p5,p6,p7,p8,p9,i6,rfl,hq,hb⟩,hs,rfl,rfl,CD,uj,?_,Bh MX,me⟩;have bc:=FC.binds dM;have kp:=FC.kp;obtain ⟨oc,od,kV,doc,pm,an,cdv,ct,iO,rfl,lk,eJ⟩:=FC.ex;rw [fb,lS] at lk bc;exact ⟨ac,eE BN,.none,kV,doc,pm,cdv,ct,oc,an,od,iO,a1,a2,a3,a4,a5,a6,x1,c1,b1,b2,b3,b4,b5,b6,b7,b8,b9,Mn,Mo,My,MA,j,r2,lk,eJ,PySem.W.mg_of X G ec,kp,bc⟩
def xz {T:Tx}{tab:List Def}{s1 s2 s3 s5:Stmt}{t0:Pos}
  (X:K.In h) (G:h.Ns mainGlobals mg) (fl:FF K (Str.ofString "next_place") st) (hx:xt.lookup i=some [.Ff]) (ht:tab[i]?=some d)
  (hb:cT st=[s1,s2,s3,.Assign [.Name "found" t0] (.Call (.Name "min" p) [.Call (.Name "sorted" q1) [.Name "many" q2] [] q3] [⟨some "key",.Lambda (Ak p0) (vD p1 p2 p3 p4 p5 p6 p7 p8 p9 i6 sk sv) iY lp,r⟩] q4) pos,s5])
  (b1:ko T lj (aM st) xX [s1,s2,s3]=true) (b2:ko T lj (aM st) pK [s5]=true) (b3:a8 T lj (.blt .sorted [(.var 2)]) (aM st) (.Call (.Name "sorted" q1) [.Name "many" q2] [] q3)=true) (b4:gf lj (aM st) (.one 5) (.Name "found" t0)=true)
  (lS:uX lj [("meetings":Str),"places"] (aM st)=true) (c1:(aM st).names.lookup (Str.ofString "meetings")=some .cell) (c2:(aM st).names.lookup (Str.ofString "many")=some .cell) (gm:(aM st).names.lookup (Str.ofString "min")=some .globalImplicit)
  (CD:d.np=2) (uj:d.nn=6)
  (fy:∀ (kV doc pm:Value) (an:zv) (cdv ct:Value) (us:zg),us.length=([("meetings":Str),"places"]:zk).length -> bindArgs (PySem.W.fnOf (Str.ofString "next_place") (Str.ofString "next_place") (eE st) (cT st) (aM st) .none kV doc pm an cdv ct) ⟨us,[]⟩=pure (([("meetings":Str),"places"]:zk).zip us)) :
  ∃ d N ps st a fd,tab[i]?=some d /\ nS K (Str.ofString "next_place") (Str.ofString "next_place") st a fd /\ mg (Str.ofString "next_place")=some (.ref a) /\ L2.Binds K fd ps [] /\ (match xt.lookup i with | none=>vY T d N ps st=true | some b=>u3 T K mg (Str.ofString "next_place") b d ps st a fd \/ IB T K mg (Str.ofString "next_place") b d ps st a fd):=by
 obtain ⟨a,fd,e,F,MX⟩:=fl.ex;have me:=PySem.W.mg_of X G e;refine ⟨d,[],[("meetings":Str),"places"],st,a,fd,ht,F,me,F.binds fy,?_⟩
 rw [hx];exact .inr ⟨rfl,rfl,rfl,CD,uj,⟨_,_,_,_,_,_,_,_,_,_,_,_,_,_,_,_,_,_,_,_,_,_,_,_,_,_,hb,b1,b2,b3,b4⟩,lS,c1,c2,gm,Bh MX,me⟩
theorem MK:∀ {l:mJ}{f:Nat}{b:List XS},l.lookup f=some b->(f,b)∈l
 | [],_,_,h=>by cases h
 | (k,v)::l,f,b,h=>by
  rw [List.lookup_cons] at h;split at h
  .rename_i e;cases h;rw [beq_iff_eq.mp e];exact vj
  .exact vi _ (MK h)
theorem Kl:∀ {l:w4}{f:Addr}{b:Obj},l.lookup f=some b->(f,b)∈l
 | [],_,_,h=>by cases h
 | (k,v)::l,f,b,h=>by
  rw [List.lookup_cons] at h;split at h
  .rename_i e;cases h;rw [beq_iff_eq.mp e];exact vj
  .exact vi _ (Kl h)
noncomputable def R8 (o:Obj):Bool:=match o.data,o.cls with
 | .fields _,.none=>false
 | _,_=>true
theorem xL (h:(K.all fun p=>R8 p.2)=true) (b:Addr) (o:Obj) (e:K.lookup b=some o):Ly o:=fun vs z1 z2=>by
 have:=yv.mp h (b,o) (Kl e);unfold R8 at this;rw [z1,z2] at this;cases this
noncomputable def tabAt (K:zd) (x:Str):Option (Addr × Addr × Addr):=match PySem.W.nsIn K mainGlobals x with
 | some (some (.ref a))=>(match K.lookup a with
  | some ⟨_,_,.func fd,_⟩=>(match fd.code with
   | .ref c=>(match K.lookup c with
    | some ⟨_,_,.fields vs,_⟩=>(match (vs[11]?:Option Value) with
     | some (.ref p)=>some (a,c,p)
     | _=>none)
    | _=>none)
   | _=>none)
  | _=>none)
 | _=>none
def Ux {c p:Addr} (h:tabAt K x=some (a,c,p)):PySem.W.nsIn K mainGlobals x=some (some (.ref a))/\∃ o fd oc vs,K.lookup a=some o/\o.data=.func fd/\fd.code=.ref c/\K.lookup c=some oc/\oc.data=.fields vs/\vs[11]?=some (.ref p):=by
 unfold tabAt at h;split at h <;> try (cases h;done)
 rename_i a' e1;split at h <;> try (cases h;done)
 rename_i e2;split at h <;> try (cases h;done)
 rename_i c' e3;split at h <;> try (cases h;done)
 rename_i e4;split at h <;> try (cases h;done)
 rename_i p' e5;cases h;exact ⟨e1,_,_,_,_,e2,rfl,e3,e4,rfl,e5⟩
def Rr (K:zd):Bool:=match tabAt K (Str.ofString "check_tests"),tabAt K (Str.ofString "next_place") with
 | some (_,_,p),some (_,_,q)=>decide (p≠q)
 | _,_=>false
def tab_of {q:Program}{XP:(Str -> Option Value) -> Heap -> Prop}{bq:Shared}{mg mb:Str -> Option Value} (hr:((recsOf q).any fun d=>decide (d.name=Str.ofString "check_tests"))=true) (Cs:((recsOf q).any fun d=>decide (d.name=Str.ofString "next_place"))=true) (hK:Rr K=true) (G:PySem.W.Ground q loose [] XP w bq mg mb h) (X:K.In h):∃ tP,Bp mg h tP:=by
 have one:∀ (n:Str) (a c p:Addr),tabAt K n=some (a,c,p)->((recsOf q).any fun d=>decide (d.name=n))=true->∃ o fd,mg n=some (.ref a)/\h.get? a=some o/\o.data=.func fd/\fd.code=.ref c/\h.TableAt c p #[]:=by
  intro n a c p ht hr;obtain ⟨en,o',AN,bi,tT,l1,l2,l3,l4,l5,l6⟩:=Ux ht;obtain ⟨d,hd,e⟩:=List.any_eq_true.mp hr;obtain ⟨a2,o,fd,c2,P,t1,t2,t3,t4,_,t6⟩:=G.T.tab d hd;rw [of_decide_eq_true e] at t1;have m:=PySem.W.mg_of X G.T.g en;cases t1.symm.trans m;cases t2.symm.trans (X _ _ l1);cases t3.symm.trans l2;cases t4.symm.trans l3;obtain ⟨⟨oc,vs,g1,g2,g3,g4⟩,g5⟩:=t6;cases g1.symm.trans (X _ _ l4);cases g3.symm.trans l5;cases g4.symm.trans l6;exact ⟨_,_,m,t2,t3,t4,⟨_,_,g1,g2,g3,g4⟩,g5⟩
 unfold Rr at hK;split at hK <;> try (cases hK;done)
 rename_i a1 c1 p1 a2 c2 p2 e1 e2;have ne:=of_decide_eq_true hK;obtain ⟨o1,f1,m1,x1,y1,z1,T1⟩:=one _ _ _ _ e1 hr;obtain ⟨o2,f2,m2,x2,y2,z2,T2⟩:=one _ _ _ _ e2 Cs;refine ⟨fun P=>if P=p1 then some fC else if P=p2 then some fZ else none,?_,?_⟩
 .rintro n Q (⟨rfl,rfl⟩ | ⟨rfl,rfl⟩) a ha
  .cases m1.symm.trans ha;exact ⟨o1,f1,c1,p1,x1,y1,z1,T1,if_pos rfl⟩
  .cases m2.symm.trans ha;exact ⟨o2,f2,c2,p2,x2,y2,z2,T2,(if_neg (Ne.symm ne)).trans (if_pos rfl)⟩
 .intro P Q e;dsimp only at e;split at e
  .rename_i e0;rw [e0];exact ⟨c1,T1⟩
  .split at e
   .rename_i e0;rw [e0];exact ⟨c2,T2⟩
   .cases e
end Mi
namespace Mi
open PySem L2
noncomputable def u4 (W:Nat->Nat) (B:Nat):Nat->Option Nat
 | 0=>none
 | n+1=>if W n < B/\(∀ j,u4 W B n=some j->W n < W j) then some n else u4 W B n
def K1 (W:Nat->Nat) (B n:Nat):Option Nat->Prop
 | none=>∀ i,i < n->B<=W i
 | some j=>j < n/\W j < B/\(∀ i,i < n->W j<=W i)/\∀ i,i < j->W j < W i
theorem Aj (W:Nat->Nat) (B:Nat):∀ n,K1 W B n (u4 W B n)
 | 0=>fun i h=>by omega
 | n+1=>by
  have ih:=Aj W B n;rw [u4];split
  .rename_i h;obtain ⟨h1,h2⟩:=h;cases e:u4 W B n with
   | none =>
    rw [e] at ih;have IC:∀ i,i < n->B<=W i:=ih;refine ⟨by omega,h1,fun i hi=>?_,fun i hi=>?_⟩
    .by_cases q:i=n
     .subst q;exact vE _
     .have:=IC i (by omega);omega
    .have:=IC i hi;omega
   | some j =>
    rw [e] at ih;obtain ⟨a1,a2,a3,a4⟩:=ih;have hj:=h2 j e;refine ⟨by omega,h1,fun i hi=>?_,fun i hi=>?_⟩
    .by_cases q:i=n
     .subst q;exact vE _
     .have:=a3 i (by omega);omega
    .have:=a3 i hi;omega
  .rename_i h;cases e:u4 W B n with
   | none =>
    rw [e] at ih;have IC:∀ i,i < n->B<=W i:=ih;intro i hi;by_cases q:i=n
    .subst q;by_cases q2:W i < B
     .exact absurd ⟨q2,fun j ej=>by rw [e] at ej;cases ej⟩ h
     .omega
    .exact IC i (by omega)
   | some j =>
    rw [e] at ih;obtain ⟨a1,a2,a3,a4⟩:=ih;refine ⟨by omega,a2,fun i hi=>?_,a4⟩;by_cases q:i=n
    .subst q;by_cases q2:W i < W j
     .refine absurd ⟨by omega,fun j' ej=>?_⟩ h;rw [e] at ej;cases ej;exact q2
     .omega
    .exact a3 i (by omega)
variable {n:Nat}
theorem Oo {W:Nat->Nat}{B:Nat}:∀ {r s:Option Nat},K1 W B n r->K1 W B n s->r=s
 | none,none,_,_=>rfl
 | none,some j,a,b=>by
  have:=(show ∀ i,i < n->B<=W i from a) j b.1;have:=b.2.1;omega
 | some j,none,b,a=>by
  have:=(show ∀ i,i < n->B<=W i from a) j b.1;have:=b.2.1;omega
 | some j,some i,⟨a1,a2,a3,a4⟩,⟨b1,b2,b3,b4⟩=>by
  have h1:=a3 i b1;have h2:=b3 j a1;by_cases q:i < j
  .have:=a4 i q;omega
  .by_cases q2:j < i
   .have:=b4 j q2;omega
   .rw [show i=j by omega]
theorem G9 (kf:Int->Int):∀ (l:List Int) (b:Int),(b::l).Pairwise (· < ·)->jI kf b l∈b::l/\(∀ x∈b::l,kf (jI kf b l)<=kf x)/\∀ x∈b::l,x < jI kf b l->kf (jI kf b l) < kf x
 | [],b,_=>⟨vj,fun x hx=>by
   cases yn.mp hx;exact Int.le_refl _,fun x hx h=>by
   cases yn.mp hx;exact absurd h (Int.lt_irrefl _)⟩
 | a::l,b,hp=>by
  rw [jI];have Fm:=List.pairwise_cons.mp hp;have x0:=List.pairwise_cons.mp Fm.2;have k9:b < a:=Fm.1 a vj;split
  .rename_i h;obtain ⟨r1,r2,r3⟩:=G9 kf l a Fm.2;have hra:=r2 a vj;refine ⟨vi _ r1,fun x hx=>?_,fun x hx bj=>?_⟩
   .rcases vV.mp hx with rfl | hx
    .omega
    .exact r2 x hx
   .rcases vV.mp hx with rfl | hx
    .omega
    .exact r3 x hx bj
  .rename_i h;obtain ⟨r1,r2,r3⟩:=G9 kf l b (List.pairwise_cons.mpr ⟨fun x hx=>Fm.1 x (vi _ hx),x0.2⟩);have ER:=r2 b vj;refine ⟨?_,fun x hx=>?_,fun x hx bj=>?_⟩
   .rcases vV.mp r1 with e | e
    .rw [e];exact vj
    .exact vi _ (vi _ e)
   .rcases vV.mp hx with rfl | hx
    .exact ER
    .rcases vV.mp hx with rfl | hx
     .omega
     .exact r2 x (vi _ hx)
   .rcases vV.mp hx with rfl | hx
    .exact r3 _ vj bj
    .rcases vV.mp hx with rfl | hx
     .have:=r3 b vj (by omega);omega
     .exact r3 x (vi _ hx) bj
def jz (a b:Int) (l:List (Int × Int)) (k:Int):bM ((a,b)::l) k=if a=k then some b else bM l k:=by
 unfold bM;rw [List.find?_cons];by_cases h:a=k
 .simp [h]
 .simp [h]
theorem yO (a b k:Int):∀ (l:List (Int × Int)),k ∉ l.map (·.1)\/a≠k->bM (l++[(a,b)]) k=if a=k then some b else bM l k
 | [],_=>by rw [List.nil_append,jz]
 | (c,d)::l,h=>by
  rw [List.cons_append,jz,jz];rw [List.map_cons,List.mem_cons,not_or] at h;by_cases e:c=k
  .rw [if_pos e,if_pos e];rcases h with h | h
   .exact absurd e.symm h.1
   .rw [if_neg h]
  .rw [if_neg e,if_neg e];exact yO a b k l (h.imp (·.2) id)
theorem Fq (k v k':Int):∀ (l:List (Int × Int)),bM (l.map fun p=>if p.1=k then (p.1,v) else p) k'=if k'=k then (bM l k').map fun _=>v else bM l k'
 | []=>by split <;> rfl
 | (a,b)::l=>by
  have ih:=Fq k v k' l;rw [List.map_cons,jz];by_cases e:a=k
  .rw [if_pos e,jz,ih];by_cases e2:a=k'
   .rw [if_pos e2,if_pos e2,if_pos (e2.symm.trans e)];rfl
   .rw [if_neg e2,if_neg e2]
  .rw [if_neg e,jz,ih];by_cases e2:a=k'
   .rw [if_pos e2,if_pos e2,if_neg fun z=>e (e2.trans z)]
   .rw [if_neg e2,if_neg e2]
variable {k:Int}{l:List (Int × Int)}
def any_keys :((l.any fun p=>decide (p.1=k))=true)↔k∈l.map (·.1):=by
 rw [List.any_eq_true,List.mem_map];constructor
 .rintro ⟨p,h1,h2⟩;exact ⟨p,h1,of_decide_eq_true h2⟩
 .rintro ⟨p,h1,h2⟩;exact ⟨p,h1,v6 h2⟩
def Tw (h:k∈l.map (·.1)):∃ v,bM l k=some v:=Ga h
def Ut (l:List (Int × Int)) (k v k':Int):bM (mY l k v) k'=if k'=k then some v else bM l k':=by
 unfold mY;split
 .rename_i h;rw [Fq];by_cases e:k'=k
  .rw [if_pos e,if_pos e,e];obtain ⟨x,hx⟩:=Tw (any_keys.mp h);rw [hx];rfl
  .rw [if_neg e,if_neg e]
 .rename_i h;have hk:k ∉ l.map (·.1):=fun z=>h (any_keys.mpr z)
  by_cases e:k'=k
  .subst e;rw [yO _ _ _ _ (.inl hk),if_pos rfl]
  .rw [yO _ _ _ _ (.inr fun z=>e z.symm),if_neg (fun z=>e z.symm),if_neg e]
def S6 (l:List (Int × Int)) (k v:Int):(mY l k v).map (·.1)=if k∈l.map (·.1) then l.map (·.1) else l.map (·.1)++[k]:=by
 unfold mY;by_cases h:k∈l.map (·.1)
 .rw [if_pos (any_keys.mpr h),if_pos h,List.map_map];refine List.map_congr_left fun p _=>?_
  show (if p.1=k then (p.1,v) else p).1=p.1
  split <;> rfl
 .rw [if_neg fun z=>h (any_keys.mp z),if_neg h,List.map_append];rfl
def fw (ah:List (Int × Int)) (j:Nat):List (Int × Int):=mY ah (j:Int) ((bM ah (j:Int)).getD 0+1)
structure dq (P:zi) (ah:List (Int × Int)):Prop where
 nd:(ah.map (·.1)).Nodup
 mem:∀ k:Int,k∈ah.map (·.1)↔∃ j∈P,(j:Int)=k
 get:∀ j:Nat,bM ah (j:Int)=if j∈P then some (P.count j:Int) else none
 len:ah.length<=P.length
def dq.nil:dq [] []:=⟨List.nodup_nil,fun k=>by simp,fun j=>rfl,vE _⟩
variable {P:zi}{ah:List (Int × Int)}
def dq.fw (h:dq P ah) (j:Nat):dq (P++[j]) (fw ah j):=by
 have hk:=S6 ah (j:Int) ((bM ah (j:Int)).getD 0+1);refine ⟨?_,fun k=>?_,fun i=>?_,?_⟩
 .unfold Mi.fw;rw [hk];split
  .exact h.nd
  .rename_i q;exact List.nodup_append.mpr ⟨h.nd,by simp,fun a ha b hb=>by
    rw [List.mem_singleton] at hb;rw [hb];intro e;rw [e] at ha;exact q ha⟩
 .unfold Mi.fw;rw [hk];split
  .rename_i q;rw [h.mem];constructor
   .rintro ⟨i,h1,h2⟩;exact ⟨i,vk _ h1,h2⟩
   .rintro ⟨i,h1,h2⟩;rcases ym.mp h1 with h1 | h1
    .exact ⟨i,h1,h2⟩
    .rw [List.mem_singleton] at h1;rw [<- h2,h1];exact (h.mem _).mp q
  .rw [List.mem_append,h.mem,List.mem_singleton];constructor
   .rintro (⟨i,h1,h2⟩ | e)
    .exact ⟨i,vk _ h1,h2⟩
    .exact ⟨j,vn _ (yn.mpr rfl),e.symm⟩
   .rintro ⟨i,h1,h2⟩;rcases ym.mp h1 with h1 | h1
    .exact .inl ⟨i,h1,h2⟩
    .rw [List.mem_singleton] at h1;exact .inr (by rw [<- h2,h1])
 .unfold Mi.fw;rw [Ut];by_cases e:i=j
  .subst e;rw [if_pos rfl,if_pos (List.mem_append_right _ (List.mem_singleton.mpr rfl)),h.get,List.count_append,List.count_singleton_self];by_cases q:i∈P
   .rw [if_pos q];rfl
   .rw [if_neg q,List.count_eq_zero.mpr q];rfl
  .rw [if_neg (fun z=>e (by omega)),h.get,List.count_append];have e0:List.count i [j]=0:=List.count_eq_zero.mpr (by simp [e]);rw [e0];by_cases q:i∈P
   .rw [if_pos q,if_pos (List.mem_append_left _ q)];rfl
   .rw [if_neg q,if_neg];intro z;rcases ym.mp z with z | z
    .exact q z
    .exact e (yn.mp z)
 .have e1:(Mi.fw ah j).length=((Mi.fw ah j).map (·.1)).length:=(List.length_map ..).symm;have h4:=h.len;rw [e1,List.length_append];unfold Mi.fw;rw [hk];split
  .rw [List.length_map];simp;omega
  .rw [List.length_append,List.length_map];simp;omega
theorem dq.fold:∀ (Q P:zi) (ah:List (Int × Int)),dq P ah->dq (P++Q) (Q.foldl Mi.fw ah)
 | [],P,ah,h=>by rw [List.append_nil];exact h
 | j::Q,P,ah,h=>by
  have:=dq.fold Q (P++[j]) _ (h.fw j);rw [List.append_assoc] at this;exact this
theorem Ov:∀ (l:zi),intsOf (l.map eN)=some (l.map fun j:Nat=>(j:Int))
 | []=>rfl
 | j::l=>by
  rw [List.map_cons];show (intsOf (l.map eN)).map ((j:Int)::·)=_
  rw [Ov l];rfl
def Tz (h:dq P ah) (hn:∀ j∈P,j < n) (Lo:n < 64):gn (.bP ah)=.ok (.lst (((List.range n).filter fun j=>decide (j∈P)).map eN)):=by
 have nR:((List.range n).filter fun j=>decide (j∈P)).Pairwise (· < ·):=List.Pairwise.filter _ List.pairwise_lt_range;have hlen:((List.range n).filter fun j=>decide (j∈P)).length<=n:=by
  have:=yf (fun j=>decide (j∈P)) (List.range n);rw [List.length_range] at this;exact this
 have z_:(((List.range n).filter fun j=>decide (j∈P)).map fun j:Nat=>(j:Int)).Perm (ah.map (·.1)):=by
  refine (List.perm_ext_iff_of_nodup ?_ h.nd).mpr fun k=>?_
  .exact List.pairwise_map.mpr (nR.imp fun q z=>by omega)
  .rw [h.mem,List.mem_map];constructor
   .rintro ⟨j,h1,h2⟩;exact ⟨j,of_decide_eq_true (yz.mp h1).2,h2⟩
   .rintro ⟨j,h1,h2⟩;exact ⟨j,yz.mpr ⟨yA.mpr (hn j h1),v6 h1⟩,h2⟩
 have perm:(((List.range n).filter fun j=>decide (j∈P)).map eN).Perm (ah.map fun p=>D.int p.1):=by
  have:=z_.map D.int;rw [List.map_map,List.map_map] at this;exact this
 have hk:=z_.length_eq;rw [List.length_map,List.length_map] at hk;have hc:jF (ah.map fun p=>D.int p.1):=fun a ha b hb=>by
  obtain ⟨x,_,rfl⟩:=yl.mp ha;obtain ⟨y,_,rfl⟩:=yl.mp hb;rfl
 have iF:jo (ah.map fun p=>D.int p.1)=((List.range n).filter fun j=>decide (j∈P)).map eN:=yJ hc perm (List.pairwise_map.mpr (nR.imp fun {a b} q=>by
  show decide ((b:Int) < (a:Int))=false
  exact ya (by omega)))
 have ok:jW (ah.map fun p=>D.int p.1)=true:=by
  unfold jW;simp only [Bool.and_eq_true,Bool.or_eq_true,decide_eq_true_eq,List.length_map,List.all_eq_true];refine ⟨⟨⟨⟨by omega,?_⟩,fun a ha b hb=>hc a ha b hb⟩,gK (enc:=fun p:Int × Int=>D.int p.1) (fun _=>rfl) ah⟩,.inl (.inr ?_)⟩
  .have:=iH (enc:=fun p:Int × Int=>D.int p.1) (n:=1) (fun _=>by simp [dep]) ah;omega
  .intro d hd;obtain ⟨p,_,rfl⟩:=yl.mp hd;rfl
 simp only [gn,Bj,qP,ok,if_true,iF]
theorem Ci {m:ag}{j:Nat}:∀ {n:Nat}{ts:ze},j∈bp m n ts↔∃ i t,ts[i]?=some t/\j=n+i/\aA t m=true
 | n,[]=>by simp [bp]
 | n,t::ts=>by
  have ih:=Ci (m:=m) (j:=j) (n:=n+1) (ts:=ts);have up:(∃ i u,(t::ts)[i]?=some u/\j=n+i/\aA u m=true)↔(j=n/\aA t m=true)\/∃ i u,ts[i]?=some u/\j=n+1+i/\aA u m=true:=by
   constructor
   .rintro ⟨i,u,h1,h2,h3⟩;cases i with
    | zero=>simp at h1;subst h1;exact .inl ⟨by omega,h3⟩
    | succ i=>exact .inr ⟨i,u,by simpa using h1,by omega,h3⟩
   .rintro (⟨h1,h2⟩ | ⟨i,u,h1,h2,h3⟩)
    .exact ⟨0,t,rfl,by omega,h2⟩
    .exact ⟨i+1,u,by simpa using h1,by omega,h3⟩
  rw [bp,up,<- ih];split
  .rename_i h;simp [h]
  .rename_i h;simp [h]
theorem vI (m:ag):∀ (n:Nat) (ts:ze),(bp m n ts).Nodup
 | n,[]=>List.nodup_nil
 | n,t::ts=>by
  rw [bp];split
  .refine List.nodup_cons.mpr ⟨fun h=>?_,vI m (n+1) ts⟩;have:=G3 m (n+1) ts n h;omega
  .exact vI m (n+1) ts
def jf (t:zi) (L:List ag):Nat:=(L.filter fun m=>aA t m).length
def PY (t:zi) (L:List ag):Nat:=max (jf t L) (L.length - jf t L)
def v7 (t:zi) (L:List ag):jf t L<=L.length:=yf _ _
variable {m:ag}{j:Nat}{ts:ze}{t:zi}
def tW (h:ts[j]?=some t):j∈bp m 0 ts↔aA t m=true:=by
 rw [Ci];constructor
 .rintro ⟨i,u,h1,h2,h3⟩;have:i=j:=by omega
  subst this;cases h.symm.trans h1;exact h3
 .intro q;exact ⟨j,t,h,by omega,q⟩
theorem Fd {j:Nat}{ts:ze}{t:zi} (h:ts[j]?=some t):∀ (L:List ag),(L.flatMap fun m=>bp m 0 ts).count j=jf t L
 | []=>rfl
 | m::L=>by
  rw [List.flatMap_cons,List.count_append,Fd h L,jf,jf,List.filter_cons];have:(bp m 0 ts).count j=if aA t m=true then 1 else 0:=by
   rw [List.Nodup.count (vI m 0 ts)];by_cases q:aA t m=true
   .rw [if_pos q,if_pos ((tW h).mpr q)]
   .rw [if_neg q,if_neg fun z=>q ((tW h).mp z)]
  rw [this];by_cases q:aA t m=true
  .rw [if_pos q,if_pos q,List.length_cons];omega
  .rw [if_neg q,if_neg q];omega
def WT (ts:ze) (L:List ag) (j:Nat):Nat:=PY (ts.getD j []) L
def fx (ts:ze) (L:List ag):Option Nat:=u4 (WT ts L) L.length ts.length
def W4 (h:j∈bp m 0 ts):j < ts.length:=by
 obtain ⟨i,t,h1,h2,_⟩:=Ci.mp h;have:=(yi.mp h1).1;omega
variable {L:List ag}
def Kz (h:j∈L.flatMap fun m=>bp m 0 ts):j < ts.length:=by
 obtain ⟨m,_,h2⟩:=yy.mp h;exact W4 h2
def UL (h:j < ts.length):WT ts L j=max ((L.flatMap fun m=>bp m 0 ts).count j) (L.length - (L.flatMap fun m=>bp m 0 ts).count j)/\(L.flatMap fun m=>bp m 0 ts).count j<=L.length:=by
 have e:=List.getElem?_eq_getElem h;have e2:ts.getD j []=ts[j]:=by rw [List.getD_eq_getElem?_getD,e];rfl
 unfold WT PY;rw [Fd e,e2];exact ⟨rfl,v7 _ _⟩
def M6 (n c:Nat) (h:c<=n):cK (n:Int) (c:Int)=((max c (n - c):Nat):Int):=by
 unfold cK;split <;> omega
def Qk (h:(L.flatMap fun m=>bp m 0 ts)=[]):fx ts L=none:=by
 refine Oo (Aj _ _ _) (s:=none) fun i hi=>?_
 rw [(UL hi).1,h];simp
def O9 (C:dq (L.flatMap fun m=>bp m 0 ts) ah) (h:(L.flatMap fun m=>bp m 0 ts)≠[]) :
  ∃ n ns f,((List.range ts.length).filter fun j=>decide (j∈L.flatMap fun m=>bp m 0 ts)).map (fun j:Nat=>(j:Int))=n::ns/\jI (fun k=>cK L.length ((bM ah k).getD 0)) n ns=((f:Nat):Int)/\f < ts.length /\
   ∃ c:Nat,bM ah (f:Int)=some (c:Int)/\fx ts L=if c < L.length then some f else none:=by
 generalize hP:(L.flatMap fun m=>bp m 0 ts)=P at C h;have bj:∀ j∈P,j < ts.length:=fun j hj=>by rw [<- hP] at hj;exact Kz hj
 have hW:∀ j,j < ts.length->WT ts L j=max (P.count j) (L.length - P.count j)/\P.count j<=L.length:=fun j hj=>by rw [<- hP];exact UL hj
 cases hl:(List.range ts.length).filter fun j=>decide (j∈P) with
 | nil =>
  obtain ⟨j,hj⟩:=List.exists_mem_of_ne_nil P h;have:j∈(List.range ts.length).filter fun j=>decide (j∈P):=yz.mpr ⟨yA.mpr (bj j hj),v6 hj⟩
  rw [hl] at this;cases this
 | cons a l =>
  have PZ:((a::l).map fun j:Nat=>(j:Int)).Pairwise (· < ·):=by
   rw [<- hl];exact List.pairwise_map.mpr ((List.Pairwise.filter _ List.pairwise_lt_range).imp fun q=>by omega)
  have cz:∀ j:Nat,(j:Int)∈(a::l).map (fun j:Nat=>(j:Int))↔j∈P:=fun j=>by
   rw [<- hl,List.mem_map];constructor
   .rintro ⟨i,h1,h2⟩;have e:i=j:=by omega
    subst e;exact of_decide_eq_true (yz.mp h1).2
   .intro q;exact ⟨j,yz.mpr ⟨yA.mpr (bj j q),v6 q⟩,rfl⟩
  rw [List.map_cons] at PZ cz;obtain ⟨r1,r2,r3⟩:=G9 (fun k=>cK L.length ((bM ah k).getD 0)) _ _ PZ;have:∃ f:Nat,jI (fun k=>cK L.length ((bM ah k).getD 0)) (a:Int) (l.map fun j:Nat=>(j:Int))=(f:Int)/\f∈P:=by
   rcases vV.mp r1 with e | e
   .exact ⟨a,e,(cz a).mp vj⟩
   .obtain ⟨i,h1,h2⟩:=yl.mp e;exact ⟨i,h2.symm,(cz i).mp (vi _ (yl.mpr ⟨i,h1,rfl⟩))⟩
  obtain ⟨f,hf,Fn⟩:=this;have sA:=bj f Fn;have key:∀ j∈P,cK L.length ((bM ah (j:Int)).getD 0)=(WT ts L j:Int):=fun j hj=>by
   rw [C.get,if_pos hj,(hW j (bj j hj)).1];exact M6 _ _ (hW j (bj j hj)).2
  have R2:∀ j∈P,WT ts L f<=WT ts L j:=fun j hj=>by
   have:=r2 (j:Int) ((cz j).mpr hj);rw [hf] at this;simp only [key f Fn,key j hj] at this;omega
  have R3:∀ j∈P,j < f->WT ts L f < WT ts L j:=fun j hj bj=>by
   have:=r3 (j:Int) ((cz j).mpr hj) (by rw [hf];omega);rw [hf] at this;simp only [key f Fn,key j hj] at this;omega
  have zero:∀ j,j < ts.length->j ∉ P->WT ts L j=L.length:=fun j hj q=>by
   rw [(hW j hj).1,List.count_eq_zero.mpr q];omega
  have sC:0 < P.count f:=List.count_pos_iff.mpr Fn;obtain ⟨w1,w2⟩:=hW f sA;refine ⟨_,_,f,rfl,hf,sA,P.count f,by rw [C.get,if_pos Fn],?_⟩;refine Oo (Aj _ _ _) ?_;by_cases q:P.count f < L.length
  .rw [if_pos q];refine ⟨sA,by omega,fun i hi=>?_,fun i hi=>?_⟩
   .by_cases z:i∈P
    .exact R2 i z
    .rw [zero i hi z];omega
   .by_cases z:i∈P
    .exact R3 i z hi
    .rw [zero i (by omega) z];omega
  .rw [if_neg q];intro i hi;by_cases z:i∈P
   .have:=R2 i z;omega
   .rw [zero i hi z];omega
noncomputable def ic {α:Type} (g:α->Nat):List α->Nat
 | []=>0
 | x::l=>max (g x) (ic g l)
theorem jk {α:Type}{g:α->Nat}{c:Nat}:∀ {l:List α},(∀ x∈l,g x<=c)->ic g l<=c
 | [],_=>v3 _
 | x::l,h=>Nat.max_le.mpr ⟨h x vj,jk fun y hy=>h y (vi _ hy)⟩
theorem nY {α:Type}{g:α->Nat}{x:α}:∀ {l:List α},x∈l->g x<=ic g l
 | y::l,h=>by
  rw [ic];rcases vV.mp h with e | e
  .rw [e];omega
  .have:=nY (g:=g) e;omega
theorem Ks {α:Type} (g:α->Nat):∀ (l:List α) (a:Nat),l.foldl (fun a x=>max a (g x)) a=max a (ic g l)
 | [],a=>by simp [ic]
 | x::l,a=>by rw [List.foldl_cons,Ks g l,ic];omega
section
variable (ts:ze)
def l7 (L:List ag):List (List ag):=match fx ts L with
 | none=>[]
 | some j=>[L.filter fun x=>aA (ts.getD j []) x,L.filter fun x=>!aA (ts.getD j []) x]
def gC (ls:List (List ag)):List (List ag):=ls.flatMap (l7 ts)
def ky:Nat->List ag->Nat
 | 0,_=>0
 | n+1,L=>match fx ts L with
  | none=>0
  | some j=>1+max (ky n (L.filter fun x=>aA (ts.getD j []) x)) (ky n (L.filter fun x=>!aA (ts.getD j []) x))
def du (m:ag):Nat->List ag->Nat
 | 0,_=>0
 | n+1,L=>match fx ts L with
  | none=>0
  | some j=>1+du m n (L.filter fun x=>decide (aA (ts.getD j []) x=aA (ts.getD j []) m))
def u_:Nat->List (List ag)->Nat
 | 0,_=>0
 | n+1,ls=>if ls.isEmpty then 0 else 1+u_ n (gC ts ls)
end
variable {ts:ze}
def pG (h:fx ts L=some j):j < ts.length/\0 < jf (ts.getD j []) L/\jf (ts.getD j []) L < L.length:=by
 have:=Aj (WT ts L) L.length ts.length;rw [show u4 (WT ts L) L.length ts.length=some j from h] at this;obtain ⟨h1,h2,-,-⟩:=this;have h3:=v7 (ts.getD j []) L;have xD:max (jf (ts.getD j []) L) (L.length - jf (ts.getD j []) L) < L.length:=h2;exact ⟨h1,by omega,by omega⟩
def BZ (t:zi) (L:List ag):(L.filter fun x=>!aA t x).length=L.length - jf t L:=by
 have:∀ L:List ag,(L.filter fun x=>aA t x).length+(L.filter fun x=>!aA t x).length=L.length:=by
  intro L;induction L with
  | nil=>rfl
  | cons x L ih =>
   rw [List.filter_cons,List.filter_cons];cases aA t x <;> simp <;> omega
 have:=this L;unfold jf;omega
def Dw (h:fx ts L=some j):(L.filter fun x=>aA (ts.getD j []) x).length < L.length/\(L.filter fun x=>!aA (ts.getD j []) x).length < L.length:=by
 obtain ⟨h1,h2,h3⟩:=pG h;rw [BZ];exact ⟨h3,by omega⟩
def Js:fx ts []=none:=by
 cases h:fx ts [] with
 | none=>rfl
 | some j=>have:=(pG h).2.2;simp at this
def Bl {P:List ag} (h:P∈l7 ts L):P.length < L.length/\∀ m∈P,m∈L:=by
 unfold l7 at h;split at h
 .cases h
 .rename_i j e;obtain ⟨h1,h2⟩:=Dw e;simp only [List.mem_cons,List.not_mem_nil,or_false] at h;rcases h with rfl | rfl
  .exact ⟨h1,fun m hm=>(yz.mp hm).1⟩
  .exact ⟨h2,fun m hm=>(yz.mp hm).1⟩
theorem Hy (n:Nat):∀ (ls:List (List ag)),ic (ky ts (n+1)) ls=if (gC ts ls).isEmpty then 0 else 1+ic (ky ts n) (gC ts ls)
 | []=>rfl
 | L::ls=>by
  have ih:=Hy n ls;rw [ic,ih,show gC ts (L::ls)=l7 ts L++gC ts ls from List.flatMap_cons];cases e:fx ts L with
  | none =>
   have e1:l7 ts L=[]:=by unfold l7;rw [e]
   have e2:ky ts (n+1) L=0:=by unfold ky;rw [e]
   rw [e1,e2,List.nil_append];omega
  | some j =>
   have e1:l7 ts L=[L.filter fun x=>aA (ts.getD j []) x,L.filter fun x=>!aA (ts.getD j []) x]:=by unfold l7;rw [e]
   have e2:ky ts (n+1) L=1+max (ky ts n (L.filter fun x=>aA (ts.getD j []) x)) (ky ts n (L.filter fun x=>!aA (ts.getD j []) x)):=by
    rw [ky,e]
   rw [e1,e2];simp only [List.cons_append,List.nil_append,List.isEmpty_cons,Bool.false_eq_true,if_false,ic];cases q:gC ts ls with
   | nil=>simp [ic]
   | cons a b=>simp only [List.isEmpty_cons,Bool.false_eq_true,if_false];omega
theorem JW:∀ (n:Nat) (ls:List (List ag)),(∀ L∈ls,L.length<=n)->u_ ts n (gC ts ls)=ic (ky ts n) ls
 | 0,ls,_=>by
  rw [u_];have:=jk (g:=ky ts 0) (c:=0) (l:=ls) fun x _=>vE _
  omega
 | n+1,ls,h=>by
  rw [u_,Hy];split
  .rfl
  .rw [JW n (gC ts ls) fun P hP=>?_];obtain ⟨L,h1,h2⟩:=yy.mp hP;have:=h L h1;have:=(Bl h2).1;omega
theorem xq:∀ (n:Nat) (L:List ag),ky ts n L=ic (fun m=>du ts m n L) L
 | 0,L=>by
  rw [ky];have:=jk (g:=fun m=>du ts m 0 L) (c:=0) (l:=L) fun x _=>vE _
  omega
 | n+1,L=>by
  rw [ky];cases e:fx ts L with
  | none =>
   have:=jk (g:=fun m=>du ts m (n+1) L) (c:=0) (l:=L) fun x _=>by
    show du ts x (n+1) L<=0
    rw [du,e];exact vE 0
   show 0=_
   omega
  | some j =>
   show 1+max (ky ts n (L.filter fun x=>aA (ts.getD j []) x)) (ky ts n (L.filter fun x=>!aA (ts.getD j []) x))=_
   rw [xq n,xq n];have hp:∀ m,du ts m (n+1) L=1+du ts m n (if aA (ts.getD j []) m=true then L.filter fun x=>aA (ts.getD j []) x else L.filter fun x=>!aA (ts.getD j []) x):=fun m=>by
    rw [du,e];show 1+du ts m n _=_
    congr 2;cases q:aA (ts.getD j []) m with
    | true=>simp
    | false=>simp
   obtain ⟨h1,h2,h3⟩:=pG e;apply Nat.le_antisymm
   .have up:∀ m∈L,du ts m (n+1) L<=ic (fun m=>du ts m (n+1) L) L:=fun m hm=>nY (g:=fun m=>du ts m (n+1) L) hm
    have dE:∃ m,m∈L:=by
     cases L with
     | nil=>simp at h3
     | cons m L=>exact ⟨m,vj⟩
    obtain ⟨m0,At⟩:=dE;have one:=up m0 At;rw [hp] at one;have a1:ic (fun m=>du ts m n (L.filter fun x=>aA (ts.getD j []) x)) (L.filter fun x=>aA (ts.getD j []) x)<=ic (fun m=>du ts m (n+1) L) L - 1:=jk fun m hm=>by
     obtain ⟨k1,k2⟩:=yz.mp hm;have:=up m k1;rw [hp,if_pos k2] at this;omega
    have a2:ic (fun m=>du ts m n (L.filter fun x=>!aA (ts.getD j []) x)) (L.filter fun x=>!aA (ts.getD j []) x)<=ic (fun m=>du ts m (n+1) L) L - 1:=jk fun m hm=>by
     obtain ⟨k1,k2⟩:=yz.mp hm;have:=up m k1;rw [hp,if_neg (by simpa using k2)] at this;omega
    omega
   .refine jk fun m hm=>?_
    show du ts m (n+1) L<=_
    rw [hp];by_cases q:aA (ts.getD j []) m=true
    .rw [if_pos q];have:=nY (g:=fun m=>du ts m n (L.filter fun x=>aA (ts.getD j []) x)) (l:=L.filter fun x=>aA (ts.getD j []) x) (yz.mpr ⟨hm,q⟩);omega
    .rw [if_neg q];have:=nY (g:=fun m=>du ts m n (L.filter fun x=>!aA (ts.getD j []) x)) (l:=L.filter fun x=>!aA (ts.getD j []) x) (yz.mpr ⟨hm,by simpa using q⟩);omega
theorem Fg {α β:Type} [DecidableEq α] (κ:β->α):∀ (L acc:List β) (m:β),m∈L\/κ m∈acc.map κ->κ m∈(uN κ acc L).map κ
 | [],acc,m,h=>by
  rcases h with h | h
  .cases h
  .exact h
 | x::xs,acc,m,h=>by
  refine Fg κ xs _ m ?_;rcases h with h | h
  .rcases vV.mp h with e | e
   .subst e;refine .inr ?_;split
    .assumption
    .rw [List.map_append];exact vn _ (by simp)
   .exact .inl e
  .refine .inr ?_;split
   .exact h
   .rw [List.map_append];exact vk _ h
variable {α:Type}
def W7 [DecidableEq α] (κ:ag->α) (n:Nat) (S:List ag):ic (ky ts n) (iB κ S)=ic (fun m=>du ts m n (S.filter fun x=>decide (κ x=κ m))) S:=by
 apply Nat.le_antisymm
 .refine jk fun G hG=>?_
  unfold iB at hG;obtain ⟨a,h1,rfl⟩:=yl.mp hG;rw [xq];refine jk fun m hm=>?_
  obtain ⟨k1,k2⟩:=yz.mp hm;have k3:=of_decide_eq_true k2;show du ts m n _<=_
  rw [<- k3];exact nY (g:=fun m=>du ts m n (S.filter fun x=>decide (κ x=κ m))) k1
 .refine jk fun m hm=>?_
  have hG:(S.filter fun x=>decide (κ x=κ m))∈iB κ S:=by
   obtain ⟨a,h1,h2⟩:=yl.mp (Fg κ S [] m (.inl hm));exact yl.mpr ⟨a,h1,by rw [h2]⟩
  have:=nY (g:=ky ts n) hG;rw [xq] at this;have h2:=nY (g:=fun m'=>du ts m' n (S.filter fun x=>decide (κ x=κ m))) (l:=S.filter fun x=>decide (κ x=κ m)) (yz.mpr ⟨hm,v6 rfl⟩);exact vT h2 this
end Mi
namespace eQ
open PySem L2 Mi
def T:Tx:=⟨NB,[("MOST_THINGS",.int 6),("MOST_SETTINGS",.int 4),("MOST_ROWS",.int 400),("MOST_BANS",.int 12),("MOST_IN_MEETING",.int 3)]⟩
noncomputable def tH:Def:=⟨3,3,[.ret (.and [.isin (.var 0) .int,.not (.isin (.var 0) .bool),.chain .le .le (.var 1) (.var 0) (.var 2)])],true⟩
noncomputable def uz:Def:=⟨3,3,[.ret (.and [.isin (.var 0) .tuple,.chain .le .le (.var 1) (.blt .len [.var 0]) (.var 2)])],true⟩
noncomputable def o8:Def:=⟨1,3,[.ifs (.not (.call 1 [.var 0,.con (.int 1),.con (.int 6)])) [.ret (.con (.bl false))] [],.set (.one 1) (.con (.int 1)),.a_ (.one 2) .seq [.var 0] [.ifs (.not (.call 0 [.var 2,.con (.int 1),.con (.int 4)])) [.ret (.con (.bl false))] [],.set (.one 1) (.bin .mul (.var 1) (.var 2))],.ret (.cmp .le (.var 1) (.con (.int 400)))],true⟩
noncomputable def oM:Def:=⟨2,2,[.ifs (.or [.not (.call 1 [.var 1,.con (.int 2),.con (.int 2)]),.not (.call 0 [.ix (.var 1) (.con (.int 0)),.con (.int 0),.bin .sub (.blt .len [.var 0]) (.con (.int 1))])]) [.ret (.con (.bl false))] [],.ret (.call 0 [.ix (.var 1) (.con (.int 1)),.con (.int 0),.bin .sub (.ix (.var 0) (.ix (.var 1) (.con (.int 0)))) (.con (.int 1))])],true⟩
noncomputable def oX:Def:=⟨2,4,[.ifs (.not (.call 1 [.var 1,.con (.int 1),.con (.int 3)])) [.ret (.con (.bl false))] [],.set (.one 2) (.con (.int 0)),.a_ (.one 3) .seq [.var 1] [.ifs (.or [.not (.call 3 [.var 0,.var 3]),.cmp .lt (.ix (.var 3) (.con (.int 0))) (.var 2)]) [.ret (.con (.bl false))] [],.set (.one 2) (.bin .add (.ix (.var 3) (.con (.int 0))) (.con (.int 1)))],.ret (.con (.bl true))],true⟩
noncomputable def uZ:Def:=⟨1,2,[.ifs (.or [.not (.call 1 [.var 0,.con (.int 2),.con (.int 2)]),.not (.call 2 [.ix (.var 0) (.con (.int 0))]),.not (.call 1 [.ix (.var 0) (.con (.int 1)),.con (.int 0),.con (.int 12)])]) [.ret (.con (.bl false))] [],.ret (.blt .all [.comp (.call 4 [.ix (.var 0) (.con (.int 0)),.var 1]) (.one 1) .seq [.ix (.var 0) (.con (.int 1))] false (.con (.bl true)) [true,false]])],true⟩
noncomputable def vB:Def:=⟨1,1,[.ifs (.not (.call 5 [.var 0])) [.r9] [],.ret (.var 0)],true⟩
noncomputable def Cp:Def:=⟨2,3,[.ret (.blt .all [.comp (.cmp .eq (.ix (.var 0) (.ix (.var 2) (.con (.int 0)))) (.ix (.var 2) (.con (.int 1)))) (.one 2) .seq [.var 1] false (.con (.bl true)) [true,false,false]])],true⟩
noncomputable def rP:Def:=⟨2,3,[.ret (.blt .any [.comp (.call 7 [.var 0,.var 2]) (.one 2) .seq [.var 1] false (.con (.bl true)) [true,false,false]])],true⟩
noncomputable def tX:Def:=⟨1,6,[.set (.one 1) (.lst [.tup []]),.a_ (.one 2) .seq [.var 0] [.set (.one 3) (.lst []),.a_ (.one 4) .seq [.var 1] [.ext 3 (.comp (.bin .add (.var 4) (.tup [.var 5])) (.one 5) .jS [.var 2] false (.con (.bl true)) [false,false,false,false,true,false])],.set (.one 1) (.var 3)],.ret (.var 1)],true⟩
noncomputable def rF:Def:=⟨1,2,[.expr (.call 6 [.var 0]),.ret (.comp (.var 1) (.one 1) .seq [.call 9 [.ix (.var 0) (.con (.int 0))]] true (.not (.call 8 [.var 1,.ix (.var 0) (.con (.int 1))])) [true,false])],true⟩
noncomputable def zu:Def:=⟨2,4,[.ifs (.not (.call 1 [.var 1,.blt .len [.var 0],.blt .len [.var 0]])) [.ret (.con (.bl false))] [],.ret (.blt .all [.comp (.call 0 [.var 2,.con (.int 0),.bin .sub (.var 3) (.con (.int 1))]) (.two 2 3) .zip [.var 1,.var 0] false (.con (.bl true)) [false,false,false,false]])],true⟩
noncomputable def vq:Def:=⟨2,2,[.ret (.and [.call 11 [.ix (.var 0) (.con (.int 0)),.var 1],.not (.call 8 [.var 1,.ix (.var 0) (.con (.int 1))])])],true⟩
noncomputable def mC:Def:=⟨2,2,[.r9],false⟩
noncomputable def uJ:List XS:=[.lam 12]
noncomputable def jG:Def:=⟨1,1,[.ret (.blt .min2 [.con (.int 3),.blt .len [.ix (.var 0) (.con (.int 0))]])],true⟩
noncomputable def dX:Def:=⟨2,2,[.expr (.call 6 [.var 0]),.ifs (.not (.call 0 [.var 1,.con (.int 1),.call 14 [.var 0]])) [.r9] []],true⟩
noncomputable def pY:Def:=⟨2,2,[.ret (.or [.cmp .eq (.blt .len [.var 1]) (.con (.int 0)),.cmp .lt (.ix (.ix (.var 1) (.neg (.con (.int 1)))) (.con (.int 0))) (.ix (.var 0) (.con (.int 0)))])],true⟩
noncomputable def jt:Def:=⟨2,7,[.set (.one 2) (.lst [.tup []]),.a_ (.one 3) .jS [.var 1] [.set (.one 4) (.lst []),.a_ (.one 5) .seq [.var 2] [.ext 4 (.comp (.bin .add (.var 5) (.tup [.var 6])) (.one 6) .seq [.var 0] true (.call 16 [.var 6,.var 5]) [false,false,false,false,false,true,false])],.set (.one 2) (.var 4)],.ret (.var 2)],true⟩
noncomputable def mK:Def:=⟨2,2,[.ret (.call 17 [.blt .bg [.var 0],.var 1])],true⟩
noncomputable def yX:Def:=⟨2,5,[.set (.one 2) .ft,.a_ (.one 3) .seq [.var 0] [.a_ (.one 4) .seq [.call 18 [.var 3,.var 1]] [.eh 2 (.var 4) (.con (.bl true))]],.ret (.var 2)],true⟩
noncomputable def tO:Def:=⟨2,2,[.expr (.call 15 [.var 0,.var 1]),.ret (.blt .sorted [.call 19 [.call 10 [.var 0],.var 1]])],true⟩
noncomputable def pZ:Def:=⟨3,3,[.expr (.call 15 [.var 0,.var 1]),.expr (.call 13 [.var 0,.var 2])],true⟩
noncomputable def iw:Def:=⟨2,6,[.set (.one 2) .ft,.um 2 (.a_ (.two 3 4) .enum [.var 0] (.a_ (.one 5) .seq [.call 18 [.var 4,.var 1]] (.mz (.var 5) (.var 3)))),.ret (.var 2)],true⟩
noncomputable def mQ:Def:=⟨2,3,[.ifs (.or [.not (.isin (.var 1) .list),.cmp .ne (.blt .len [.var 1]) (.blt .len [.var 0])]) [.ret (.con (.bl false))] [],.ret (.blt .all [.comp (.isin (.var 2) .bool) (.one 2) .seq [.var 1] false (.con (.bl true)) [false,false,false]])],true⟩
noncomputable def ur:Def:=⟨4,9,[.expr (.call 21 [.var 0,.var 1,.var 2]),.ifs (.not (.call 23 [.var 2,.var 3])) [.r9] [],.set (.one 4) (.call 22 [.var 2,.var 1]),.set (.one 5) (.comp (.var 6) (.two 6 7) .enum [.var 3] true (.not (.var 7)) [false,false,false,false,false,false,false,false,false]),.ret (.comp (.var 8) (.one 8) .seq [.call 20 [.var 0,.var 1]] true (.cmp .eq (.hV (.var 4) (.var 8) (.lst [])) (.var 5)) [false,false,false,false,true,true,false,false,false])],true⟩
noncomputable def pq:Def:=⟨2,6,[.r9],false⟩
noncomputable def uQ:List XS:=[.Ff]
noncomputable def rE:Def:=⟨4,7,[.set (.one 4) (.call 24 [.var 0,.var 1,.var 2,.var 3]),.set (.one 5) (.call 10 [.var 0]),.set (.one 6) (.call 25 [.var 4,.call 22 [.var 5,.var 1]]),.ret (.ite (.cmp .pw (.var 6) (.con .ai)) (.con .ai) (.ix (.var 5) (.var 6)))],true⟩
noncomputable def iD:Def:=⟨3,6,[.set (.one 3) (.call 22 [.var 2,.var 1]),.set (.one 4) .ft,.um 4 (.a_ (.one 5) .seq [.call 20 [.var 0,.var 1]] (.mz (.blt .tuple [.hV (.var 3) (.var 5) (.lst [])]) (.var 5))),.ret (.vals 4)],true⟩
noncomputable def yV:Def:=⟨2,6,[.set (.one 2) (.lst []),.a_ (.one 3) .seq [.var 0] [.set (.one 4) (.call 25 [.var 3,.var 1]),.ifs (.cmp .iS (.var 4) (.con .ai)) [.app 2 (.comp (.var 5) (.one 5) .seq [.var 3] true (.cmp .AQ (.var 4) (.ix (.var 1) (.var 5))) [false,true,false,false,true,false]),.app 2 (.comp (.var 5) (.one 5) .seq [.var 3] true (.cmp .i8 (.var 4) (.ix (.var 1) (.var 5))) [false,true,false,false,true,false])] []],.ret (.var 2)],true⟩
noncomputable def mU:Def:=⟨3,6,[.expr (.call 21 [.var 0,.var 1,.var 2]),.set (.one 3) (.call 22 [.call 10 [.var 0],.var 1]),.set (.one 4) (.con (.int 0)),.set (.one 5) (.call 28 [.call 27 [.var 0,.var 1,.var 2],.var 3]),.uu (.cmp .gt (.blt .len [.var 5]) (.con (.int 0))) [.set (.one 4) (.bin .add (.var 4) (.con (.int 1))),.set (.one 5) (.call 28 [.var 5,.var 3])],.ret (.var 4)],true⟩
noncomputable def rH:Def:=⟨2,2,[.ifs (.cmp .lt (.var 1) (.blt .len [.var 0])) [.ret (.ix (.var 0) (.var 1))] [],.ret (.con (.int 0))],true⟩
noncomputable def tD:Def:=⟨3,3,[.ret (.bin .mod (.bin .mod (.bin .mul (.var 0) (.con (.int 48271))) (.var 1)) (.var 2))],true⟩
noncomputable def rN:Def:=⟨2,11,[.set (.one 2) (.call 30 [.var 0,.var 1]),.set (.one 3) (.bin .add (.con (.int 1)) (.call 31 [.var 2,.con (.int 9973),.con (.int 4)])),.set (.one 4) (.lst []),.a_ (.one 5) .jS [.var 3] [.set (.one 7) (.con (.int 2)),.ifs (.or [.cmp .lt (.var 5) (.con (.int 2)),.cmp .gt (.blt .len [.var 0]) (.con (.int 63))]) [.set (.one 7) (.con (.int 3))] [],.app 4 (.bin .add (.con (.int 1)) (.call 31 [.bin .add (.bin .add (.call 30 [.var 0,.bin .add (.var 1) (.con (.int 1))]) (.bin .mul (.bin .mul (.con (.int 31)) (.var 5)) (.var 5))) (.var 5),.con (.int 9967),.var 7]))],.set (.one 6) (.lst []),.a_ (.one 5) .jS [.call 31 [.var 2,.con (.int 9949),.con (.int 4)]] [.set (.one 8) (.bin .add (.bin .add (.call 30 [.var 0,.bin .add (.var 1) (.con (.int 2))]) (.bin .mul (.bin .mul (.con (.int 53)) (.var 5)) (.var 5))) (.bin .mul (.con (.int 7)) (.var 5))),.set (.one 9) (.sZ (.comp (.var 10) (.one 10) .jS [.var 3] true (.cmp .eq (.call 31 [.bin .add (.var 8) (.bin .mul (.con (.int 17)) (.var 10)),.con (.int 9941),.con (.int 2)]) (.con (.int 1))) [false,false,false,false,false,false,false,false,true,false,false]) (.con .ai) (.con (.int 3))),.ifs (.cmp .eq (.var 9) (.lst [])) [.set (.one 9) (.lst [.call 31 [.var 8,.con (.int 9931),.var 3]])] [],.app 6 (.blt .tuple [.comp (.tup [.var 10,.call 31 [.bin .add (.var 8) (.bin .mul (.con (.int 5)) (.var 10)),.con (.int 9929),.ix (.var 4) (.var 10)]]) (.one 10) .seq [.var 9] false (.con (.bl true)) [false,false,false,false,true,false,false,false,true,false,false]])],.ret (.tup [.blt .tuple [.var 4],.blt .tuple [.var 6]])],true⟩
noncomputable def rB:Def:=⟨1,6,[.set (.one 1) (.lst [.tup []]),.a_ (.one 2) .seq [.var 0] [.set (.one 3) (.lst []),.a_ (.one 4) .seq [.var 1] [.set (.one 3) (.bin .add (.var 3) (.comp (.bin .add (.var 4) (.tup [.var 5])) (.one 5) .jS [.var 2] false (.con (.bl true)) [false,false,false,false,true,false]))],.set (.one 1) (.var 3)],.ret (.var 1)],true⟩
noncomputable def oW:Def:=⟨2,3,[.ret (.cmp .eq (.comp (.var 2) (.one 2) .seq [.var 1] true (.cmp .ne (.ix (.var 0) (.ix (.var 2) (.con (.int 0)))) (.ix (.var 2) (.con (.int 1)))) [true,false,false]) (.lst []))],true⟩
noncomputable def oF:Def:=⟨1,4,[.set (.one 1) (.lst []),.a_ (.one 2) .seq [.call 33 [.ix (.var 0) (.con (.int 0))]] [.ifs (.cmp .eq (.comp (.var 3) (.one 3) .seq [.ix (.var 0) (.con (.int 1))] true (.call 34 [.var 2,.var 3]) [false,false,true,false]) (.lst [])) [.app 1 (.var 2)] []],.ret (.var 1)],true⟩
noncomputable def jK:Def:=⟨2,8,[.set (.one 2) .ft,.a_ (.one 3) .seq [.call 33 [.ix (.var 0) (.con (.int 0))]] [.set (.one 4) (.lst [.tup []]),.a_ (.two 5 6) .enum [.var 3] [.set (.one 4) (.bin .add (.var 4) (.comp (.bin .add (.var 7) (.tup [.tup [.var 5,.var 6]])) (.one 7) .seq [.var 4] false (.con (.bl true)) [false,false,false,false,false,true,true,false]))],.a_ (.one 7) .seq [.var 4] [.ifs (.cmp .eq (.blt .len [.var 7]) (.var 1)) [.eh 2 (.var 7) (.con (.bl true))] []]],.ret (.blt .sorted [.var 2])],true⟩
noncomputable def jT:Def:=⟨2,6,[.set (.one 2) (.call 35 [.var 0]),.set (.one 3) (.lst []),.a_ (.one 4) .seq [.call 36 [.var 0,.var 1]] [.ifs (.cmp .ne (.comp (.var 5) (.one 5) .seq [.var 2] true (.call 34 [.var 5,.var 4]) [false,false,false,false,true,false]) (.lst [])) [.app 3 (.var 4)] []],.ret (.var 3)],true⟩
noncomputable def jD:Def:=⟨4,7,[.set (.one 4) (.call 35 [.var 2]),.set (.one 5) (.lst []),.ifs (.cmp .ne (.var 4) (.lst [])) [.a_ (.one 6) .jS [.call 31 [.call 30 [.var 0,.var 1],.con (.int 9923),.bin .add (.var 3) (.con (.int 1))]] [.app 5 (.ix (.var 4) (.call 31 [.bin .add (.bin .add (.call 30 [.var 0,.var 1]) (.bin .mul (.bin .mul (.con (.int 29)) (.var 6)) (.var 6))) (.var 6),.con (.int 9907),.blt .len [.var 4]]))]] [],.ret (.var 5)],true⟩
noncomputable def jL:Def:=⟨2,2,[.ret (.blt .min2 [.ix (.lst [.con (.int 2),.con (.int 2),.con (.int 1),.con (.int 3)]) (.bin .mod (.var 1) (.con (.int 4))),.blt .len [.ix (.var 0) (.con (.int 0))]])],true⟩
noncomputable def rK:Def:=⟨2,7,[.set (.one 2) (.con .ai),.a_ (.one 3) .seq [.var 1] [.set (.one 4) (.blt .len [.comp (.var 6) (.one 6) .seq [.var 0] true (.call 34 [.var 3,.var 6]) [false,false,false,true,false,false,false]]),.set (.one 5) (.blt .max2 [.var 4,.bin .sub (.blt .len [.var 0]) (.var 4)]),.ifs (.and [.cmp .lt (.var 5) (.blt .len [.var 0]),.or [.cmp .pw (.var 2) (.con .ai),.cmp .lt (.var 5) (.ix (.var 2) (.con (.int 0)))]]) [.set (.one 2) (.tup [.var 5,.var 3])] []],.ifs (.cmp .pw (.var 2) (.con .ai)) [.ret (.con .ai)] [],.ret (.ix (.var 2) (.con (.int 1)))],true⟩
noncomputable def KQ:Def:=⟨1,17,[.set (.one 1) (.call 32 [.var 0,.con (.int 2)]),.set (.one 1) (.tup [.sZ (.ix (.var 1) (.con (.int 0))) (.con .ai) (.con (.int 3)),.blt .tuple [.comp (.var 16) (.one 16) .seq [.ix (.var 1) (.con (.int 1))] true (.cmp .lt (.ix (.ix (.var 16) (.neg (.con (.int 1)))) (.con (.int 0))) (.con (.int 3))) [false,false,false,false,false,false,false,false,false,false,false,false,false,false,false,false,false]]]),.set (.one 2) (.call 39 [.var 1,.call 30 [.var 0,.con (.int 0)]]),.set (.one 3) (.call 38 [.var 0,.con (.int 5),.var 1,.con (.int 3)]),.set (.one 4) (.call 35 [.var 1]),.set (.one 5) (.call 37 [.var 1,.var 2]),.ifs (.cmp .eq (.var 5) (.lst [])) [.ret (.and [.cmp .pw (.call 26 [.var 1,.var 2,.lst [],.lst []]) (.con .ai),.cmp .eq (.call 29 [.var 1,.var 2,.lst []]) (.con (.int 0))])] [],.set (.one 6) (.ix (.var 5) (.bin .mod (.call 30 [.var 0,.con (.int 1)]) (.blt .len [.var 5]))),.set (.one 7) (.comp (.not (.call 34 [.var 14,.var 6])) (.one 14) .seq [.var 3] false (.con (.bl true)) [false,false,false,false,false,false,true,false,false,false,false,false,false,false,false,false,false]),.set (.one 8) (.comp (.var 10) (.one 10) .seq [.var 5] true (.cmp .eq (.comp (.not (.call 34 [.var 14,.var 10])) (.one 14) .seq [.var 3] false (.con (.bl true)) [false,false,false,false,false,false,false,false,false,false,true,false,false,false,false,false,false]) (.var 7)) [false,false,false,true,false,false,false,true,false,false,false,false,false,false,false,false,false]),.ifs (.cmp .ne (.call 26 [.var 1,.var 2,.var 3,.var 7]) (.call 40 [.var 8,.var 4])) [.ret (.con (.bl false))] [],.set (.one 9) (.con (.int 0)),.a_ (.one 10) .seq [.var 5] [.set (.one 11) (.comp (.call 34 [.var 14,.var 10]) (.one 14) .seq [.var 3] false (.con (.bl true)) [false,false,false,false,false,false,false,false,false,false,true,false,false,false,false,false,false]),.set (.one 12) (.comp (.var 15) (.one 15) .seq [.var 5] true (.cmp .eq (.comp (.call 34 [.var 14,.var 15]) (.one 14) .seq [.var 3] false (.con (.bl true)) [false,false,false,false,false,false,false,false,false,false,false,false,false,false,false,true,false]) (.var 11)) [false,false,false,true,false,false,false,false,false,false,false,true,false,false,false,false,false]),.set (.one 13) (.con (.int 0)),.set (.one 14) (.call 40 [.var 12,.var 4]),.uu (.cmp .iS (.var 14) (.con .ai)) [.set (.one 13) (.bin .add (.var 13) (.con (.int 1))),.set (.one 12) (.comp (.var 15) (.one 15) .seq [.var 12] true (.cmp .eq (.call 34 [.var 14,.var 15]) (.call 34 [.var 14,.var 10])) [false,false,false,false,false,false,false,false,false,false,true,false,false,false,true,false,false]),.set (.one 14) (.call 40 [.var 12,.var 4])],.set (.one 9) (.blt .max2 [.var 9,.var 13])],.ret (.cmp .eq (.call 29 [.var 1,.var 2,.var 3]) (.var 9))],true⟩
def tab:List Def:=[tH,uz,o8,oM,oX,uZ,vB,Cp,rP,tX,rF,zu,vq,mC,jG,dX,pY,jt,mK,yX,tO,pZ,iw,mQ,ur,pq,rE,iD,yV,mU,rH,tD,rN,rB,oW,oF,jK,jT,jD,jL,rK,KQ]
def aD:mJ:=[(13,uJ),(25,uQ)]
variable {n:Nat}{d:Def}{args:List D}
def bB {f:Nat} (ht:tab[f]?=some d) (hl:args.length=d.np) (hn:d.D6=true:=by rfl) (hx:aD.lookup f=none:=by rfl):au tab aD (n+1) f args=oR (bI (au tab aD n) d.body (args.map some++List.replicate (d.nn - d.np) none)):=R6 hx ht hl hn
def QJ {f:Nat}{b:List XS} (ht:tab[f]?=some d) (hx:aD.lookup f=some b) (hl:args.length=d.np):au tab aD (n+1) f args=jN (Ae (au tab aD n) b (args.map some++List.replicate (d.nn - d.np) none)):=Oe hx ht hl
theorem Ml:tab[0]?=some tH:=rfl
theorem Mg:tab[1]?=some uz:=rfl
theorem GF:tab[2]?=some o8:=rfl
theorem GJ:tab[3]?=some oM:=rfl
theorem Hl:tab[4]?=some oX:=rfl
theorem Od:tab[5]?=some uZ:=rfl
theorem Nu:tab[6]?=some vB:=rfl
theorem Xh:tab[7]?=some Cp:=rfl
theorem Ji:tab[8]?=some rP:=rfl
theorem KR:tab[9]?=some tX:=rfl
theorem Jl:tab[10]?=some rF:=rfl
theorem Rg:tab[11]?=some zu:=rfl
theorem MP:tab[12]?=some vq:=rfl
theorem Eb:tab[13]?=some mC:=rfl
theorem Ef:aD.lookup 13=some uJ:=rfl
theorem Bm:tab[14]?=some jG:=rfl
theorem nO:tab[15]?=some dX:=rfl
theorem Jb:tab[16]?=some pY:=rfl
theorem yS:tab[17]?=some jt:=rfl
theorem DR:tab[18]?=some mK:=rfl
theorem Rx:tab[19]?=some yX:=rfl
theorem Ms:tab[20]?=some tO:=rfl
theorem Jf:tab[21]?=some pZ:=rfl
theorem uM:tab[22]?=some iw:=rfl
theorem Ej:tab[23]?=some mQ:=rfl
theorem Mr:tab[24]?=some ur:=rfl
theorem Gx:tab[25]?=some pq:=rfl
theorem HY:aD.lookup 25=some uQ:=rfl
theorem Im:tab[26]?=some rE:=rfl
theorem vm:tab[27]?=some iD:=rfl
theorem Q0:tab[28]?=some yV:=rfl
theorem Ea:tab[29]?=some mU:=rfl
theorem Jo:tab[30]?=some rH:=rfl
theorem K7:tab[31]?=some tD:=rfl
theorem Io:tab[32]?=some rN:=rfl
theorem Iv:tab[33]?=some rB:=rfl
theorem GK:tab[34]?=some oW:=rfl
theorem FT:tab[35]?=some oF:=rfl
theorem Ax:tab[36]?=some jK:=rfl
theorem Bf:tab[37]?=some jT:=rfl
theorem Fv:tab[38]?=some jD:=rfl
theorem Ai:tab[39]?=some jL:=rfl
theorem Jp:tab[40]?=some rK:=rfl
theorem AC:tab[41]?=some KQ:=rfl
def ID (i:Nat):zk:=(IJ i).2.1
def MY (i:Nat):zk:=ID i++(IJ i).2.2
def AT:((List.range 42).all fun i=>(aD.lookup i).isSome || (match tab[i]? with | some d=>vY T d (MY i) (ID i) (An i) | none=>false))=true:=by decide +kernel
variable {i:Nat}
def P1 (h:i < 42) (hx:aD.lookup i=none) (ht:tab[i]?=some d):vY T d (MY i) (ID i) (An i)=true:=by
 have:=yv.mp AT i (yA.mpr h);rw [hx,ht] at this;exact this
def Ch (st:Stmt) (ps:zk):Prop:=∀ (x:Str) (kV doc pm:Value) (an:zv) (cdv ct:Value) (us:zg),us.length=ps.length->bindArgs (PySem.W.fnOf x x (eE st) (cT st) (aM st) .none kV doc pm an cdv ct) ⟨us,[]⟩=pure (ps.zip us)
def MZ:∀ i,i < 42->Ch (An i) (ID i):=by
 intro i h
 iterate 42
  rcases i with _ | i
  .first | exact fun _ _ _ _ _ _ _=>YE fun _=>rfl | exact fun _ _ _ _ _ _ _=>PD fun _ _=>rfl | exact fun _ _ _ _ _ _ _=>YI fun _ _ _=>rfl | exact fun _ _ _ _ _ _ _=>YN fun _ _ _ _=>rfl
 omega
def pr {K:zd}{h:Heap}{mg:Str -> Option Value} (X:K.In h) (G:h.Ns mainGlobals mg) (fa:∀ i,i < 43 -> FF K (FH.getD i "law") (An i)) (hg:TY T.gl K=true) (hb:L5 K=true):BH T tab aD K mg:=by
 refine ⟨YA X G hb,fun x d=>X_ X G hg,fun f x e=>?_⟩;have hf:f < 42:=(yi.mp e).1;cases hx:aD.lookup f with
 | none =>
  have F:FF K x (An f):=by
   have:=fa f (by omega);rw [List.getD_eq_getElem?_getD,show FH[f]?=some x from (List.getElem?_append_left hf).trans e] at this;exact this
  obtain ⟨a,fd,e',F,_⟩:=F.ex;exact ⟨_,_,_,_,a,fd,List.getElem?_eq_getElem hf,F,PySem.W.mg_of X G e',F.binds (MZ f hf x),P1 hf hx (List.getElem?_eq_getElem hf)⟩
 | some b =>
  have hm:=MK hx;simp only [aD,List.mem_cons,Prod.mk.injEq,List.not_mem_nil,or_false] at hm;rcases hm with ⟨rfl,rfl⟩ | ⟨rfl,rfl⟩ <;> cases e
  .exact Zc (T:=T) (tab:=tab) (xt:=aD) (d:=mC) (q:=12) X G (fa 13 (by decide)) (fa 42 (by decide)) rfl rfl rfl rfl rfl rfl rfl rfl rfl (MZ 13 (by decide) _) (fun _ _ _ _ _ _=>PD fun _ _=>rfl)
  .exact xz (T:=T) (tab:=tab) (xt:=aD) (d:=pq) X G (fa 25 (by decide)) rfl rfl rfl (by decide +kernel) (by decide +kernel) (by decide +kernel) (by decide +kernel) (by decide +kernel) rfl rfl rfl rfl rfl (MZ 25 (by decide) _)
def M0:Lean.MacroM (Array (Lean.TSyntax `Lean.Parser.Tactic.simpLemma)):=("qO qP qq qQ qF qG qr qu qv qR qw qx qy qz wA wB wC wD wE wF wG qH wH wg wI wJ wj wK qS qT wL qU qV qW qI qX qJ wM qY wk wl qZ qK qL wN wO wP wQ wR wS wm wn wo wq ^wT ^wU zL zM zN zO zP qa wV wr qb qd qC qM qf qg qh qi bx bF wt wu wv ww wx wy wz zQ zR zS zT zU zV wW wX wY if_true zA zB zY if_false qD qj qN qE qA qB qk zC zD zE zF zG zH wZ wa wb wc wd zW zX zI zJ qm zK we wf qp bC bD".splitOn " ").toArray.mapM fun s=>if s.startsWith "^" then `(Lean.Parser.Tactic.simpLemma| ↓$(Lean.mkIdent (.mkSimple (s.drop 1).toString)):ident) else `(Lean.Parser.Tactic.simpLemma| $(Lean.mkIdent s.toName):ident)
local macro_rules | `(tactic| simpa only [$xs,*])=>do let ys<-M0;`(tactic| simp only [$ys:simpLemma,*,$xs,*])
local macro_rules | `(tactic| simpa [$xs,*])=>do let ys<-M0;`(tactic| simp [$ys:simpLemma,*,$xs,*])
local macro_rules | `(tactic| simpa only [] using $h:ident)=>do let ys<-M0;`(tactic| simp only [$ys:simpLemma,*] at $h:ident)
def nF (x a b:Int):au tab aD (n+1) 0 [.int x,.int a,.int b]=.ok (.bl (decide (a<=x) && decide (x<=b))):=by
 rw [bB Ml rfl];delta tH;simpa only [];by_cases h:a<=x <;> by_cases h2:x<=b <;> simpa only [h,h2,decide_true,decide_false,Bool.and_true,Bool.and_false,Bool.and_self,qZ]
def j8 (ds:List D) (a b:Int):au tab aD (n+1) 1 [.tup ds,.int a,.int b]=.ok (.bl (decide (a<=ds.length) && decide ((ds.length:Int)<=b))):=by
 rw [bB Mg rfl];delta uz;simpa only [mR];by_cases h:a<=ds.length <;> by_cases h2:(ds.length:Int)<=b <;> simpa only [h,h2,decide_true,decide_false,Bool.and_true,Bool.and_false,Bool.and_self,qZ]
def sS (r:zi) (a b:Int):au tab aD (n+1) 1 [ao r,.int a,.int b]=.ok (.bl (decide (a<=r.length) && decide ((r.length:Int)<=b))):=by
 have:=j8 (n:=n) (r.map eN) a b;rw [List.length_map] at this;exact this
def Ge (r:ag) (a b:Int):au tab aD (n+1) 1 [eM r,.int a,.int b]=.ok (.bl (decide (a<=r.length) && decide ((r.length:Int)<=b))):=by
 have:=j8 (n:=n) (r.map eP) a b;rw [List.length_map] at this;exact this
def Ed (r:List ag) (a b:Int):au tab aD (n+1) 1 [EV r,.int a,.int b]=.ok (.bl (decide (a<=r.length) && decide ((r.length:Int)<=b))):=by
 have:=j8 (n:=n) (r.map eM) a b;rw [List.length_map] at this;exact this
def Hr (p:Nat × Nat):au tab aD (n+1) 1 [eP p,.int 2,.int 2]=.ok (.bl true):=j8 (n:=n) [eN p.1,eN p.2] 2 2
def HS (lv:zi) (bs:List ag):au tab aD (n+1) 1 [eB lv bs,.int 2,.int 2]=.ok (.bl true):=j8 (n:=n) [ao lv,EV bs] 2 2
def Ql {x:Nat} (h:x<=1000000):jJ (x:Int)=true:=Nat.ble_eq_true_of_le (by omega)
def Gg (lv:zi) (h1:1<=lv.length) (h6:lv.length<=6) (hl:∀ l∈lv,1<=l/\l<=4):au tab aD (n+2) 2 [ao lv]=.ok (.bl (decide (prod lv<=400))):=by
 rw [bB GF rfl];delta o8;simpa only [sS,decide_eq_true (show (1:Int)<=lv.length by omega),decide_eq_true (show (lv.length:Int)<=6 by omega),Bool.and_self];rw [bind_eq (a:=.nx [some (ao lv),some (.int (prod lv:Nat)),none])]
 .simpa only [];congr 2;by_cases h:prod lv<=400
  .rw [decide_eq_true h,decide_eq_true (by omega)]
  .rw [decide_eq_false h,decide_eq_false (by omega)]
 .refine rD eN (fun a:Nat=>[some (ao lv),some (.int (a:Int)),none]) (fun a l=>a * l) (fun _=>True) lv (fun a l Db _=>⟨trivial,?_⟩) 1 trivial;have:=hl l Db;have hmul:je .mul (.int (a:Int)) (.int (l:Int))=.ok (.int ((a:Int) * (l:Int))):=Em (.inr (Ql (by omega)));simpa only [nF,decide_eq_true (show (1:Int)<=l by omega),decide_eq_true (show (l:Int)<=4 by omega),Bool.and_self,hmul];exact ⟨_,rfl,by simp [aP]⟩
variable {lv:zi}{l:Nat}
def Ik {p:Nat × Nat} (h1:lv[p.1]?=some l) (h2:p.2 < l):au tab aD (n+2) 3 [ao lv,eP p]=.ok (.bl true):=by
 have bj:p.1 < lv.length:=(yi.mp h1).1;rw [bB GJ rfl];delta oM;simpa only [Hr,nF,G6 h1,decide_eq_true (show (0:Int)<=p.1 by omega),decide_eq_true (show (p.1:Int)<=lv.length - 1 by omega),decide_eq_true (show (0:Int)<=p.2 by omega),decide_eq_true (show (p.2:Int)<=l - 1 by omega),Bool.and_self]
variable {m:ag}
def Fj (h:oV lv m) (h1:1<=m.length) (h3:m.length<=3):au tab aD (n+3) 4 [ao lv,eM m]=.ok (.bl true):=by
 rw [bB Hl rfl];delta oX;simpa only [Ge,decide_eq_true (show (1:Int)<=m.length by omega),decide_eq_true (show (m.length:Int)<=3 by omega),Bool.and_self];rw [bind_eq (a:=.nx [some (ao lv),some (eM m),some (.int (m.foldl (fun _ p=>p.1+1) 0:Nat)),none])]
 .simpa only []
 .refine cB eP (fun a:Nat=>[some (ao lv),some (eM m),some (.int (a:Int)),none]) (fun _ p=>p.1+1) (fun b rest=>dW rest/\∀ q∈rest,b<=q.1/\∃ l,lv[q.1]?=some l/\q.2 < l) (fun b p rest hp=>?_) m 0 ⟨h.1,fun q hq=>⟨v3 _,h.2 q hq⟩⟩;obtain ⟨hr,hq⟩:=hp;unfold dW at hr;rw [List.pairwise_cons] at hr;obtain ⟨hb,l,hl,bj⟩:=hq p vj;refine ⟨⟨hr.2,fun q Cf=>⟨by have:=hr.1 q Cf;omega,(hq q (vi _ Cf)).2⟩⟩,?_⟩;simpa only [Ik hl bj,decide_eq_false (show ¬ ((p.1:Int) < b) by omega)];exact ⟨_,rfl,by simp [aP]⟩
variable {bs:List ag}
def WB.iN (h:WB lv bs):∀ l∈lv,1<=l/\l<=4:=fun l hl=>by
 obtain ⟨i,hi⟩:=List.mem_iff_getElem?.mp hl;have:=h.HR i l hi;omega
def Oi (h:WB lv bs):au tab aD (n+4) 5 [eB lv bs]=.ok (.bl true):=by
 have f:=kJ lv h.mem;have h1:=h.one;have h4:=h.four;have hb:=h.nb;rw [bB Od rfl];delta uZ;simpa only [HS,Ed,Gg lv h.one (by omega) (WB.iN h),decide_eq_true (show prod lv<=400 by omega),decide_eq_true (show (0:Int)<=bs.length by omega),decide_eq_true (show (bs.length:Int)<=12 by omega),Bool.and_self];rw [bind_eq (a:=bs.map fun _=>D.bl true)]
 .simpa only [List.length_map,if_pos (show bs.length<=lim by unfold lim;omega)];rw [bind_eq (Eu (fun _=>true) bs)];simp [oR]
 .refine cR bs fun b pj=>?_
  obtain ⟨q1,q2,q3⟩:=h.Bx b pj;simpa only [Fj q1 q2 q3]
def Dy (h:WB lv bs):au tab aD (n+5) 6 [eB lv bs]=.ok (eB lv bs):=by
 rw [bB Nu rfl];delta vB;simpa only [Oi h]
variable {r:zi}
def Vu (h:∀ p∈m,p.1 < r.length) (hl:m.length<=lim):au tab aD (n+1) 7 [ao r,eM m]=.ok (.bl (aA r m)):=by
 rw [bB Xh rfl];delta Cp;simpa only [];rw [bind_eq (a:=m.map fun p=>D.bl (decide (r[p.1]?=some p.2)))]
 .simpa only [List.length_map,if_pos hl];rw [bind_eq (Eu (fun p:Nat × Nat=>decide (r[p.1]?=some p.2)) m)];rfl
 .refine cR m fun p hp=>?_
  obtain ⟨x,hx⟩:∃ x,r[p.1]?=some x:=⟨_,List.getElem?_eq_getElem (h p hp)⟩;simpa only [G6 hx,oH,hx,Option.some.injEq]
def yx (h:∀ b∈bs,(∀ p∈b,p.1 < r.length)/\b.length<=lim) (hl:bs.length<=lim):au tab aD (n+2) 8 [ao r,EV bs]=.ok (.bl (bs.any fun b=>aA r b)):=by
 rw [bB Ji rfl];delta rP;simpa only [];rw [bind_eq (a:=bs.map fun b=>D.bl (aA r b))]
 .simpa only [List.length_map,if_pos hl];rw [bind_eq (Y3 (fun b=>aA r b) bs)];rfl
 .refine cR bs fun b hb=>?_
  simpa only [Vu (h b hb).1 (h b hb).2]
theorem yC (rs:ze) (l:Nat):rs.flatMap (fun r=>(List.range l).map fun s=>r++[s])=bY rs l:=rfl
def xY {rs:ze} (h:1<=l):rs.length<=(bY rs l).length:=by
 rw [vW];exact Nat.le_mul_of_pos_right _ h
def sH (oB:zi) (rs:ze) (rest:zi):Prop:=rest.foldl bY rs=rows oB/\(∀ r∈rs,r.length+rest.length=oB.length)/\∀ l∈rest,1<=l
theorem sW:∀ (rest:zi) (rs:ze),(∀ l∈rest,1<=l)->rs.length<=(rest.foldl bY rs).length
 | [],rs,_=>vE _
 | l::rest,rs,h=>vT (xY (h l vj)) (sW rest _ fun x hx=>h x (vi _ hx))
def sH.step {oB rest:zi}{rs:ze} (h:sH oB rs (l::rest)):sH oB (bY rs l) rest/\(bY rs l).length<=prod oB:=by
 obtain ⟨h1,h2,h3⟩:=h;have h4:∀ x∈rest,1<=x:=fun x hx=>h3 x (vi _ hx)
 refine ⟨⟨h1,fun r hr=>?_,h4⟩,?_⟩
 .unfold bY at hr;obtain ⟨a,ha,hr⟩:=yy.mp hr;obtain ⟨s,_,rfl⟩:=yl.mp hr;have:=h2 a ha;simp only [List.length_cons,List.length_append,List.length_nil] at this ⊢;omega
 .have:=sW rest (bY rs l) h4;rw [<- uq,<- h1];exact this
theorem Mu (h1:∀ l∈lv,1<=l) (hp:prod lv<=lim) (hlen:lv.length<=lim) (hl:∀ l∈lv,l<=lim):au tab aD (n+1) 9 [ao lv]=.ok (.lst ((rows lv).map ao)):=by
 rw [bB KR rfl];delta tX;simpa only [if_pos (show 0<=lim from Nat.zero_le _),if_pos (show 1<=lim by decide)];rw [bind_eq (a:=.nx [some (ao lv),some (.lst ((rows lv).map ao)),none,none,none,none])]
 .simpa only []
 .refine cB eN (fun rs:ze=>[some (ao lv),some (.lst (rs.map ao)),none,none,none,none]) bY (fun rs rest=>sH lv rs rest/\∀ l∈rest,l<=lim) (fun rs l rest hi=>?_) lv [[]] ⟨⟨rfl,by simp,h1⟩,hl⟩;obtain ⟨hi,r_⟩:=hi;obtain ⟨hs,hsz⟩:=hi.step;have mE:∀ r∈rs,r.length < lim:=fun r hr=>by
   have:=hi.2.1 r hr;simp only [List.length_cons] at this;omega
  refine ⟨⟨hs,fun x hx=>r_ x (vi _ hx)⟩,?_⟩;simpa only [if_pos (show 0<=lim from Nat.zero_le _)];rw [bind_eq (a:=.nx [some (ao lv),some (.lst (rs.map ao)),some (eN l),some (.lst ((bY rs l).map ao)),none,none])]
  .simpa only [];exact ⟨_,rfl,by simp [aP]⟩
  .refine dU ao (fun acc:ze=>[some (ao lv),some (.lst (rs.map ao)),some (eN l),some (.lst (acc.map ao)),none,none]) (fun r=>(List.range l).map fun s=>r++[s]) lim rs (fun acc r hr hB=>?_) [] (by rw [yC,List.length_nil];omega);simpa only [iI l (r_ l List.mem_cons_self)];rw [bind_eq (a:=((List.range l).map fun s=>r++[s]).map ao)]
   .have BQ:=r_ l vj;simpa only [List.length_map,List.length_range,if_pos BQ];rw [bind_eq (Vj (enc:=ao) hB)];exact ⟨_,rfl,by simp [aP]⟩
   .rw [List.map_map];refine cR (List.range l) fun s hs=>?_
    simpa only [Ih (mE r hr),if_pos (show 1<=lim by decide)];rfl
def rC (h:WB lv bs):au tab aD (n+6) 10 [eB lv bs]=.ok (.lst ((ae lv bs).map ao)):=by
 have f:=kJ lv h.mem;have h4:=h.four;have hb:=h.nb;have bX:lim=100000:=rfl;rw [bB Jl rfl];delta rF;simpa only [Dy h,Mu (fun l hl=>(WB.iN h l hl).1) (show prod lv<=lim by omega) (show lv.length<=lim by omega) (fun l hl=>by have:=WB.iN h l hl;omega)];rw [bind_eq (a:=(ae lv bs).map ao)]
 .have:(ae lv bs).length<=lim:=by
   have h1:=yf (nG bs) (rows lv);rw [uq] at h1;unfold ae;omega
  simpa only [List.length_map,if_pos this]
 .refine aY (rows lv) fun r hr=>?_
  have az:=kE.mp hr;simpa only [yx (r:=r) (bs:=bs) (fun b pj=>⟨fun p hp=>by
   obtain ⟨l,e,_⟩:=(h.Bx b pj).1.2 p hp;rw [az.len];exact (yi.mp e).1,by have:=(h.Bx b pj).2.2;omega⟩) (by omega)]
  unfold nG;cases (bs.any fun b=>aA r b) <;> simpa []
def Af (lv:zi) (bs:List ag):au tab aD (n+1) 14 [eB lv bs]=.ok (.int (min 3 lv.length:Nat)):=by
 rw [bB Bm rfl];delta jG;simpa only [];congr 2;split <;> omega
variable {k:Nat}
def Jq (h:WB lv bs)  (h1:1<=k) (h3:k<=3) (hk:k<=lv.length):au tab aD (n+6) 15 [eB lv bs,.int k]=.ok .ai:=by
 rw [bB nO rfl];delta dX;simpa only [Dy h,Af,nF,decide_eq_true (show (1:Int)<=k by omega),decide_eq_true (show (k:Int)<=(min 3 lv.length:Nat) by omega),Bool.and_self]
def Iz (p:Nat × Nat) (m:ag):au tab aD (n+1) 16 [eP p,eM m]=.ok (.bl (behind m p)):=by
 rw [bB Jb rfl];delta pY;simpa only [];cases e:m.getLast? with
 | none =>
  rw [List.getLast?_eq_none_iff] at e;subst e;simp [behind,oR]
 | some q =>
  have hm:m≠[]:=fun z=>by subst z;simp at e
  have hl:¬ ((m.length:Int)=0):=fun z=>hm (List.length_eq_zero_iff.mp (by omega))
  simpa only [decide_eq_false hl,show (-(1:Int))=-1 from rfl,JR e];unfold behind;rw [e];simp only [bx];congr 2;by_cases h:q.1 < p.1
  .rw [decide_eq_true h,decide_eq_true (by omega)]
  .rw [decide_eq_false h,decide_eq_false (by omega)]
def yH {ps:List (Nat × Nat)} (hk:k<=3) (A1:ps.length<=16):au tab aD (n+2) 17 [.lst (ps.map eP),.int k]=.ok (.lst ((among ps k).map eM)):=by
 have bX:lim=100000:=rfl;have Fs:∀ j,j<=3->ps.length ^ j<=4096:=fun j hj=>by
  have h1:ps.length ^ j<=16 ^ j:=Nat.pow_le_pow_left A1 j;have h2:16 ^ j<=16 ^ 3:=Nat.pow_le_pow_right (by omega) hj;have h3:(16:Nat) ^ 3=4096:=by decide
  omega
 rw [bB yS rfl];delta jt;simpa only [if_pos (show 0<=lim from Nat.zero_le _),if_pos (show 0+1<=lim by decide),iI k (show k<=lim by omega)];rw [bind_eq (a:=.nx [some (.lst (ps.map eP)),some (.int (k:Int)),some (.lst ((among ps k).map eM)),none,none,none,none])]
 .simpa only []
 .refine (cB eN (fun j:Nat=>[some (.lst (ps.map eP)),some (.int (k:Int)),some (.lst ((among ps j).map eM)),none,none,none,none]) (fun j _=>j+1) (fun j rest=>j+rest.length=k) (fun j s rest hj=>?_) (List.range k) 0 (by simp)).trans ?_
  .simp only [List.length_cons] at hj;refine ⟨by omega,?_⟩;simpa only [if_pos (show 0<=lim from Nat.zero_le _)];have hla:=lW ps (j+1);have Fm:=Fs (j+1) (by omega);have hp0:=Fs j (by omega);have Ev:=lW ps j;rw [bind_eq (a:=.nx [some (.lst (ps.map eP)),some (.int (k:Int)),some (.lst ((among ps j).map eM)),some (.int (s:Int)),some (.lst ((among ps (j+1)).map eM)),none,none])]
   .simpa only [];exact ⟨_,rfl,by simp [aP]⟩
   .refine dU eM (fun acc:List ag=>[some (.lst (ps.map eP)),some (.int (k:Int)),some (.lst ((among ps j).map eM)),some (.int (s:Int)),some (.lst (acc.map eM)),none,none]) (fun m=>(ps.filter (behind m)).map fun p=>m++[p]) lim (among ps j) (fun acc m hm hB=>?_) [] (by
      show 0+(among ps (j+1)).length<=lim
      omega)
    simpa only [];rw [bind_eq (a:=((ps.filter (behind m)).map fun p=>m++[p]).map eM)]
    .have:(ps.filter (behind m)).length<=lim:=by
      have:=yf (behind m) ps;omega
     simpa only [List.length_map,if_pos this];rw [bind_eq (Vj (enc:=eM) hB)];exact ⟨_,rfl,by simp [aP]⟩
    .rw [List.map_map];refine aY ps fun p hp=>?_
     have DJ:m.length < lim:=by
      have:=(lZ.mp hm).1;omega
     simpa only [Iz,Mx DJ,if_pos (show 0+1<=lim by decide)];cases behind m p <;> simpa []
  .have e:∀ (l:zi) (a:Nat),l.foldl (fun j _=>j+1) a=a+l.length:=by
    intro l;induction l with
    | nil=>simp
    | cons x l ih=>intro a;simp [ih];omega
   rw [e,List.length_range,Nat.zero_add]
def uo (ts:ze) (k:Nat):List ag:=(ts.flatMap fun t=>among (aQ 0 t) k).foldl dw []
variable {ts:ze}
def Qu :m∈uo ts k↔m.length=k/\dW m/\∃ t∈ts,aA t m=true:=by
 unfold uo;rw [pO];simp only [List.not_mem_nil,false_or,List.mem_flatMap,kh];constructor
 .rintro ⟨t,ht,h1,h2,h3⟩;exact ⟨h1,h2,t,ht,h3⟩
 .rintro ⟨h1,h2,t,ht,h3⟩;exact ⟨t,ht,h1,h2,h3⟩
def Jc (ts:ze) (k:Nat):(uo ts k).Nodup:=rJ List.nodup_nil
variable {t:zi}
def uH (hk:k<=3) (hle:(aQ 0 t).length<=16):au tab aD (n+3) 18 [ao t,.int k]=.ok (.lst ((among (aQ 0 t) k).map eM)):=by
 rw [bB DR rfl];delta mK;simpa only [yH hk hle]
def Rq (hk:k<=3) (ht:∀ t∈ts,t.length<=6) (v_:ts.length<=400):au tab aD (n+4) 19 [.lst (ts.map ao),.int k]=.ok (eK (uo ts k)):=by
 have bX:lim=100000:=rfl;have EQ:∀ t∈ts,(among (aQ 0 t) k).length<=216:=fun t h=>by
  have h1:=lW (aQ 0 t) k;rw [gF] at h1;have h2:t.length ^ k<=6 ^ k:=Nat.pow_le_pow_left (ht t h) k;have h3:6 ^ k<=6 ^ 3:=Nat.pow_le_pow_right (by omega) hk;have h4:(6:Nat) ^ 3=216:=by decide
  omega
 rw [bB Rx rfl];delta yX;simpa only [];rw [bind_eq (a:=.nx [some (.lst (ts.map ao)),some (.int (k:Int)),some (eK (uo ts k)),none,none])]
 .simpa only []
 .refine (cB ao (fun ks:List ag=>[some (.lst (ts.map ao)),some (.int (k:Int)),some (eK ks),none,none]) (fun ks t=>(among (aQ 0 t) k).foldl dw ks) (fun ks rest=>(∀ t∈rest,t∈ts)/\ks.length+rest.length * 216<=86400) (fun ks t rest hp=>?_) ts [] ⟨fun _ h=>h,by simp only [List.length_nil];omega⟩).trans ?_
  .obtain ⟨kA,hsz⟩:=hp;have kK:=kA t vj;have IE:=EQ t kK;have sA:=vR (among (aQ 0 t) k) ks;simp only [List.length_cons,Nat.succ_mul] at hsz;refine ⟨⟨fun x hx=>kA x (vi _ hx),by omega⟩,?_⟩;have hle:(aQ 0 t).length<=16:=by rw [gF];have:=ht t kK;omega
   simpa only [uH hk hle];rw [bind_eq (a:=.nx [some (.lst (ts.map ao)),some (.int (k:Int)),some (eK ((among (aQ 0 t) k).foldl dw ks)),some (ao t),none])]
   .exact ⟨_,rfl,by simp [aP]⟩
   .refine cB eM (fun ks:List ag=>[some (.lst (ts.map ao)),some (.int (k:Int)),some (eK ks),some (ao t),none]) dw (fun ks rest=>ks.length+rest.length<=90000) (fun ks m rest hp=>?_) (among (aQ 0 t) k) ks (by omega);simp only [List.length_cons] at hp;have:=tu ks m;refine ⟨by omega,?_⟩;simpa only [];rw [bind_eq (Ou ks m (by omega))];exact ⟨_,rfl,by simp [aP]⟩
  .unfold uo;rw [List.foldl_flatMap]
def iG (h:WB lv bs):(ae lv bs).length<=36:=by
 have f:=kJ lv h.mem;have h1:=yf (nG bs) (rows lv);rw [uq] at h1;unfold ae;omega
def lV (ht:t∈ae lv bs):fP lv t:=kE.mp (yz.mp ht).1
def ji (h:WB lv bs):∀ t∈ae lv bs,t.length<=6:=fun t ht=>by
 rw [(lV ht).len];have:=h.four;omega
def vJ :m∈aB lv bs k↔m.length=k/\dW m/\∃ t∈ae lv bs,aA t m=true:=by
 unfold aB;rw [List.mem_filter,pD,List.any_eq_true];constructor
 .rintro ⟨⟨h1,h2⟩,h3⟩;exact ⟨h1,h2.1,h3⟩
 .rintro ⟨h1,h2,t,ht,h3⟩;exact ⟨⟨h1,Gh (lV ht) h2 h3⟩,t,ht,h3⟩
def uh (h:WB lv bs)  (h1:1<=k) (h3:k<=3):(allM lv k).length < 64:=by
 have f:=kJ lv h.mem;have:k=1\/k=2\/k=3:=by omega
 rcases this with rfl | rfl | rfl
 .exact f.2.2.1
 .exact f.2.2.2.1
 .exact f.2.2.2.2
def JL (h1:1<=k):∀ m∈allM lv k,m≠[]:=fun m hm z=>by
 have:=(pD.mp hm).1;subst z;simp at this;omega
def Ba (h:WB lv bs)  (h1:1<=k) (h3:k<=3) (hk:k<=lv.length):au tab aD (n+7) 20 [eB lv bs,.int k]=.ok (.lst ((aB lv bs k).map eM)):=by
 have hl:=iG h;have ha:=uh h h1 h3;rw [bB Ms rfl];have iF:gn (eK (uo (ae lv bs) k))=.ok (.lst ((aB lv bs k).map eM)):=by
  refine Ie (Jc _ _) ((yw lv k).filter _) (fun m=>?_) ?_ fun m hm=>JL h1 m (yz.mp hm).1
  .rw [Qu,vJ]
  .have:=yf (fun m=>(ae lv bs).any fun t=>aA t m) (allM lv k);unfold aB;omega
 delta tO;simpa only [Jq h h1 h3 hk,rC h,Rq h3 (ji h) (show (ae lv bs).length<=400 by omega),iF]
noncomputable def bH (ns:List Int) (k:Nat):Int:=ns.getD k 0
def lX (ns:List Int) (k:Nat):au tab aD (n+1) 30 [.lst (ns.map D.int),.int k]=.ok (.int (bH ns k)):=by
 rw [bB Jo rfl];delta rH;simpa only [];unfold bH;by_cases h:k < ns.length
 .have e:ns[k]?=some ns[k]:=List.getElem?_eq_getElem h;simpa only [decide_eq_true (show (k:Int) < ns.length by omega),Ca (enc:=D.int) e,List.getD,e,Option.getD]
 .simpa only [decide_eq_false (show ¬ ((k:Int) < ns.length) by omega),List.getD,List.getElem?_eq_none (Nat.le_of_not_lt h),Option.getD]
noncomputable def cC (c p m:Int):Nat:=(c * 48271 % p % m).toNat
variable {c p:Int}
def DG {m:Int} (hm:0 < m):((cC c p m:Nat):Int)=c * 48271 % p % m:=Int.toNat_of_nonneg (Int.emod_nonneg _ (by omega))
def jA {m:Int} (hm:0 < m):((cC c p m:Nat):Int) < m:=by rw [DG hm];exact Int.emod_lt_of_pos _ hm
def lG {m:Int} (hp:0 < p) (hm:0 < m):au tab aD (n+1) 31 [.int c,.int p,.int m]=.ok (.int (cC c p m:Nat)):=by
 rw [bB K7 rfl];have e:je .mul (.int c) (.int 48271)=.ok (.int (c * 48271)):=Em (.inr rfl);delta tD;simpa only [e,EY hp,EY hm,DG hm]
def bJ (ns:List Int) (a:Nat):Nat:=1+cC (bH ns a) 9973 4
noncomputable def jg (k:Nat):Nat:=if k < 2 then 3 else 2
def cM (ns:List Int) (a k:Nat):Nat:=1+cC (bH ns (a+1)+31 * (k:Int) * (k:Int)+(k:Int)) 9967 (jg k:Nat)
def gG (ns:List Int) (a:Nat):zi:=(List.range (bJ ns a)).map (cM ns a)
def dR (ns:List Int) (a k:Nat):Int:=bH ns (a+2)+53 * (k:Int) * (k:Int)+7 * (k:Int)
def drawn (ns:List Int) (a k:Nat):zi:=((List.range (bJ ns a)).filter fun (x:Nat)=>decide (cC (dR ns a k+17 * (x:Int)) 9941 2=1)).take 3
def dI (ns:List Int) (a k:Nat):zi:=if (drawn ns a k).isEmpty then [cC (dR ns a k) 9931 (bJ ns a:Nat)] else drawn ns a k
def fD (ns:List Int) (a k:Nat):ag:=(dI ns a k).map fun (x:Nat)=>(x,cC (dR ns a k+5 * (x:Int)) 9929 ((gG ns a).getD x 1:Nat))
def n6 (ns:List Int) (a:Nat):List ag:=(List.range (cC (bH ns a) 9949 4)).map (fD ns a)
def yK (ns:List Int) (a:Nat):1<=bJ ns a/\bJ ns a<=4:=by
 have:=jA (c:=bH ns a) (p:=9973) (m:=4) (by decide);unfold bJ;omega
def Rf (k:Nat):0 < ((jg k:Nat):Int):=by unfold jg;split <;> decide
def o7 (ns:List Int) (a k:Nat):1<=cM ns a k/\cM ns a k<=jg k:=by
 have:=jA (c:=bH ns (a+1)+31 * (k:Int) * (k:Int)+(k:Int)) (p:=9967) (Rf k);unfold cM;omega
def Nh (ns:List Int) (a:Nat):(gG ns a).length=bJ ns a:=by simp [gG]
variable {ns:List Int}{a:Nat}
def N6 (h:(gG ns a)[i]?=some l):l=cM ns a i/\i < bJ ns a:=by
 unfold gG at h;rw [List.getElem?_map] at h;cases e:(List.range (bJ ns a))[i]? with
 | none=>rw [e] at h;cases h
 | some j =>
  rw [e] at h;obtain ⟨h1,h2⟩:=yi.mp e;simp at h1 h2;subst h2;cases h;exact ⟨rfl,h1⟩
def xH (h:i < bJ ns a):(gG ns a)[i]?=some (cM ns a i):=by
 unfold gG;rw [List.getElem?_map,List.getElem?_range h];rfl
def Qc :∀ x∈drawn ns a k,x < bJ ns a:=fun x hx=>by
 unfold drawn at hx;have:=List.mem_of_mem_take hx;exact yA.mp (yz.mp this).1
def lU (ns:List Int) (a k:Nat):(dI ns a k).Pairwise (· < ·)/\(∀ x∈dI ns a k,x < bJ ns a)/\1<=(dI ns a k).length/\(dI ns a k).length<=3:=by
 have hm:=yK ns a;unfold dI;split
 .have:=jA (c:=dR ns a k) (p:=9931) (m:=(bJ ns a:Nat)) (by omega);refine ⟨by simp,fun x hx=>?_,by simp,by simp⟩;rw [List.mem_singleton.mp hx];omega
 .rename_i h;refine ⟨?_,Qc,?_,?_⟩
  .unfold drawn;exact ((List.pairwise_lt_range.filter _).sublist (List.take_sublist _ _))
  .cases e:drawn ns a k with
   | nil=>rw [e] at h;simp at h
   | cons _ _=>simp
  .unfold drawn;rw [List.length_take];omega
def Wa (ns:List Int) (a:Nat):WB (gG ns a) (n6 ns a):=by
 have hm:=yK ns a;refine ⟨by rw [Nh];omega,by rw [Nh];omega,fun i l h=>?_,fun i l h h2=>?_,?_,fun b hb=>?_⟩
 .obtain ⟨rfl,_⟩:=N6 h;have:=o7 ns a i;have h3:jg i<=3:=by unfold jg;split <;> decide
  omega
 .obtain ⟨rfl,_⟩:=N6 h;have:=o7 ns a i;have h3:jg i=2:=by unfold jg;rw [if_neg (by omega)]
  omega
 .have:=jA (c:=bH ns a) (p:=9949) (m:=4) (by decide);unfold n6;rw [List.length_map,List.length_range];omega
 .unfold n6 at hb;obtain ⟨k,_,rfl⟩:=yl.mp hb;obtain ⟨t1,t2,t3,t4⟩:=lU ns a k;refine ⟨⟨?_,fun p hp=>?_⟩,?_,?_⟩
  .unfold fD dW;exact List.pairwise_map.mpr t1
  .unfold fD at hp;obtain ⟨x,hx,rfl⟩:=yl.mp hp;have ng:=t2 x hx;refine ⟨cM ns a x,xH ng,?_⟩;have e:(gG ns a).getD x 1=cM ns a x:=by simp [List.getD,xH ng]
   simp only [e];have hl:=o7 ns a x;have:=jA (c:=dR ns a k+5 * (x:Int)) (p:=9929) (m:=(cM ns a x:Nat)) (by omega);omega
  .unfold fD;rw [List.length_map];exact t3
  .unfold fD;rw [List.length_map];exact t4
def one_add (x:Nat):(1:Int)+(x:Int)=((1+x:Nat):Int):=by omega
def ZL (ds:List D):cutD ds none (some 3)=ds.take 3:=by
 unfold cutD;rw [HT.Tj];have e:HT.bu ds.length ds.length (some 3)=min 3 ds.length:=HT.WD ds.length ds.length 3;rw [e,Nat.sub_zero,List.drop_zero];by_cases h:3<=ds.length
 .rw [Nat.min_eq_left h]
 .rw [Nat.min_eq_right (by omega),List.take_of_length_le (by omega),List.take_of_length_le (by omega)]
def Gz (x:Nat) (h:x<=1000):jJ (x:Int)=true:=Nat.ble_eq_true_of_le (by omega)
def tV {c:Nat} (h:c<=1000) (x:Int):je .mul (.int (c:Int)) (.int x)=.ok (.int ((c:Int) * x)):=Em (.inl (Gz c h))
def mul_k (h:k<=1000) (x:Int):je .mul (.int x) (.int (k:Int))=.ok (.int (x * (k:Int))):=Em (.inr (Gz k h))
def Za (nN:ns.length<=63) (a:Nat):au tab aD (n+2) 32 [.lst (ns.map D.int),.int a]=.ok (eB (gG ns a) (n6 ns a)):=by
 have hm:=yK ns a;have bX:lim=100000:=rfl;have NX:=jA (c:=bH ns a) (p:=9949) (m:=4) (by decide);rw [bB Io rfl];have ea:∀ j:Nat,(a:Int)+(j:Int)=((a+j:Nat):Int):=fun j=>by omega
 have P2:(a:Int)+1=((a+1:Nat):Int):=by omega
 have Fa:(a:Int)+2=((a+2:Nat):Int):=by omega
 have em:(1:Int)+(cC (bH ns a) 9973 4:Nat)=((bJ ns a:Nat):Int):=by unfold bJ;omega
 delta rN;simpa only [lX,lG (show (0:Int) < 9973 by decide) (show (0:Int) < 4 by decide),em,if_pos (show 0<=lim from Nat.zero_le _),iI (bJ ns a) (show bJ ns a<=lim by omega)];rw [bind_eq (a:=.nx [some (.lst (ns.map D.int)),some (.int (a:Int)),some (.int (bH ns a)),some (.int (bJ ns a:Nat)),some (.lst ((gG ns a).map eN)),none,none,none,none,none,none])]
 .simpa only [lG (show (0:Int) < 9949 by decide) (show (0:Int) < 4 by decide),if_pos (show 0<=lim from Nat.zero_le _),iI (cC (bH ns a) 9949 4) (show cC (bH ns a) 9949 4<=lim by omega)];rw [bind_eq (a:=.nx [some (.lst (ns.map D.int)),some (.int (a:Int)),some (.int (bH ns a)),some (.int (bJ ns a:Nat)),some (.lst ((gG ns a).map eN)),none,some (.lst ((n6 ns a).map eM)),none,none,none,none])]
  .simpa only [if_pos (show 0+1+1<=lim by decide)];rfl
  .refine (dU eN (fun acc:List ag=>[some (.lst (ns.map D.int)),some (.int (a:Int)),some (.int (bH ns a)),some (.int (bJ ns a:Nat)),some (.lst ((gG ns a).map eN)),none,some (.lst (acc.map eM)),none,none,none,none]) (fun k=>[fD ns a k]) lim (List.range (cC (bH ns a) 9949 4)) (fun acc k hk hB=>?_) [] ?_).trans ?_
   .have gT:=yA.mp hk;have P4:=tV (show 53<=1000 by decide) (k:Int);have Fu:=mul_k (show k<=1000 by omega) (((53:Nat):Int) * (k:Int));have m7:=tV (show 7<=1000 by decide) (k:Int);have es:bH ns (a+2)+((53:Nat):Int) * (k:Int) * (k:Int)+((7:Nat):Int) * (k:Int)=dR ns a k:=rfl;simp only [show ((53:Nat):Int)=53 from rfl,show ((7:Nat):Int)=7 from rfl] at P4 Fu m7 es;simpa only [Fa,lX,P4,Fu,m7,es,if_pos (show 0<=lim from Nat.zero_le _),iI (bJ ns a) (show bJ ns a<=lim by omega)];rw [bind_eq (a:=((List.range (bJ ns a)).filter fun (x:Nat)=>decide (cC (dR ns a k+17 * (x:Int)) 9941 2=1)).map eN)]
    .have sA:=yf (fun x:Nat=>decide (cC (dR ns a k+17 * (x:Int)) 9941 2=1)) (List.range (bJ ns a));rw [List.length_range] at sA;have FA:((List.range (bJ ns a)).filter fun (x:Nat)=>decide (cC (dR ns a k+17 * (x:Int)) 9941 2=1)).length<=lim:=by omega
     have ed:(((List.range (bJ ns a)).filter fun (x:Nat)=>decide (cC (dR ns a k+17 * (x:Int)) 9941 2=1)).map eN).take 3=(drawn ns a k).map eN:=by unfold drawn;rw [List.map_take]
     simpa only [List.length_map,if_pos FA,xy,ZL,ed,xu.iE];have nB:acc.length < lim:=by simp only [List.length_singleton] at hB;omega
     by_cases hd:(drawn ns a k).isEmpty=true
     .have et:dI ns a k=[cC (dR ns a k) 9931 (bJ ns a:Nat)]:=if_pos hd;simpa only [hd,lG (show (0:Int) < 9931 by decide) (show (0:Int) < (bJ ns a:Nat) by omega),if_pos (show 0+1<=lim by decide)];rw [show ([D.int ((cC (dR ns a k) 9931 (bJ ns a:Nat):Nat):Int)]:List D)=(dI ns a k).map eN by rw [et];rfl];rw [bind_eq (a:=(fD ns a k).map eP)]
      .have M1:(fD ns a k).length<=lim:=by
        have:=(lU ns a k).2.2.2;unfold fD;rw [List.length_map];omega
       simpa only [List.length_map,if_pos M1];rw [bind_eq (show tU (.lst (acc.map eM)) (.tup ((fD ns a k).map eP))=_ from nP (enc:=eM) (a:=fD ns a k) nB)];exact ⟨_,rfl,by simp [aP]⟩
      .rw [show fD ns a k=(dI ns a k).map fun (x:Nat)=>(x,cC (dR ns a k+5 * (x:Int)) 9929 ((gG ns a).getD x 1:Nat)) from rfl,List.map_map];refine cR (dI ns a k) fun x hx=>?_
       have ng:=(lU ns a k).2.1 x hx;have m5:=tV (show 5<=1000 by decide) (x:Int);simp only [show ((5:Nat):Int)=5 from rfl] at m5;have eg:(gG ns a).getD x 1=cM ns a x:=by simp [List.getD,xH ng]
       have Fk:=o7 ns a x;simpa only [m5,Ca (enc:=eN) (xH ng),lG (show (0:Int) < 9929 by decide) (show (0:Int) < (cM ns a x:Nat) by omega),if_pos (show 0+1+1<=lim by decide)];simp only [Function.comp,eg,eP]
     .have et:dI ns a k=drawn ns a k:=if_neg hd;simpa only [eq_false_of_ne_true hd];rw [<- et];rw [bind_eq (a:=(fD ns a k).map eP)]
      .have M1:(fD ns a k).length<=lim:=by
        have:=(lU ns a k).2.2.2;unfold fD;rw [List.length_map];omega
       simpa only [List.length_map,if_pos M1];rw [bind_eq (show tU (.lst (acc.map eM)) (.tup ((fD ns a k).map eP))=_ from nP (enc:=eM) (a:=fD ns a k) nB)];exact ⟨_,rfl,by simp [aP]⟩
      .rw [show fD ns a k=(dI ns a k).map fun (x:Nat)=>(x,cC (dR ns a k+5 * (x:Int)) 9929 ((gG ns a).getD x 1:Nat)) from rfl,List.map_map];refine cR (dI ns a k) fun x hx=>?_
       have ng:=(lU ns a k).2.1 x hx;have m5:=tV (show 5<=1000 by decide) (x:Int);simp only [show ((5:Nat):Int)=5 from rfl] at m5;have eg:(gG ns a).getD x 1=cM ns a x:=by simp [List.getD,xH ng]
       have Fk:=o7 ns a x;simpa only [m5,Ca (enc:=eN) (xH ng),lG (show (0:Int) < 9929 by decide) (show (0:Int) < (cM ns a x:Nat) by omega),if_pos (show 0+1+1<=lim by decide)];simp only [Function.comp,eg,eP]
    .refine aY (List.range (bJ ns a)) fun x hx=>?_
     have P5:=tV (show 17<=1000 by decide) (x:Int);simp only [show ((17:Nat):Int)=17 from rfl] at P5;simpa only [P5,lG (show (0:Int) < 9941 by decide) (show (0:Int) < 2 by decide)];have e1:decide (((cC (dR ns a k+17 * (x:Int)) 9941 2:Nat):Int)=1)=decide (cC (dR ns a k+17 * (x:Int)) 9941 2=1):=oH _ 1;rw [e1];by_cases hh:cC (dR ns a k+17 * (x:Int)) 9941 2=1 <;> simpa [hh]
   .rw [fY,List.length_nil,List.length_map,List.length_range];omega
   .rw [fY];rfl
 .refine (dU eN (fun acc:zi=>[some (.lst (ns.map D.int)),some (.int (a:Int)),some (.int (bH ns a)),some (.int (bJ ns a:Nat)),some (.lst (acc.map eN)),none,none,none,none,none,none]) (fun k=>[cM ns a k]) lim (List.range (bJ ns a)) (fun acc k hk hB=>?_) [] ?_).trans ?_
  .have gT:=yA.mp hk;have M3:=tV (show 31<=1000 by decide) (k:Int);have BS:=mul_k (show k<=1000 by omega) (((31:Nat):Int) * (k:Int));simp only [show ((31:Nat):Int)=31 from rfl] at M3 BS;have nB:acc.length < lim:=by simp only [List.length_singleton] at hB;omega
   have FB:decide ((63:Int) < (ns.length:Int))=false:=ya (by omega);by_cases h2:k < 2
   .have e3:jg k=3:=if_pos h2;have el:cM ns a k=1+cC (bH ns (a+1)+31 * (k:Int) * (k:Int)+(k:Int)) 9967 3:=by unfold cM;rw [e3];rfl
    simpa only [decide_eq_true (show (k:Int) < 2 by omega),P2,lX,M3,BS,lG (show (0:Int) < 9967 by decide) (show (0:Int) < 3 by decide),one_add,<- el];rw [bind_eq (nP (enc:=eN) nB)];exact ⟨_,rfl,by simp [aP]⟩
   .have e3:jg k=2:=if_neg h2;have el:cM ns a k=1+cC (bH ns (a+1)+31 * (k:Int) * (k:Int)+(k:Int)) 9967 2:=by unfold cM;rw [e3];rfl
    simpa only [decide_eq_false (show ¬ ((k:Int) < 2) by omega),FB,P2,lX,M3,BS,lG (show (0:Int) < 9967 by decide) (show (0:Int) < 2 by decide),one_add,<- el];rw [bind_eq (nP (enc:=eN) nB)];exact ⟨_,rfl,by simp [aP]⟩
  .rw [fY,List.length_nil,List.length_map,List.length_range];omega
  .rw [fY];rfl
def Ka (h1:∀ l∈lv,1<=l) (hp:prod lv<=lim) (hlen:lv.length<=lim) (hl:∀ l∈lv,l<=lim):au tab aD (n+1) 33 [ao lv]=.ok (.lst ((rows lv).map ao)):=by
 rw [bB Iv rfl];delta rB;simpa only [if_pos (show 0<=lim from Nat.zero_le _),if_pos (show 0+1<=lim by decide)];rw [bind_eq (a:=.nx [some (ao lv),some (.lst ((rows lv).map ao)),none,none,none,none])]
 .simpa only []
 .refine cB eN (fun rs:ze=>[some (ao lv),some (.lst (rs.map ao)),none,none,none,none]) bY (fun rs rest=>sH lv rs rest/\∀ l∈rest,l<=lim) (fun rs l rest hi=>?_) lv [[]] ⟨⟨rfl,by simp,h1⟩,hl⟩;obtain ⟨hi,r_⟩:=hi;obtain ⟨hs,hsz⟩:=hi.step;have mE:∀ r∈rs,r.length < lim:=fun r hr=>by
   have:=hi.2.1 r hr;simp only [List.length_cons] at this;omega
  refine ⟨⟨hs,fun x hx=>r_ x (vi _ hx)⟩,?_⟩;simpa only [if_pos (show 0<=lim from Nat.zero_le _)];rw [bind_eq (a:=.nx [some (ao lv),some (.lst (rs.map ao)),some (eN l),some (.lst ((bY rs l).map ao)),none,none])]
  .simpa only [];exact ⟨_,rfl,by simp [aP]⟩
  .refine dU ao (fun acc:ze=>[some (ao lv),some (.lst (rs.map ao)),some (eN l),some (.lst (acc.map ao)),none,none]) (fun r=>(List.range l).map fun s=>r++[s]) lim rs (fun acc r hr hB=>?_) [] (by rw [yC,List.length_nil];omega);simpa only [iI l (r_ l List.mem_cons_self)];rw [bind_eq (a:=((List.range l).map fun s=>r++[s]).map ao)]
   .have BQ:=r_ l vj;simpa only [List.length_map,List.length_range,if_pos BQ];rw [bind_eq (Uz (enc:=ao) hB)];exact ⟨_,rfl,by simp [aP]⟩
   .rw [List.map_map];refine cR (List.range l) fun s hs=>?_
    simpa only [Ih (mE r hr),if_pos (show 0+1<=lim by decide)];rfl
def kZ (h:∀ p∈m,p.1 < r.length) (hl:m.length<=lim):au tab aD (n+1) 34 [ao r,eM m]=.ok (.bl (aA r m)):=by
 rw [bB GK rfl];delta oW;simpa only [if_pos (show 0<=lim from Nat.zero_le _)];rw [bind_eq (a:=(m.filter fun p=>!decide (r[p.1]?=some p.2)).map eP)]
 .have:=yf (fun p:Nat × Nat=>!decide (r[p.1]?=some p.2)) m;have h2:(m.filter fun p=>!decide (r[p.1]?=some p.2)).length<=lim:=by omega
  simpa only [List.length_map,if_pos h2,Et.iE];congr 2;unfold aA;rw [Bool.eq_iff_iff,List.isEmpty_iff,List.filter_eq_nil_iff,List.all_eq_true];simp
 .refine aY m fun p hp=>?_
  obtain ⟨x,hx⟩:∃ x,r[p.1]?=some x:=⟨_,List.getElem?_eq_getElem (h p hp)⟩;simpa only [G6 hx,oH,hx,Option.some.injEq];by_cases hh:x=p.2 <;> simpa [hh]
def HN (h:WB lv bs)  (hr:fP lv r) {b:ag} (hb:b∈bs):(∀ p∈b,p.1 < r.length)/\b.length<=lim:=by
 have bX:lim=100000:=rfl;refine ⟨fun p hp=>?_,by have:=(h.Bx b hb).2.2;omega⟩;obtain ⟨l,e,_⟩:=(h.Bx b hb).1.2 p hp;rw [hr.len];exact (yi.mp e).1
def uE (h:WB lv bs):au tab aD (n+2) 35 [eB lv bs]=.ok (.lst ((ae lv bs).map ao)):=by
 have f:=kJ lv h.mem;have h4:=h.four;have hb:=h.nb;have bX:lim=100000:=rfl;rw [bB FT rfl];delta oF;simpa only [if_pos (show 0<=lim from Nat.zero_le _),Ka (fun l hl=>(WB.iN h l hl).1) (show prod lv<=lim by omega) (show lv.length<=lim by omega) (fun l hl=>by have:=WB.iN h l hl;omega)];rw [bind_eq (a:=.nx [some (eB lv bs),some (.lst ((ae lv bs).map ao)),none,none])]
 .simpa only []
 .refine (dU ao (fun acc:ze=>[some (eB lv bs),some (.lst (acc.map ao)),none,none]) (fun r=>if nG bs r then [r] else []) lim (rows lv) (fun acc r hr hB=>?_) [] ?_).trans ?_
  .have az:=kE.mp hr;simpa only [if_pos (show 0<=lim from Nat.zero_le _)];rw [bind_eq (a:=(bs.filter fun b=>aA r b).map eM)]
   .have:=yf (fun b=>aA r b) bs;have h2:(bs.filter fun b=>aA r b).length<=lim:=by omega
    simpa only [List.length_map,if_pos h2,nu.iE];have et:(bs.filter fun b=>aA r b).isEmpty=nG bs r:=by
     unfold nG;rw [Bool.eq_iff_iff,List.isEmpty_iff,List.filter_eq_nil_iff];simp
    rw [et];cases e:nG bs r with
    | false=>simpa only [];exact ⟨_,rfl,by simp [aP]⟩
    | true =>
     rw [e] at hB;have nB:acc.length < lim:=by simp at hB;omega
     simpa only [];rw [bind_eq (nP (enc:=ao) nB)];exact ⟨_,rfl,by simp [aP]⟩
   .refine aY bs fun b pj=>?_
    simpa only [kZ (HN h az pj).1 (HN h az pj).2];cases aA r b <;> simpa []
  .rw [jX,List.length_nil];have:=iG h;unfold ae at this;omega
  .rw [jX];rfl
def Bt (lv:zi) (k:Nat):List ag:=((rows lv).flatMap fun r=>(subs (aQ 0 r)).filter fun m=>decide (m.length=k)).foldl dw []
def Qf (h1:∀ (i l:Nat),lv[i]?=some l->1<=l):m∈Bt lv k↔m∈allM lv k:=by
 unfold Bt;rw [pO,pD];simp only [List.not_mem_nil,false_or,List.mem_flatMap,List.mem_filter,DY,decide_eq_true_eq];constructor
 .rintro ⟨r,hr,⟨h2,h3⟩,h4⟩;exact ⟨h4,Gh (kE.mp hr) h2 h3⟩
 .rintro ⟨h4,h5⟩;obtain ⟨r,hr,h6⟩:=S9 h1 h5;exact ⟨r,hr,⟨h5.1,h6⟩,h4⟩
def YB {t s:Nat} (h:m.length < lim):mO (eM m) (.tup [.tup [.int (t:Int),.int (s:Int)]])=.ok (eM (m++[(t,s)])):=Mx (p:=(t,s)) h
theorem Hu {α β:Type} (p:β->Bool) (g:α->β->α):∀ (l:List β) (a:α),l.foldl (fun a x=>if p x then g a x else a) a=(l.filter p).foldl g a
 | [],a=>rfl
 | x::l,a=>by
  rw [List.foldl_cons,Hu p g l,List.filter_cons];cases p x <;> simp
def Jg (h:WB lv bs)  (h1:1<=k) (h3:k<=3):au tab aD (n+2) 36 [eB lv bs,.int k]=.ok (.lst ((allM lv k).map eM)):=by
 have f:=kJ lv h.mem;have h4:=h.four;have bX:lim=100000:=rfl;rw [bB Ax rfl];have iF:gn (eK (Bt lv k))=.ok (.lst ((allM lv k).map eM)) :=
  Ie (rJ List.nodup_nil) (yw lv k) (fun m=>Qf fun i l e=>(h.HR i l e).1) (uh h h1 h3) (JL h1)
 delta jK;simpa only [if_pos (show 0<=lim from Nat.zero_le _),Ka (fun l hl=>(WB.iN h l hl).1) (show prod lv<=lim by omega) (show lv.length<=lim by omega) (fun l hl=>by have:=WB.iN h l hl;omega)];rw [bind_eq (a:=.nx [some (eB lv bs),some (.int (k:Int)),some (eK (Bt lv k)),none,none,none,none,none])]
 .simpa only [iF]
 .refine (cB ao (fun ks:List ag=>[some (eB lv bs),some (.int (k:Int)),some (eK ks),none,none,none,none,none]) (fun ks r=>((subs (aQ 0 r)).filter fun m=>decide (m.length=k)).foldl dw ks) (fun ks rest=>(∀ r∈rest,r∈rows lv)/\ks.length+rest.length * 16<=640) (fun ks r rest hp=>?_) (rows lv) [] ⟨fun _ h=>h,by rw [uq,List.length_nil];omega⟩).trans ?_
  .obtain ⟨kA,hsz⟩:=hp;have az:=kE.mp (kA r vj);have mE:=az.len;have hsl:(subs (aQ 0 r)).length<=16:=by
    unfold subs;rw [Dm,gF,List.length_singleton,Nat.one_mul];have:2 ^ r.length<=2 ^ 4:=Nat.pow_le_pow_right (by omega) (by omega);have e:(2:Nat) ^ 4=16:=by decide
    omega
   have sA:=vR ((subs (aQ 0 r)).filter fun m=>decide (m.length=k)) ks;have hff:=yf (fun m:ag=>decide (m.length=k)) (subs (aQ 0 r));simp only [List.length_cons,Nat.succ_mul] at hsz;refine ⟨⟨fun x hx=>kA x (vi _ hx),by omega⟩,?_⟩;simpa only [if_pos (show 0<=lim from Nat.zero_le _),if_pos (show 0+1<=lim by decide)];rw [bind_eq (a:=.nx [some (eB lv bs),some (.int (k:Int)),some (eK ks),some (ao r),some (.lst ((subs (aQ 0 r)).map eM)),none,none,none])]
   .simpa only [];rw [bind_eq (a:=.nx [some (eB lv bs),some (.int (k:Int)),some (eK (((subs (aQ 0 r)).filter fun m=>decide (m.length=k)).foldl dw ks)),some (ao r),some (.lst ((subs (aQ 0 r)).map eM)),none,none,none])]
    .exact ⟨_,rfl,by simp [aP]⟩
    .refine (cB eM (fun ks:List ag=>[some (eB lv bs),some (.int (k:Int)),some (eK ks),some (ao r),some (.lst ((subs (aQ 0 r)).map eM)),none,none,none]) (fun ks m=>if decide (m.length=k) then dw ks m else ks) (fun ks rest=>ks.length+rest.length<=90000) (fun ks m rest hp=>?_) (subs (aQ 0 r)) ks (by omega)).trans ?_
     .simp only [List.length_cons] at hp;have:=tu ks m;by_cases hm:m.length=k
      .refine ⟨by simp only [hm];simp;omega,?_⟩;simpa only [oH,hm,decide_eq_true (Eq.refl k)];rw [bind_eq (Ou ks m (by omega))];exact ⟨_,rfl,by simp [aP]⟩
      .refine ⟨by simp only [hm];simp;omega,?_⟩;simpa only [oH,decide_eq_false hm];exact ⟨_,rfl,by simp [aP]⟩
     .rw [Hu]
   .refine (cB eP (fun acc:List ag=>[some (eB lv bs),some (.int (k:Int)),some (eK ks),some (ao r),some (.lst (acc.map eM)),none,none,none]) eZ (fun acc rest=>acc.length * 2 ^ rest.length<=16/\∀ m∈acc,m.length+rest.length<=4) (fun acc p rest hp=>?_) (aQ 0 r) [[]] ⟨?_,?_⟩).trans ?_
    .obtain ⟨q1,q2⟩:=hp;have nB:acc.length<=8:=by
      rw [List.length_cons,Nat.pow_succ] at q1;have:1<=2 ^ rest.length:=Nat.one_le_two_pow;have h5:acc.length * 2<=acc.length * (2 ^ rest.length * 2):=Nat.mul_le_mul_left _ (by omega);omega
     refine ⟨⟨?_,fun m hm=>?_⟩,?_⟩
     .unfold eZ;rw [List.length_append,List.length_map,<- Nat.two_mul,Nat.mul_comm 2,Nat.mul_assoc];rw [List.length_cons,Nat.pow_succ,Nat.mul_comm (2 ^ rest.length)] at q1;exact q1
     .unfold eZ at hm;rcases ym.mp hm with hm | hm
      .have:=q2 m hm;simp only [List.length_cons] at this;omega
      .obtain ⟨m',kU,rfl⟩:=yl.mp hm;have:=q2 m' kU;simp only [List.length_cons,List.length_append,List.length_nil] at this ⊢;omega
     .simpa only [eP];rw [bind_eq (a:=(acc.map fun m=>m++[p]).map eM)]
      .simpa only [List.length_map,if_pos (show acc.length<=lim by omega)];rw [bind_eq (Uz (enc:=eM) (l:=acc) (l':=acc.map fun m=>m++[p]) (by rw [List.length_map];omega))];exact ⟨_,rfl,by simp [aP,eZ]⟩
      .rw [List.map_map];refine cR acc fun m hm=>?_
       have:=q2 m hm;simp only [List.length_cons] at this;simpa only [YB (show m.length < lim by omega),if_pos (show 0+1<=lim by decide),if_pos (show 0+1+1<=lim by decide)];rfl
    .rw [gF,List.length_singleton,Nat.one_mul];have:2 ^ r.length<=2 ^ 4:=Nat.pow_le_pow_right (by omega) (by omega);have e:(2:Nat) ^ 4=16:=by decide
     omega
    .intro m hm;rw [List.mem_singleton.mp hm,gF,List.length_nil];omega
    .rfl
  .unfold Bt;rw [List.foldl_flatMap]
def Ku (hr:fP lv r)  (hm:oV lv m):∀ p∈m,p.1 < r.length:=fun p hp=>by
 obtain ⟨l,e,_⟩:=hm.2 p hp;rw [hr.len];exact (yi.mp e).1
def Jd (h:WB lv bs)  (h1:1<=k) (h3:k<=3):au tab aD (n+3) 37 [eB lv bs,.int k]=.ok (.lst ((aB lv bs k).map eM)):=by
 have bX:lim=100000:=rfl;have IF:=iG h;have ha:=uh h h1 h3;rw [bB Bf rfl];delta jT;simpa only [if_pos (show 0<=lim from Nat.zero_le _),uE h,Jg h h1 h3];rw [bind_eq (a:=.nx [some (eB lv bs),some (.int (k:Int)),some (.lst ((ae lv bs).map ao)),some (.lst ((aB lv bs k).map eM)),none,none])]
 .simpa only []
 .refine (dU eM (fun acc:List ag=>[some (eB lv bs),some (.int (k:Int)),some (.lst ((ae lv bs).map ao)),some (.lst (acc.map eM)),none,none]) (fun m=>if ((ae lv bs).any fun t=>aA t m) then [m] else []) lim (allM lv k) (fun acc m hm hB=>?_) [] ?_).trans ?_
  .have IG:=(pD.mp hm);simpa only [if_pos (show 0<=lim from Nat.zero_le _)];rw [bind_eq (a:=((ae lv bs).filter fun t=>aA t m).map ao)]
   .have:=yf (fun t=>aA t m) (ae lv bs);have h2:((ae lv bs).filter fun t=>aA t m).length<=lim:=by omega
    simpa only [List.length_map,if_pos h2,lE.lP];have et:(!((ae lv bs).filter fun t=>aA t m).isEmpty)=(ae lv bs).any fun t=>aA t m:=by
     rw [Bool.eq_iff_iff];simp [List.any_eq_true,List.filter_eq_nil_iff]
    rw [et];cases e:(ae lv bs).any fun t=>aA t m with
    | false=>simpa only [];exact ⟨_,rfl,by simp [aP]⟩
    | true =>
     rw [e] at hB;have nB:acc.length < lim:=by simp at hB;omega
     simpa only [];rw [bind_eq (nP (enc:=eM) nB)];exact ⟨_,rfl,by simp [aP]⟩
   .refine aY (ae lv bs) fun t ht=>?_
    simpa only [kZ (Ku (lV ht) IG.2) (show m.length<=lim by omega)];cases aA t m <;> simpa []
  .rw [jX,List.length_nil];have:=yf (fun m=>(ae lv bs).any fun t=>aA t m) (allM lv k);omega
  .rw [jX];rfl
def Iw (h:WB lv bs) (c:Int):∃ k:Nat,1<=k/\k<=3/\k<=lv.length/\au tab aD (n+1) 39 [eB lv bs,.int c]=.ok (.int k):=by
 have h1:=h.one;rw [bB Ai rfl];delta jL;simpa only [if_pos (show 0+1+1+1+1<=lim by decide),EY (show (0:Int) < 4 by decide)];have h0:=Int.emod_nonneg c (show (4:Int)≠0 by decide);have h4:=Int.emod_lt_of_pos c (show (0:Int) < 4 by decide);have key:∃ s:Nat,1<=s/\s<=3/\f6 (.lst [.int 2,.int 2,.int 1,.int 3]) (.int (c % 4))=.ok (.int (s:Int)):=by
  have:c % 4=0\/c % 4=1\/c % 4=2\/c % 4=3:=by omega
  rcases this with e | e | e | e <;> rw [e]
  .exact ⟨2,by decide,by decide,rfl⟩
  .exact ⟨2,by decide,by decide,rfl⟩
  .exact ⟨1,by decide,by decide,rfl⟩
  .exact ⟨3,by decide,by decide,rfl⟩
 obtain ⟨s,q1,q2,q3⟩:=key;refine ⟨min s lv.length,by omega,by omega,by omega,?_⟩;simpa only [q3];congr 2;split <;> omega
theorem Jx:∀ {lv r:zi},fP lv r->∀ p∈r.zip lv,p.1 < p.2
 | [],[],_,p,h=>by simp at h
 | l::lv,x::r,h,p,hp=>by
  rw [List.zip_cons_cons,List.mem_cons] at hp;rcases hp with rfl | hp
  .exact h.1
  .exact Jx h.2 p hp
def Tc (hr:fP lv r) (hl:lv.length<=6):au tab aD (n+2) 11 [ao lv,ao r]=.ok (.bl true):=by
 have bX:lim=100000:=rfl;have hlen:=hr.len;have hz:(r.zip lv).length<=lim:=by rw [List.length_zip];omega
 rw [bB Rg rfl];delta zu;simpa only [sS,decide_eq_true (show (lv.length:Int)<=r.length by omega),decide_eq_true (show (r.length:Int)<=lv.length by omega),Bool.and_self,Qs];rw [bind_eq (a:=(r.zip lv).map fun _=>D.bl true)]
 .simpa only [List.length_map,if_pos hz];rw [bind_eq (Eu (fun _=>true) (r.zip lv))];simpa []
 .refine cR (r.zip lv) fun p hp=>?_
  have:=Jx hr p hp;simpa only [eP,nF,decide_eq_true (show (0:Int)<=p.1 by omega),decide_eq_true (show (p.1:Int)<=p.2 - 1 by omega),Bool.and_self]
def O7 (h:WB lv bs)  (ht:t∈ae lv bs):au tab aD (n+3) 12 [eB lv bs,ao t]=.ok (.bl true):=by
 have bX:lim=100000:=rfl;have h4:=h.four;have hb:=h.nb;have hr:=lV ht;have M_:(bs.any fun b=>aA t b)=false:=by
  have:=(yz.mp ht).2;unfold nG at this;simpa using this
 rw [bB MP rfl];delta vq;simpa only [Tc hr (show lv.length<=6 by omega),yx (fun b hb=>HN h hr hb) (show bs.length<=lim by omega),M_]
theorem Gs {p:D->R D}:∀ (ts:ze),(∀ t∈ts,p (ao t)=.ok (.bl true))->mG p (ts.map ao)=.ok ()
 | [],_=>rfl
 | t::ts,h=>by
  show (match p (ao t) with | .ok (.bl true)=>mG p (ts.map ao) | _=>.stuck)=_
  rw [h t List.mem_cons_self];exact Gs ts fun u hu=>h u (vi _ hu)
def DW (h:WB lv bs)  (ht:∀ t∈ts,t∈ae lv bs):au tab aD (n+4) 13 [eB lv bs,.lst (ts.map ao)]=.ok .ai:=by
 rw [QJ Eb Ef rfl];have e:La (au tab aD (n+3)) 12 [some (eB lv bs),some (.lst (ts.map ao))]=.ok (.nx [some (eB lv bs),some (.lst (ts.map ao))]):=by
  show (match mG (fun t=>au tab aD (n+3) 12 [eB lv bs,t]) (ts.map ao) with | .ok _=>R.ok (Out.nx [some (eB lv bs),some (.lst (ts.map ao))]) | _=>.stuck)=_
  rw [Gs ts fun t hh=>O7 h (ht t hh)]
 show jN (La (au tab aD (n+3)) 12 [some (eB lv bs),some (.lst (ts.map ao))])=_
 rw [e];rfl
def yu (h:WB lv bs)  (h1:1<=k) (h3:k<=3) (hk:k<=lv.length)  (ht:∀ t∈ts,t∈ae lv bs):au tab aD (n+7) 21 [eB lv bs,.int k,.lst (ts.map ao)]=.ok .ai:=by
 rw [bB Jf rfl];delta pZ;simpa only [Jq h h1 h3 hk,DW h ht]
def pR :∀ m∈aB lv bs k,m.length=k/\dW m:=fun m hm=>⟨(vJ.mp hm).1,(vJ.mp hm).2.1⟩
def nZ (h:WB lv bs)  (h1:1<=k) (h3:k<=3):(aB lv bs k).length < 64:=by
 have:=uh h h1 h3;have:=yf (fun m=>(ae lv bs).any fun t=>aA t m) (allM lv k);unfold aB;omega
def Wd (h:WB lv bs) (a:Nat) {w:Nat} (hw:w<=100):∃ ts:ze,(∀ t∈ts,t∈ae lv bs)/\ts.length<=w/\au tab aD (n+3) 38 [.lst (ns.map D.int),.int a,eB lv bs,.int w]=.ok (.lst (ts.map ao)):=by
 have bX:lim=100000:=rfl;have IF:=iG h;rw [bB Fv rfl];cases hT:(ae lv bs).isEmpty with
 | true =>
  refine ⟨[],by simp,v3 _,?_⟩;delta jD;simpa only [uE h,if_pos (show 0<=lim from Nat.zero_le _),lE.lP,hT]
 | false =>
  have sC:0 < (ae lv bs).length:=by
   cases e:ae lv bs with
   | nil=>rw [e] at hT;cases hT
   | cons x l=>simp
  have hNl:=jA (c:=bH ns a) (p:=9923) (m:=(w:Int)+1) (by omega);have A3:∀ k:Nat,cC (bH ns a+29 * (k:Int) * (k:Int)+(k:Int)) 9907 ((ae lv bs).length:Nat) < (ae lv bs).length:=fun k=>by
   have:=jA (c:=bH ns a+29 * (k:Int) * (k:Int)+(k:Int)) (p:=9907) (m:=((ae lv bs).length:Nat)) (by omega);omega
  have M':∀ k:Nat,(ae lv bs)[cC (bH ns a+29 * (k:Int) * (k:Int)+(k:Int)) 9907 ((ae lv bs).length:Nat)]?=some ((ae lv bs)[cC (bH ns a+29 * (k:Int) * (k:Int)+(k:Int)) 9907 ((ae lv bs).length:Nat)]'(A3 k)):=fun k=>List.getElem?_eq_getElem (A3 k)
  refine ⟨(List.range (cC (bH ns a) 9923 ((w:Int)+1))).map fun k:Nat=>(ae lv bs)[cC (bH ns a+29 * (k:Int) * (k:Int)+(k:Int)) 9907 ((ae lv bs).length:Nat)]'(A3 k),fun t kK=>?_,?_,?_⟩
  .obtain ⟨k,_,rfl⟩:=yl.mp kK;exact List.getElem_mem _
  .rw [List.length_map,List.length_range];omega
  .delta jD;simpa only [uE h,if_pos (show 0<=lim from Nat.zero_le _),lE.lP,hT,lX,lG (show (0:Int) < 9923 by decide) (show (0:Int) < (w:Int)+1 by omega),iI (cC (bH ns a) 9923 ((w:Int)+1)) (show _<=lim by omega)];rw [bind_eq (a:=.nx [some (.lst (ns.map D.int)),some (.int (a:Int)),some (eB lv bs),some (.int (w:Int)),some (.lst ((ae lv bs).map ao)),some (.lst (((List.range (cC (bH ns a) 9923 ((w:Int)+1))).map fun k:Nat=>(ae lv bs)[cC (bH ns a+29 * (k:Int) * (k:Int)+(k:Int)) 9907 ((ae lv bs).length:Nat)]'(A3 k)).map ao)),none])]
   .simpa only []
   .refine (dU eN (fun acc:ze=>[some (.lst (ns.map D.int)),some (.int (a:Int)),some (eB lv bs),some (.int (w:Int)),some (.lst ((ae lv bs).map ao)),some (.lst (acc.map ao)),none]) (fun k:Nat=>[(ae lv bs)[cC (bH ns a+29 * (k:Int) * (k:Int)+(k:Int)) 9907 ((ae lv bs).length:Nat)]'(A3 k)]) lim (List.range (cC (bH ns a) 9923 ((w:Int)+1))) (fun acc k hk hB=>?_) [] ?_).trans ?_
    .have gT:=yA.mp hk;have P6:=tV (show 29<=1000 by decide) (k:Int);have FD:=mul_k (show k<=1000 by omega) (((29:Nat):Int) * (k:Int));simp only [show ((29:Nat):Int)=29 from rfl] at P6 FD;have nB:acc.length < lim:=by simp only [List.length_singleton] at hB;omega
     simpa only [lX,P6,FD,lG (show (0:Int) < 9907 by decide) (show (0:Int) < ((ae lv bs).length:Nat) by omega),Ca (enc:=ao) (M' k)];rw [bind_eq (nP (enc:=ao) nB)];exact ⟨_,rfl,by simp [aP]⟩
    .rw [fY,List.length_map,List.length_range,List.length_nil];omega
    .rw [fY];rfl
def CF (k:Nat):Nat->ze->List (Nat × ag)
 | _,[]=>[]
 | n,t::ts=>(among (aQ 0 t) k).map (fun m=>(n,m))++CF k (n+1) ts
def X3 (hk:k<=3) (ht:t.length<=6):(among (aQ 0 t) k).length<=216:=by
 have h1:=lW (aQ 0 t) k;rw [gF] at h1;have h2:t.length ^ k<=6 ^ k:=Nat.pow_le_pow_left ht k;have h3:6 ^ k<=6 ^ 3:=Nat.pow_le_pow_right (by omega) hk;have h4:(6:Nat) ^ 3=216:=by decide
 omega
theorem Ph {m:ag}{n:Nat}:∀ {l:List ag},l.Nodup->((l.map fun x=>(n,x)).filter fun x=>decide (x.2=m)).map (fun x=>eN x.1)=if m∈l then [eN n] else []
 | [],_=>rfl
 | x::l,h=>by
  rw [List.nodup_cons] at h;have ih:=Ph (m:=m) (n:=n) h.2;rw [List.map_cons,List.filter_cons];by_cases e:x=m
  .subst e;rw [if_neg h.1] at ih;simp [ih]
  .have e2:¬ m=x:=fun z=>e z.symm
   simp only [decide_eq_false e,Bool.false_eq_true,if_false,ih,List.mem_cons,e2,false_or]
theorem JK {k:Nat}{m:ag} (h1:m.length=k) (h2:dW m):∀ (n:Nat) (ts:ze),((CF k n ts).filter fun x=>decide (x.2=m)).map (fun x=>eN x.1)=(bp m n ts).map eN
 | n,[]=>rfl
 | n,t::ts=>by
  rw [CF,List.filter_append,List.map_append,JK h1 h2 (n+1) ts,Ph (SJ t k),bp];by_cases e:aA t m=true
  .rw [if_pos (kh.mpr ⟨h1,h2,e⟩),if_pos e];rfl
  .rw [if_neg fun z=>e (kh.mp z).2.2,if_neg e];rfl
def yU (hk:k<=3) (ht:∀ t∈ts,t.length<=6) (v_:ts.length<=400):∃ (ks:List ag) (f:ag->List D),au tab aD (n+4) 22 [.lst (ts.map ao),.int k]=.ok (cn eM ks f)/\(∀ m,m ∉ ks->f m=[])/\∀ m:ag,m.length=k->dW m->f m=(bp m 0 ts).map eN:=by
 have bX:lim=100000:=rfl;have step:∀ (us:ze) (j:Nat) (done:List (Nat × ag)) (s:List ag × (ag->List D)),cE (fun x:Nat × ag=>x.2) (fun x=>eN x.1) done s->done.length+us.length * 216<=86400->(∀ t∈us,t.length<=6) ->
   ∃ s',cE (fun x:Nat × ag=>x.2) (fun x=>eN x.1) (done++CF k j us) s'/\lM (fun x d=>do let dJ <- c7 (.two 3 4) x [some (.lst (ts.map ao)),some (.int (k:Int)),none,none,none,none];jZ (au tab aD (n+3)) (.a_ (.one 5) .seq [.call 18 [.var 4,.var 1]] (.mz (.var 5) (.var 3))) dJ d) (aX j (us.map ao)) (cn eM s.1 s.2)=.ok (cn eM s'.1 s'.2):=by
  intro us;induction us with
  | nil=>intro j done s hs _ _;exact ⟨s,by rw [CF,List.append_nil];exact hs,rfl⟩
  | cons t us ih =>
   intro j done s hs hsz P7;have FM:=P7 t vj;have nB:=X3 hk FM;simp only [List.length_cons,Nat.succ_mul] at hsz;have hle:(aQ 0 t).length<=16:=by rw [gF];omega
   obtain ⟨g1,g2⟩:=uw (enc:=eM) uY (e:=fun x:Nat × ag=>eM x.2) (f:=fun x d=>do let dJ <- c7 (.one 5) x [some (.lst (ts.map ao)),some (.int (k:Int)),none,some (.int (j:Int)),some (ao t),none];jZ (au tab aD (n+3)) (.mz (.var 5) (.var 3)) dJ d)
    ((among (aQ 0 t) k).map fun m=>(j,m)) done s hs (by rw [List.length_map];omega) (fun x hx ks g=>by
     obtain ⟨m,_,rfl⟩:=yl.mp hx;simpa only []
     all_goals rfl)
   obtain ⟨s',q1,q2⟩:=ih (j+1) (done++(among (aQ 0 t) k).map fun m=>(j,m)) _ g1 (by rw [List.length_append,List.length_map];omega) fun u hu=>P7 u (vi _ hu)
   refine ⟨s',by rw [CF,<- List.append_assoc];exact q1,?_⟩;rw [List.map_cons,aX,lM];rw [bind_eq (a:=cn eM (((among (aQ 0 t) k).map fun m=>(j,m)).foldl (jl (fun x:Nat × ag=>x.2) (fun x=>eN x.1)) s).1 (((among (aQ 0 t) k).map fun m=>(j,m)).foldl (jl (fun x:Nat × ag=>x.2) (fun x=>eN x.1)) s).2)]
   .exact q2
   .rw [List.map_map] at g2;refine Eq.trans ?_ g2;simpa only [uH (n:=n) hk hle]
    all_goals rfl
 obtain ⟨s',q1,q2⟩:=step ts 0 [] ([],fun _=>[]) cE.nil (by simp only [List.length_nil];omega) ht;rw [List.nil_append] at q1;refine ⟨s'.1,s'.2,?_,fun m hm=>q1.out hm,fun m h1 h2=>?_⟩
 .rw [bB uM rfl];delta iw;simpa only [yp,Ao];rw [bind_eq (a:=cn eM s'.1 s'.2)]
  .simpa only []
  .simpa only [] using q2;exact q2
 .rw [q1.fn,JK h1 h2]
theorem Hv {f:D->R (Option D)} (h:∀ (j:Nat) (r:Bool),f (.tup [.int (j:Int),.bl r])=.ok (if r then none else some (eN j))):∀ (rs:List Bool) (j:Nat),cQ f (aX j (rs.map D.bl))=.ok ((lb j rs).map eN)
 | [],j=>rfl
 | r::rs,j=>by
  rw [List.map_cons,aX,cQ,h,qP,Hv h rs (j+1),qP,lb];cases r <;> rfl
theorem KH:∀ (j:Nat) (rs:List Bool),(lb j rs).length<=rs.length
 | j,[]=>vE _
 | j,r::rs=>by
  have:=KH (j+1) rs;rw [lb];cases r <;> simp <;> omega
theorem KJ (m:ag):∀ (j:Nat) (ts:ze),(bp m j ts).length<=ts.length
 | j,[]=>vE _
 | j,t::ts=>by
  have:=KJ m (j+1) ts;rw [bp];split <;> simp <;> omega
variable {rs:List Bool}
def Ei (hl:rs.length=ts.length) (hs:rs.length<=400):au tab aD (n+1) 23 [.lst (ts.map ao),.lst (rs.map D.bl)]=.ok (.bl true):=by
 have bX:lim=100000:=rfl;rw [bB Ej rfl];delta mQ;simpa only [mR,List.length_map,hl,decide_true];rw [bind_eq (a:=rs.map fun _=>D.bl true)]
 .simpa only [List.length_map,if_pos (show rs.length<=lim by omega)];rw [bind_eq (Eu (fun _=>true) rs)];simpa []
 .exact cR rs fun r _=>rfl
def Lq (h:WB lv bs)  (h1:1<=k) (h3:k<=3) (hk:k<=lv.length)  (ht:∀ t∈ts,t∈ae lv bs) (v_:ts.length<=100)  (hl:rs.length=ts.length):au tab aD (n+8) 24 [eB lv bs,.int k,.lst (ts.map ao),.lst (rs.map D.bl)]=.ok (.lst (((aB lv bs k).filter fun m=>decide (aJ ts m=rs)).map eM)):=by
 have bX:lim=100000:=rfl;have oS:=nZ h h1 h3;obtain ⟨ks,f,e1,e2,e3⟩:=yU (n:=n+3) (ts:=ts) h3 (fun t hh=>ji h t (ht t hh)) (by omega);rw [bB Mr rfl];delta ur;simpa only [yu (n:=n) h h1 h3 hk ht,Ei (n:=n+6) hl (by omega),e1,yp];rw [bind_eq (Hv (fun j r=>by simpa only [];cases r <;> rfl) rs 0)];have sA:=KH 0 rs;simpa only [List.length_map,if_pos (show (lb 0 rs).length<=lim by omega),Ba (n:=n) h h1 h3 hk];rw [bind_eq (a:=((aB lv bs k).filter fun m=>decide (aJ ts m=rs)).map eM)]
 .have:=yf (fun m=>decide (aJ ts m=rs)) (aB lv bs k);simpa only [List.length_map,if_pos (show ((aB lv bs k).filter fun m=>decide (aJ ts m=rs)).length<=lim by omega)]
  all_goals rfl
 .refine aY (aB lv bs k) fun m hm=>?_
  obtain ⟨m1,m2⟩:=pR m hm;simpa only [if_pos (show 0<=lim from Nat.zero_le _),J9 uY (e2 m),e3 m m1 m2,xu.x3];have e:decide (bp m 0 ts=lb 0 rs)=decide (aJ ts m=rs):=by
   by_cases q:aJ ts m=rs
   .rw [decide_eq_true q,decide_eq_true ((Cw hl).mpr q)]
   .rw [decide_eq_false q,decide_eq_false fun z=>q ((Cw hl).mp z)]
  rw [e];cases decide (aJ ts m=rs) <;> simpa only [] <;> rfl
variable {α:Type}
def WL [DecidableEq α] (κ:ag->α) (L:List ag):((pQ κ eM L).1.map fun a=>D.lst ((pQ κ eM L).2 a))=(iB κ L).map fun l=>D.lst (l.map eM):=by
 have:=Lh (κ:=κ) (w:=eM) L;have e:=congrArg (fun l:List (List D)=>l.map D.lst) this;simpa [List.map_map,Function.comp_def] using e
def VJ (h:WB lv bs)  (h1:1<=k) (h3:k<=3) (hk:k<=lv.length)  (ht:∀ t∈ts,t∈ae lv bs) (v_:ts.length<=100):au tab aD (n+8) 27 [eB lv bs,.int k,.lst (ts.map ao)]=.ok (.lst ((iB (fun m=>bp m 0 ts) (aB lv bs k)).map fun l=>.lst (l.map eM))):=by
 have bX:lim=100000:=rfl;have oS:=nZ h h1 h3;obtain ⟨ks,f,e1,e2,e3⟩:=yU (n:=n+3) (ts:=ts) h3 (fun t hh=>ji h t (ht t hh)) (by omega);have g:=NZ (κ:=fun m:ag=>bp m 0 ts) (w:=eM) Rt (e:=eM) (f:=fun x d=>do let dJ <- c7 (.one 5) x [some (eB lv bs),some (.int (k:Int)),some (.lst (ts.map ao)),some (cn eM ks f),none,none];jZ (au tab aD (n+7)) (.mz (.blt .tuple [.hV (.var 3) (.var 5) (.lst [])]) (.var 5)) dJ d) (ds:=aB lv bs k) (by omega) (fun m hm m_ g=>by
  obtain ⟨m1,m2⟩:=pR m hm;simpa only [if_pos (show 0<=lim from Nat.zero_le _),J9 uY (e2 m),e3 m m1 m2]
  all_goals rfl)
 simpa only [] using g;rw [bB vm rfl];delta iD;simpa only [e1,Ba (n:=n) h h1 h3 hk,Ao];rw [bind_eq g];simpa only [cn,Ez,WL]
def Dc (hk:k<=3) (ht:∀ t∈ts,t.length<=6) (v_:ts.length<=400):∃ (ks:List ag) (f:ag->List D),au tab aD (n+4) 22 [.lst (ts.map ao),.int k]=.ok (cn eM ks f)/\∀ m:ag,m.length=k->dW m->(∃ t∈ts,aA t m=true)->m∈ks/\f m=(bp m 0 ts).map eN:=by
 obtain ⟨ks,f,e1,e2,e3⟩:=yU (n:=n) (ts:=ts) hk ht v_;refine ⟨ks,f,e1,fun m h1 h2 h3=>⟨?_,e3 m h1 h2⟩⟩;apply Classical.byContradiction;intro q;have:=e2 m q;rw [e3 m h1 h2,List.map_eq_nil_iff] at this;obtain ⟨t,h4,h5⟩:=h3;obtain ⟨j,hj⟩:=List.getElem?_of_mem h4;have:=(tW hj).mpr h5;simp_all
structure CH (ts:ze) (ks:List ag) (f:ag->List D) (m:ag):Prop where
 mem:m∈ks
 fn:f m=(bp m 0 ts).map eN
noncomputable def eO:Option Nat->D
 | none=>.ai
 | some j=>.int (j:Int)
theorem sy {α β γ:Type} (g:β->List γ) (s:α->γ->α):∀ (l:List β) (a:α),l.foldl (fun a x=>(g x).foldl s a) a=(l.flatMap g).foldl s a
 | [],a=>rfl
 | x::l,a=>by rw [List.foldl_cons,List.flatMap_cons,List.foldl_append];exact sy g s l _
variable {ks L:List ag}
def vo {f:ag->List D} (hL:∀ m∈L,CH ts ks f m) (hl:L.length<=64) (ht:ts.length < 64):au tab aD (n+1) 25 [.lst (L.map eM),cn eM ks f]=.ok (eO (fx ts L)):=by
 have bX:lim=100000:=rfl;rw [QJ Gx HY rfl];have sA:(L.flatMap fun m=>bp m 0 ts).length<=64 * 64:=by
  have:∀ l:List ag,(l.flatMap fun m=>bp m 0 ts).length<=l.length * 64:=by
   intro l;induction l with
   | nil=>simp
   | cons m l ih =>
    have:=KJ m 0 ts;rw [List.flatMap_cons,List.length_append,List.length_cons];omega
  have:=this L;omega
 have pre:∀ cl,bI cl xX [some (.lst (L.map eM)),some (cn eM ks f),none,none,none,none]=if (L.flatMap fun m=>bp m 0 ts).isEmpty then .ok (.rt .ai) else .ok (.nx [some (.lst (L.map eM)),some (cn eM ks f),some (.bP ((L.flatMap fun m=>bp m 0 ts).foldl fw [])),none,none,none]):=by
  intro cl;have inner:∀ (m:ag) (Q P0:zi) (ah:List (Int × Int)),dq P0 ah->P0.length+Q.length<=5000->iC (fun x Y=>do let dJ <- c7 (.one 4) x Y;bI cl [.eh 2 (.var 4) (.bin .add (.hV (.var 2) (.var 4) (.con (.int 0))) (.con (.int 1)))] dJ) [some (.lst (L.map eM)),some (cn eM ks f),some (.bP ah),some (eM m),none,none] (Q.map eN) [some (.lst (L.map eM)),some (cn eM ks f),some (.bP ah),some (eM m),none,none]=.ok (.nx [some (.lst (L.map eM)),some (cn eM ks f),some (.bP (Q.foldl fw ah)),some (eM m),none,none]):=by
   intro m Q P0 ah C hlen;refine cB eN (fun a:List (Int × Int)=>[some (.lst (L.map eM)),some (cn eM ks f),some (.bP a),some (eM m),none,none]) fw (fun a xs=>a.length+xs.length<=5000) (fun a x xs p=>⟨?_,?_⟩) Q ah (by have:=C.len;omega)
   .have:(fw a x).length<=a.length+1:=by
     unfold fw mY;split <;> simp
    simp only [List.length_cons] at p;omega
   .have ha:a.length < lim:=by simp only [List.length_cons] at p;omega
    have h1:tY (.bP a) (.int (x:Int)) (.int 0)=.ok (.int ((bM a (x:Int)).getD 0)):=rfl;have h2:Bu (.bP a) (.int (x:Int)) (.int ((bM a (x:Int)).getD 0+1))=.ok (.bP (fw a x)):=if_pos ha;refine ⟨[some (.lst (L.map eM)),some (cn eM ks f),some (.bP (fw a x)),some (eM m),some (.int (x:Int)),none],?_,rfl⟩;simpa only [eN,h1,h2]
  delta xX;simpa only [];rw [bind_eq (a:=.nx [some (.lst (L.map eM)),some (cn eM ks f),some (.bP ((L.flatMap fun m=>bp m 0 ts).foldl fw [])),none,none,none])]
  .have h3:mR (.bP ((L.flatMap fun m=>bp m 0 ts).foldl fw []))=.ok (.int (((L.flatMap fun m=>bp m 0 ts).foldl fw []).length:Int)):=rfl;simpa only [h3];cases hP:(L.flatMap fun m=>bp m 0 ts) with
   | nil=>rfl
   | cons j P =>
    have C:=dq.fold (j::P) [] [] dq.nil;have:(j:Int)∈((j::P).foldl fw []).map (·.1):=(C.mem _).mpr ⟨j,by simp,rfl⟩;have dE:((j::P).foldl fw []).length≠0:=fun z=>by
     rw [List.length_eq_zero_iff] at z;rw [z] at this;cases this
    have h4:¬ ((((j::P).foldl fw []).length:Int)=0):=by omega
    simpa only [decide_eq_false h4];rfl
  .rw [<- sy];refine cB eM (fun a:List (Int × Int)=>[some (.lst (L.map eM)),some (cn eM ks f),some (.bP a),none,none,none]) (fun a m=>(bp m 0 ts).foldl fw a) (fun a xs=>(∃ P0,dq P0 a/\P0.length+(xs.flatMap fun m=>bp m 0 ts).length<=4096)/\∀ m∈xs,CH ts ks f m) (fun a m xs p=>⟨?_,?_⟩) L [] ⟨⟨[],dq.nil,by simpa using sA⟩,hL⟩
   .obtain ⟨⟨P0,C,p1⟩,p2⟩:=p;refine ⟨⟨P0++bp m 0 ts,dq.fold _ _ _ C,?_⟩,fun m' kU=>p2 m' (vi _ kU)⟩;rw [List.flatMap_cons,List.length_append] at p1;rw [List.length_append];omega
   .obtain ⟨⟨P0,C,p1⟩,p2⟩:=p;rw [List.flatMap_cons,List.length_append] at p1;obtain ⟨k1,k2⟩:=p2 m vj;have ix:=Va uY (f:=f) k1;rw [k2] at ix;refine ⟨[some (.lst (L.map eM)),some (cn eM ks f),some (.bP ((bp m 0 ts).foldl fw a)),some (eM m),none,none],?_,rfl⟩;simpa only [ix];have:=inner m (bp m 0 ts) P0 a C (by omega);simpa only [] using this;rw [bind_eq this];rfl
 have C:=dq.fold (L.flatMap fun m=>bp m 0 ts) [] [] dq.nil;rw [List.nil_append] at C;show jN (match xG (au tab aD n) [some (.lst (L.map eM)),some (cn eM ks f),none,none,none,none] with | .ok (.rt d)=>R.ok (Out.rt d) | _=>.stuck)=_
 unfold xG;rw [pre];by_cases hP:(L.flatMap fun m=>bp m 0 ts)=[]
 .rw [Qk hP,hP];rfl
 .obtain ⟨a,as,g,b1,b2,b3,c,b4,b5⟩:=O9 C hP;have dE:(L.flatMap fun m=>bp m 0 ts).isEmpty=false:=by
   cases e:L.flatMap fun m=>bp m 0 ts with
   | nil=>exact absurd e hP
   | cons _ _=>rfl
  have hk:Bk (.bP ((L.flatMap fun m=>bp m 0 ts).foldl fw [])) (.lst (L.map eM))=.ok (.int (g:Int)):=by
   have hs:=Tz C (fun j hj=>Kz hj) ht;unfold Bk;simp only [hs,Ov,b1,List.length_map,b2]
  have hx:f6 (.bP ((L.flatMap fun m=>bp m 0 ts).foldl fw [])) (.int (g:Int))=.ok (.int (c:Int)):=by
   show (match bM ((L.flatMap fun m=>bp m 0 ts).foldl fw []) (g:Int) with | some v=>R.ok (D.int v) | none=>.stuck)=_
   rw [b4]
  have e2:runK [some (.lst (L.map eM)),some (cn eM ks f),some (.bP ((L.flatMap fun m=>bp m 0 ts).foldl fw [])),none,none,none]=.ok (.nx [some (.lst (L.map eM)),some (cn eM ks f),some (.bP ((L.flatMap fun m=>bp m 0 ts).foldl fw [])),none,none,some (.int (g:Int))]):=by
   unfold runK;simpa only [hk]
  have e3:bI (au tab aD n) pK [some (.lst (L.map eM)),some (cn eM ks f),some (.bP ((L.flatMap fun m=>bp m 0 ts).foldl fw [])),none,none,some (.int (g:Int))]=.ok (.rt (eO (fx ts L))):=by
   rw [b5];have hd:decide ((c:Int) < (L.length:Int))=decide (c < L.length):=by
    by_cases q:c < L.length
    .rw [decide_eq_true q,decide_eq_true (by omega)]
    .rw [decide_eq_false q,decide_eq_false (by omega)]
   delta pK;simpa only [hx,hd];by_cases q:c < L.length
   .simpa only [decide_eq_true q,if_pos q];rfl
   .simpa only [decide_eq_false q,if_neg q];rfl
  rw [dE];show jN (match runK _ >>= xU (bI (au tab aD n) pK) with | .ok (.rt d)=>R.ok (Out.rt d) | _=>.stuck)=_
  rw [e2];show jN (match bI (au tab aD n) pK _ with | .ok (.rt d)=>R.ok (Out.rt d) | _=>.stuck)=_
  rw [e3];rfl
def Gc (j:Nat) (l:zi):inD (.int (j:Int)) (.lst (l.map eN))=.ok (decide (j∈l)):=by
 have h1:(l.map eN).all (fun d=>aZ d (.int (j:Int)))=true:=by
  rw [List.all_eq_true];intro d hd;obtain ⟨x,_,rfl⟩:=yl.mp hd;rfl
 have h2:((l.map eN).any fun d=>aH d (.int (j:Int)))=decide (j∈l):=by
  rw [Bool.eq_iff_iff,List.any_eq_true,decide_eq_true_eq];constructor
  .rintro ⟨d,hd,e⟩;obtain ⟨x,hx,rfl⟩:=yl.mp hd;have:x=j:=by
    simp [eN,aH] at e;omega
   rw [<- this];exact hx
  .intro h;exact ⟨eN j,yl.mpr ⟨j,h,rfl⟩,by simp [eN,aH]⟩
 show (if ((l.map eN).all (fun d=>aZ d (.int (j:Int))) && decide (dep (.int (j:Int))<=30))=true then R.ok ((l.map eN).any fun d=>aH d (.int (j:Int))) else .stuck)=_
 rw [h1,h2,if_pos (by simp [dep])]
theorem xg:bw .pw .ai .ai=.ok true:=rfl
theorem V7 (j:Int):bw .pw (.int j) .ai=.ok false:=rfl
theorem JF (l:List D):bw .pw (.tup l) .ai=.ok false:=rfl
theorem Tr:bw .iS .ai .ai=.ok false:=rfl
theorem SQ (j:Int):bw .iS (.int j) .ai=.ok true:=rfl
theorem Go (a b:D):bw .AQ a b=inD a b:=rfl
def eT (T:ze):Option Nat->D
 | none=>.ai
 | some j=>ao (T.getD j [])
def ie (L:List ag):D:=.lst (L.map eM)
def Hz {T:ze}{j:Nat} (h:j < T.length):T[j]?=some (T.getD j []):=by
 rw [List.getD_eq_getElem?_getD,List.getElem?_eq_getElem h];rfl
def yq (h:WB lv bs)  (h1:1<=k) (h3:k<=3) (hk:k<=lv.length)  (ht:∀ t∈ts,t∈ae lv bs) (v_:ts.length<=100)  (hl:rs.length=ts.length):au tab aD (n+9) 26 [eB lv bs,.int k,.lst (ts.map ao),.lst (rs.map D.bl)]=.ok (eT (ae lv bs) (fx (ae lv bs) ((aB lv bs k).filter fun m=>decide (aJ ts m=rs)))):=by
 have bX:lim=100000:=rfl;have oS:=nZ h h1 h3;have IF:=iG h;obtain ⟨ks,f,e1,e2⟩:=Dc (n:=n+4) (ts:=ae lv bs) h3 (ji h) (by omega);have hP:∀ m∈(aB lv bs k).filter fun m=>decide (aJ ts m=rs),CH (ae lv bs) ks f m:=fun m hm=>by
  have kU:=(yz.mp hm).1;obtain ⟨m1,m2⟩:=pR m kU;have m3:=(yz.mp kU).2;rw [List.any_eq_true] at m3;obtain ⟨q1,q2⟩:=e2 m m1 m2 m3;exact ⟨q1,q2⟩
 have sA:=yf (fun m=>decide (aJ ts m=rs)) (aB lv bs k);have e3:=vo (n:=n+7) hP (by omega) (by omega);rw [bB Im rfl];delta rE;simpa only [Lq (n:=n) h h1 h3 hk ht v_ hl,rC (n:=n+2) h,e1,e3];cases e:fx (ae lv bs) ((aB lv bs k).filter fun m=>decide (aJ ts m=rs)) with
 | none=>simpa only [eO,eT,xg]
 | some j =>
  have hj:=(pG e).1;simpa only [eO,eT,V7,Ca (enc:=ao) (Hz hj)]
structure LsOk (ts:ze) (ks:List ag) (f:ag->List D) (ls:List (List ag)):Prop where
 ne:∀ L∈ls,L≠[]/\L.length<=64/\∀ m∈L,CH ts ks f m
 sum:(ls.map List.length).sum<=4096
theorem Jv:∀ {ls:List (List ag)},(∀ L∈ls,L≠[])->ls.length<=(ls.map List.length).sum
 | [],_=>vE _
 | L::ls,h=>by
  have:=Jv fun M hM=>h M (vi _ hM)
  have h1:L.length≠0:=fun z=>h L vj (List.length_eq_zero_iff.mp z)
  simp only [List.length_cons,List.map_cons,List.sum_cons];omega
def Vv (ts:ze) (L:List ag):((l7 ts L).map List.length).sum<=L.length/\(l7 ts L).length<=2:=by
 unfold l7;split
 .simp
 .rename_i j e;have h:=BZ (ts.getD j []) L;have h2:=v7 (ts.getD j []) L;unfold jf at h h2;simp only [List.map_cons,List.map_nil,List.sum_cons,List.sum_nil,h];exact ⟨by omega,by simp⟩
theorem zZ (ts:ze):∀ (ls:List (List ag)),((gC ts ls).map List.length).sum<=(ls.map List.length).sum/\(gC ts ls).length<=2 * ls.length
 | []=>⟨vE _,vE _⟩
 | L::ls=>by
  obtain ⟨h1,h2⟩:=zZ ts ls;obtain ⟨h3,h4⟩:=Vv ts L;rw [show gC ts (L::ls)=l7 ts L++gC ts ls from List.flatMap_cons];simp only [List.map_append,List.sum_append,List.map_cons,List.sum_cons,List.length_append,List.length_cons];omega
variable {ls:List (List ag)}
def LsOk.step {f:ag->List D} (h:LsOk ts ks f ls):LsOk ts ks f (gC ts ls):=by
 refine ⟨fun P hP=>?_,vT (zZ ts ls).1 h.sum⟩;obtain ⟨L,h1,h2⟩:=yy.mp hP;obtain ⟨a1,a2,a3⟩:=h.ne L h1;obtain ⟨b1,b2⟩:=Bl h2;refine ⟨fun z=>?_,by omega,fun m hm=>a3 m (b2 m hm)⟩;subst z;unfold l7 at h2;split at h2
 .cases h2
 .rename_i j e;obtain ⟨-,c1,c2⟩:=pG e;have hn:=BZ (ts.getD j []) L;simp only [List.mem_cons,List.not_mem_nil,or_false] at h2;rcases h2 with z | z
  .unfold jf at c1;rw [<- z] at c1;simp at c1
  .rw [<- z,List.length_nil] at hn;omega
def Gp {f:ag->List D} (h:LsOk ts ks f ls) (ht:ts.length < 64):au tab aD (n+2) 28 [.lst (ls.map ie),cn eM ks f]=.ok (.lst ((gC ts ls).map ie)):=by
 have bX:lim=100000:=rfl;have ib:=Jv fun L hL=>(h.ne L hL).1
 have B1:=h.sum;have NY:=(zZ ts ls).2;rw [bB Q0 rfl];delta yV;simpa only [if_pos (show 0<=lim from Nat.zero_le _)];rw [bind_eq (a:=.nx [some (.lst (ls.map ie)),some (cn eM ks f),some (.lst ((gC ts ls).map ie)),none,none,none])]
 .simpa only []
 .refine (dU ie (fun acc:List (List ag)=>[some (.lst (ls.map ie)),some (cn eM ks f),some (.lst (acc.map ie)),none,none,none]) (l7 ts) 10000 ls (fun acc L hL hB=>?_) [] ?_).trans ?_
  .obtain ⟨a1,a2,a3⟩:=h.ne L hL;have e3:=vo (n:=n) (L:=L) a3 a2 ht;have II:au tab aD (n+1) 25 [ie L,cn eM ks f]=.ok (eO (fx ts L)):=e3;unfold l7 at hB ⊢;cases e:fx ts L with
   | none =>
    rw [e] at II;refine ⟨[some (.lst (ls.map ie)),some (cn eM ks f),some (.lst (acc.map ie)),some (ie L),some .ai,none],?_,by simp [aP]⟩;simpa only [II,eO,Tr]
   | some j =>
    rw [e] at II hB;have hj:=(pG e).1;have Ix:=yf (fun x=>aA (ts.getD j []) x) L;have FA:=yf (fun x=>!aA (ts.getD j []) x) L;simp only [List.length_cons,List.length_nil] at hB;refine ⟨[some (.lst (ls.map ie)),some (cn eM ks f),some (.lst ((acc++[L.filter fun x=>aA (ts.getD j []) x,L.filter fun x=>!aA (ts.getD j []) x]).map ie)),some (ie L),some (.int (j:Int)),none],?_,by simp [aP]⟩;simpa only [II,eO,SQ];have it:itemsOf .seq [ie L]=.ok (L.map eM):=rfl;have P8:∀ m∈L,f6 (cn eM ks f) (eM m)=.ok (.lst ((bp m 0 ts).map eN))/\inD (.int (j:Int)) (.lst ((bp m 0 ts).map eN))=.ok (aA (ts.getD j []) m):=fun m hm=>by
     obtain ⟨k1,k2⟩:=a3 m hm;refine ⟨by rw [Va uY k1,k2],?_⟩;rw [Gc];congr 1;rw [Bool.eq_iff_iff,decide_eq_true_eq];exact tW (Hz hj)
    have g1:cQ (fun d=>do let a <- f6 (cn eM ks f) d;let t <- bw .AQ (.int (j:Int)) a;if t=true then R.ok (some d) else R.ok none) (L.map eM)=.ok ((L.filter fun x=>aA (ts.getD j []) x).map eM):=aY L fun m hm=>by
     obtain ⟨q1,q2⟩:=P8 m hm;simp only [q1,qP,Go,q2];cases aA (ts.getD j []) m <;> rfl
    have g2:cQ (fun d=>do let a <- f6 (cn eM ks f) d;let a <- inD (.int (j:Int)) a;if (!a)=true then R.ok (some d) else R.ok none) (L.map eM)=.ok ((L.filter fun x=>!aA (ts.getD j []) x).map eM):=aY L fun m hm=>by
     obtain ⟨q1,q2⟩:=P8 m hm;simp only [q1,qP,q2];cases aA (ts.getD j []) m <;> rfl
    have IN:=nP (enc:=ie) (l:=acc) (a:=L.filter fun x=>aA (ts.getD j []) x) (by omega);have mI:=nP (enc:=ie) (l:=acc++[L.filter fun x=>aA (ts.getD j []) x]) (a:=L.filter fun x=>!aA (ts.getD j []) x) (by rw [List.length_append,List.length_singleton];omega);rw [List.append_assoc] at mI;have l1:((L.filter fun x=>aA (ts.getD j []) x).map eM).length<=lim:=by rw [List.length_map];omega
    have l2:((L.filter fun x=>!aA (ts.getD j []) x).map eM).length<=lim:=by rw [List.length_map];omega
    rw [bind_eq it,bind_eq g1,if_pos l1,qP,bind_eq (show tU (.lst (acc.map ie)) (.lst ((L.filter fun x=>aA (ts.getD j []) x).map eM))=_ from IN),bind_eq it,bind_eq g2,if_pos l2,qP,bind_eq (show tU _ (.lst ((L.filter fun x=>!aA (ts.getD j []) x).map eM))=_ from mI)];rfl
  .show _+(gC ts ls).length<=_
   simp only [List.length_nil];omega
  .rfl
def Vw {f:ag->List D} (ht:ts.length < 64) (x y z m0 l0:D):∀ (r fuel many:Nat) (ls:List (List ag)),LsOk ts ks f ls->(∀ L∈ls,L.length<=r)->r < fuel ->
  jd (fun Y=>do let x <- aw (au tab aD (n+2)) (.cmp .gt (.blt .len [(.var 5)]) (.con (.int 0))) Y;aV x) (fun Y=>bI (au tab aD (n+2)) [.set (.one 4) (.bin .add (.var 4) (.con (.int 1))),.set (.one 5) (.call 28 [(.var 5),(.var 3)])] Y) [some x,some y,some z,some (cn eM ks f),some m0,some l0] fuel [some x,some y,some z,some (cn eM ks f),some (.int (many:Int)),some (.lst (ls.map ie))]=.ok (.nx [some x,some y,some z,some (cn eM ks f),some (.int ((many+u_ ts (r+1) ls:Nat):Int)),some (.lst [])]):=by
 intro r;have stop:∀ (r fuel many:Nat),0 < fuel->jd (fun Y=>do let x <- aw (au tab aD (n+2)) (.cmp .gt (.blt .len [(.var 5)]) (.con (.int 0))) Y;aV x) (fun Y=>bI (au tab aD (n+2)) [.set (.one 4) (.bin .add (.var 4) (.con (.int 1))),.set (.one 5) (.call 28 [(.var 5),(.var 3)])] Y) [some x,some y,some z,some (cn eM ks f),some m0,some l0] fuel [some x,some y,some z,some (cn eM ks f),some (.int (many:Int)),some (.lst (([]:List (List ag)).map ie))]=.ok (.nx [some x,some y,some z,some (cn eM ks f),some (.int ((many+u_ ts (r+1) []:Nat):Int)),some (.lst [])]):=by
  intro r fuel many hf;obtain ⟨fuel,rfl⟩:∃ q,fuel=q+1:=⟨fuel - 1,by omega⟩;rw [jd];rfl
 induction r with
 | zero =>
  intro fuel many ls h hr hf;cases ls with
  | nil=>exact stop 0 fuel many hf
  | cons L ls =>
   have h1:=hr L vj;exact absurd (List.length_eq_zero_iff.mp (by omega)) (h.ne L vj).1
 | succ r ih =>
  intro fuel many ls h hr hf;cases BE:ls with
  | nil=>exact stop (r+1) fuel many (by omega)
  | cons L ls' =>
   rw [<- BE];have dE:ls.isEmpty=false:=by rw [BE];rfl
   have sC:(0:Int) < (ls.length:Int):=by rw [BE,List.length_cons];omega
   obtain ⟨fuel,rfl⟩:∃ q,fuel=q+1:=⟨fuel - 1,by omega⟩;have hp:=Gp (n:=n) h ht;have IH:=ih fuel (many+1) (gC ts ls) h.step (fun P hP=>by
    obtain ⟨L,q1,q2⟩:=yy.mp hP;have:=hr L q1;have:=(Bl q2).1;omega) (by omega)
   rw [u_,dE];rw [jd];have hl:mR (.lst (ls.map ie))=.ok (.int (ls.length:Int)):=by
    show R.ok (D.int ((ls.map ie).length:Int))=_
    rw [List.length_map]
   simpa only [hl,decide_eq_true sC,hp];simpa only [] using IH;rw [show ((many+1:Nat):Int)=(many:Int)+1 by omega] at IH;refine IH.trans ?_;rw [show many+1+u_ ts (r+1) (gC ts ls)=many+(1+u_ ts (r+1) (gC ts ls)) by omega]
def Nv (h:WB lv bs)  (h1:1<=k) (h3:k<=3) (hk:k<=lv.length)  (ht:∀ t∈ts,t∈ae lv bs) (v_:ts.length<=100):au tab aD (n+9) 29 [eB lv bs,.int k,.lst (ts.map ao)]=.ok (.int (ic (fun m=>du (ae lv bs) m 64 ((aB lv bs k).filter fun x=>decide (bp x 0 ts=bp m 0 ts))) (aB lv bs k):Nat)):=by
 have bX:lim=100000:=rfl;have oS:=nZ h h1 h3;have IF:=iG h;obtain ⟨ks,f,e1,e2⟩:=Dc (n:=n+4) (ts:=ae lv bs) h3 (ji h) (by omega);have hP:∀ m∈aB lv bs k,CH (ae lv bs) ks f m:=fun m kU=>by
  obtain ⟨m1,m2⟩:=pR m kU;have m3:=(yz.mp kU).2;rw [List.any_eq_true] at m3;obtain ⟨q1,q2⟩:=e2 m m1 m2 m3;exact ⟨q1,q2⟩
 have hG:LsOk (ae lv bs) ks f (iB (fun m=>bp m 0 ts) (aB lv bs k)):=by
  have B9:(iB (fun m=>bp m 0 ts) (aB lv bs k)).length<=(aB lv bs k).length:=by
   have:=(yP (fun m=>bp m 0 ts) (aB lv bs k) []).length_le;rw [iB,List.length_map];simpa using this
  have GO:∀ L∈iB (fun m=>bp m 0 ts) (aB lv bs k),L≠[]/\L.length<=64/\∀ m∈L,CH (ae lv bs) ks f m:=fun L hL=>by
   unfold iB at hL;obtain ⟨a,h1,rfl⟩:=yl.mp hL;have ha:=(yP (fun m=>bp m 0 ts) (aB lv bs k) []).subset h1;rw [List.nil_append] at ha;refine ⟨fun z=>?_,vT (yf _ _) (by omega),fun m hm=>hP m (yz.mp hm).1⟩;have:a∈(aB lv bs k).filter fun x=>decide (bp x 0 ts=bp a 0 ts):=yz.mpr ⟨ha,v6 rfl⟩
   rw [z] at this;cases this
  refine ⟨GO,?_⟩;have:∀ l:List (List ag),(∀ L∈l,L.length<=64)->(l.map List.length).sum<=64 * l.length:=by
   intro l;induction l with
   | nil=>intro _;simp
   | cons L l ih =>
    intro q;have q1:=ih fun M hM=>q M (vi _ hM)
    have q2:=q L vj;simp only [List.map_cons,List.sum_cons,List.length_cons];omega
  have:=this _ fun L hL=>(GO L hL).2.1
  omega
 have e5:=Gp (n:=n+6) hG (by omega);have e4:au tab aD (n+8) 27 [eB lv bs,.int k,.lst (ts.map ao)]=.ok (.lst ((iB (fun m=>bp m 0 ts) (aB lv bs k)).map ie)):=VJ (n:=n) h h1 h3 hk ht v_;have W:=Vw (n:=n+6) (ts:=ae lv bs) (ks:=ks) (f:=f) (by omega) (eB lv bs) (.int k) (.lst (ts.map ao)) (.int 0) (.lst ((gC (ae lv bs) (iB (fun m=>bp m 0 ts) (aB lv bs k))).map ie)) 63 D5 0 _ hG.step (fun P hP=>by
  obtain ⟨L,q1,q2⟩:=yy.mp hP;have:=(hG.ne L q1).2.1;have:=(Bl q2).1;omega) (by decide)
 rw [JW 64 _ fun L hL=>(hG.ne L hL).2.1,W7,Nat.zero_add] at W;rw [bB Ea rfl];delta mU;simpa only [yu (n:=n+1) h h1 h3 hk ht,rC (n:=n+2) h,e1,e4,e5,GZ];simpa only [] using W;refine (congrArg oR (bind_eq W)).trans ?_;simpa only []
theorem Pz:∀ (rs qs:List Bool),cL (rs.map D.bl) (qs.map D.bl)=decide (rs=qs)
 | [],[]=>by simp [cL]
 | [],_::_=>by simp [cL]
 | _::_,[]=>by simp [cL]
 | a::rs,b::qs=>by
  rw [List.map_cons,List.map_cons,cL,Pz rs qs];cases a <;> cases b <;> simp [aH]
def Gj (rs qs:List Bool):bw .eq (.lst (rs.map D.bl)) (.lst (qs.map D.bl))=.ok (decide (rs=qs)):=by
 have hd:∀ l:List Bool,dep (.lst (l.map D.bl))<=30:=fun l=>by
  have:=iH (enc:=D.bl) (n:=1) (fun _=>by simp [dep]) l;rw [dep];omega
 show (if aZ _ _=true then R.ok (aH _ _) else .stuck)=_
 have hf:aZ (.lst (rs.map D.bl)) (.lst (qs.map D.bl))=true:=by
  unfold aZ;rw [decide_eq_true (hd rs),decide_eq_true (hd qs)];rfl
 rw [if_pos hf,aH,Pz]
def KB (a b:Bool):bw .eq (.bl a) (.bl b)=.ok (decide (a=b)):=by cases a <;> cases b <;> rfl
def N8 (a b:Nat):gj .max2 [.int (a:Int),.int (b:Int)]=.ok (.int ((max a b:Nat):Int)):=by
 show R.ok (D.int (if (b:Int) > (a:Int) then (b:Int) else (a:Int)))=_
 congr 2;split <;> omega
noncomputable def vK (W:Nat->Nat) (B:Nat) (b:Option Nat) (j:Nat):Option Nat:=if W j < B/\(∀ i,b=some i->W j < W i) then some j else b
theorem FJ (W:Nat->Nat) (B:Nat):∀ n,(List.range n).foldl (vK W B) none=u4 W B n
 | 0=>rfl
 | n+1=>by rw [List.range_succ,List.foldl_append,FJ W B n];rfl
def Xm (T:ze):T.map ao=(List.range T.length).map fun j=>ao (T.getD j []):=by
 apply List.ext_getElem?;intro i;rw [List.getElem?_map,List.getElem?_map];by_cases h:i < T.length
 .rw [List.getElem?_range h,Hz h];rfl
 .rw [List.getElem?_eq_none (by omega),List.getElem?_eq_none (by simp;omega)];rfl
def tR (T:ze) (L:List ag):Option Nat->D
 | none=>.ai
 | some j=>.tup [.int (WT T L j:Int),ao (T.getD j [])]
theorem KF (a b:D):f6 (.tup [a,b]) (.int 0)=.ok a:=rfl
theorem KM (a b:D):f6 (.tup [a,b]) (.int 1)=.ok b:=rfl
def BP {T:ze} (h:∀ t∈T,∀ m∈L,(∀ p∈m,p.1 < t.length)/\m.length<=lim) (hl:L.length<=64):au tab aD (n+2) 40 [.lst (L.map eM),.lst (T.map ao)]=.ok (eT T (fx T L)):=by
 have bX:lim=100000:=rfl;rw [bB Jp rfl];delta rK;simpa only [];rw [bind_eq (a:=.nx [some (.lst (L.map eM)),some (.lst (T.map ao)),some (tR T L (fx T L)),none,none,none,none])]
 .cases e:fx T L with
  | none=>simpa only [tR,xg,eT]
  | some j=>simpa only [tR,JF,eT,KM]
 .rw [show fx T L=(List.range T.length).foldl (vK (WT T L) L.length) none from (FJ _ _ _).symm];refine Eq.trans (congrArg (fun l=>iC _ _ l _) (Xm T)) ?_;generalize T.map ao=A;refine rD (fun j=>ao (T.getD j [])) (fun b:Option Nat=>[some (.lst (L.map eM)),some (.lst A),some (tR T L b),none,none,none,none]) (vK (WT T L) L.length) (fun _=>True) (List.range T.length) (fun b j hj _=>⟨trivial,?_⟩) none trivial;have ui:=yA.mp hj;have IE:=Hz ui;have cz:T.getD j []∈T:=List.mem_of_getElem? IE;have g:cQ (fun d=>do let a <- au tab aD (n+1) 34 [ao (T.getD j []),d];let t <- aV a;if t=true then R.ok (some d) else R.ok none) (L.map eM)=.ok ((L.filter fun m=>aA (T.getD j []) m).map eM):=aY L fun m hm=>by
   obtain ⟨q1,q2⟩:=h _ cz m hm;rw [kZ (n:=n) q1 q2];cases aA (T.getD j []) m <;> rfl
  have hc:=v7 (T.getD j []) L;have kB:((L.filter fun m=>aA (T.getD j []) m).map eM).length<=lim:=by
   have:(L.filter fun m=>aA (T.getD j []) m).length<=L.length:=hc;rw [List.length_map];omega
  have g_:(L.length:Int) - (((L.filter fun m=>aA (T.getD j []) m).length:Nat):Int)=((L.length - (L.filter fun m=>aA (T.getD j []) m).length:Nat):Int):=by
   have:(L.filter fun m=>aA (T.getD j []) m).length<=L.length:=hc;omega
  have hW:max (L.filter fun m=>aA (T.getD j []) m).length (L.length - (L.filter fun m=>aA (T.getD j []) m).length)=WT T L j:=rfl;refine ⟨[some (.lst (L.map eM)),some (.lst A),some (tR T L (vK (WT T L) L.length b j)),some (ao (T.getD j [])),some (.int ((jf (T.getD j []) L:Nat):Int)),some (.int (WT T L j:Int)),none],?_,rfl⟩;have hlen:mR (.lst ((L.filter fun m=>aA (T.getD j []) m).map eM))=.ok (.int ((L.filter fun m=>aA (T.getD j []) m).length:Nat)):=by
   show R.ok (D.int (((L.filter fun m=>aA (T.getD j []) m).map eM).length:Int))=_
   rw [List.length_map]
  simpa only [];rw [bind_eq g,if_pos kB,qP,hlen];simpa only [g_,N8,hW];have eJ:((L.filter fun m=>aA (T.getD j []) m).length:Nat)=jf (T.getD j []) L:=rfl;simp only [eJ];have d1:decide ((WT T L j:Int) < (L.length:Int))=decide (WT T L j < L.length):=by
   by_cases q:WT T L j < L.length
   .rw [decide_eq_true q,decide_eq_true (by omega)]
   .rw [decide_eq_false q,decide_eq_false (by omega)]
  rw [d1];by_cases q:WT T L j < L.length
  .rw [decide_eq_true q];cases b with
   | none =>
    have eb:vK (WT T L) L.length none j=some j:=if_pos ⟨q,fun i e=>by cases e⟩;rw [eb];simpa only [tR,xg];rfl
   | some i =>
    have d2:decide ((WT T L j:Int) < (WT T L i:Int))=decide (WT T L j < WT T L i):=by
     by_cases q:WT T L j < WT T L i
     .rw [decide_eq_true q,decide_eq_true (by omega)]
     .rw [decide_eq_false q,decide_eq_false (by omega)]
    simpa only [tR,JF,KF,d2];by_cases q2:WT T L j < WT T L i
    .have eb:vK (WT T L) L.length (some i) j=some j:=if_pos ⟨q,fun i' e=>by cases e;exact q2⟩;rw [eb,decide_eq_true q2];simpa only [tR];rfl
    .have eb:vK (WT T L) L.length (some i) j=some i:=if_neg fun z=>q2 (z.2 i rfl)
     rw [eb,decide_eq_false q2];simpa only [tR]
     all_goals rfl
  .have eb:vK (WT T L) L.length b j=b:=if_neg fun z=>q z.1
   rw [decide_eq_false q,eb];simpa only []
   all_goals rfl
def Sd (lv:zi):xy (ao lv) none (some 3)=.ok (ao (lv.take 3)):=by
 show (if HT.bu (lv.map eN).length 0 none=0/\HT.bu (lv.map eN).length (lv.map eN).length (some 3)=(lv.map eN).length then R.ok (D.tup (lv.map eN)) else .ok (.tup (cutD (lv.map eN) none (some 3))))=_
 have e:(.tup (cutD (lv.map eN) none (some 3)):D)=ao (lv.take 3):=by rw [ZL,ao,List.map_take]
 split
 .rename_i q;have:(lv.map eN).length<=3:=by
   have:=q.2;rw [<- this];unfold HT.bu;simp;omega
  rw [List.length_map] at this;rw [List.take_of_length_le this];rfl
 .rw [e]
noncomputable def yN (bs:List ag):List ag:=bs.filter fun b=>match b.getLast? with | some q=>decide (q.1 < 3) | none=>false
def X5 (h:WB lv bs):WB (lv.take 3) (yN bs):=by
 have hlen:(lv.take 3).length=min 3 lv.length:=List.length_take;have h1:=h.one;have get:∀ {i l:Nat},(lv.take 3)[i]?=some l->lv[i]?=some l:=fun {i l} e=>by
  rw [List.getElem?_take] at e;split at e
  .exact e
  .cases e
 refine ⟨by omega,by omega,fun i l e=>h.HR i l (get e),fun i l e=>h.PF i l (get e),vT (yf _ _) h.nb,fun b hb=>?_⟩;obtain ⟨fy,dM⟩:=yz.mp hb;obtain ⟨⟨m1,m2⟩,m3⟩:=h.Bx b fy;refine ⟨⟨m1,fun p hp=>?_⟩,m3⟩;obtain ⟨l,e,q⟩:=m2 p hp;refine ⟨l,?_,q⟩;rw [List.getElem?_take,if_pos ?_]
 .exact e
 cases el:b.getLast? with
 | none=>rw [List.getLast?_eq_none_iff.mp el] at hp;cases hp
 | some z =>
  rw [el] at dM;have hz:z.1 < 3:=of_decide_eq_true dM;obtain ⟨ys,rfl⟩:=List.getLast?_eq_some_iff.mp el;rcases ym.mp hp with hp | hp
  .have:=(List.pairwise_append.mp m1).2.2 p hp z (yn.mpr rfl);omega
  .rw [List.mem_singleton.mp hp];exact hz
variable {f:D->R (Option D)}
def No (h:∀ b∈bs,1<=b.length) (hf:∀ b∈bs,f (eM b)=(do let a <- f6 (eM b) (.int (-1));let c <- f6 a (.int 0);let t <- bw .lt c (.int 3);if t=true then R.ok (some (eM b)) else R.ok none)):cQ f (bs.map eM)=.ok ((yN bs).map eM):=by
 refine aY bs fun b hb=>?_
 rw [hf b hb];cases el:b.getLast? with
 | none=>have:=h b hb;rw [List.getLast?_eq_none_iff.mp el] at this;simp at this
 | some z =>
  rw [JR el,qP,zE,qP];show (R.ok (decide ((z.1:Int) < 3)) >>= _)=_
  rw [qP];show _=R.ok (if decide (z.1 < 3)=true then some (eM b) else none)
  by_cases q:z.1 < 3
  .rw [decide_eq_true q,decide_eq_true (show (z.1:Int) < 3 by omega)];rfl
  .rw [decide_eq_false q,decide_eq_false (show ¬ (z.1:Int) < 3 by omega)];rfl
def bf (ts:ze) (m:ag):List Bool:=ts.map fun t=>aA t m
def Fi {m':ag}:bf ts m=bf ts m'↔bp m 0 ts=bp m' 0 ts:=by
 rw [W5];have e:∀ m,aJ ts m=(bf ts m).map not:=fun m=>by rw [aJ,bf,List.map_map];rfl
 rw [e,e];constructor
 .intro h;rw [h]
 .intro h;exact (List.map_inj_right fun a b q=>by cases a <;> cases b <;> simp_all).mp h
def kO (h3:k<=3)  (ht:t∈ae lv bs)  (hm:m∈aB lv bs k):(∀ p∈m,p.1 < t.length)/\m.length<=lim:=by
 have bX:lim=100000:=rfl;have P9:=pD.mp (yz.mp hm).1;exact ⟨Ku (lV ht) P9.2,by rw [P9.1];omega⟩
variable {Y:En}
def V4 {c:En->R Bool}{f:En->R Out}{cA ρ' FE:En} (hc:c Y=.ok true) (hf:f Y=.ok (.nx ρ')) (hl:aP cA ρ'=FE):jd c f cA (n+1) Y=jd c f cA n FE:=by
 rw [jd,hc,qP,if_pos rfl,hf,qP,<- hl]
section
variable {lv:zi}{bs:List ag}{k:Nat}
abbrev zy (lv:zi) (bs:List ag) (d0 d1 d2 d3 d5 d6 d7 d8 d9 nz:D) (m:ag) (L:List ag) (many:Nat) (o:D):En:=[some d0,some d1,some d2,some d3,some (.lst ((ae lv bs).map ao)),some d5,some d6,some d7,some d8,some d9,some (eM m),some nz,some (.lst (L.map eM)),some (.int (many:Int)),some o,none,none]
def YD (h:WB lv bs) (h3:k<=3) (d0 d1 d2 d3 d5 d6 d7 d8 d9 nz:D)  (hm:m∈aB lv bs k) (L0:List ag) (o0:D):∀ (r fuel many:Nat) (L:List ag),(∀ x∈L,x∈aB lv bs k)->L.length<=r->r<=64->r < fuel ->
  ∃ L',jd (fun Y=>do let x <- aw (au tab aD (n+2)) (.cmp .iS (.var 14) (.con .ai)) Y;aV x) (fun Y=>bI (au tab aD (n+2)) [.set (.one 13) (.bin .add (.var 13) (.con (.int 1))),.set (.one 12) (.comp (.var 15) (.one 15) .seq [(.var 12)] true (.cmp .eq (.call 34 [(.var 14),(.var 15)]) (.call 34 [(.var 14),(.var 10)])) [false,false,false,false,false,false,false,false,false,false,true,false,false,false,true,false,false]),.set (.one 14) (.call 40 [(.var 12),(.var 4)])] Y)
   (zy lv bs d0 d1 d2 d3 d5 d6 d7 d8 d9 nz m L0 0 o0) fuel (zy lv bs d0 d1 d2 d3 d5 d6 d7 d8 d9 nz m L many (eT (ae lv bs) (fx (ae lv bs) L)))=.ok (.nx (zy lv bs d0 d1 d2 d3 d5 d6 d7 d8 d9 nz m L' (many+du (ae lv bs) m r L) .ai)):=by
 have bX:lim=100000:=rfl;intro r;have stop:∀ (fuel many:Nat) (L:List ag),0 < fuel->fx (ae lv bs) L=none->jd (fun Y=>do let x <- aw (au tab aD (n+2)) (.cmp .iS (.var 14) (.con .ai)) Y;aV x) (fun Y=>bI (au tab aD (n+2)) [.set (.one 13) (.bin .add (.var 13) (.con (.int 1))),.set (.one 12) (.comp (.var 15) (.one 15) .seq [(.var 12)] true (.cmp .eq (.call 34 [(.var 14),(.var 15)]) (.call 34 [(.var 14),(.var 10)])) [false,false,false,false,false,false,false,false,false,false,true,false,false,false,true,false,false]),.set (.one 14) (.call 40 [(.var 12),(.var 4)])] Y)
   (zy lv bs d0 d1 d2 d3 d5 d6 d7 d8 d9 nz m L0 0 o0) fuel (zy lv bs d0 d1 d2 d3 d5 d6 d7 d8 d9 nz m L many (eT (ae lv bs) (fx (ae lv bs) L)))=.ok (.nx (zy lv bs d0 d1 d2 d3 d5 d6 d7 d8 d9 nz m L many .ai)):=by
  intro fuel many L hf e;obtain ⟨fuel,rfl⟩:∃ q,fuel=q+1:=⟨fuel - 1,by omega⟩;rw [e,jd];rfl
 induction r with
 | zero =>
  intro fuel many L hL hr _ hf;have:L=[]:=List.length_eq_zero_iff.mp (by omega);subst this;exact ⟨[],stop fuel many [] hf Js⟩
 | succ r ih =>
  intro fuel many L hL hr Lo hf;cases e:fx (ae lv bs) L with
  | none =>
   have e2:du (ae lv bs) m (r+1) L=0:=by rw [du,e]
   have:=stop fuel many L (by omega) e;rw [e] at this;rw [e2];exact ⟨L,this⟩
  | some j =>
   have hj:=(pG e).1;have IE:=Hz hj;have cz:(ae lv bs).getD j []∈ae lv bs:=List.mem_of_getElem? IE;have bj:(L.filter fun x=>decide (aA ((ae lv bs).getD j []) x=aA ((ae lv bs).getD j []) m)).length < L.length:=by
    obtain ⟨p1,p2⟩:=Dw e;cases q:aA ((ae lv bs).getD j []) m with
    | true=>simpa using p1
    | false=>simpa using p2
   have e2:du (ae lv bs) m (r+1) L=1+du (ae lv bs) m r (L.filter fun x=>decide (aA ((ae lv bs).getD j []) x=aA ((ae lv bs).getD j []) m)):=by rw [du,e]
   obtain ⟨fuel,rfl⟩:∃ q,fuel=q+1:=⟨fuel - 1,by omega⟩;obtain ⟨L',IH⟩:=ih fuel (many+1) (L.filter fun x=>decide (aA ((ae lv bs).getD j []) x=aA ((ae lv bs).getD j []) m)) (fun x hx=>hL x (yz.mp hx).1) (by omega) (by omega) (by omega);refine ⟨L',?_⟩;rw [e2,show many+(1+du (ae lv bs) m r (L.filter fun x=>decide (aA ((ae lv bs).getD j []) x=aA ((ae lv bs).getD j []) m)))=many+1+du (ae lv bs) m r (L.filter fun x=>decide (aA ((ae lv bs).getD j []) x=aA ((ae lv bs).getD j []) m)) by omega];refine Eq.trans ?_ IH;have mt:∀ x∈aB lv bs k,au tab aD (n+2) 34 [ao ((ae lv bs).getD j []),eM x]=.ok (.bl (aA ((ae lv bs).getD j []) x)):=fun x hx=>kZ (n:=n+1) (kO h3 cz hx).1 (kO h3 cz hx).2
   have g:cQ (fun d=>do let a <- au tab aD (n+2) 34 [ao ((ae lv bs).getD j []),d];let b <- au tab aD (n+2) 34 [ao ((ae lv bs).getD j []),eM m];let t <- bw .eq a b;if t=true then R.ok (some d) else R.ok none) (L.map eM)=.ok ((L.filter fun x=>decide (aA ((ae lv bs).getD j []) x=aA ((ae lv bs).getD j []) m)).map eM):=aY L fun x hx=>by
    rw [mt x (hL x hx),qP,mt m hm,qP,KB,qP];cases decide (aA ((ae lv bs).getD j []) x=aA ((ae lv bs).getD j []) m) <;> rfl
   have Na:=BP (n:=n) (T:=ae lv bs) (L:=L.filter fun x=>decide (aA ((ae lv bs).getD j []) x=aA ((ae lv bs).getD j []) m)) (fun t ht x hx=>kO h3 ht (hL x (yz.mp hx).1)) (by omega);have gl:((L.filter fun x=>decide (aA ((ae lv bs).getD j []) x=aA ((ae lv bs).getD j []) m)).map eM).length<=lim:=by rw [List.length_map];omega
   refine V4 (ρ':=zy lv bs d0 d1 d2 d3 d5 d6 d7 d8 d9 nz m (L.filter fun x=>decide (aA ((ae lv bs).getD j []) x=aA ((ae lv bs).getD j []) m)) (many+1) (eT (ae lv bs) (fx (ae lv bs) (L.filter fun x=>decide (aA ((ae lv bs).getD j []) x=aA ((ae lv bs).getD j []) m))))) rfl ?_ rfl;simpa only [eT];rw [bind_eq g,if_pos gl,qP,bind_eq Na];rfl
end
abbrev Yi (lv:zi) (bs:List ag) (d0 d1 d2 d3 d5 d6 d7 d8:D) (acc:Nat):En:=[some d0,some d1,some d2,some d3,some (.lst ((ae lv bs).map ao)),some d5,some d6,some d7,some d8,some (.int (acc:Int)),none,none,none,none,none,none,none]
def Y5 (h3:k<=3)  (ht:∀ t∈ts,t∈ae lv bs)  (hm:m∈aB lv bs k)  (hf:∀ t∈ts,f (ao t)=(do let a <- au tab aD (n+1) 34 [ao t,eM m];R.ok (some a))):cQ f (ts.map ao)=.ok ((bf ts m).map D.bl):=by
 have e:(bf ts m).map D.bl=ts.map fun t=>D.bl (aA t m):=by rw [bf,List.map_map];rfl
 rw [e];refine cR ts fun t kK=>?_
 obtain ⟨q1,q2⟩:=kO h3 (ht t kK) hm;rw [hf t kK,kZ (n:=n) q1 q2];rfl
def YG (h3:k<=3)  (ht:∀ t∈ts,t∈ae lv bs)  (hm:m∈aB lv bs k)  (hf:∀ t∈ts,f (ao t)=(do let a <- au tab aD (n+1) 34 [ao t,eM m];let t <- aV a;R.ok (some (D.bl !t)))):cQ f (ts.map ao)=.ok ((aJ ts m).map D.bl):=by
 have e:(aJ ts m).map D.bl=ts.map fun t=>D.bl (!aA t m):=by rw [aJ,List.map_map];rfl
 rw [e];refine cR ts fun t kK=>?_
 obtain ⟨q1,q2⟩:=kO h3 (ht t kK) hm;rw [hf t kK,kZ (n:=n) q1 q2];rfl
variable {cl:Nat->List D->R D}{ms:List MS}
def dG {m:MS} (ρ':En) {v:R D} (h:bZ cl m Y=.ok (.nx ρ')) (k:oR (bI cl ms ρ')=v):oR (bI cl (m::ms) Y)=v:=by
 rw [qQ,h];exact k
def Ky {m:MS}{d:D} (h:bZ cl m Y=.ok (.rt d)):oR (bI cl (m::ms) Y)=.ok d:=by
 rw [qQ,h];rfl
def nU {m:MS} (ρ':En) {v:R Out} (h:bZ cl m Y=.ok (.nx ρ')) (k:bI cl ms ρ'=v):bI cl (m::ms) Y=v:=by
 rw [qQ,h];exact k
def Xb (c:Int)  (h:0 < k):∃ r:Nat,c % (k:Int)=(r:Int)/\r < k:=by
 have h1:=Int.emod_nonneg c (show (k:Int)≠0 by omega);have h2:=Int.emod_lt_of_pos c (show (0:Int) < k by omega);exact ⟨(c % k).toNat,by omega,by omega⟩
theorem Rm (ns:List Int) (nN:ns.length<=63):au tab aD 31 41 [.lst (ns.map D.int)]=.ok (.bl true):=by
 have W0:=Wa ns 2;have bX:lim=100000:=rfl;have cw:au tab aD 30 30 [.lst (ns.map D.int),.int 0]=.ok (.int (bH ns 0)):=lX (n:=29) ns 0;have lT:au tab aD 30 30 [.lst (ns.map D.int),.int 1]=.ok (.int (bH ns 1)):=lX (n:=29) ns 1;have mN:au tab aD 30 32 [.lst (ns.map D.int),.int 2]=.ok (eB (gG ns 2) (n6 ns 2)):=Za (n:=28) nN 2
 revert mN W0
 generalize gG ns 2=oB;generalize n6 ns 2=BU;intro W0 mN;have W:=X5 W0;have FG:=No (bs:=BU) (f:=fun d=>do let a <- f6 d (.int (-1));let c <- f6 a (.int 0);let t <- bw .lt c (.int 3);if t=true then R.ok (some d) else R.ok none) (fun b hb=>(W0.Bx b hb).2.1) fun b hb=>rfl
 have NE:=W0.nb;have kB:((yN BU).map eM).length<=lim:=by
  rw [List.length_map];exact vT (yf _ _) (by omega)
 have hB:(D.tup [ao (oB.take 3),.tup ((yN BU).map eM)])=eB (oB.take 3) (yN BU):=rfl;rw [bB AC rfl];delta KQ;refine dG [some (.lst (ns.map D.int)),some (eB oB BU),none,none,none,none,none,none,none,none,none,none,none,none,none,none,none] (by simpa only [mN]) ?_;refine dG [some (.lst (ns.map D.int)),some (eB (oB.take 3) (yN BU)),none,none,none,none,none,none,none,none,none,none,none,none,none,none,none] ?_ ?_
 .simpa only [Sd];rw [bind_eq FG,if_pos kB,qP];rfl
 clear hB kB FG mN NE W0
 revert W
 generalize oB.take 3=lv;generalize yN BU=bs;intro W;obtain ⟨k,h1,h3,hk,ma⟩:=Iw (n:=29) W (bH ns 0);have iu:au tab aD 30 39 [eB lv bs,.int (bH ns 0)]=.ok (.int k):=ma;refine dG [some (.lst (ns.map D.int)),some (eB lv bs),some (.int (k:Int)),none,none,none,none,none,none,none,none,none,none,none,none,none,none] (by simpa only [cw,iu]) ?_;obtain ⟨ts,ht,IF,Op⟩:=Wd (n:=27) (ns:=ns) W 5 (w:=3) (by decide);have Nc:au tab aD 30 38 [.lst (ns.map D.int),.int 5,eB lv bs,.int 3]=.ok (.lst (ts.map ao)):=Op;refine dG [some (.lst (ns.map D.int)),some (eB lv bs),some (.int (k:Int)),some (.lst (ts.map ao)),none,none,none,none,none,none,none,none,none,none,none,none,none] (by simpa only [Nc]) ?_;have Ps:au tab aD 30 35 [eB lv bs]=.ok (.lst ((ae lv bs).map ao)):=uE (n:=28) W;refine dG [some (.lst (ns.map D.int)),some (eB lv bs),some (.int (k:Int)),some (.lst (ts.map ao)),some (.lst ((ae lv bs).map ao)),none,none,none,none,none,none,none,none,none,none,none,none] (by simpa only [Ps]) ?_;have PP:au tab aD 30 37 [eB lv bs,.int k]=.ok (.lst ((aB lv bs k).map eM)):=Jd (n:=27) W h1 h3;refine dG [some (.lst (ns.map D.int)),some (eB lv bs),some (.int (k:Int)),some (.lst (ts.map ao)),some (.lst ((ae lv bs).map ao)),some (.lst ((aB lv bs k).map eM)),none,none,none,none,none,none,none,none,none,none,none] (by simpa only [PP]) ?_;have oS:=nZ W h1 h3;have Re:=iG W;cases hS:(aB lv bs k).isEmpty with
 | true =>
  have nX:aB lv bs k=[]:=List.isEmpty_iff.mp hS;have e1:au tab aD 30 26 [eB lv bs,.int k,.lst [],.lst []]=.ok .ai:=by
   have:=yq (n:=21) W h1 h3 hk (ts:=[]) (fun t h=>by cases h) (by decide) (rs:=[]) rfl;rw [nX,show ([]:List ag).filter (fun m=>decide (aJ [] m=[]))=[] from rfl,Js] at this;exact this
  have e2:au tab aD 30 29 [eB lv bs,.int k,.lst []]=.ok (.int 0):=by
   have:=Nv (n:=21) W h1 h3 hk (ts:=[]) (fun t h=>by cases h) (by decide);rw [nX] at this;exact this
  refine Ky ?_;simpa only [if_pos (show 0<=lim from Nat.zero_le _),nu.iE,hS,e1,e2,xg]
  all_goals rfl
 | false =>
  have sC:0 < (aB lv bs k).length:=by
   cases e:aB lv bs k with
   | nil=>rw [e] at hS;cases hS
   | cons x l=>simp
  refine dG [some (.lst (ns.map D.int)),some (eB lv bs),some (.int (k:Int)),some (.lst (ts.map ao)),some (.lst ((ae lv bs).map ao)),some (.lst ((aB lv bs k).map eM)),none,none,none,none,none,none,none,none,none,none,none] (by simpa only [if_pos (show 0<=lim from Nat.zero_le _),nu.iE,hS]) ?_;obtain ⟨r,er,hr⟩:=Xb (bH ns 1) sC;have Nd:=List.getElem?_eq_getElem hr;have BV:(aB lv bs k)[r]∈aB lv bs k:=List.getElem_mem hr
  revert Nd BV
  generalize (aB lv bs k)[r]=mf;intro Nd BV;have Nl:je .mod (.int (bH ns 1)) (.int ((aB lv bs k).length:Int))=.ok (.int (r:Int)):=by rw [EY (by omega),er]
  refine dG [some (.lst (ns.map D.int)),some (eB lv bs),some (.int (k:Int)),some (.lst (ts.map ao)),some (.lst ((ae lv bs).map ao)),some (.lst ((aB lv bs k).map eM)),some (eM mf),none,none,none,none,none,none,none,none,none,none] (by simpa only [lT,Nl,Ca (enc:=eM) Nd]) ?_;refine dG [some (.lst (ns.map D.int)),some (eB lv bs),some (.int (k:Int)),some (.lst (ts.map ao)),some (.lst ((ae lv bs).map ao)),some (.lst ((aB lv bs k).map eM)),some (eM mf),some (.lst ((aJ ts mf).map D.bl)),none,none,none,none,none,none,none,none,none] ?_ ?_
  .simpa only [];rw [bind_eq (YG (n:=29) h3 ht BV fun t kK=>rfl),if_pos (by simp only [List.length_map,aJ];omega)];rfl
  refine dG [some (.lst (ns.map D.int)),some (eB lv bs),some (.int (k:Int)),some (.lst (ts.map ao)),some (.lst ((ae lv bs).map ao)),some (.lst ((aB lv bs k).map eM)),some (eM mf),some (.lst ((aJ ts mf).map D.bl)),some (.lst (((aB lv bs k).filter fun m=>decide (aJ ts m=aJ ts mf)).map eM)),none,none,none,none,none,none,none,none] ?_ ?_
  .simpa only [];rw [bind_eq (a:=((aB lv bs k).filter fun m=>decide (aJ ts m=aJ ts mf)).map eM)]
   .rw [if_pos (by rw [List.length_map];exact Nat.le_trans (List.length_filter_le _ _) (by omega))];rfl
   .refine aY (aB lv bs k) fun m hm=>?_
    rw [bind_eq (YG (n:=29) h3 ht hm fun t kK=>rfl),if_pos (by simp only [List.length_map,aJ];omega),qP,Gj,qP];cases decide (aJ ts m=aJ ts mf) <;> rfl
  have n1:au tab aD 30 26 [eB lv bs,.int k,.lst (ts.map ao),.lst ((aJ ts mf).map D.bl)]=.ok (eT (ae lv bs) (fx (ae lv bs) ((aB lv bs k).filter fun m=>decide (aJ ts m=aJ ts mf)))):=yq (n:=21) W h1 h3 hk ht (by omega) (by simp [aJ]);have n2:au tab aD 30 40 [.lst (((aB lv bs k).filter fun m=>decide (aJ ts m=aJ ts mf)).map eM),.lst ((ae lv bs).map ao)]=.ok (eT (ae lv bs) (fx (ae lv bs) ((aB lv bs k).filter fun m=>decide (aJ ts m=aJ ts mf)))):=BP (n:=28) (fun t kK x hx=>kO h3 kK (yz.mp hx).1) (vT (yf _ _) (by omega));have n3:∀ o,bw .ne (eT (ae lv bs) o) (eT (ae lv bs) o)=.ok false:=fun o=>by
   cases o with
   | none=>rfl
   | some j=>exact Y' (vT (lE.dp _) (by decide))
  refine dG [some (.lst (ns.map D.int)),some (eB lv bs),some (.int (k:Int)),some (.lst (ts.map ao)),some (.lst ((ae lv bs).map ao)),some (.lst ((aB lv bs k).map eM)),some (eM mf),some (.lst ((aJ ts mf).map D.bl)),some (.lst (((aB lv bs k).filter fun m=>decide (aJ ts m=aJ ts mf)).map eM)),none,none,none,none,none,none,none,none] (by simpa only [n1,n2,n3]) ?_;refine dG [some (.lst (ns.map D.int)),some (eB lv bs),some (.int (k:Int)),some (.lst (ts.map ao)),some (.lst ((ae lv bs).map ao)),some (.lst ((aB lv bs k).map eM)),some (eM mf),some (.lst ((aJ ts mf).map D.bl)),some (.lst (((aB lv bs k).filter fun m=>decide (aJ ts m=aJ ts mf)).map eM)),some (.int 0),none,none,none,none,none,none,none] (by simpa only []) ?_;have IG:au tab aD 30 29 [eB lv bs,.int k,.lst (ts.map ao)]=.ok (.int (ic (fun m=>du (ae lv bs) m 64 ((aB lv bs k).filter fun x=>decide (bp x 0 ts=bp m 0 ts))) (aB lv bs k):Nat)):=Nv (n:=21) W h1 h3 hk ht (by omega);have AB:∀ m,((aB lv bs k).filter fun x=>decide (bp x 0 ts=bp m 0 ts))=(aB lv bs k).filter fun x=>decide (bf ts x=bf ts m):=fun m=>List.filter_congr fun x _=>by
   by_cases q:bf ts x=bf ts m
   .rw [decide_eq_true q,decide_eq_true (Fi.mp q)]
   .rw [decide_eq_false q,decide_eq_false fun z=>q (Fi.mpr z)]
  simp only [AB] at IG;refine dG (Yi lv bs (.lst (ns.map D.int)) (eB lv bs) (.int (k:Int)) (.lst (ts.map ao)) (.lst ((aB lv bs k).map eM)) (eM mf) (.lst ((aJ ts mf).map D.bl)) (.lst (((aB lv bs k).filter fun m=>decide (aJ ts m=aJ ts mf)).map eM)) (ic (fun m=>du (ae lv bs) m 64 ((aB lv bs k).filter fun x=>decide (bf ts x=bf ts m))) (aB lv bs k))) ?_ ?_
  .rw [qy];refine (rD eM (fun acc:Nat=>Yi lv bs (.lst (ns.map D.int)) (eB lv bs) (.int (k:Int)) (.lst (ts.map ao)) (.lst ((aB lv bs k).map eM)) (eM mf) (.lst ((aJ ts mf).map D.bl)) (.lst (((aB lv bs k).filter fun m=>decide (aJ ts m=aJ ts mf)).map eM)) acc) (fun acc m=>max acc (du (ae lv bs) m 64 ((aB lv bs k).filter fun x=>decide (bf ts x=bf ts m)))) (fun _=>True) (aB lv bs k) (fun acc m hm _=>⟨trivial,?_⟩) 0 trivial).trans ?_
   .have Nn:(((aB lv bs k).filter fun x=>decide (bf ts x=bf ts m)).map eM).length<=lim:=by rw [List.length_map];exact vT (yf _ _) (by omega)
    have Na:au tab aD 30 40 [.lst (((aB lv bs k).filter fun x=>decide (bf ts x=bf ts m)).map eM),.lst ((ae lv bs).map ao)]=.ok (eT (ae lv bs) (fx (ae lv bs) ((aB lv bs k).filter fun x=>decide (bf ts x=bf ts m)))):=BP (n:=28) (fun t kK x hx=>kO h3 kK (yz.mp hx).1) (vT (yf _ _) (by omega));obtain ⟨L',P_⟩:=YD (n:=28) W h3 (.lst (ns.map D.int)) (eB lv bs) (.int (k:Int)) (.lst (ts.map ao)) (.lst ((aB lv bs k).map eM)) (eM mf) (.lst ((aJ ts mf).map D.bl)) (.lst (((aB lv bs k).filter fun m=>decide (aJ ts m=aJ ts mf)).map eM)) (.int (acc:Int)) (.lst ((bf ts m).map D.bl)) hm ((aB lv bs k).filter fun x=>decide (bf ts x=bf ts m)) (eT (ae lv bs) (fx (ae lv bs) ((aB lv bs k).filter fun x=>decide (bf ts x=bf ts m)))) 64 D5 0 ((aB lv bs k).filter fun x=>decide (bf ts x=bf ts m)) (fun x hx=>(yz.mp hx).1) (vT (yf _ _) (by omega)) (vE _) (by decide);refine ⟨[some (.lst (ns.map D.int)),some (eB lv bs),some (.int (k:Int)),some (.lst (ts.map ao)),some (.lst ((ae lv bs).map ao)),some (.lst ((aB lv bs k).map eM)),some (eM mf),some (.lst ((aJ ts mf).map D.bl)),some (.lst (((aB lv bs k).filter fun m=>decide (aJ ts m=aJ ts mf)).map eM)),some (.int ((max acc (du (ae lv bs) m 64 ((aB lv bs k).filter fun x=>decide (bf ts x=bf ts m))):Nat):Int)),some (eM m),some (.lst ((bf ts m).map D.bl)),some (.lst (L'.map eM)),some (.int (du (ae lv bs) m 64 ((aB lv bs k).filter fun x=>decide (bf ts x=bf ts m)):Nat)),some .ai,none,none],?_,rfl⟩;show bI (au tab aD 30) _ [some (.lst (ns.map D.int)),some (eB lv bs),some (.int (k:Int)),some (.lst (ts.map ao)),some (.lst ((ae lv bs).map ao)),some (.lst ((aB lv bs k).map eM)),some (eM mf),some (.lst ((aJ ts mf).map D.bl)),some (.lst (((aB lv bs k).filter fun m=>decide (aJ ts m=aJ ts mf)).map eM)),some (.int (acc:Int)),some (eM m),none,none,none,none,none,none]=_
    refine nU [some (.lst (ns.map D.int)),some (eB lv bs),some (.int (k:Int)),some (.lst (ts.map ao)),some (.lst ((ae lv bs).map ao)),some (.lst ((aB lv bs k).map eM)),some (eM mf),some (.lst ((aJ ts mf).map D.bl)),some (.lst (((aB lv bs k).filter fun m=>decide (aJ ts m=aJ ts mf)).map eM)),some (.int (acc:Int)),some (eM m),some (.lst ((bf ts m).map D.bl)),none,none,none,none,none] ?_ ?_
    .simpa only [];rw [bind_eq (Y5 (n:=29) h3 ht hm fun t kK=>rfl),if_pos (by simp only [List.length_map,bf];omega)];rfl
    refine nU [some (.lst (ns.map D.int)),some (eB lv bs),some (.int (k:Int)),some (.lst (ts.map ao)),some (.lst ((ae lv bs).map ao)),some (.lst ((aB lv bs k).map eM)),some (eM mf),some (.lst ((aJ ts mf).map D.bl)),some (.lst (((aB lv bs k).filter fun m=>decide (aJ ts m=aJ ts mf)).map eM)),some (.int (acc:Int)),some (eM m),some (.lst ((bf ts m).map D.bl)),some (.lst (((aB lv bs k).filter fun x=>decide (bf ts x=bf ts m)).map eM)),none,none,none,none] ?_ ?_
    .simpa only [];rw [bind_eq (a:=((aB lv bs k).filter fun x=>decide (bf ts x=bf ts m)).map eM)]
     .rw [if_pos Nn];rfl
     .refine aY (aB lv bs k) fun x hx=>?_
      rw [bind_eq (Y5 (n:=29) h3 ht hx fun t kK=>rfl),if_pos (by simp only [List.length_map,bf];omega),qP,Gj,qP];cases decide (bf ts x=bf ts m) <;> rfl
    refine nU [some (.lst (ns.map D.int)),some (eB lv bs),some (.int (k:Int)),some (.lst (ts.map ao)),some (.lst ((ae lv bs).map ao)),some (.lst ((aB lv bs k).map eM)),some (eM mf),some (.lst ((aJ ts mf).map D.bl)),some (.lst (((aB lv bs k).filter fun m=>decide (aJ ts m=aJ ts mf)).map eM)),some (.int (acc:Int)),some (eM m),some (.lst ((bf ts m).map D.bl)),some (.lst (((aB lv bs k).filter fun x=>decide (bf ts x=bf ts m)).map eM)),some (.int 0),none,none,none] (by simpa only []) ?_;refine nU [some (.lst (ns.map D.int)),some (eB lv bs),some (.int (k:Int)),some (.lst (ts.map ao)),some (.lst ((ae lv bs).map ao)),some (.lst ((aB lv bs k).map eM)),some (eM mf),some (.lst ((aJ ts mf).map D.bl)),some (.lst (((aB lv bs k).filter fun m=>decide (aJ ts m=aJ ts mf)).map eM)),some (.int (acc:Int)),some (eM m),some (.lst ((bf ts m).map D.bl)),some (.lst (((aB lv bs k).filter fun x=>decide (bf ts x=bf ts m)).map eM)),some (.int 0),some (eT (ae lv bs) (fx (ae lv bs) ((aB lv bs k).filter fun x=>decide (bf ts x=bf ts m)))),none,none] (by simpa only [Na]) ?_;refine nU [some (.lst (ns.map D.int)),some (eB lv bs),some (.int (k:Int)),some (.lst (ts.map ao)),some (.lst ((ae lv bs).map ao)),some (.lst ((aB lv bs k).map eM)),some (eM mf),some (.lst ((aJ ts mf).map D.bl)),some (.lst (((aB lv bs k).filter fun m=>decide (aJ ts m=aJ ts mf)).map eM)),some (.int (acc:Int)),some (eM m),some (.lst ((bf ts m).map D.bl)),some (.lst (L'.map eM)),some (.int (du (ae lv bs) m 64 ((aB lv bs k).filter fun x=>decide (bf ts x=bf ts m)):Nat)),some .ai,none,none] ?_ ?_
    .rw [GZ];rw [Nat.zero_add] at P_;exact P_
    refine nU _ (by simpa only [N8]) rfl
   .rw [Ks,Nat.zero_max]
  .refine Ky ?_;simpa only [IG];rfl
end eQ
namespace eQ
open PySem L2 Mi
variable (P:Params)
theorem Rs:((heap P).all fun q=>R8 q.2)=true:=by kernel_rfl
theorem Nw:((PyProof.Rows.recsOf view).any fun d=>decide (d.name=Str.ofString "check_tests"))=true:=by kernel_rfl
theorem Sc:((PyProof.Rows.recsOf view).any fun d=>decide (d.name=Str.ofString "next_place"))=true:=by kernel_rfl
theorem SL:Rr (heap P)=true:=by kernel_rfl
theorem Qb:(List.range 43).map (fun i=>(heap P).lookup (ad i))=(List.range 43).map (fun i=>some (oo i)):=by kernel_rfl
theorem Qr:((List.range 43).all fun i=>fB (heap P) (FH.getD i "law") (ad i))=true:=by kernel_rfl
theorem SZ:TY T.gl (heap P)=true:=by kernel_rfl
theorem Tk:L5 (heap P)=true:=by kernel_rfl
end eQ
theorem PySem.W.Fast.te16999833102079019484:True:=trivial
open PySem PySem.W PyProof.Rows
set_option maxRecDepth 100000 in
set_option maxHeartbeats 0 in
theorem PySem.Challenge.cw_pairtests_k15_next_tests_holds : PySem.Challenge.rw_pairtests_k15_next_tests.Holds := by
 w_on;o_law
 refine PySem.W.holds_open (q:=eQ.view) (loose:=[]) (Xt:=fun s=>PySem.W.xlAt eQ.view [] s && PySem.W.recOk (PySem.W.RowW.records (PySem.W.OpenRow.toRowW PySem.Challenge.rw_pairtests_k15_next_tests.row)) s) (XP:=XL eQ.view []) (Yf:=Hook.obs eQ.hook) (Ya:=Hook.val eQ.hook) (YP:=Hook.says eQ.hook) (N:=4976) eQ.left (Hook.of eQ.hook) (Hook.keeps eQ.hook) (fun s e=>xl_of s (Bool.and_eq_true_iff.mp e).1) XL.keeps (by rfl) (by rfl) (by rfl) (fun s e=>recFacts_of (Bool.and_eq_true_iff.mp e).2) (by rfl) (by first | assumption | decide +kernel) (by decide +kernel) ⟨rfl,rfl,rfl,rfl,rfl,by decide +kernel⟩ ?hw ?hc
 (case hw=>w_witness2)
 exact Mi.sn (l:=PySem.Challenge.rw_pairtests_k15_next_tests) (T:=eQ.T) (tab:=eQ.tab) (xt:=eQ.aD) (n:=30) (fl:=41) (par:="_law_script") (N:=eQ.MY 41) (st:=eQ.An 41) rfl rfl ⟨rfl,by decide,by decide⟩ rfl rfl (eQ.P1 (by decide) rfl rfl) (fun w h aa=>aa) (fun p=>Mi.xL (eQ.Rs p)) (fun w bq mg mb h G aa=>Mi.tab_of eQ.Nw eQ.Sc (eQ.SL w.params) G aa) (fun w mg h KX G=>eQ.pr KX G (Mi.N7 (eQ.Qb w.params) (eQ.Qr w.params)) (eQ.SZ w.params) (eQ.Tk w.params)) (fun w=>Mi.N7 (eQ.Qb w.params) (eQ.Qr w.params) 41 (by decide)) (fun _ _ _ _ _ _ _=>rfl) eQ.Rm
