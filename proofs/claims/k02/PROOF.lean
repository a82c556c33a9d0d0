import PyProof.Rows.All
import Wide.All
import OpenK.AllK
import Wide.FinOn
import Lean
import PyProof.EqAt
import PyProof.EqKinds
import PyProof.TupleCall
import PyProof.NeKinds
import PyProof.DictRoadsH
import KE.KIntText
import PyProof.StrLawsTight
import PyProof.CompFree
import PyProof.CompUse
import KE.KDictSum
import PyProof.Draws
import PyProof.EnumMake
import PyProof.EnumFor
import KE.KSortTup
import PyProof.TupleOfSeq
import KE.LcSums
import PyProof.ZipIter
import KE.KRevIter
import KE.KStateDown
import PyProof.ListRange
import PyProof.Conv_int_bool
import PyProof.AutoListH
import PyProof.Rows.StrItems
import KE.KLam
import PySem.Challenge.RW_pairtests_k02_strengths_and_tests
noncomputable section
set_option Elab.async false
set_option linter.all false
set_option bootstrap.genMatcherCode false
set_option maxRecDepth 100000
set_option maxHeartbeats 4000000
namespace L2
open PySem PySem.Spec PyProof.Rows
noncomputable def bQ (s:Stmt):Arguments:=match s with
 | .FunctionDef _ a _ _ _ _ _ _ _ _=>a
 | _=>{ posonlyargs:=[],args:=[],vararg:=none,kwonlyargs:=[],kw_defaults:=[],kwarg:=none,defaults:=[] }
def bC (s:Stmt):List Stmt:=match s with
 | .FunctionDef _ _ b _ _ _ _ _ _ _=>b
 | _=>[]
noncomputable def aH (s:Stmt):Scope:=match s with
 | .FunctionDef _ _ _ _ _ _ sc _ _ _=>sc
 | _=>{ kind:=.function,names:=[],isGenerator:=false,isCoroutine:=false }
end L2
namespace Mi
open PySem L2
abbrev gS (x:String) (k:Nat):Value:=.str (Str.ofString x) k
abbrev gE (P:Params) (x:String) (k:Nat) (v:Value):DictEntry:=⟨PyData.keyHash P (Str.ofString x),.str (Str.ofString x) k,v⟩
noncomputable abbrev gF (st:Stmt) (x:String) (kV doc pm:Value) (an:Option Addr) (cdv ct:Value) (sl:Array (Option Value)):Obj:=⟨.type "function",none,.func (PySem.W.fnOf x x (bQ st) (bC st) (aH st) .none kV doc pm an cdv ct),sl⟩
end Mi
namespace Hs
open PySem PySem.W PySem.Calls PyProof.Rows
theorem Wg {p q:Program}{loose:List Str}{Xt:Shared->Bool}{α:Type}{Yf:Shared->α}{Ya:World->α}{N:Nat}{g0:Bool}{H₀:Params->Heap}{gs₀:Array GenState}{d₀:Drawn}{k₀ m₀ M N4:Nat}{ann:Option Value}{tm:World->OsState->Thread}{Sm:World->OsState->Shared}
  (open_:∀ w:World,(fencedOpening treeTable p w N).map (fun s=>(s.heap,s.gens,s.drawn,s.toks))=some (H₀ w.params,gs₀,d₀,k₀))
  (size:∀ w:World,((H₀ w.params).isNs mainGlobals && gs₀.size == 0,(H₀ w.params).objs.size,(H₀ w.params).nsMap mainGlobals "__annotations__")=(true,m₀,ann))
  (run:∀ (w:World) (os:OsState) (r:Shared),topRun treeTable p w m₀ ann N4 (Sm w os) (tm w os)=some r->topRun treeTable p w m₀ ann M ⟨H₀ w.params,gs₀,d₀,k₀,os⟩ (topStub p)=some r) (le:Nat.ble M N=true)
  (last:∀ (w:World) (os:OsState),(topRun treeTable p w m₀ ann N4 (Sm w os) (tm w os)).map (fun s=>(staticsOk (importedModules p.main.body) (H₀ w.params) s.heap && namesBound p s.heap && gensDone s && laidKept (H₀ w.params) s.heap,openSeen q loose (importedModules p.main.body) Xt g0 s,Yf s))=some (true,openGood q loose,Ya w)):LeftO p q loose Xt Yf Ya N g0:=fun w=>by
 obtain ⟨⟨h,gs,d,k,os⟩,e,e'⟩:=Option.map_eq_some_iff.mp (open_ w);obtain ⟨rfl,rfl,rfl,rfl⟩:h=H₀ w.params/\gs=gs₀/\d=d₀/\k=k₀:=by simpa using e'
 obtain ⟨z1,z2,z3⟩:_/\_/\_:=by simpa only [Prod.mk.injEq] using size w
 obtain ⟨s1,r1,r2⟩:=Option.map_eq_some_iff.mp (last w os);obtain ⟨l1,l2,l3⟩:_/\_/\_:=by simpa only [Prod.mk.injEq] using r2
 have r:=topRun_mono (N - M) _ _ _ _ (run w os s1 r1);rw [show M+(N - M)=N by have:=Nat.le_of_ble_eq_true le;omega] at r;have t:topFrom treeTable p w N ⟨H₀ w.params,gs,d,k,os⟩=some s1:=by
  unfold topFrom;dsimp only;rw [z1,z2,z3,r];show (match staticsOk (importedModules p.main.body) (H₀ w.params) s1.heap && namesBound p s1.heap && gensDone s1 && laidKept (H₀ w.params) s1.heap with | true=>_ | false=>_)=_
  rw [l1]
 unfold openEnds;rw [e];show (topFrom treeTable p w N _).map _=_
 rw [t];exact congrArg some (Prod.ext l2 l3)
noncomputable def inn (k:Nat):Stmt->Stmt
 | .ClassDef _ _ _ b _ _ _ _ _ _ _=>b.getD k (.Pass ⟨0,0,0,0⟩)
 | s=>s
noncomputable abbrev gT (l:List Value):Obj:=⟨.type "tuple",none,.seq ⟨l⟩ 0,#[]⟩
noncomputable abbrev gO:Obj:=⟨.none,none,.fields #[],#[]⟩
abbrev gY (l:List Value):Obj:=⟨.none,none,.fields ⟨l⟩,#[]⟩
noncomputable abbrev gR (st:Stmt) (x y:String):Obj:=⟨.none,none,.func ⟨x,y,L2.bQ st,.stmts (L2.bC st),L2.aH st,0,[],.none,.none,.none,.none,none,.none,.none,0⟩,#[]⟩
noncomputable abbrev gG (st:Stmt) (x y:String) (pm cdv:Value):Obj:=⟨.type "function",none,.func (PySem.W.fnOf x y (L2.bQ st) (L2.bC st) (L2.aH st) .none .none .none pm none cdv .none),#[]⟩
noncomputable abbrev gM (f:String) (v:Value):Obj:=⟨.type "builtin_function_or_method",none,.fields #[.builtin f,v],#[]⟩
noncomputable abbrev gU (a:Nat):Obj:=⟨.type "super",none,.fields #[.ref a,.ref a,.ref a],#[]⟩
noncomputable abbrev gK (x y:String) (t l n k:Nat) (b:Bool) (m a:Nat) (c d e:Value) (u:Nat):Obj:=⟨.type "code",none,.fields #[Mi.gS x t,Mi.gS y (t+1),Mi.gS "/claim/cut.py" (t+2),.int l 0,.int n 0,.int 0 0,.int 0 0,.int k 0,.ref a,.bool b,.int m 0,.ref (a+1),.none,c,d,e,.int u 0,.int l 0,Mi.gS "/claim/cut.py" (u+1)],#[]⟩
noncomputable def nm:Stmt->Str
 | .FunctionDef n ..=>n
 | _=>""
noncomputable def ln (s:Stmt):Nat:=s.pos.line
def np (s:Stmt):Nat:=(L2.bQ s).args.length
noncomputable abbrev gC1 (st:Stmt) (t a k:Nat):Obj:=⟨.type "code",none,.fields #[.str (nm st) t,.str (nm st) (t+1),Mi.gS "/claim/cut.py" (t+2),.int (ln st) 0,.int (np st) 0,.int 0 0,.int 0 0,.int 3 0,.ref a,.bool true,.int 181 0,.ref (a+1),.none,.ref (a+2),.ref (a+3),.ref (a+4),.int (t+3+k:Nat) 0,.int (ln st) 0,Mi.gS "/claim/cut.py" (t+4+k)],#[]⟩
noncomputable abbrev gC0 (st:Stmt) (t a:Nat):Obj:=⟨.type "code",none,.fields #[.str (nm st) t,.str (nm st) (t+1),Mi.gS "/claim/cut.py" (t+2),.int (ln st) 0,.int (np st) 0,.int 0 0,.int 0 0,.int 3 0,.ref a,.bool true,.int 181 0,.ref (a+1),.none,.none,.none,.ref (a+2),.int (t+3:Nat) 0,.int (ln st) 0,Mi.gS "/claim/cut.py" (t+4)],#[]⟩
noncomputable abbrev gQ (st:Stmt):Obj:=⟨.none,none,.func ⟨nm st,nm st,L2.bQ st,.stmts (L2.bC st),L2.aH st,0,[],.none,.none,.none,.none,none,.none,.none,0⟩,#[]⟩
noncomputable abbrev gW (st:Stmt) (m:Value) (a:Nat):Obj:=⟨.type "function",none,.func (PySem.W.fnOf (nm st) (nm st) (L2.bQ st) (L2.bC st) (L2.aH st) .none .none .none m none (.ref a) .none),#[]⟩
noncomputable def sl:Nat->List String->List Value
 | _,[]=>[]
 | t,x::xs=>Mi.gS x t::sl (t+1) xs
noncomputable abbrev gV (t:Nat) (xs:List String):Obj:=⟨.type "tuple",none,.seq ⟨sl t xs⟩ 0,#[]⟩
noncomputable def tb:List (Nat × Nat)->List Value
 | []=>[]
 | (l,a)::xs=>.int l 0::.int 0 0::.ref a::tb xs
noncomputable abbrev gZ (xs:List (Nat × Nat)):Obj:=⟨.none,none,.fields ⟨tb xs⟩,#[]⟩
noncomputable abbrev gI (a b:Nat) (m:Value):Obj:=⟨.type "frame",none,.plain,#[some (.ref a),some (.ref 3),some (.ref b),none,some m,none,some (.ref 0)]⟩
end Hs
namespace E02
open PySem L2 Mi
def top (i:Nat):Stmt:=PySem.Challenge.pw_pairtests_k02_strengths_and_tests.main.body.getD i (.Pass ⟨0,0,0,0⟩)
noncomputable def view:Program:={ PySem.Challenge.pw_pairtests_k02_strengths_and_tests with main:={ PySem.Challenge.pw_pairtests_k02_strengths_and_tests.main with body:=[top 1,top 2,top 3,top 4,top 5,top 6,top 7,top 9,top 10,top 11,top 12,top 13,top 14,top 15,top 16,top 17,top 18,top 19,top 20,top 21,top 22,top 23,top 24,top 25,top 26,top 27,top 28,top 30,top 31,top 32,top 33,top 34,top 35,top 36,top 37,top 38,top 39,top 41,top 42,top 43,top 44,top 45,top 46,top 47,top 48,top 49,top 50,top 51,top 52,top 54,top 56,top 57,top 58,top 59,top 60,top 61,top 62,top 64,top 65,top 66,top 67,top 68,top 69,top 70,top 71,top 72,top 73,top 74,top 75,top 76,top 77,top 78,top 79,top 80,top 81,top 83,top 84,top 85,top 86,top 88,top 89,top 90,top 91,top 92,top 93,top 94,top 95,top 96,top 98,top 99,top 100,top 101,top 102,top 103,top 104,top 105,top 106,top 107,top 108,top 109] } }
noncomputable def Q5:Obj:=⟨.type "function",none,.func (PySem.W.fnOf "__init__" "BadTests.__init__" (bQ (Hs.inn 0 (top 4))) (bC (Hs.inn 0 (top 4))) (aH (Hs.inn 0 (top 4))) .none .none .none (gS "pairtests.errors" 187) none (.ref 64) .none),#[]⟩
noncomputable abbrev fqq (i:Nat) (n:String) (a:Nat):Obj:=gF (top i) n .none .none (gS "pairtests.books" 312) none (.ref a) .none #[]
noncomputable def CW:Obj:=fqq 14 "is_whole" 112
noncomputable def Ci:Obj:=fqq 15 "is_tuple" 119
noncomputable def yc:Obj:=fqq 16 "are_levels" 126
noncomputable def xQ:Obj:=fqq 17 "is_setting" 133
noncomputable def xP:Obj:=fqq 18 "is_meeting" 140
noncomputable def Fg:Obj:=fqq 19 "is_book" 145
noncomputable def Fo:Obj:=fqq 20 "checked" 152
noncomputable def Ma:Obj:=fqq 21 "meets" 157
noncomputable def Ad:Obj:=fqq 22 "meets_any" 162
noncomputable def Ja:Obj:=fqq 25 "is_row" 177
noncomputable def Fj:Obj:=fqq 26 "is_test" 184
noncomputable def w6:Obj:=fqq 27 "check_list" 191
noncomputable def vN:Obj:=fqq 28 "check_tests" 198
noncomputable abbrev fqz (i:Nat) (n:String) (a:Nat):Obj:=gF (top i) n .none .none (gS "pairtests.meetings" 439) none (.ref a) .none #[]
noncomputable def sS:Obj:=fqz 30 "most_strength" 205
noncomputable def ju:Obj:=fqz 31 "check_book_and_strength" 212
noncomputable def uH:Obj:=fqz 37 "all_meetings" 250
noncomputable def CK:Obj:=fqz 38 "possible" 257
noncomputable def yp:Obj:=fqz 39 "impossible" 262
noncomputable abbrev fqx (i:Nat) (n:String) (a:Nat):Obj:=gF (top i) n .none .none (gS "pairtests.covers" 517) none (.ref a) .none #[]
noncomputable def zq:Obj:=fqx 41 "check_all" 269
noncomputable def Fp:Obj:=fqx 42 "missing" 274
noncomputable def CZ:Obj:=fqx 43 "is_cover" 281
noncomputable def Cd:Obj:=fqx 46 "needless" 298
noncomputable def Gb:Obj:=fqx 48 "trimmed" 312
noncomputable def Bw:Obj:=fqx 52 "in_order" 338
noncomputable def LK:Obj:=gF (top 54) "built" .none .none (gS "pairtests.building" 627) none (.ref 345) .none #[]
noncomputable abbrev fqv (i:Nat) (n:String) (a:Nat):Obj:=gF (top i) n .none .none (gS "pairtests.faults" 637) none (.ref a) .none #[]
noncomputable def Ca:Obj:=fqv 57 "suspects" 355
noncomputable def FN:Obj:=fqv 60 "blurred" 374
noncomputable def vL:Obj:=fqv 62 "most_looked" 386
noncomputable abbrev fqk (i:Nat) (n:String) (a:Nat):Obj:=gF (top i) n .none .none (gS "pairtests.fewest" 700) none (.ref a) .none #[]
noncomputable def vM:Obj:=fqk 65 "small_tests" 393
noncomputable def nY:Obj:=fqk 68 "meetings_by_mask" 414
noncomputable def Jx:Obj:=fqk 76 "fewest" 462
noncomputable def M5:Obj:=fqk 81 "apart" 493
noncomputable def QW:Obj:=gF (top 86) "kept" .none .none (gS "pairtests.keeping" 845) none (.ref 510) .none #[]
noncomputable def Mx:Obj:=gF (top 91) "paper" .none .none (gS "pairtests.papers" 871) none (.ref 531) .none #[]
noncomputable def CV:Obj:=gF (top 96) "is_paper" .none .none (gS "pairtests.papers" 871) none (.ref 594) .none #[]
noncomputable abbrev fqj (i:Nat) (n:String) (a:Nat):Obj:=gF (top i) n .none .none (gS "law_pairtests_k02_strengths_and_tests" 1004) none (.ref a) .none #[]
noncomputable def zZ:Obj:=fqj 98 "_law_cell" 601
noncomputable def BZ:Obj:=fqj 99 "_law_mix" 608
noncomputable def zu:Obj:=fqj 100 "_law_book" 613
noncomputable def Aa:Obj:=fqj 101 "_law_rows" 618
noncomputable def xG:Obj:=fqj 102 "_law_meets" 623
noncomputable def yr:Obj:=fqj 103 "_law_tests" 628
noncomputable def xO:Obj:=fqj 104 "_law_drawn" 635
noncomputable def nO:Obj:=fqj 105 "_law_by_strength" 642
noncomputable def Ae:Obj:=fqj 106 "_law_more" 649
noncomputable def rO:Obj:=fqj 107 "_law_by_tests" 656
noncomputable def Ag:Obj:=fqj 108 "_law_told" 663
noncomputable def o_law:Obj:=fqj 109 "law" 668
noncomputable abbrev kC (i t a k:Nat):=Hs.gC1 (top i) t a k
noncomputable abbrev kD (i t a:Nat):=Hs.gC0 (top i) t a
noncomputable def heap (P:Params):PySem.W.Frag:=[(2,⟨.none,none,.dict #[] 0,#[]⟩),(3,⟨.type "dict",none,.dict #[gE P "__name__" 165 (gS "law_pairtests_k02_strengths_and_tests" 1004),gE P "__doc__" 166 .none,gE P "__package__" 167 .none,gE P "__loader__" 168 (.builtin "__main__.__loader__#opaque"),gE P "__spec__" 169 .none,gE P "__annotations__" 170 (.ref 6),gE P "__builtins__" 171 (.ref 4),gE P "__file__" 173 (gS "/claim/cut.py" 172),gE P "__cached__" 174 .none,gE P "TestError" 206 (.ref 24),gE P "BadBook" 222 (.ref 37),gE P "BadStrength" 238 (.ref 49),gE P "BadTests" 263 (.ref 68),gE P "BadNumber" 279 (.ref 80),gE P "BadResults" 295 (.ref 92),gE P "TooBig" 311 (.ref 104),gE P "MOST_THINGS" 315 (.int 6 314),gE P "MOST_SETTINGS" 317 (.int 4 316),gE P "MOST_ROWS" 319 (.int 400 318),gE P "MOST_BANS" 321 (.int 12 320),gE P "MOST_IN_MEETING" 323 (.int 3 322),gE P "is_whole" 332 (.ref 113),gE P "is_tuple" 341 (.ref 120),gE P "are_levels" 350 (.ref 127),gE P "is_setting" 358 (.ref 134),gE P "is_meeting" 368 (.ref 141),gE P "is_book" 374 (.ref 146),gE P "checked" 381 (.ref 153),gE P "meets" 387 (.ref 158),gE P "meets_any" 393 (.ref 163),gE P "all_rows" 399 (.ref 168),gE P "all_tests" 405 (.ref 173),gE P "is_row" 411 (.ref 178),gE P "is_test" 419 (.ref 185),gE P "check_list" 429 (.ref 192),gE P "check_tests" 438 (.ref 199),gE P "most_strength" 447 (.ref 206),gE P "check_book_and_strength" 455 (.ref 213),gE P "settings_of" 461 (.ref 218),gE P "is_behind" 469 (.ref 225),gE P "meetings_among" 475 (.ref 230),gE P "meetings_of" 483 (.ref 237),gE P "met_by" 494 (.ref 244),gE P "all_meetings" 502 (.ref 251),gE P "possible" 510 (.ref 258),gE P "impossible" 516 (.ref 263),gE P "check_all" 527 (.ref 270),gE P "missing" 533 (.ref 275),gE P "is_cover" 542 (.ref 282),gE P "times_met" 553 (.ref 289),gE P "meet_without" 559 (.ref 294),gE P "needless" 565 (.ref 299),gE P "count_less" 574 (.ref 306),gE P "trimmed" 587 (.ref 313),gE P "places_by_meeting" 599 (.ref 320),gE P "take_out" 611 (.ref 327),gE P "in_order_behind" 617 (.ref 332),gE P "in_order" 626 (.ref 339),gE P "built" 636 (.ref 346),gE P "are_results" 644 (.ref 351),gE P "suspects" 650 (.ref 356),gE P "next_place" 663 (.ref 363),gE P "lists_by_results" 675 (.ref 370),gE P "blurred" 681 (.ref 375),gE P "parted" 687 (.ref 380),gE P "most_looked" 699 (.ref 387),gE P "MOST_TESTS" 703 (.int 24 702),gE P "small_tests" 712 (.ref 394),gE P "tests_by_bit" 722 (.ref 401),gE P "masks_by_meeting" 734 (.ref 408),gE P "meetings_by_mask" 745 (.ref 415),gE P "bits_of" 755 (.ref 422),gE P "size_of" 762 (.ref 429),gE P "all_bits" 771 (.ref 436),gE P "clear_of" 777 (.ref 441),gE P "narrowest" 783 (.ref 446),gE P "some_apart" 792 (.ref 453),gE P "hit_by" 798 (.ref 458),gE P "fewest" 804 (.ref 463),gE P "most_that_fit" 810 (.ref 468),gE P "rarest_bit" 818 (.ref 475),gE P "apart_among" 829 (.ref 482),gE P "most_apart" 838 (.ref 489),gE P "apart" 844 (.ref 494),gE P "MOST_IN_ROW" 848 (.int 99 847),gE P "is_any_row" 854 (.ref 499),gE P "tests_among" 864 (.ref 506),gE P "kept" 870 (.ref 511),gE P "MOST_MANY" 874 (.int 30 873),gE P "check_many" 881 (.ref 518),gE P "tree_of" 893 (.ref 525),gE P "paper" 906 (.ref 532),gE P "Ground" 956 (.ref 563),gE P "are_apart" 968 (.ref 574),gE P "are_rows" 981 (.ref 581),gE P "is_tree" 992 (.ref 588),gE P "is_paper" 1003 (.ref 595),gE P "_law_cell" 1013 (.ref 602),gE P "_law_mix" 1022 (.ref 609),gE P "_law_book" 1028 (.ref 614),gE P "_law_rows" 1034 (.ref 619),gE P "_law_meets" 1040 (.ref 624),gE P "_law_tests" 1046 (.ref 629),gE P "_law_drawn" 1059 (.ref 636),gE P "_law_by_strength" 1068 (.ref 643),gE P "_law_more" 1077 (.ref 650),gE P "_law_by_tests" 1086 (.ref 657),gE P "_law_told" 1097 (.ref 664),gE P "law" 1103 (.ref 669)] 109,#[]⟩),(23,⟨(.type "dict"),none,.dict #[gE P "__module__" 196 (gS "pairtests.errors" 187),gE P "__firstlineno__" 200 (.int 2 199),gE P "__static_attributes__" 201 (.ref 22),gE P "__weakref__" 203 (.ref 25),gE P "__doc__" 204 .none] 3,#[]⟩),(24,⟨(.type "type"),none,.cls { name:=(Str.ofString "TestError"),bases:=[(.type "ValueError")],mro:=[(.ref 24),(.type "ValueError"),(.type "Exception"),(.type "BaseException"),(.type "object")],ns:=23,qualname:=(Str.ofString "TestError"),hasDict:=true,slotNames:=[],subclasses:=[(.ref 37),(.ref 49),(.ref 68),(.ref 80),(.ref 92),(.ref 104)],abstract:=false,collection:=none,hasDel:=false },#[some (.ref 15),none,some (gS "TestError" 189),some (gS "TestError" 197),some (.builtin "ValueError.__new__"),some (.bool true)]⟩),(36,⟨(.type "dict"),none,.dict #[gE P "__module__" 214 (gS "pairtests.errors" 187),gE P "__firstlineno__" 218 (.int 4 217),gE P "__static_attributes__" 219 (.ref 35),gE P "__doc__" 220 .none] 2,#[]⟩),(37,⟨(.type "type"),none,.cls { name:=(Str.ofString "BadBook"),bases:=[(.ref 24)],mro:=[(.ref 37),(.ref 24),(.type "ValueError"),(.type "Exception"),(.type "BaseException"),(.type "object")],ns:=36,qualname:=(Str.ofString "BadBook"),hasDict:=true,slotNames:=[],subclasses:=[],abstract:=false,collection:=none,hasDel:=false },#[some (.ref 28),none,some (gS "BadBook" 207),some (gS "BadBook" 215),some (.builtin "ValueError.__new__"),some (.bool true)]⟩),(48,⟨(.type "dict"),none,.dict #[gE P "__module__" 230 (gS "pairtests.errors" 187),gE P "__firstlineno__" 234 (.int 6 233),gE P "__static_attributes__" 235 (.ref 47),gE P "__doc__" 236 .none] 2,#[]⟩),(49,⟨(.type "type"),none,.cls { name:=(Str.ofString "BadStrength"),bases:=[(.ref 24)],mro:=[(.ref 49),(.ref 24),(.type "ValueError"),(.type "Exception"),(.type "BaseException"),(.type "object")],ns:=48,qualname:=(Str.ofString "BadStrength"),hasDict:=true,slotNames:=[],subclasses:=[],abstract:=false,collection:=none,hasDel:=false },#[some (.ref 40),none,some (gS "BadStrength" 223),some (gS "BadStrength" 231),some (.builtin "ValueError.__new__"),some (.bool true)]⟩),(64,⟨.type "code",none,.fields #[(gS "__init__" 251),(gS "BadTests.__init__" 252),(gS "/claim/cut.py" 253),(.int 10 0),(.int 2 0),(.int 0 0),(.int 0 0),(.int 3 0),(.ref 59),(.bool true),(.int 181 0),(.ref 60),.none,(.ref 61),(.ref 62),(.ref 63),(.int 256 0),(.int 10 0),(gS "/claim/cut.py" 257)],#[]⟩),(65,Q5),(67,⟨(.type "dict"),none,.dict #[gE P "__module__" 246 (gS "pairtests.errors" 187),gE P "__firstlineno__" 250 (.int 8 249),gE P "__init__" 258 (.ref 65),gE P "__static_attributes__" 260 (.ref 66),gE P "__doc__" 261 .none] 2,#[]⟩),(68,⟨(.type "type"),none,.cls { name:=(Str.ofString "BadTests"),bases:=[(.ref 24)],mro:=[(.ref 68),(.ref 24),(.type "ValueError"),(.type "Exception"),(.type "BaseException"),(.type "object")],ns:=67,qualname:=(Str.ofString "BadTests"),hasDict:=true,slotNames:=[],subclasses:=[],abstract:=false,collection:=none,hasDel:=false },#[some (.ref 52),none,some (gS "BadTests" 239),some (gS "BadTests" 247),some (.builtin "ValueError.__new__"),some (.bool true)]⟩),(112,kC 14 324 107 3),(113,CW),(119,kC 15 333 114 3),(120,Ci),(126,kC 16 342 121 3),(127,yc),(133,kC 17 351 128 2),(134,xQ),(140,kC 18 359 135 4),(141,xP),(145,kD 19 369 142),(146,Fg),(152,kC 20 375 147 1),(153,Fo),(157,kD 21 382 154),(158,Ma),(162,kD 22 388 159),(163,Ad),(177,kD 25 406 174),(178,Ja),(184,kC 26 412 179 2),(185,Fj),(191,kC 27 420 186 4),(192,w6),(198,kC 28 430 193 3),(199,vN),(205,kC 30 441 200 1),(206,sS),(212,kC 31 448 207 2),(213,ju),(250,kC 37 495 245 2),(251,uH),(257,kC 38 503 252 2),(258,CK),(262,kD 39 511 259),(263,yp),(269,kC 41 519 264 3),(270,zq),(274,kD 42 528 271),(275,Fp),(281,kC 43 534 276 3),(282,CZ),(298,kD 46 560 295),(299,Cd),(312,kC 48 575 307 7),(313,Gb),(338,kC 52 618 333 3),(339,Bw),(345,kC 54 629 340 2),(346,LK),(355,kD 57 645 352),(356,Ca),(374,kD 60 676 371),(375,FN),(386,kC 62 688 381 6),(387,vL),(393,kC 65 704 388 3),(394,vM),(414,kC 68 735 409 5),(415,nY),(462,kD 76 799 459),(463,Jx),(493,kD 81 839 490),(494,M5),(510,kD 86 865 507),(511,QW),(531,kC 91 894 526 7),(532,Mx),(594,kC 96 993 589 5),(595,CV),(601,kC 98 1006 596 2),(602,zZ),(608,kC 99 1014 603 3),(609,BZ),(613,kD 100 1023 610),(614,zu),(618,kD 101 1029 615),(619,Aa),(623,kD 102 1035 620),(624,xG),(628,kD 103 1041 625),(629,yr),(635,kC 104 1047 630 7),(636,xO),(642,kC 105 1060 637 3),(643,nO),(649,kC 106 1069 644 3),(650,Ae),(656,kC 107 1078 651 3),(657,rO),(663,kC 108 1087 658 5),(664,Ag),(668,kD 109 1098 665),(669,o_law)]
noncomputable def adi:List Addr:=[2,3,23,24,36,37,48,49,64,65,67,68,112,113,119,120,126,127,133,134,140,141,145,146,152,153,157,158,162,163,177,178,184,185,191,192,198,199,205,206,212,213,250,251,257,258,262,263,269,270,274,275,281,282,298,299,312,313,338,339,345,346,355,356,374,375,386,387,393,394,414,415,462,463,493,494,510,511,531,532,594,595,601,602,608,609,613,614,618,619,623,624,628,629,635,636,642,643,649,650,656,657,663,664,668,669]
noncomputable def hook:PySem.W.Hook:=PySem.W.kHook heap adi (fun _=>rfl)
noncomputable abbrev e0:Obj:=Hs.gT []
abbrev o0:Obj:=Hs.gO
noncomputable abbrev kQ (i:Nat):=Hs.gQ (top i)
noncomputable abbrev kW (i:Nat) (m:Value) (a:Nat):=Hs.gW (top i) m a
abbrev pw:Program:=PySem.Challenge.pw_pairtests_k02_strengths_and_tests
noncomputable abbrev m0:Value:=(gS "__main__" 164)
abbrev m1:Value:=(gS "pairtests.errors" 187)
abbrev m2:Value:=(gS "pairtests.books" 312)
abbrev m3:Value:=(gS "pairtests.meetings" 439)
abbrev m4:Value:=(gS "pairtests.covers" 517)
abbrev m5:Value:=(gS "pairtests.building" 627)
abbrev m6:Value:=(gS "pairtests.faults" 637)
abbrev m7:Value:=(gS "pairtests.fewest" 700)
abbrev m8:Value:=(gS "pairtests.keeping" 845)
abbrev m9:Value:=(gS "pairtests.papers" 871)
abbrev m10:Value:=(gS "law_pairtests_k02_strengths_and_tests" 1004)
noncomputable def h13:Obj:=Hs.gK "<module>" "<module>" 182 1 0 0 false 181 11 .none .none .none 185
noncomputable def h3 (P:Params):Obj:=⟨(.type "dict"),none,.dict #[gE P "__name__" 165 (gS "pairtests.meetings" 439),gE P "__doc__" 166 .none,gE P "__package__" 167 .none,gE P "__loader__" 168 (.builtin "__main__.__loader__#opaque"),gE P "__spec__" 169 .none,gE P "__annotations__" 170 (.ref 6),gE P "__builtins__" 171 (.ref 4),gE P "__file__" 173 (gS "/claim/cut.py" 172),gE P "__cached__" 174 .none,gE P "TestError" 206 (.ref 24),gE P "BadBook" 222 (.ref 37),gE P "BadStrength" 238 (.ref 49),gE P "BadTests" 263 (.ref 68),gE P "BadNumber" 279 (.ref 80),gE P "BadResults" 295 (.ref 92),gE P "TooBig" 311 (.ref 104),gE P "MOST_THINGS" 315 (.int 6 314),gE P "MOST_SETTINGS" 317 (.int 4 316),gE P "MOST_ROWS" 319 (.int 400 318),gE P "MOST_BANS" 321 (.int 12 320),gE P "MOST_IN_MEETING" 323 (.int 3 322),gE P "is_whole" 332 (.ref 113),gE P "is_tuple" 341 (.ref 120),gE P "are_levels" 350 (.ref 127),gE P "is_setting" 358 (.ref 134),gE P "is_meeting" 368 (.ref 141),gE P "is_book" 374 (.ref 146),gE P "checked" 381 (.ref 153),gE P "meets" 387 (.ref 158),gE P "meets_any" 393 (.ref 163),gE P "all_rows" 399 (.ref 168),gE P "all_tests" 405 (.ref 173),gE P "is_row" 411 (.ref 178),gE P "is_test" 419 (.ref 185),gE P "check_list" 429 (.ref 192),gE P "check_tests" 438 (.ref 199),gE P "most_strength" 447 (.ref 206),gE P "check_book_and_strength" 455 (.ref 213)] 38,#[]⟩
noncomputable def h12:Obj:=Hs.gZ [(2,20),(4,33),(6,45),(8,57),(13,76),(15,88),(17,100),(25,112),(27,119),(29,126),(38,133),(42,140),(51,145),(55,152),(59,157),(61,162),(63,167),(71,172),(74,177),(78,184),(80,191),(86,198),(89,205),(91,212)]
noncomputable def h15:Obj:=Hs.gT [(.type "ValueError")]
noncomputable def h16:Obj:=Hs.gM "type.__prepare__" (.type "type")
noncomputable def h17 (P:Params):Obj:=⟨(.type "dict"),none,.dict #[gE P "__module__" 196 (gS "pairtests.errors" 187),gE P "__qualname__" 198 (gS "TestError" 197),gE P "__firstlineno__" 200 (.int 2 199),gE P "__static_attributes__" 201 (.ref 22)] 4,#[]⟩
noncomputable def h20:Obj:=Hs.gK "TestError" "TestError" 191 2 0 0 false 181 18 .none .none .none 194
noncomputable def h23 (P:Params):Obj:=⟨(.type "dict"),none,.dict #[gE P "__module__" 196 (gS "pairtests.errors" 187),gE P "__firstlineno__" 200 (.int 2 199),gE P "__static_attributes__" 201 (.ref 22),gE P "__weakref__" 203 (.ref 25),gE P "__doc__" 204 .none] 3,#[]⟩
noncomputable def h24:Obj:=⟨(.type "type"),none,.cls { name:=(Str.ofString "TestError"),bases:=[(.type "ValueError")],mro:=[(.ref 24),(.type "ValueError"),(.type "Exception"),(.type "BaseException"),(.type "object")],ns:=23,qualname:=(Str.ofString "TestError"),hasDict:=true,slotNames:=[],subclasses:=[(.ref 37),(.ref 49),(.ref 68),(.ref 80),(.ref 92),(.ref 104)],abstract:=false,collection:=none,hasDel:=false },#[some (.ref 15),none,some (gS "TestError" 189),some (gS "TestError" 197),some (.builtin "ValueError.__new__"),some (.bool true)]⟩
noncomputable def h25:Obj:=⟨(.type "getset_descriptor"),none,.fields #[(gS "__weakref__" 202),(.ref 24),(.builtin "ExceptionGroup.__weakref__"),.none],#[]⟩
noncomputable def h27:Obj:=Hs.gM "object.__init_subclass__" (.ref 24)
def h29:Obj:=Hs.gM "type.__prepare__" (.type "type")
noncomputable def h30 (P:Params):Obj:=⟨(.type "dict"),none,.dict #[gE P "__module__" 214 (gS "pairtests.errors" 187),gE P "__qualname__" 216 (gS "BadBook" 215),gE P "__firstlineno__" 218 (.int 4 217),gE P "__static_attributes__" 219 (.ref 35)] 4,#[]⟩
noncomputable def h33:Obj:=Hs.gK "BadBook" "BadBook" 209 4 0 0 false 181 31 .none .none .none 212
noncomputable def h36 (P:Params):Obj:=⟨(.type "dict"),none,.dict #[gE P "__module__" 214 (gS "pairtests.errors" 187),gE P "__firstlineno__" 218 (.int 4 217),gE P "__static_attributes__" 219 (.ref 35),gE P "__doc__" 220 .none] 2,#[]⟩
noncomputable def h37:Obj:=⟨(.type "type"),none,.cls { name:=(Str.ofString "BadBook"),bases:=[(.ref 24)],mro:=[(.ref 37),(.ref 24),(.type "ValueError"),(.type "Exception"),(.type "BaseException"),(.type "object")],ns:=36,qualname:=(Str.ofString "BadBook"),hasDict:=true,slotNames:=[],subclasses:=[],abstract:=false,collection:=none,hasDel:=false },#[some (.ref 28),none,some (gS "BadBook" 207),some (gS "BadBook" 215),some (.builtin "ValueError.__new__"),some (.bool true)]⟩
noncomputable def h39:Obj:=Hs.gM "object.__init_subclass__" (.ref 37)
def h41:Obj:=Hs.gM "type.__prepare__" (.type "type")
noncomputable def h42 (P:Params):Obj:=⟨(.type "dict"),none,.dict #[gE P "__module__" 230 (gS "pairtests.errors" 187),gE P "__qualname__" 232 (gS "BadStrength" 231),gE P "__firstlineno__" 234 (.int 6 233),gE P "__static_attributes__" 235 (.ref 47)] 4,#[]⟩
noncomputable def h45:Obj:=Hs.gK "BadStrength" "BadStrength" 225 6 0 0 false 181 43 .none .none .none 228
noncomputable def h48 (P:Params):Obj:=⟨(.type "dict"),none,.dict #[gE P "__module__" 230 (gS "pairtests.errors" 187),gE P "__firstlineno__" 234 (.int 6 233),gE P "__static_attributes__" 235 (.ref 47),gE P "__doc__" 236 .none] 2,#[]⟩
noncomputable def h49:Obj:=⟨(.type "type"),none,.cls { name:=(Str.ofString "BadStrength"),bases:=[(.ref 24)],mro:=[(.ref 49),(.ref 24),(.type "ValueError"),(.type "Exception"),(.type "BaseException"),(.type "object")],ns:=48,qualname:=(Str.ofString "BadStrength"),hasDict:=true,slotNames:=[],subclasses:=[],abstract:=false,collection:=none,hasDel:=false },#[some (.ref 40),none,some (gS "BadStrength" 223),some (gS "BadStrength" 231),some (.builtin "ValueError.__new__"),some (.bool true)]⟩
noncomputable def h51:Obj:=Hs.gM "object.__init_subclass__" (.ref 49)
def h53:Obj:=Hs.gM "type.__prepare__" (.type "type")
noncomputable def h54 (P:Params):Obj:=⟨(.type "dict"),none,.dict #[gE P "__module__" 246 (gS "pairtests.errors" 187),gE P "__qualname__" 248 (gS "BadTests" 247),gE P "__firstlineno__" 250 (.int 8 249),gE P "__init__" 258 (.ref 65),gE P "__static_attributes__" 260 (.ref 66)] 5,#[]⟩
noncomputable def h56:Obj:=Hs.gY [(.int 10 0),(.int 4 0),(.ref 64)]
noncomputable def h57:Obj:=Hs.gK "BadTests" "BadTests" 241 8 0 0 false 181 55 .none .none .none 244
noncomputable def h63:Obj:=Hs.gR (Hs.inn 0 (top 4)) "__init__" "BadTests.__init__"
def h64:Obj:=Hs.gK "__init__" "BadTests.__init__" 251 10 2 3 true 181 59 (.ref 61) (.ref 62) (.ref 63) 256
def h65:Obj:=Hs.gG (Hs.inn 0 (top 4)) "__init__" "BadTests.__init__" (gS "pairtests.errors" 187) (.ref 64)
noncomputable def h67 (P:Params):Obj:=⟨(.type "dict"),none,.dict #[gE P "__module__" 246 (gS "pairtests.errors" 187),gE P "__firstlineno__" 250 (.int 8 249),gE P "__init__" 258 (.ref 65),gE P "__static_attributes__" 260 (.ref 66),gE P "__doc__" 261 .none] 2,#[]⟩
noncomputable def h68:Obj:=⟨(.type "type"),none,.cls { name:=(Str.ofString "BadTests"),bases:=[(.ref 24)],mro:=[(.ref 68),(.ref 24),(.type "ValueError"),(.type "Exception"),(.type "BaseException"),(.type "object")],ns:=67,qualname:=(Str.ofString "BadTests"),hasDict:=true,slotNames:=[],subclasses:=[],abstract:=false,collection:=none,hasDel:=false },#[some (.ref 52),none,some (gS "BadTests" 239),some (gS "BadTests" 247),some (.builtin "ValueError.__new__"),some (.bool true)]⟩
noncomputable def h70:Obj:=Hs.gM "object.__init_subclass__" (.ref 68)
def h72:Obj:=Hs.gM "type.__prepare__" (.type "type")
noncomputable def h73 (P:Params):Obj:=⟨(.type "dict"),none,.dict #[gE P "__module__" 271 (gS "pairtests.errors" 187),gE P "__qualname__" 273 (gS "BadNumber" 272),gE P "__firstlineno__" 275 (.int 13 274),gE P "__static_attributes__" 276 (.ref 78)] 4,#[]⟩
noncomputable def h76:Obj:=Hs.gK "BadNumber" "BadNumber" 266 13 0 0 false 181 74 .none .none .none 269
noncomputable def h79 (P:Params):Obj:=⟨(.type "dict"),none,.dict #[gE P "__module__" 271 (gS "pairtests.errors" 187),gE P "__firstlineno__" 275 (.int 13 274),gE P "__static_attributes__" 276 (.ref 78),gE P "__doc__" 277 .none] 2,#[]⟩
noncomputable def h80:Obj:=⟨(.type "type"),none,.cls { name:=(Str.ofString "BadNumber"),bases:=[(.ref 24)],mro:=[(.ref 80),(.ref 24),(.type "ValueError"),(.type "Exception"),(.type "BaseException"),(.type "object")],ns:=79,qualname:=(Str.ofString "BadNumber"),hasDict:=true,slotNames:=[],subclasses:=[],abstract:=false,collection:=none,hasDel:=false },#[some (.ref 71),none,some (gS "BadNumber" 264),some (gS "BadNumber" 272),some (.builtin "ValueError.__new__"),some (.bool true)]⟩
noncomputable def h82:Obj:=Hs.gM "object.__init_subclass__" (.ref 80)
def h84:Obj:=Hs.gM "type.__prepare__" (.type "type")
noncomputable def h85 (P:Params):Obj:=⟨(.type "dict"),none,.dict #[gE P "__module__" 287 (gS "pairtests.errors" 187),gE P "__qualname__" 289 (gS "BadResults" 288),gE P "__firstlineno__" 291 (.int 15 290),gE P "__static_attributes__" 292 (.ref 90)] 4,#[]⟩
noncomputable def h88:Obj:=Hs.gK "BadResults" "BadResults" 282 15 0 0 false 181 86 .none .none .none 285
noncomputable def h91 (P:Params):Obj:=⟨(.type "dict"),none,.dict #[gE P "__module__" 287 (gS "pairtests.errors" 187),gE P "__firstlineno__" 291 (.int 15 290),gE P "__static_attributes__" 292 (.ref 90),gE P "__doc__" 293 .none] 2,#[]⟩
noncomputable def h92:Obj:=⟨(.type "type"),none,.cls { name:=(Str.ofString "BadResults"),bases:=[(.ref 24)],mro:=[(.ref 92),(.ref 24),(.type "ValueError"),(.type "Exception"),(.type "BaseException"),(.type "object")],ns:=91,qualname:=(Str.ofString "BadResults"),hasDict:=true,slotNames:=[],subclasses:=[],abstract:=false,collection:=none,hasDel:=false },#[some (.ref 83),none,some (gS "BadResults" 280),some (gS "BadResults" 288),some (.builtin "ValueError.__new__"),some (.bool true)]⟩
noncomputable def h94:Obj:=Hs.gM "object.__init_subclass__" (.ref 92)
def h96:Obj:=Hs.gM "type.__prepare__" (.type "type")
noncomputable def h97 (P:Params):Obj:=⟨(.type "dict"),none,.dict #[gE P "__module__" 303 (gS "pairtests.errors" 187),gE P "__qualname__" 305 (gS "TooBig" 304),gE P "__firstlineno__" 307 (.int 17 306),gE P "__static_attributes__" 308 (.ref 102)] 4,#[]⟩
noncomputable def h100:Obj:=Hs.gK "TooBig" "TooBig" 298 17 0 0 false 181 98 .none .none .none 301
noncomputable def aaw (P:Params):Obj:=⟨(.type "dict"),none,.dict #[gE P "__module__" 303 (gS "pairtests.errors" 187),gE P "__firstlineno__" 307 (.int 17 306),gE P "__static_attributes__" 308 (.ref 102),gE P "__doc__" 309 .none] 2,#[]⟩
noncomputable def ZC:Obj:=⟨(.type "type"),none,.cls { name:=(Str.ofString "TooBig"),bases:=[(.ref 24)],mro:=[(.ref 104),(.ref 24),(.type "ValueError"),(.type "Exception"),(.type "BaseException"),(.type "object")],ns:=103,qualname:=(Str.ofString "TooBig"),hasDict:=true,slotNames:=[],subclasses:=[],abstract:=false,collection:=none,hasDel:=false },#[some (.ref 95),none,some (gS "TooBig" 296),some (gS "TooBig" 304),some (.builtin "ValueError.__new__"),some (.bool true)]⟩
noncomputable def Z1:Obj:=Hs.gM "object.__init_subclass__" (.ref 104)
noncomputable def aaK:Obj:=Hs.gV 327 ["thing","least","most"]
noncomputable def abH:Obj:=Hs.gV 336 ["thing","least","most"]
noncomputable def aay:Obj:=Hs.gV 345 ["thing","rows","level"]
noncomputable def aa0:Obj:=Hs.gV 354 ["levels","thing"]
noncomputable def abq:Obj:=Hs.gV 362 ["levels","thing","behind","pair"]
noncomputable def aaY:Obj:=Hs.gV 415 ["book","thing"]
noncomputable def aaB:Obj:=Hs.gV 423 ["things","is_right","place","thing"]
noncomputable def abu:Obj:=Hs.gV 433 ["book","tests"]
noncomputable def aaL:Obj:=Hs.gV 451 ["book","strength"]
noncomputable def env:Env:={ scope:=pw.main.scope,locals:=mainNs,globals:=mainNs,cells:=[],code:=(.ref 13),frame:=some 14 }
noncomputable abbrev bc:Code:=.body (PySem.W.behindTheImports pw) env
abbrev B0:List Frame:=[PySem.W.topFrame ⟨0,0,0,0⟩]
def t0 (P:Params):PySem.W.BT:=(.node (PySem.W.boot_o_0 P) (.node (PySem.W.boot_o_1 P) (.node (PySem.W.boot_o_3 P) (.node (PySem.W.boot_o_7 P) .nil .nil) (.node e0 .nil .nil)) (.node (PySem.W.boot_o_5 P) (.node (PySem.W.boot_o_9 P) .nil .nil) (.node h13 .nil .nil))) (.node (PySem.W.boot_o_2 P) (.node (PySem.W.boot_o_4 P) (.node (PySem.W.boot_o_8 P) .nil .nil) (.node o0 .nil .nil)) (.node (PySem.W.boot_o_6 P) (.node (PySem.W.boot_o_10 P) .nil .nil) (.node (Hs.gI 13 3 m0) .nil .nil))))
abbrev s0 (w:World) (os:OsState):PySem.W.SharedT:=⟨t0 w.params,15,{},#[],{},187,os⟩
def t1 (P:Params):PySem.W.BT:=(.node (PySem.W.boot_o_0 P) (.node (PySem.W.boot_o_1 P) (.node (h3 P) (.node (PySem.W.boot_o_7 P) (.node h15 (.node e0 (.node h63 (.node (kW 16 m2 126) .nil .nil) (.node (kC 27 420 186 4) .nil .nil)) (.node (Hs.gT [(.ref 24)]) (.node e0 .nil .nil) .nil)) (.node e0 (.node (h79 P) (.node o0 .nil .nil) (.node e0 .nil .nil)) (.node (kQ 14) (.node o0 .nil .nil) .nil))) (.node (h23 P) (.node h39 (.node (Hs.gT [(.ref 24)]) (.node e0 .nil .nil) (.node (kW 28 m2 198) .nil .nil)) (.node (aaw P) (.node (kD 23 394 164) .nil .nil) .nil)) (.node e0 (.node o0 (.node (kQ 20) .nil .nil) .nil) (.node (kC 15 333 114 3) (.node (kQ 26) .nil .nil) .nil)))) (.node e0 (.node o0 (.node e0 (.node (h67 P) (.node e0 .nil .nil) (.node abu .nil .nil)) (.node o0 (.node (kW 22 m2 162) .nil .nil) .nil)) (.node h51 (.node (Hs.gT [(.ref 24)]) (.node e0 .nil .nil) (.node (kQ 31) .nil .nil)) (.node o0 (.node e0 .nil .nil) .nil))) (.node h27 (.node e0 (.node o0 (.node (kQ 18) .nil .nil) (.node e0 .nil .nil)) (.node e0 (.node (kQ 24) .nil .nil) .nil)) (.node e0 (.node (h91 P) (.node o0 .nil .nil) .nil) (.node aay (.node o0 .nil .nil) .nil))))) (.node (PySem.W.boot_o_5 P) (.node (PySem.W.boot_o_9 P) (.node (h17 P) (.node h33 (.node h65 (.node o0 .nil .nil) (.node e0 .nil .nil)) (.node (h97 P) (.node (kQ 22) .nil .nil) .nil)) (.node h49 (.node (Hs.gU 80) (.node (kD 19 369 142) .nil .nil) (.node aaL .nil .nil)) (.node (kW 14 m2 112) (.node (kD 25 406 174) .nil .nil) .nil))) (.node h25 (.node h41 (.node (h73 P) (.node abq .nil .nil) (.node o0 .nil .nil)) (.node (Hs.gU 104) (.node e0 .nil .nil) .nil)) (.node h57 (.node (Hs.gI 88 85 m1) (.node (kW 20 m2 152) .nil .nil) .nil) (.node e0 (.node (kW 26 m2 184) .nil .nil) .nil)))) (.node h13 (.node (Hs.gI 20 17 m1) (.node h37 (.node (Hs.gU 68) (.node (kC 17 351 128 2) .nil .nil) (.node (kQ 28) .nil .nil)) (.node (Hs.gI 100 97 m1) (.node o0 .nil .nil) .nil)) (.node h53 (.node (h85 P) (.node (Hs.gV 378 ["book"]) .nil .nil) (.node (kW 31 m3 212) .nil .nil)) (.node e0 (.node aaY .nil .nil) .nil))) (.node h29 (.node h45 (.node (Hs.gI 76 73 m1) (.node (kW 18 m2 140) .nil .nil) (.node (kC 30 441 200 1) .nil .nil)) (.node aaK (.node (kW 24 m2 172) .nil .nil) .nil)) (.node (Hs.gV 254 ["self","at"]) (.node (Hs.gU 92) (.node (kD 21 382 154) .nil .nil) .nil) (.node (kQ 16) (.node e0 .nil .nil) .nil)))))) (.node (PySem.W.boot_o_2 P) (.node (PySem.W.boot_o_4 P) (.node (PySem.W.boot_o_8 P) (.node h16 (.node o0 (.node h64 (.node e0 .nil .nil) (.node (kW 27 m2 191) .nil .nil)) (.node h96 (.node o0 .nil .nil) .nil)) (.node (h48 P) (.node h80 (.node (kQ 19) .nil .nil) (.node o0 .nil .nil)) (.node (kC 14 324 107 3) (.node (kQ 25) .nil .nil) .nil))) (.node h24 (.node (Hs.gT [(.ref 24)]) (.node h72 (.node o0 .nil .nil) (.node e0 .nil .nil)) (.node ZC (.node (kW 23 m2 167) .nil .nil) .nil)) (.node h56 (.node h88 (.node (kC 20 375 147 1) .nil .nil) .nil) (.node (kW 15 m2 119) (.node (kC 26 412 179 2) .nil .nil) .nil)))) (.node h12 (.node h20 (.node (h36 P) (.node h68 (.node (kQ 17) .nil .nil) (.node (Hs.gV 435 ["book"]) .nil .nil)) (.node h100 (.node e0 .nil .nil) .nil)) (.node (Hs.gT [(.ref 24)]) (.node h84 (.node o0 .nil .nil) (.node (kC 31 448 207 2) .nil .nil)) (.node abH (.node o0 .nil .nil) .nil))) (.node (Hs.gT [(.ref 24)]) (.node o0 (.node h76 (.node (kC 18 359 135 4) .nil .nil) (.node (kQ 30) .nil .nil)) (.node o0 (.node (kD 24 400 169) .nil .nil) .nil)) (.node o0 (.node h92 (.node (kQ 21) .nil .nil) .nil) (.node e0 (.node aaB .nil .nil) .nil))))) (.node (PySem.W.boot_o_6 P) (.node (PySem.W.boot_o_10 P) (.node e0 (.node (Hs.gI 33 30 m1) (.node (Hs.gV 259 ["at"]) (.node aa0 .nil .nil) (.node o0 .nil .nil)) (.node e0 (.node (kD 22 388 159) .nil .nil) .nil)) (.node (Hs.gU 49) (.node h82 (.node (kW 19 m2 145) .nil .nil) (.node e0 .nil .nil)) (.node e0 (.node (kW 25 m2 177) .nil .nil) .nil))) (.node (Hs.gU 24) (.node (h42 P) (.node e0 (.node e0 .nil .nil) (.node (Hs.gV 444 ["book"]) .nil .nil)) (.node Z1 (.node o0 .nil .nil) .nil)) (.node (Hs.gI 57 54 m1) (.node e0 (.node e0 .nil .nil) .nil) (.node o0 (.node e0 .nil .nil) .nil)))) (.node (Hs.gI 13 3 m0) (.node e0 (.node (Hs.gU 37) (.node h70 (.node (kW 17 m2 133) .nil .nil) (.node (kC 28 430 193 3) .nil .nil)) (.node e0 (.node (kQ 23) .nil .nil) .nil)) (.node (h54 P) (.node e0 (.node e0 .nil .nil) .nil) (.node (kQ 15) (.node e0 .nil .nil) .nil))) (.node (h30 P) (.node (Hs.gI 45 42 m1) (.node e0 (.node e0 .nil .nil) (.node (kW 30 m3 205) .nil .nil)) (.node e0 (.node e0 .nil .nil) .nil)) (.node e0 (.node h94 (.node (kW 21 m2 157) .nil .nil) .nil) (.node (kC 16 342 121 3) (.node (kQ 27) .nil .nil) .nil)))))))
abbrev s1 (w:World) (os:OsState):PySem.W.SharedT:=⟨t1 w.params,214,{},#[],{},456,os⟩
def t2 (P:Params):PySem.W.BT:=(.node (PySem.W.boot_o_0 P) (.node (PySem.W.boot_o_1 P) (.node (⟨(.type "dict"),none,.dict #[gE P "__name__" 165 (gS "law_pairtests_k02_strengths_and_tests" 1004),gE P "__doc__" 166 .none,gE P "__package__" 167 .none,gE P "__loader__" 168 (.builtin "__main__.__loader__#opaque"),gE P "__spec__" 169 .none,gE P "__annotations__" 170 (.ref 6),gE P "__builtins__" 171 (.ref 4),gE P "__file__" 173 (gS "/claim/cut.py" 172),gE P "__cached__" 174 .none,gE P "TestError" 206 (.ref 24),gE P "BadBook" 222 (.ref 37),gE P "BadStrength" 238 (.ref 49),gE P "BadTests" 263 (.ref 68),gE P "BadNumber" 279 (.ref 80),gE P "BadResults" 295 (.ref 92),gE P "TooBig" 311 (.ref 104),gE P "MOST_THINGS" 315 (.int 6 314),gE P "MOST_SETTINGS" 317 (.int 4 316),gE P "MOST_ROWS" 319 (.int 400 318),gE P "MOST_BANS" 321 (.int 12 320),gE P "MOST_IN_MEETING" 323 (.int 3 322),gE P "is_whole" 332 (.ref 113),gE P "is_tuple" 341 (.ref 120),gE P "are_levels" 350 (.ref 127),gE P "is_setting" 358 (.ref 134),gE P "is_meeting" 368 (.ref 141),gE P "is_book" 374 (.ref 146),gE P "checked" 381 (.ref 153),gE P "meets" 387 (.ref 158),gE P "meets_any" 393 (.ref 163),gE P "all_rows" 399 (.ref 168),gE P "all_tests" 405 (.ref 173),gE P "is_row" 411 (.ref 178),gE P "is_test" 419 (.ref 185),gE P "check_list" 429 (.ref 192),gE P "check_tests" 438 (.ref 199),gE P "most_strength" 447 (.ref 206),gE P "check_book_and_strength" 455 (.ref 213),gE P "settings_of" 461 (.ref 218),gE P "is_behind" 469 (.ref 225),gE P "meetings_among" 475 (.ref 230),gE P "meetings_of" 483 (.ref 237),gE P "met_by" 494 (.ref 244),gE P "all_meetings" 502 (.ref 251),gE P "possible" 510 (.ref 258),gE P "impossible" 516 (.ref 263),gE P "check_all" 527 (.ref 270),gE P "missing" 533 (.ref 275),gE P "is_cover" 542 (.ref 282),gE P "times_met" 553 (.ref 289),gE P "meet_without" 559 (.ref 294),gE P "needless" 565 (.ref 299),gE P "count_less" 574 (.ref 306),gE P "trimmed" 587 (.ref 313),gE P "places_by_meeting" 599 (.ref 320),gE P "take_out" 611 (.ref 327),gE P "in_order_behind" 617 (.ref 332),gE P "in_order" 626 (.ref 339),gE P "built" 636 (.ref 346),gE P "are_results" 644 (.ref 351),gE P "suspects" 650 (.ref 356),gE P "next_place" 663 (.ref 363),gE P "lists_by_results" 675 (.ref 370),gE P "blurred" 681 (.ref 375),gE P "parted" 687 (.ref 380),gE P "most_looked" 699 (.ref 387),gE P "MOST_TESTS" 703 (.int 24 702),gE P "small_tests" 712 (.ref 394),gE P "tests_by_bit" 722 (.ref 401),gE P "masks_by_meeting" 734 (.ref 408),gE P "meetings_by_mask" 745 (.ref 415),gE P "bits_of" 755 (.ref 422),gE P "size_of" 762 (.ref 429),gE P "all_bits" 771 (.ref 436),gE P "clear_of" 777 (.ref 441),gE P "narrowest" 783 (.ref 446),gE P "some_apart" 792 (.ref 453),gE P "hit_by" 798 (.ref 458),gE P "fewest" 804 (.ref 463),gE P "most_that_fit" 810 (.ref 468),gE P "rarest_bit" 818 (.ref 475),gE P "apart_among" 829 (.ref 482),gE P "most_apart" 838 (.ref 489),gE P "apart" 844 (.ref 494),gE P "MOST_IN_ROW" 848 (.int 99 847),gE P "is_any_row" 854 (.ref 499),gE P "tests_among" 864 (.ref 506),gE P "kept" 870 (.ref 511),gE P "MOST_MANY" 874 (.int 30 873),gE P "check_many" 881 (.ref 518),gE P "tree_of" 893 (.ref 525),gE P "paper" 906 (.ref 532),gE P "Ground" 956 (.ref 563),gE P "are_apart" 968 (.ref 574),gE P "are_rows" 981 (.ref 581),gE P "is_tree" 992 (.ref 588),gE P "is_paper" 1003 (.ref 595),gE P "_law_cell" 1013 (.ref 602),gE P "_law_mix" 1022 (.ref 609),gE P "_law_book" 1028 (.ref 614),gE P "_law_rows" 1034 (.ref 619),gE P "_law_meets" 1040 (.ref 624),gE P "_law_tests" 1046 (.ref 629)] 103,#[]⟩) (.node (PySem.W.boot_o_7 P) (.node h15 (.node e0 (.node h63 (.node (kW 16 m2 126) (.node e0 (.node (kW 86 m8 510) .nil .nil) .nil) (.node (Hs.gV 691 ["book","strength","tests","places","many","lists"]) .nil .nil)) (.node (kC 27 420 186 4) (.node (kC 49 588 314 6) (.node e0 .nil .nil) .nil) (.node e0 .nil .nil))) (.node (Hs.gT [(.ref 24)]) (.node e0 (.node (kQ 44) (.node e0 .nil .nil) .nil) (.node (kW 68 m7 414) .nil .nil)) (.node (kQ 33) (.node (kW 56 m6 350) (.node (kQ 99) .nil .nil) .nil) (.node e0 .nil .nil)))) (.node e0 (.node (h79 P) (.node o0 (.node e0 (.node o0 .nil .nil) .nil) (.node (kQ 66) .nil .nil)) (.node e0 (.node (Hs.gV 621 ["book","strength","tests"]) (.node (Hs.gV 996 ["book","strength","many","thing","ground"]) .nil .nil) .nil) (.node (kW 76 m7 462) .nil .nil))) (.node (kQ 14) (.node o0 (.node e0 (.node (Hs.gK "is_this_test" "Ground.is_this_test" 937 402 3 3 true 181 554 (.ref 556) (.ref 557) (.ref 558) 943) .nil .nil) .nil) (.node o0 .nil .nil)) (.node o0 (.node e0 (.node (kD 102 1035 620) .nil .nil) .nil) (.node e0 .nil .nil))))) (.node (h23 P) (.node h39 (.node (Hs.gT [(.ref 24)]) (.node e0 (.node (kW 39 m3 262) (.node e0 .nil .nil) .nil) (.node e0 .nil .nil)) (.node (kW 28 m2 198) (.node (kW 50 m4 326) (.node o0 .nil .nil) .nil) (.node o0 .nil .nil))) (.node (aaw P) (.node (kD 23 394 164) (.node e0 (.node (Hs.gR (Hs.inn 1 (top 92)) "mask_of" "Ground.mask_of") .nil .nil) .nil) (.node e0 .nil .nil)) (.node e0 (.node (Hs.gV 654 ["meetings","places","meeting","place","found"]) (.node e0 .nil .nil) .nil) (.node (kQ 80) .nil .nil)))) (.node e0 (.node o0 (.node (kQ 20) (.node e0 (.node (⟨(.type "dict"),none,.dict #[gE P "__module__" 914 (gS "pairtests.papers" 871),gE P "__qualname__" 916 (gS "Ground" 915),gE P "__firstlineno__" 918 (.int 389 917),gE P "__init__" 928 (.ref 546),gE P "mask_of" 936 (.ref 553),gE P "is_this_test" 945 (.ref 560),gE P "__static_attributes__" 949 (.ref 561)] 7,#[]⟩) .nil .nil) .nil) (.node (kC 67 723 402 6) .nil .nil)) (.node o0 (.node e0 (.node e0 .nil .nil) .nil) (.node (Hs.gV 814 ["masks"]) .nil .nil))) (.node (kC 15 333 114 3) (.node (kQ 26) (.node (kQ 48) (.node (Hs.gM "object.__init_subclass__" (.ref 563)) .nil .nil) .nil) (.node (kQ 72) .nil .nil)) (.node (Hs.gV 498 ["book","strength"]) (.node (kW 60 m6 374) .nil .nil) (.node e0 .nil .nil)))))) (.node e0 (.node o0 (.node e0 (.node (h67 P) (.node e0 (.node e0 (.node e0 .nil .nil) .nil) (.node (kW 62 m6 386) .nil .nil)) (.node abu (.node (Hs.gV 603 ["meetings","places","gains","meeting","meeting_places","place"]) (.node (kQ 94) .nil .nil) .nil) (.node (kQ 74) .nil .nil))) (.node o0 (.node (kW 22 m2 162) (.node o0 (.node e0 .nil .nil) .nil) (.node e0 .nil .nil)) (.node o0 (.node (kD 57 645 352) (.node o0 .nil .nil) .nil) (.node e0 .nil .nil)))) (.node h51 (.node (Hs.gT [(.ref 24)]) (.node e0 (.node (kW 42 m4 274) (.node (kC 91 894 526 7) .nil .nil) .nil) (.node o0 .nil .nil)) (.node (kQ 31) (.node (kW 52 m4 338) (.node (kW 96 m9 594) .nil .nil) .nil) (.node (kD 77 805 464) .nil .nil))) (.node o0 (.node e0 (.node e0 (.node (⟨(.type "type"),none,.cls { name:=(Str.ofString "Ground"),bases:=[(.type "object")],mro:=[(.ref 563),(.type "object")],ns:=562,qualname:=(Str.ofString "Ground"),hasDict:=true,slotNames:=[],subclasses:=[],abstract:=false,collection:=none,hasDel:=false },#[none,none,some (gS "Ground" 907),some (gS "Ground" 915),some (.builtin "object.__new__"),some (.bool true)]⟩) .nil .nil) .nil) (.node (kC 71 763 430 3) .nil .nil)) (.node (kC 36 484 238 5) (.node e0 (.node (kQ 103) .nil .nil) .nil) (.node (kW 84 m8 498) .nil .nil))))) (.node h27 (.node e0 (.node o0 (.node (kQ 18) (.node e0 (.node (kQ 90) .nil .nil) .nil) (.node e0 .nil .nil)) (.node e0 (.node (kD 51 612 328) (.node (kC 95 982 582 5) .nil .nil) .nil) (.node e0 .nil .nil))) (.node e0 (.node (kQ 24) (.node (kW 46 m4 298) (.node o0 .nil .nil) .nil) (.node (kQ 70) .nil .nil)) (.node (kQ 35) (.node (kW 58 m6 362) (.node (kW 101 m10 618) .nil .nil) .nil) (.node o0 .nil .nil)))) (.node e0 (.node (h91 P) (.node o0 (.node e0 (.node (Hs.gI 538 535 m9) .nil .nil) .nil) (.node (Hs.gV 738 ["tests","strength","meetings","meeting","mask"]) .nil .nil)) (.node e0 (.node e0 (.node e0 .nil .nil) .nil) (.node (kW 78 m7 474) .nil .nil))) (.node aay (.node o0 (.node o0 (.node e0 .nil .nil) .nil) (.node o0 .nil .nil)) (.node (kW 37 m3 250) (.node (kD 61 682 376) .nil .nil) (.node e0 .nil .nil))))))) (.node (PySem.W.boot_o_5 P) (.node (PySem.W.boot_o_9 P) (.node (h17 P) (.node h33 (.node h65 (.node o0 (.node (kC 38 503 252 2) (.node o0 .nil .nil) .nil) (.node (kQ 62) .nil .nil)) (.node e0 (.node e0 (.node (Hs.gV 972 ["ground","many","taken","bits","thing","bit","row"]) .nil .nil) .nil) (.node (Hs.gV 787 ["masks","found","mask"]) .nil .nil))) (.node (h97 P) (.node (kQ 22) (.node (kW 44 m4 288) (.node (Hs.gK "__init__" "Ground.__init__" 919 391 3 3 true 181 540 (.ref 542) (.ref 543) (.ref 544) 926) .nil .nil) .nil) (.node o0 .nil .nil)) (.node (kW 33 m3 224) (.node o0 (.node (kW 99 m10 608) .nil .nil) .nil) (.node (kC 79 819 476 5) .nil .nil)))) (.node h49 (.node (Hs.gU 80) (.node (kD 19 369 142) (.node (kQ 42) (.node e0 .nil .nil) .nil) (.node (kW 66 m7 400) .nil .nil)) (.node aaL (.node (kQ 52) (.node (kQ 96) .nil .nil) .nil) (.node o0 .nil .nil))) (.node (kW 14 m2 112) (.node (kD 25 406 174) (.node (kC 47 566 300 3) (.node (Hs.gV 946 ["by_bit","levels","masks"]) .nil .nil) .nil) (.node e0 .nil .nil)) (.node e0 (.node (kC 59 664 364 6) (.node e0 .nil .nil) .nil) (.node (kQ 84) .nil .nil))))) (.node h25 (.node h41 (.node (h73 P) (.node abq (.node o0 (.node (Hs.gV 885 ["masks","meetings","by_bit","many","rows","bit"]) .nil .nil) .nil) (.node (kC 65 704 388 3) .nil .nil)) (.node o0 (.node o0 (.node e0 .nil .nil) .nil) (.node (kD 75 793 454) .nil .nil))) (.node (Hs.gU 104) (.node e0 (.node (kQ 46) (.node (Hs.gG (Hs.inn 1 (top 92)) "mask_of" "Ground.mask_of" (gS "pairtests.papers" 871) (.ref 552)) .nil .nil) .nil) (.node (Hs.gV 759 ["mask"]) .nil .nil)) (.node (Hs.gV 479 ["test","strength"]) (.node (kQ 58) (.node (kQ 101) .nil .nil) .nil) (.node (kW 80 m7 488) .nil .nil)))) (.node h57 (.node (Hs.gI 88 85 m1) (.node (kW 20 m2 152) (.node (kC 43 534 276 3) (.node (Hs.gY [(.int 391 0),(.int 4 0),(.ref 545),(.int 397 0),(.int 4 0),(.ref 552),(.int 402 0),(.int 4 0),(.ref 559)]) .nil .nil) .nil) (.node e0 .nil .nil)) (.node (kD 32 456 214) (.node (kC 54 629 340 2) (.node (kC 98 1006 596 2) .nil .nil) .nil) (.node (kQ 78) .nil .nil))) (.node e0 (.node (kW 26 m2 184) (.node (kW 48 m4 312) (.node o0 .nil .nil) .nil) (.node (kW 72 m7 440) .nil .nil)) (.node (kQ 37) (.node o0 .nil .nil) (.node (kC 85 855 500 4) .nil .nil)))))) (.node h13 (.node (Hs.gI 20 17 m1) (.node h37 (.node (Hs.gU 68) (.node (kC 17 351 128 2) (.node (kQ 39) (.node (kC 89 875 512 1) .nil .nil) .nil) (.node o0 .nil .nil)) (.node (kQ 28) (.node (kQ 50) (.node (kW 94 m9 580) .nil .nil) .nil) (.node (kW 74 m7 452) .nil .nil))) (.node (Hs.gI 100 97 m1) (.node o0 (.node (kD 45 554 290) (.node (Hs.gV 932 ["self","thing"]) .nil .nil) .nil) (.node (kC 69 746 416 4) .nil .nil)) (.node (kD 34 470 226) (.node e0 (.node (kD 100 1023 610) .nil .nil) .nil) (.node (Hs.gV 833 ["masks","most","more"]) .nil .nil)))) (.node h53 (.node (h85 P) (.node (Hs.gV 378 ["book"]) (.node o0 (.node e0 .nil .nil) .nil) (.node e0 .nil .nil)) (.node (kW 31 m3 212) (.node o0 (.node o0 .nil .nil) .nil) (.node e0 .nil .nil))) (.node e0 (.node aaY (.node (Hs.gV 578 ["book","strength","tests","times","left","test","meetings"]) (.node (⟨(.type "getset_descriptor"),none,.fields #[(gS "__weakref__" 952),(.ref 563),(.builtin "ExceptionGroup.__weakref__"),.none],#[]⟩) .nil .nil) .nil) (.node e0 .nil .nil)) (.node e0 (.node (kQ 60) (.node (kW 103 m10 628) .nil .nil) .nil) (.node o0 .nil .nil))))) (.node h29 (.node h45 (.node (Hs.gI 76 73 m1) (.node (kW 18 m2 140) (.node (kC 41 519 264 3) (.node (kW 90 m9 524) .nil .nil) .nil) (.node (Hs.gV 716 ["tests","found","bit","test"]) .nil .nil)) (.node (kC 30 441 200 1) (.node e0 (.node e0 .nil .nil) .nil) (.node (kQ 76) .nil .nil))) (.node aaK (.node (kW 24 m2 172) (.node o0 (.node e0 .nil .nil) .nil) (.node (kW 70 m7 428) .nil .nil)) (.node (kW 35 m3 236) (.node o0 (.node o0 .nil .nil) .nil) (.node (kD 81 839 490) .nil .nil)))) (.node (Hs.gV 254 ["self","at"]) (.node (Hs.gU 92) (.node (kD 21 382 154) (.node (Hs.gV 546 ["tests","strength","times","test","meeting"]) (.node o0 .nil .nil) .nil) (.node (kQ 68) .nil .nil)) (.node (Hs.gV 465 ["pair","meeting"]) (.node (kQ 56) (.node (Hs.gV 1017 ["_law_cell_here","_law_prime","_law_many"]) .nil .nil) .nil) (.node o0 .nil .nil))) (.node (kQ 16) (.node e0 (.node e0 (.node (kC 93 957 568 6) .nil .nil) .nil) (.node (kD 73 778 442) .nil .nil)) (.node o0 (.node e0 .nil .nil) (.node (kQ 86) .nil .nil)))))))) (.node (PySem.W.boot_o_2 P) (.node (PySem.W.boot_o_4 P) (.node (PySem.W.boot_o_8 P) (.node h16 (.node o0 (.node h64 (.node e0 (.node (kQ 38) (.node e0 .nil .nil) .nil) (.node e0 .nil .nil)) (.node (kW 27 m2 191) (.node (kW 49 m4 319) (.node o0 .nil .nil) .nil) (.node o0 .nil .nil))) (.node h96 (.node o0 (.node (kC 44 543 283 5) (.node (Hs.gR (Hs.inn 0 (top 92)) "__init__" "Ground.__init__") .nil .nil) .nil) (.node e0 .nil .nil)) (.node (kC 33 462 219 2) (.node e0 (.node (kC 99 1014 603 3) .nil .nil) .nil) (.node (kQ 79) .nil .nil)))) (.node (h48 P) (.node h80 (.node (kQ 19) (.node o0 (.node (Hs.gV 897 ["book","strength","many","tests","found","meetings","masks"]) .nil .nil) .nil) (.node (kC 66 713 395 4) .nil .nil)) (.node o0 (.node e0 (.node e0 .nil .nil) .nil) (.node e0 .nil .nil))) (.node (kC 14 324 107 3) (.node (kQ 25) (.node (kQ 47) (.node (Hs.gG (Hs.inn 2 (top 92)) "is_this_test" "Ground.is_this_test" (gS "pairtests.papers" 871) (.ref 559)) .nil .nil) .nil) (.node (Hs.gV 766 ["masks","whole","mask"]) .nil .nil)) (.node (Hs.gV 487 ["tests","strength","met","test","meeting"]) (.node (kQ 59) (.node (kW 102 m10 623) .nil .nil) .nil) (.node o0 .nil .nil))))) (.node h24 (.node (Hs.gT [(.ref 24)]) (.node h72 (.node o0 (.node e0 (.node o0 .nil .nil) .nil) (.node (kQ 65) .nil .nil)) (.node e0 (.node e0 (.node (Hs.gV 985 ["ground","many","taken","thing","mask"]) .nil .nil) .nil) (.node (kQ 75) .nil .nil))) (.node ZC (.node (kW 23 m2 167) (.node o0 (.node (Hs.gK "mask_of" "Ground.mask_of" 929 397 2 3 true 181 547 (.ref 549) (.ref 550) (.ref 551) 934) .nil .nil) .nil) (.node o0 .nil .nil)) (.node o0 (.node (Hs.gV 659 ["meetings","many"]) (.node o0 .nil .nil) .nil) (.node (kC 80 830 483 3) .nil .nil)))) (.node h56 (.node h88 (.node (kC 20 375 147 1) (.node (kQ 43) (.node e0 .nil .nil) .nil) (.node (kW 67 m7 407) .nil .nil)) (.node (kQ 32) (.node (kQ 54) (.node (kQ 98) .nil .nil) .nil) (.node (Hs.gV 815 ["masks"]) .nil .nil))) (.node (kW 15 m2 119) (.node (kC 26 412 179 2) (.node (kC 48 575 307 7) (.node e0 .nil .nil) .nil) (.node (kD 72 772 437) .nil .nil)) (.node e0 (.node e0 .nil .nil) (.node (kQ 85) .nil .nil)))))) (.node (Hs.gZ [(2,20),(4,33),(6,45),(8,57),(13,76),(15,88),(17,100),(25,112),(27,119),(29,126),(38,133),(42,140),(51,145),(55,152),(59,157),(61,162),(63,167),(71,172),(74,177),(78,184),(80,191),(86,198),(89,205),(91,212),(95,217),(100,224),(102,229),(110,236),(112,243),(118,250),(121,257),(124,262),(129,269),(132,274),(136,281),(138,288),(144,293),(146,298),(150,305),(153,312),(164,319),(170,326),(175,331),(186,338),(190,345),(194,350),(198,355),(205,362),(214,369),(220,374),(223,379),(231,386),(242,393),(248,400),(255,407),(261,414),(266,421),(274,428),(276,435),(281,440),(283,445),(289,452),(295,457),(307,462),(317,467),(326,474),(328,481),(340,488),(347,493),(352,498),(354,505),(360,510),(369,517),(372,524),(378,531),(389,538),(404,573),(414,580),(423,587),(432,594),(442,601),(446,608),(448,613),(465,618),(473,623),(475,628)]) (.node h20 (.node (h36 P) (.node h68 (.node (kQ 17) (.node o0 (.node (kQ 89) .nil .nil) .nil) (.node e0 .nil .nil)) (.node (Hs.gV 435 ["book"]) (.node e0 (.node (kC 94 969 575 7) .nil .nil) .nil) (.node (kC 74 784 447 3) .nil .nil))) (.node h100 (.node e0 (.node (kQ 45) (.node o0 .nil .nil) .nil) (.node (kQ 69) .nil .nil)) (.node (kQ 34) (.node (kW 57 m6 355) (.node (kQ 100) .nil .nil) .nil) (.node o0 .nil .nil)))) (.node (Hs.gT [(.ref 24)]) (.node h84 (.node o0 (.node e0 (.node (kW 91 m9 531) .nil .nil) .nil) (.node (Hs.gV 726 ["tests","strength","masks","bit","test","meeting"]) .nil .nil)) (.node (kC 31 448 207 2) (.node e0 (.node e0 .nil .nil) .nil) (.node (kW 77 m7 467) .nil .nil))) (.node abH (.node o0 (.node o0 (.node (⟨(.type "getset_descriptor"),none,.fields #[(gS "__dict__" 950),(.ref 563),(.builtin "function.__dict__"),(.builtin "function.__dict__#set")],#[]⟩) .nil .nil) .nil) (.node (kW 71 m7 435) .nil .nil)) (.node (kW 36 m3 243) (.node o0 (.node (kD 103 1041 625) .nil .nil) .nil) (.node e0 .nil .nil))))) (.node (Hs.gT [(.ref 24)]) (.node o0 (.node h76 (.node (kC 18 359 135 4) (.node (kQ 41) (.node (kC 90 882 519 6) .nil .nil) .nil) (.node o0 .nil .nil)) (.node (kQ 30) (.node (kW 51 m4 331) (.node (kW 95 m9 587) .nil .nil) .nil) (.node o0 .nil .nil))) (.node o0 (.node (kD 24 400 169) (.node e0 (.node (Hs.gV 940 ["self","bit","thing"]) .nil .nil) .nil) (.node (kC 70 756 423 1) .nil .nil)) (.node (kC 35 476 231 2) (.node e0 (.node e0 .nil .nil) .nil) (.node (kQ 81) .nil .nil)))) (.node o0 (.node h92 (.node (kQ 21) (.node o0 (.node e0 .nil .nil) .nil) (.node e0 .nil .nil)) (.node o0 (.node o0 (.node o0 .nil .nil) .nil) (.node e0 .nil .nil))) (.node e0 (.node aaB (.node (Hs.gV 591 ["tests","strength","places","place","test","meeting"]) (.node (kQ 93) .nil .nil) .nil) (.node (kQ 73) .nil .nil)) (.node e0 (.node (kW 61 m6 379) .nil .nil) (.node o0 .nil .nil))))))) (.node (PySem.W.boot_o_6 P) (.node (PySem.W.boot_o_10 P) (.node e0 (.node (Hs.gI 33 30 m1) (.node (Hs.gV 259 ["at"]) (.node aa0 (.node (kW 38 m3 257) (.node (Hs.gV 878 ["many"]) .nil .nil) .nil) (.node (kC 62 688 381 6) .nil .nil)) (.node o0 (.node o0 (.node e0 .nil .nil) .nil) (.node e0 .nil .nil))) (.node e0 (.node (kD 22 388 159) (.node e0 (.node (Hs.gG (Hs.inn 0 (top 92)) "__init__" "Ground.__init__" (gS "pairtests.papers" 871) (.ref 545)) .nil .nil) .nil) (.node (Hs.gV 749 ["mask","bits","rest","without_lowest"]) .nil .nil)) (.node e0 (.node (kQ 57) (.node e0 .nil .nil) .nil) (.node (kW 79 m7 481) .nil .nil)))) (.node (Hs.gU 49) (.node h82 (.node (kW 19 m2 145) (.node (kD 42 528 271) (.node (kQ 91) .nil .nil) .nil) (.node e0 .nil .nil)) (.node e0 (.node (kC 52 618 333 3) (.node (kC 96 993 589 5) .nil .nil) .nil) (.node (kQ 77) .nil .nil))) (.node e0 (.node (kW 25 m2 177) (.node (kW 47 m4 305) (.node (⟨(.type "dict"),none,.dict #[gE P "__module__" 914 (gS "pairtests.papers" 871),gE P "__firstlineno__" 918 (.int 389 917),gE P "__init__" 928 (.ref 546),gE P "mask_of" 936 (.ref 553),gE P "is_this_test" 945 (.ref 560),gE P "__static_attributes__" 949 (.ref 561),gE P "__dict__" 951 (.ref 564),gE P "__weakref__" 953 (.ref 565),gE P "__doc__" 954 .none] 4,#[]⟩) .nil .nil) .nil) (.node (kQ 71) .nil .nil)) (.node (kQ 36) (.node (kW 59 m6 369) (.node o0 .nil .nil) .nil) (.node (kD 84 849 495) .nil .nil))))) (.node (Hs.gU 24) (.node (h42 P) (.node e0 (.node e0 (.node (Hs.gV 522 ["book","strength","tests"]) (.node e0 .nil .nil) .nil) (.node (kW 65 m7 393) .nil .nil)) (.node (Hs.gV 444 ["book"]) (.node (kQ 51) (.node (kQ 95) .nil .nil) .nil) (.node (kW 75 m7 457) .nil .nil))) (.node Z1 (.node o0 (.node (kD 46 560 295) (.node e0 .nil .nil) .nil) (.node e0 .nil .nil)) (.node e0 (.node (kC 58 651 357 7) (.node (kD 101 1029 615) .nil .nil) .nil) (.node e0 .nil .nil)))) (.node (Hs.gI 57 54 m1) (.node e0 (.node e0 (.node (kW 43 m4 281) (.node (Hs.gK "Ground" "Ground" 909 389 0 0 false 181 536 .none .none .none 912) .nil .nil) .nil) (.node o0 .nil .nil)) (.node (kW 32 m3 217) (.node (kW 54 m5 345) (.node (kW 98 m10 601) .nil .nil) .nil) (.node (kC 78 811 469 2) .nil .nil))) (.node o0 (.node e0 (.node e0 (.node (Hs.gV 960 ["ground","many","thing","met","meeting","mask"]) .nil .nil) .nil) (.node e0 .nil .nil)) (.node (kC 37 495 245 2) (.node (kQ 61) .nil .nil) (.node (kW 85 m8 505) .nil .nil)))))) (.node (Hs.gI 13 3 m0) (.node e0 (.node (Hs.gU 37) (.node h70 (.node (kW 17 m2 133) (.node (kD 39 511 259) (.node (kW 89 m9 517) .nil .nil) .nil) (.node (Hs.gV 707 ["book","strength","tests"]) .nil .nil)) (.node (kC 28 430 193 3) (.node (kC 50 600 321 6) (.node e0 .nil .nil) .nil) (.node e0 .nil .nil))) (.node e0 (.node (kQ 23) (.node (kW 45 m4 293) (.node e0 .nil .nil) .nil) (.node (kW 69 m7 421) .nil .nil)) (.node (kW 34 m3 229) (.node o0 (.node (kW 100 m10 613) .nil .nil) .nil) (.node e0 .nil .nil)))) (.node (h54 P) (.node e0 (.node e0 (.node (Hs.gV 537 ["book","strength","tests"]) (.node (Hs.gM "type.__prepare__" (.type "type")) .nil .nil) .nil) (.node (kQ 67) .nil .nil)) (.node e0 (.node (Hs.gV 632 ["book","strength"]) (.node (Hs.gV 1009 ["_law_script","_law_k"]) .nil .nil) .nil) (.node o0 .nil .nil))) (.node (kQ 15) (.node e0 (.node e0 (.node (Hs.gU 563) .nil .nil) .nil) (.node o0 .nil .nil)) (.node o0 (.node (kD 60 676 371) .nil .nil) (.node (Hs.gV 858 ["book","rows","found","row"]) .nil .nil))))) (.node (h30 P) (.node (Hs.gI 45 42 m1) (.node e0 (.node e0 (.node (kW 41 m4 269) (.node e0 .nil .nil) .nil) (.node e0 .nil .nil)) (.node (kW 30 m3 205) (.node o0 (.node o0 .nil .nil) .nil) (.node (kD 76 799 459) .nil .nil))) (.node e0 (.node e0 (.node (Hs.gV 569 ["meetings","times","meeting"]) (.node (Hs.gR (Hs.inn 2 (top 92)) "is_this_test" "Ground.is_this_test") .nil .nil) .nil) (.node e0 .nil .nil)) (.node e0 (.node (Hs.gV 667 ["book","strength","tests","places","lists","meeting"]) (.node (kQ 102) .nil .nil) .nil) (.node (kW 81 m7 493) .nil .nil)))) (.node e0 (.node h94 (.node (kW 21 m2 157) (.node e0 (.node (Hs.gV 922 ["self","book","strength","tests"]) .nil .nil) .nil) (.node (kC 68 735 409 5) .nil .nil)) (.node e0 (.node (kD 56 639 347) (.node e0 .nil .nil) .nil) (.node (Hs.gV 822 ["masks","many","bit","mask","found"]) .nil .nil))) (.node (kC 16 342 121 3) (.node (kQ 27) (.node (kQ 49) (.node (kW 93 m9 573) .nil .nil) .nil) (.node (kW 73 m7 445) .nil .nil)) (.node (Hs.gV 506 ["book","strength"]) (.node o0 .nil .nil) (.node (kD 86 865 507) .nil .nil)))))))))
abbrev s2 (w:World) (os:OsState):PySem.W.SharedT:=⟨t2 w.params,630,{},#[],{},1047,os⟩
noncomputable def l1:List Stmt:=[top 0,top 1,top 2,top 3,top 4,top 5,top 6,top 7,top 8,top 9,top 10,top 11,top 12,top 13,top 14,top 15,top 16,top 17,top 18,top 19,top 20,top 21,top 22,top 23,top 24,top 25,top 26,top 27,top 28,top 29,top 30,top 31]
noncomputable def l2:List Stmt:=[top 32,top 33,top 34,top 35,top 36,top 37,top 38,top 39,top 40,top 41,top 42,top 43,top 44,top 45,top 46,top 47,top 48,top 49,top 50,top 51,top 52,top 53,top 54,top 55,top 56,top 57,top 58,top 59,top 60,top 61,top 62,top 63,top 64,top 65,top 66,top 67,top 68,top 69,top 70,top 71,top 72,top 73,top 74,top 75,top 76,top 77,top 78,top 79,top 80,top 81,top 82,top 83,top 84,top 85,top 86,top 87,top 88,top 89,top 90,top 91,top 92,top 93,top 94,top 95,top 96,top 97,top 98,top 99,top 100,top 101,top 102,top 103]
noncomputable def l3:List Stmt:=[top 104,top 105,top 106,top 107,top 108,top 109]
theorem split:PySem.W.behindTheImports pw=l1++(l2++(l3)):=by kernel_rfl
theorem pre (w:World) (os:OsState):PySem.W.topGo PySem.treeTable pw w 11 (some (.ref 6)) 12 ⟨PySem.W.boot_heap w.params,#[],PySem.W.boot_drawn,PySem.W.boot_toks,os⟩ (PySem.W.topStub pw)=some ((s0 w os).abs,⟨denote PySem.treeTable bc,bc,⟨0,0,0,0⟩,B0⟩):=by kernel_rfl
theorem blk (w:World) (os:OsState):PySem.W.segRun PySem.treeTable pw w 11 (some (.ref 6)) 1 1 (s0 w os).abs (PySem.W.blockOf (PySem.W.behindTheImports pw) env bc ⟨0,0,0,0⟩ B0)=some (.next,(s0 w os).abs,bc,⟨0,0,0,0⟩):=by kernel_rfl
theorem c1 (w:World) (os:OsState):PySem.W.segRunT PySem.treeTable pw w 11 (some (.ref 6)) 1 2061 (s0 w os) (PySem.W.piecesOf l1 env bc ⟨0,0,0,0⟩ B0)=some (.next,s1 w os,bc,⟨91,0,94,61⟩):=by kernel_rfl
theorem c2 (w:World) (os:OsState):PySem.W.segRunT PySem.treeTable pw w 11 (some (.ref 6)) 1 2199 (s1 w os) (PySem.W.piecesOf l2 env bc ⟨91,0,94,61⟩ B0)=some (.next,s2 w os,bc,⟨475,0,480,21⟩):=by kernel_rfl
def lk (w:World) (s:Shared):=(PySem.W.staticsOk (PySem.importedModules pw.main.body) (PySem.W.boot_heap w.params) s.heap && PySem.W.namesBound pw s.heap && PySem.W.gensDone s && PySem.W.laidKept (PySem.W.boot_heap w.params) s.heap,PySem.W.openSeen view [] (PySem.importedModules pw.main.body) (fun s=>PySem.W.xlAt E02.view [] s && PySem.W.recOk (PySem.W.RowW.records (PySem.W.OpenRow.toRowW PySem.Challenge.rw_pairtests_k02_strengths_and_tests.row)) s) true s,PySem.W.Hook.obs hook s)
theorem last (w:World) (os:OsState):(PySem.W.topRun PySem.treeTable pw w 11 (some (.ref 6)) 189 (s2 w os).abs (PySem.W.restOf l3 env bc ⟨475,0,480,21⟩ B0)).map (lk w)=some (true,PySem.W.openGood view [],PySem.W.Hook.val hook w):=by kernel_rfl
theorem run (w:World) (os:OsState) (r:Shared) (h:PySem.W.topRun PySem.treeTable pw w 11 (some (.ref 6)) 189 (s2 w os).abs (PySem.W.restOf l3 env bc ⟨475,0,480,21⟩ B0)=some r):PySem.W.topRun PySem.treeTable pw w 11 (some (.ref 6)) (12+(1+(2061+(2199+(189))))) ⟨PySem.W.boot_heap w.params,#[],PySem.W.boot_drawn,PySem.W.boot_toks,os⟩ (PySem.W.topStub pw)=some r:=PySem.W.go_top (pre w os) (PySem.W.piece_block (blk w os) (split ▸ PySem.W.piece_app (PySem.W.segRun_of (c1 w os)) (PySem.W.piece_app (PySem.W.segRun_of (c2 w os)) (h))))
theorem left:PySem.W.LeftO PySem.Challenge.pw_pairtests_k02_strengths_and_tests view [] (fun s=>PySem.W.xlAt E02.view [] s && PySem.W.recOk (PySem.W.RowW.records (PySem.W.OpenRow.toRowW PySem.Challenge.rw_pairtests_k02_strengths_and_tests.row)) s) (PySem.W.Hook.obs hook) (PySem.W.Hook.val hook) 9016:=Hs.Wg (PySem.W.boot_open (by kernel_rfl) (by decide) (fun _=>rfl)) (fun w=>by kernel_rfl) run (by decide) last
end E02
set_option genInjectivity false
set_option genSizeOfSpec false
namespace L2
open PySem PySem.Spec PyProof.Rows
abbrev Key:=Sum Int Str
noncomputable def WR:Key->Value->Bool
 | .inl k,v=>Value.isInt k v
 | .inr x,v=>Value.isStrOf x v
noncomputable def ada (w:World):Key->Int
 | .inl k=>hashInt k
 | .inr x=>hashStr w x
theorem dU:∀ {k:Key}{v:Value},WR k v=true->(∃ i t,k=Sum.inl i/\v=Value.int i t)\/(∃ x t,k=Sum.inr x/\v=Value.str x t)
 | .inl i,v,h=>by
  obtain ⟨t,e⟩:=Value.isInt_shape (k:=i) (v:=v) h;exact .inl ⟨i,t,rfl,e⟩
 | .inr x,v,h=>by
  obtain ⟨t,e⟩:=Value.isStrOf_shape (x:=x) (v:=v) h;exact .inr ⟨x,t,rfl,e⟩
theorem aaH (a b:Int):decide ((Sum.inl a:Key)=Sum.inl b)=(a == b):=by
 by_cases e:a=b
 .subst e;simp
 .have h:¬ (Sum.inl a:Key)=Sum.inl b:=fun q=>e (Sum.inl.inj q)
  rw [decide_eq_false h];exact (beq_eq_false_iff_ne.mpr e).symm
theorem aah (a b:Str):decide ((Sum.inr a:Key)=Sum.inr b)=decide (a=b):=by
 by_cases e:a=b
 .subst e;simp
 .have h:¬ (Sum.inr a:Key)=Sum.inr b:=fun q=>e (Sum.inr.inj q)
  rw [decide_eq_false h,decide_eq_false e]
theorem abU (a:Int) (b:Str):decide ((Sum.inl a:Key)=Sum.inr b)=false:=decide_eq_false (fun q=>nomatch q)
theorem abl (a:Str) (b:Int):decide ((Sum.inr a:Key)=Sum.inl b)=false:=decide_eq_false (fun q=>nomatch q)
noncomputable def DN (prog:Program) (w:World):PySem.KeyKind prog w Key where
 is:=WR
 hash:=ada w
 inj:=fun v a b ha hb=>by
  rcases dU ha with ⟨i,t,rfl,rfl⟩ | ⟨x,t,rfl,rfl⟩
  .rcases dU hb with ⟨j,u,rfl,e⟩ | ⟨y,u,rfl,e⟩
   .injection e with e1 _;rw [e1]
   .exact nomatch e
  .rcases dU hb with ⟨j,u,rfl,e⟩ | ⟨y,u,rfl,e⟩
   .exact nomatch e
   .injection e with e1 _;rw [e1]
 byValue:=fun k v h=>by
  rcases dU h with ⟨i,t,rfl,rfl⟩ | ⟨x,t,rfl,rfl⟩ <;> rfl
 pyHash:=fun hv h=>by
  rcases dU hv with ⟨i,t,rfl,rfl⟩ | ⟨x,t,rfl,rfl⟩
  .exact wpAny_pyHash_int h
  .exact wpAny_pyHash_str h
 eqBool:=fun hu hv h=>by
  rcases dU hu with ⟨i,t,rfl,rfl⟩ | ⟨x,t,rfl,rfl⟩
  .rcases dU hv with ⟨j,u,rfl,rfl⟩ | ⟨y,u,rfl,rfl⟩
   .rw [aaH] at h;exact wpAny_eqBool_int h
   .rw [abU] at h;exact SeqAt.EqAt.int_str i t y u _ _ _ _ h
  .rcases dU hv with ⟨j,u,rfl,rfl⟩ | ⟨y,u,rfl,rfl⟩
   .rw [abl] at h;exact SeqAt.EqAt.str_int x t j u _ _ _ _ h
   .rw [aah] at h;exact wpAny_eqBool_str h
 «strs»:=fun k x t v h=>by
  rcases dU h with ⟨i,u,rfl,e⟩ | ⟨y,u,rfl,e⟩
  .exact nomatch e
  .injection e with e1 _;subst e1;cases v <;> rfl
end L2
namespace L2
open PySem PySem.Spec PyProof.Rows
inductive V where
 | non | bl (b:Bool) | int (i:Int) | str (x:Str) | byt (b:Array UInt8) | flt (b:UInt64) | ref (a:Addr) | ty (n:String)
 deriving DecidableEq
def RelV:V->Value->Prop
 | .non,u=>u=Value.none
 | .bl b,u=>u=Value.bool b
 | .int i,u=>∃ t,u=Value.int i t
 | .str x,u=>∃ t,u=Value.str x t
 | .byt b,u=>∃ t,u=Value.bytes b t
 | .flt b,u=>∃ t,u=Value.float b t
 | .ref a,u=>u=Value.ref a
 | .ty n,u=>u=Value.type n
abbrev Vals:List V->List Value->Prop:=Paired RelV
theorem Vals.length {xs:List V}{us:List Value} (r:Vals xs us):xs.length=us.length:=Paired.length r
theorem Vals.get:∀ {xs:List V}{us:List Value}{i:Nat}{x:V},Vals xs us->xs[i]?=some x->∃ u,us[i]?=some u/\RelV x u
 | _,_,_,_,.nil,e=>by simp at e
 | _,_,0,_,.cons r _,e=>by simp at e;subst e;exact ⟨_,rfl,r⟩
 | _,_,i+1,x,.cons _ t,e=>by
  obtain ⟨u,h1,h2⟩:=Vals.get (i:=i) (x:=x) t (by simpa using e);exact ⟨u,by simpa using h1,h2⟩
theorem Vals.append:∀ {xs ys:List V}{us ws:List Value},Vals xs us->Vals ys ws->Vals (xs++ys) (us++ws)
 | _,_,_,_,.nil,s=>s
 | _,_,_,_,.cons r t,s=>.cons r (Vals.append t s)
theorem Vals.take:∀ {xs:List V}{us:List Value} (n:Nat),Vals xs us->Vals (xs.take n) (us.take n)
 | _,_,0,_=>.nil
 | _,_,_+1,.nil=>.nil
 | _,_,n+1,.cons r t=>.cons r (Vals.take n t)
theorem Vals.drop:∀ {xs:List V}{us:List Value} (n:Nat),Vals xs us->Vals (xs.drop n) (us.drop n)
 | _,_,0,r=>r
 | _,_,_+1,.nil=>.nil
 | _,_,n+1,.cons _ t=>Vals.drop n t
def Nx:Option V->Option Value->Prop
 | some v,some u=>RelV v u
 | none,none=>True
 | _,_=>False
def KV {κ:Type}:List (κ × V)->List (κ × Value)->Prop:=Paired fun (p:κ × V) (q:κ × Value)=>p.1=q.1/\RelV p.2 q.2
noncomputable def kV:Key->V
 | .inl i=>.int i
 | .inr x=>.str x
inductive HO where
 /-- a list -/
 | lst (xs:List V)
 /-- a tuple (never changes) -/
 | tup (xs:List V)
 /-- a dict whose keys are ints and texts;one whose keys are tuples of ints and texts (the empty one is both) -/
 | dK (kvs:List (Key × V)) | dT (kvs:List (List Key × V))
 /-- a set of ints: its members,its size -/
 | set (S:Int->Bool) (n:Nat)
 /-- an instance of the class at C,its dict at dx,its attributes -/
 | ins (C dx:Addr) (fs:List (Str × V))
 /-- the dict of the instance at x -/
 | own (x:Addr)
 /-- the dict of an exception -/
 | xd (fs:List (Str × V))
 /-- a bound method,f of x -/
 | met (f x:Addr)
 /-- a range object lo,lo+1,.. below hi -/
 | rng (lo hi:Int)
 /-- a thing that is known to the object (the script;a dict while a loop walks it): read,never written while it is so -/
 | frz (o:Obj) (u:HO)
 /-- a code object's table -/
 | tbl (ps:Array Value)
 /-- any other thing,by what is true of its one object (a def of one's own: SetO a S n:=HO.ext fun h=>..) -/
 | ext (φ:Heap->Prop)
abbrev Hp:=Addr->Option HO
noncomputable def upd (H:Hp) (a:Addr) (o:HO):Hp:=fun b=>if b=a then some o else H b
theorem aD {H:Hp}{a:Addr}{o:HO}:upd H a o a=some o:=by unfold upd;rw [if_pos rfl]
theorem ak {H:Hp}{a b:Addr}{o:HO} (h:b≠a):upd H a o b=H b:=by unfold upd;rw [if_neg h]
theorem aB {H:Hp}{a b:Addr}{o:HO} (h:H a=some o) (h':H b=none):a≠b:=by
 intro e;subst e;rw [h] at h';cases h'
def Qh (o:Obj):Prop:=∀ vs,o.data=.fields vs->o.cls≠.none
def dX:Str:=Str.ofString "check_tests.<locals>.<lambda>"
def lamO (o:Obj):Prop:=∃ vs t,o.data=.fields vs/\vs[1]?=some (.str dX t)
section
variable (P:Program) (w:World)
noncomputable def bY (H:Hp) (h:Heap) (a:Addr):HO->Prop
 | .lst xs=>xs.length <= sizeLine /\ ∃ (its:List Value) (n:Nat),Vals xs its /\ h.get? a=some { cls:=.type "list",data:=.seq its.toArray n }
 | .tup xs=>xs.length<=sizeLine/\∃ its:List Value,Vals xs its/\IsTup h a its.toArray
 | .dK kvs=>kvs.length<=sizeLine/\(a == sysModules)=false/\∃ vs,KV kvs vs/\h.DictOf (DN P w) a vs
 | .dT kvs=>kvs.length<=sizeLine/\(a == sysModules)=false/\∃ xs:List (List Key × Addr × Value),
   Paired (fun (p:List Key × V) (q:List Key × Addr × Value)=>p.1=q.1/\H q.2.1=some (.tup (p.1.map kV))/\RelV p.2 q.2.2) kvs xs /\
   ∃ o es ep,h.get? a=some o/\o.ExactDict/\o.data=.dict es ep/\es.toList=xs.map (entryOfKey (tupleKind (DN P w)))/\(xs.map (·.1)).Nodup
 | .set S n=>h.SetOf (intKind P w) a S n
 | .ins C dx fs=>H dx=some (.own a)/\fs.length<=1000/\dx≠a/\h.get? a=some (PySem.W.instObj C dx) /\
   ∃ mA,h.Ns1 dx mA/\(∀ f,Nx (fs.lookup f) (mA f))/\PySem.Within mA (fs.map (·.1))
 | .own _=>∃ o,h.get? a=some o
 | .xd fs=>∃ mA,h.Ns1 a mA/\∀ f,Nx (fs.lookup f) (mA f)
 | .rng lo hi=>∃ t u v,h.get? a=some { cls:=.type "range",data:=.fields #[.int lo t,.int hi u,.int 1 v] }
 | .frz o u=>h.get? a=some o/\bY H h a u
 | .tbl _=>∃ ps:Array Value,h.get? a=some { cls:=.none,data:=.fields ps }/\TriplesOk ps.toList/\∀ pos v,codeAmong pos ps.toList=some v->∃ c o,v=.ref c/\H c=some (.frz o (.ext fun _=>True))/\lamO o
 | .met f x=>h.get? a=some (PySem.W.methodObj (.ref f) (.ref x))
 | .ext φ=>φ h/\(∃ o,h.get? a=some o)/\∀ h1 h2:Heap,φ h1->(∀ o,h1.get? a=some o->h2.get? a=some o)->φ h2
def HOk (H:Hp) (h:Heap):Prop:=∀ a o,H a=some o->bY P w H h a o
end
section
variable {P:Program}{w:World}{H H':Hp}{h h':Heap}{a:Addr}{o:HO}
theorem bY.lt (x:bY P w H h a o):a < h.objs.size:=by
 cases o with
 | lst xs=>obtain ⟨_,_,_,_,e⟩:=x;exact Heap.lt_size e
 | tup xs=>obtain ⟨_,_,_,p⟩:=x;exact p.lt
 | dK kvs=>obtain ⟨_,_,_,_,o,_,_,e,_⟩:=x;exact Heap.lt_size e
 | dT kvs=>obtain ⟨_,_,_,_,o,_,_,e,_⟩:=x;exact Heap.lt_size e
 | set S n=>obtain ⟨o,_,_,_,e,_⟩:=x;exact Heap.lt_size e
 | ins C dx fs=>obtain ⟨_,_,_,e,_⟩:=x;exact Heap.lt_size e
 | own y=>obtain ⟨_,e⟩:=x;exact Heap.lt_size e
 | xd fs=>obtain ⟨_,⟨_,_,_,e,_⟩,_⟩:=x;exact Heap.lt_size e
 | rng lo hi=>obtain ⟨_,_,_,e⟩:=x;exact Heap.lt_size e
 | frz ob u=>obtain ⟨e,_⟩:=x;exact Heap.lt_size e
 | tbl ps=>obtain ⟨_,e,_⟩:=x;exact Heap.lt_size e
 | met f y=>exact Heap.lt_size (show h.get? a=some _ from x)
 | ext φ=>obtain ⟨_,⟨_,e⟩,_⟩:=x;exact Heap.lt_size e
theorem Paired.mapP {α β:Type}{F G:α->β->Prop}:∀ {l₁:List α}{l₂:List β},Paired F l₁ l₂->(∀ a b,F a b->G a b)->Paired G l₁ l₂
 | _,_,.nil,_=>.nil
 | _,_,.cons r t,f=>.cons (f _ _ r) (Paired.mapP t f)
theorem bY.stay (x:bY P w H h a o) (k:∀ b u,(b=a\/H b=some (.own a))->h.get? b=some u->h'.get? b=some u)
  (ho:∀ b,H b=some (.own a)->H' b=some (.own a)) (ht:∀ b xs,H b=some (.tup xs)->H' b=some (.tup xs)) (hf:∀ b o,H b=some (.frz o (.ext fun _=>True))->lamO o->H' b=some (.frz o (.ext fun _=>True)):=by intro _ _ q _;exact q):bY P w H' h' a o:=by
 induction o with
 | lst xs=>obtain ⟨z,its,n,r,e⟩:=x;exact ⟨z,its,n,r,k _ _ (.inl rfl) e⟩
 | tup xs=>obtain ⟨z,its,r,ob,e,c⟩:=x;exact ⟨z,its,r,ob,k _ _ (.inl rfl) e,c⟩
 | dK kvs=>obtain ⟨z,y,vs,r,ob,es,ep,e,c⟩:=x;exact ⟨z,y,vs,r,ob,es,ep,k _ _ (.inl rfl) e,c⟩
 | dT kvs =>
  obtain ⟨z,y,xs,r,ob,es,ep,e,c⟩:=x;exact ⟨z,y,xs,Paired.mapP r fun p q z=>⟨z.1,ht _ _ z.2.1,z.2.2⟩,ob,es,ep,k _ _ (.inl rfl) e,c⟩
 | set S n=>obtain ⟨ob,es,ep,t,e,c⟩:=x;exact ⟨ob,es,ep,t,k _ _ (.inl rfl) e,c⟩
 | ins C dx fs =>
  obtain ⟨d,z,ne,e,mA,⟨od,es,ep,e2,c⟩,r⟩:=x;exact ⟨ho _ d,z,ne,k _ _ (.inl rfl) e,mA,⟨od,es,ep,k _ _ (.inr d) e2,c⟩,r⟩
 | own y=>obtain ⟨ob,e⟩:=x;exact ⟨ob,k _ _ (.inl rfl) e⟩
 | xd fs=>obtain ⟨mA,⟨od,es,ep,e,c⟩,r⟩:=x;exact ⟨mA,⟨od,es,ep,k _ _ (.inl rfl) e,c⟩,r⟩
 | rng lo hi=>obtain ⟨t,u,v,e⟩:=x;exact ⟨t,u,v,k _ _ (.inl rfl) e⟩
 | frz ob u ih=>obtain ⟨e,q⟩:=x;exact ⟨k _ _ (.inl rfl) e,ih q⟩
 | tbl qs =>
  obtain ⟨ps,e,tr,g⟩:=x;refine ⟨ps,k a _ (.inl rfl) e,tr,fun pos v hc=>?_⟩;obtain ⟨c,o,e1,g1,g2⟩:=g pos v hc;exact ⟨c,o,e1,hf c o g1 g2,g2⟩
 | met f y =>
  have e:h.get? a=some (PySem.W.methodObj (.ref f) (.ref y)):=x;show h'.get? a=some (PySem.W.methodObj (.ref f) (.ref y))
  exact k a _ (.inl rfl) e
 | ext φ=>obtain ⟨p,⟨o,e⟩,st⟩:=x;exact ⟨st _ _ p fun o q=>k _ _ (.inl rfl) q,⟨o,k _ _ (.inl rfl) e⟩,st⟩
theorem HOk.lt (x:HOk P w H h) (e:H a=some o):a < h.objs.size:=(x a o e).lt
theorem HOk.fresh (x:HOk P w H h) (e:h.objs.size<=a):H a=none:=by
 cases q:H a with
 | none=>rfl
 | some u=>exact absurd (Nat.lt_of_lt_of_le (x.lt q) e) (Nat.lt_irrefl _)
theorem HOk.kept (x:HOk P w H h) (k:∀ b u,h.get? b=some u->h'.get? b=some u):HOk P w H h':=fun a o e =>
 (x a o e).stay (fun b u _ q=>k b u q) (fun _ q=>q) fun _ _ q=>q
theorem HOk.laid (x:HOk P w H h) (k:∀ b u,h.get? b=some u->h'.get? b=some u) (hp:h.objs.size<=a) (new:bY P w (upd H a o) h' a o):HOk P w (upd H a o) h':=fun b u e=>by
 have hn:=x.fresh hp;by_cases hb:b=a
 .subst hb;rw [aD] at e;cases e;exact new
 .rw [ak hb] at e;exact (x b u e).stay (fun c v _ q=>k c v q) (fun c q=>by rw [ak (aB q hn)];exact q) (fun c xs q=>by rw [ak (aB q hn)];exact q) (fun c ob q _=>by rw [ak (aB q hn)];exact q)
end
def Rd (H:Hp) (a:Addr) (u:HO):Prop:=H a=some u\/∃ o,H a=some (.frz o u)
theorem Rd.ok {P:Program}{w:World}{H:Hp}{h:Heap}{a:Addr}{u:HO} (r:Rd H a u) (x:HOk P w H h):bY P w H h a u:=by
 rcases r with r | ⟨o,r⟩
 .exact x a u r
 .obtain ⟨_,q⟩:=x a _ r;exact q
def Mut:Option HO->Prop
 | some (.lst _)=>True
 | some (.dK _)=>True
 | some (.dT _)=>True
 | some (.set _ _)=>True
 | some (.ins _ _ _)=>True
 | some (.ext _)=>True
 | _=>False
section
variable {P:Program}{w:World}{H:Hp}{h h':Heap}{x e:Addr}{o':HO}
theorem HOk.write (ok:HOk P w H h) (mu:Mut (H x)) (he:e=x\/H e=some (.own x)) (k:∀ b u,b≠e->h.get? b=some u->h'.get? b=some u) (heo:∃ u,h'.get? e=some u)
  (new:bY P w (upd H x o') h' x o'):HOk P w (upd H x o') h':=fun b u q=>by
 have nown:∀ c y,H c=some (.own y)->c≠x:=fun c y r z=>by subst z;rw [r] at mu;exact mu
 have ntup:∀ c xs,H c=some (.tup xs)->c≠x:=fun c xs r z=>by subst z;rw [r] at mu;exact mu
 by_cases hb:b=x
 .subst hb;rw [aD] at q;cases q;exact new
 .rw [ak hb] at q;by_cases hbe:b=e
  .have q':H b=some (.own x):=by
    rcases he with z | z
    .exact absurd (hbe.trans z) hb
    .rw [hbe];exact z
   rw [q] at q';cases q';obtain ⟨v,hv⟩:=heo;exact ⟨v,by rw [hbe];exact hv⟩
  .refine (ok b u q).stay (fun c v hc r=>k c v ?_ r) (fun c r=>by rw [ak (nown c b r)];exact r) (fun c xs r=>by rw [ak (ntup c xs r)];exact r) (fun c ob r _=>by rw [ak (fun z=>by subst z;rw [r] at mu;exact mu)];exact r);rcases hc with rfl | hc
   .exact hbe
   .rintro rfl;rcases he with z | z
    .exact nown c b hc z
    .rw [hc] at z;cases z;exact hb rfl
end
structure Un (fs ex:List Addr) (H H':Hp) (h h':Heap):Prop where
 keep:∀ b o,h.get? b=some o->H b=none->b ∉ fs->b ∉ ex->h'.get? b=some o
 slot:∀ b o,h.get? b=some o->H b=none->b∈fs->b ∉ ex->∃ sl,h'.get? b=some { o with slots:=sl }
 free:∀ b o,h.get? b=some o->H b=none->b ∉ ex->H' b=none
 there:∀ b o,h.get? b=some o->b ∉ ex->∃ o',h'.get? b=some o'
 tups:∀ b xs,H b=some (.tup xs)->H' b=some (.tup xs)
 frzs:∀ b o u,H b=some (.frz o u)->H' b=some (.frz o u)
 tbls:∀ b ps,H b=some (.tbl ps)->∃ more,H' b=some (.tbl (ps++more))
section
variable {fs fs' ex ex':List Addr}{H H1 H2:Hp}{h h1 h2 h':Heap}{a x e:Addr}{o:HO}
theorem Un.any (u:Un fs ex H H1 h h1) {b:Addr}{ob:Obj} (q:h.get? b=some ob) (n:H b=none) (hx:b ∉ ex):∃ sl,h1.get? b=some { ob with slots:=sl }:=by
 by_cases hb:b∈fs
 .exact u.slot b ob q n hb hx
 .exact ⟨ob.slots,u.keep b ob q n hb hx⟩
theorem Un.kept (k:∀ b u,h.get? b=some u->h'.get? b=some u):Un fs ex H H h h' :=
 ⟨fun b ob q _ _ _=>k b ob q,fun b ob q _ _ _=>⟨ob.slots,k b ob q⟩,fun _ _ _ n _=>n,fun b ob q _=>⟨ob,k b ob q⟩,fun _ _ q=>q,fun _ _ _ q=>q,fun _ ps q=>⟨#[],by rw [q];simp⟩⟩
theorem Un.refl:Un fs ex H H h h:=Un.kept fun _ _ q=>q
theorem Un.laid (k:∀ b u,h.get? b=some u->h'.get? b=some u) (hp:h.objs.size<=a) (hn:H a=none):Un fs ex H (upd H a o) h h' where
 keep:=fun b u q _ _ _=>k b u q
 slot:=fun b u q _ _ _=>⟨u.slots,k b u q⟩
 free:=fun b u q n _=>by rw [ak (Nat.ne_of_lt (Nat.lt_of_lt_of_le (Heap.lt_size q) hp))];exact n
 there:=fun b u q _=>⟨u,k b u q⟩
 tups:=fun b xs q=>by rw [ak (aB q hn)];exact q
 frzs:=fun b u xs q=>by rw [ak (aB q hn)];exact q
 tbls:=fun b ps q=>⟨#[],by rw [ak (aB q hn),q];simp⟩
theorem Un.write (mu:Mut (H x)) (he:e=x\/H e=some (.own x)) (k:∀ b u,b≠e->h.get? b=some u->h'.get? b=some u) (heo:∃ u,h'.get? e=some u):Un fs ex H (upd H x o) h h':=by
 have hx:∀ b,H b=none->b≠x:=fun b n z=>by subst z;rw [n] at mu;exact mu
 have hb:∀ b,H b=none->b≠e:=fun b n z=>by
  subst z;rcases he with r | r
  .exact hx b n r
  .rw [n] at r;cases r
 have hm:∀ b u,H b=some u->¬ Mut (some u)->b≠x:=fun b u q nm z=>by subst z;rw [q] at mu;exact nm mu
 refine ⟨fun b u q n _ _=>k b u (hb b n) q,fun b u q n _ _=>⟨u.slots,k b u (hb b n) q⟩,fun b u q n _=>by rw [ak (hx b n)];exact n,fun b u q _=>?_,
  fun b xs q=>by rw [ak (hm b _ q fun z=>z)];exact q,fun b u xs q=>by rw [ak (hm b _ q fun z=>z)];exact q,fun b ps q=>⟨#[],by rw [ak (hm b _ q fun z=>z),q];simp⟩⟩
 by_cases hbe:b=e
 .subst hbe;exact heo
 .exact ⟨u,k b u hbe q⟩
end
noncomputable def trk (h:Heap) (H:Hp):List Addr:=(List.range h.objs.size).filter fun a=>(H a).isSome
def tG (h:Heap) (H:Hp):Heap:=PySem.W.hideAll h (trk h H)
theorem Qy (h:Heap) (H:Hp):(tG h H).objs.size=h.objs.size:=PySem.W.hideAll_size _ _
theorem T8 {h:Heap}{H:Hp}{b:Addr}{o:Obj} (e:h.get? b=some o) (n:H b=none):(tG h H).get? b=some o :=
 PySem.W.hideAll_get _ e fun hm=>by
  have q:(H b).isSome=true:=(List.mem_filter.mp hm).2;rw [n] at q;simp at q
theorem W5 {h:Heap}{H:Hp}{b:Addr}{o:Obj} (e:(tG h H).get? b=some o):h.get? b=some o/\H b=none:=by
 have e':h.get? b=some o:=PySem.W.of_hideAll (trk h H) e;refine ⟨e',?_⟩;cases q:H b with
 | none=>rfl
 | some x =>
  have hm:b∈trk h H:=List.mem_filter.mpr ⟨List.mem_range.mpr (Heap.lt_size e'),by simp [q]⟩;have z:(tG h H).get? b=none:=PySem.W.hideAll_none (trk h H) hm;rw [z] at e;cases e
end L2
namespace L2
open PySem PySem.Spec PyProof.Rows
structure Mod (K:PySem.W.Frag) (mg:Str->Option Value) (base:Heap):Prop where
 kin:K.In base
 glob:base.Ns mainGlobals mg
 blt:∃ mb,base.Ns builtinsNs mb /\ ∀ x:Str,x ≠ "__name__" -> mb x=bootBuiltins x
 nolimit:base.NoLimit
 bm:∃ bm ob,mg "__builtins__"=some (.ref bm) /\ bm ≠ builtinsNs /\ bm ≠ mainGlobals /\ base.get? bm=some ob /\ ob.cls=.type "module" /\ ob.dict=some builtinsNs /\ ob.data=.plain
def sH (K:PySem.W.Frag) (mg:Str -> Option Value) (H:Hp):Prop:=∀ a o fd c oc vs p,mg "check_tests"=some (.ref a) -> K.lookup a=some o -> o.data=.func fd -> fd.code=.ref c -> K.lookup c=some oc -> oc.data=.fields vs -> vs[11]?=some (.ref p) -> ∃ q,H p=some (.tbl q)
theorem sH.un {K:PySem.W.Frag}{mg:Str->Option Value}{fs ex:List Addr}{H H':Hp}{h h':Heap} (x:sH K mg H) (u:Un fs ex H H' h h'):sH K mg H':=fun a o fd c oc vs p e1 e2 e3 e4 e5 e6 e7 =>
 let ⟨q,e⟩:=x a o fd c oc vs p e1 e2 e3 e4 e5 e6 e7
 let ⟨m,e'⟩:=u.tbls p q e
 ⟨_,e'⟩
structure Cx where
 prog:Program
 w:World
 K:PySem.W.Frag
 mg:Str->Option Value
 base:Heap
 A:Around
 N:List Str
 s₀:Shared
 H₀:Hp
 env:Env
 outer:List Env
 stack:List Env
 ex:List Addr
 fn:Str->Bool
 calm:Bool
 pn:List (Addr × Obj)
 xe:Value->Shared->Prop
def frs (l:List Env):List Addr:=l.filterMap (·.frame)
abbrev Cx.fs (X:Cx):List Addr:=frs X.outer
def Vis (sc:Scope) (x:Str):Prop:=sc.names.lookup x=some .local\/sc.names.lookup x=some .cell\/sc.names.lookup x=some .free
def Loc (sc:Scope) (x:Str):Prop:=sc.names.lookup x=some .local\/sc.names.lookup x=some .cell
def Look (env:Env) (h:Heap) (m:Str->Option Value) (x:Str) (u:Value):Prop :=
 (env.kindOf x=some .local/\m x=some u)\/((env.kindOf x=some .cell\/env.kindOf x=some .free)/\∃ c,env.cells.lookup x=some c/\h.IsCell c (some u))
structure Cx.Ok (X:Cx):Prop where
 mod:Mod X.K X.mg X.base
 kind:X.env.scope.kind=.function
 glob:X.env.globals=mainGlobals
 blt:X.env.builtins=builtinsNs
 above:X.s₀.heap.objs.size<=X.env.locals
 inj:∀ x y c,X.env.cells.lookup x=some c->X.env.cells.lookup y=some c->x=y
 has:∀ x,(X.env.kindOf x=some .cell\/X.env.kindOf x=some .free)->∃ c,X.env.cells.lookup x=some c
 cab:∀ x c,X.fn x=true->X.env.cells.lookup x=some c->X.s₀.heap.objs.size<=c
 hd:X.calm=true->X.A.handled=none
 frames:X.A.frames=some X.stack
 stk:X.stack=X.outer\/(X.stack=X.env::X.outer/\X.env.frame=some X.env.locals)
 exf:∀ b∈X.ex,b≠X.env.locals/\∀ x c,X.env.cells.lookup x=some c->c≠b
 bs:∀ b o,X.base.get? b=some o->X.s₀.heap.get? b=some o/\X.H₀ b=none
 bsz:X.base.objs.size<=X.s₀.heap.objs.size
 noex:∀ b o,X.base.get? b=some o->b ∉ X.ex
 exfs:∀ b∈X.ex,b ∉ X.fs
 funs:X.s₀.heap.FunFrames X.base X.outer
 frf:∀ b∈X.fs,X.H₀ b=none
 tab:sH X.K X.mg X.H₀
structure Inv (X:Cx) (pins:List (Addr × Obj)) (σ:List (Option V)) (H:Hp) (s:Shared):Prop where
 ok:X.Ok
 os:s.os=X.s₀.os
 bare:AllBare s.gens
 base:Un X.fs X.ex X.H₀ H X.s₀.heap s.heap
 loc:∃ m,s.heap.Ns X.env.locals m/\∀ (i:Nat) (x:Str) (v:V),X.N[i]?=some x->σ[i]?=some (some v)->Vis X.env.scope x->∃ u,RelV v u/\Look X.env s.heap m x u
 cell:∀ x c,X.env.cells.lookup x=some c->∃ v,s.heap.IsCell c v
 free:H X.env.locals=none
 freeC:∀ x c,X.env.cells.lookup x=some c->H c=none
 pin:∀ p∈X.pn++pins,s.heap.get? p.1=some p.2/\H p.1=none/\p.1≠X.env.locals/\p.1 ∉ X.fs/\∀ v,p.2.data≠.cell v
 hok:HOk X.prog X.w H s.heap
 len:σ.length=X.N.length
section
variable {X:Cx}{pins:List (Addr × Obj)}{σ:List (Option V)}{H H':Hp}{s:Shared}{h':Heap}
theorem Cx.Ok.nofr (ok:X.Ok) {b:Addr}{o:Obj} (e:X.base.get? b=some o):b ∉ X.fs:=fun hb=>by
 have:=(ok.funs.mem hb).1;rw [e] at this;cases this
theorem Inv.bs (I:Inv X pins σ H s):∀ b o,X.base.get? b=some o->s.heap.get? b=some o/\H b=none:=fun b o e =>
 ⟨I.base.keep b o (I.ok.bs b o e).1 (I.ok.bs b o e).2 (I.ok.nofr e) (I.ok.noex b o e),I.base.free b o (I.ok.bs b o e).1 (I.ok.bs b o e).2 (I.ok.noex b o e)⟩
theorem Inv.bk (I:Inv X pins σ H s):∀ b o,X.base.get? b=some o->s.heap.get? b=some o:=fun b o e=>(I.bs b o e).1
theorem Inv.mod (I:Inv X pins σ H s):Mod X.K X.mg X.base:=I.ok.mod
theorem Inv.kIn (I:Inv X pins σ H s):X.K.In s.heap:=I.ok.mod.kin.keeps I.bk
theorem Inv.fr (I:Inv X pins σ H s):∃ m,Fr X.base X.env.locals s.heap m :=
 let ⟨m,hn,_⟩:=I.loc
 ⟨m,hn,I.bk,Nat.le_trans I.ok.bsz I.ok.above⟩
theorem Inv.lt (I:Inv X pins σ H s):X.env.locals < s.heap.objs.size:=let ⟨_,hn,_⟩:=I.loc;hn.lt
theorem Inv.sz (I:Inv X pins σ H s):X.s₀.heap.objs.size<=s.heap.objs.size:=Nat.le_trans I.ok.above (Nat.le_of_lt I.lt)
theorem Inv.nofs (I:Inv X pins σ H s) {a:Addr} (h:s.heap.objs.size<=a):a ∉ X.fs:=fun hb=>by
 obtain ⟨_,o,ho,_⟩:=I.ok.funs.mem hb;exact absurd (Nat.lt_of_lt_of_le (Heap.lt_size ho) (Nat.le_trans I.sz h)) (Nat.lt_irrefl _)
theorem Inv.cne (I:Inv X pins σ H s):∀ x c,X.env.cells.lookup x=some c->c≠X.env.locals:=fun x c e z=>by
 obtain ⟨v,o,ho,hd⟩:=I.cell x c e;obtain ⟨m,⟨o',es,ep,ho',hd',_⟩,_⟩:=I.loc;rw [z,ho'] at ho;cases ho;rw [hd'] at hd;cases hd
theorem Inv.funs (I:Inv X pins σ H s):s.heap.FunFrames X.base X.outer:=by
 have all:∀ (l:List Env),(∀ b∈frs l,b∈X.fs)->X.s₀.heap.FunFrames X.base l->s.heap.FunFrames X.base l:=by
  intro l;induction l with
  | nil=>intro _ _;trivial
  | cons env r ih =>
   intro hs hl;obtain ⟨hk,⟨L,o,hf,hn,ho,hd⟩,hr⟩:=hl;have hL:L∈X.fs:=hs L (by unfold frs;rw [List.filterMap_cons,hf];exact List.mem_cons_self);obtain ⟨sl,e⟩:=I.base.slot L o ho (I.ok.frf L hL) hL fun z=>I.ok.exfs L z hL
   exact ⟨hk,⟨L,_,hf,hn,e,hd⟩,ih (fun b hb=>hs b (by unfold frs;rw [List.filterMap_cons,hf];exact List.mem_cons_of_mem _ hb)) hr⟩
 exact all X.outer (fun _ hb=>hb) I.ok.funs
theorem Inv.stack (I:Inv X pins σ H s):s.heap.FunFrames X.base X.stack:=by
 rcases I.ok.stk with e | ⟨e,hf⟩
 .rw [e];exact I.funs
 .rw [e];obtain ⟨m,hn,_⟩:=I.loc;refine .cons (by rw [I.ok.kind];decide) hf hn ?_ I.funs;exact Heap.get?_none_of_le (Nat.le_trans I.ok.bsz I.ok.above)
theorem Inv.stkSub (I:Inv X pins σ H s):∀ b∈frs X.stack,b∈X.env.locals::X.fs:=fun b hb=>by
 rcases I.ok.stk with e | ⟨e,hf⟩
 .rw [e] at hb;exact List.mem_cons_of_mem _ hb
 .rw [e] at hb;unfold frs at hb;rw [List.filterMap_cons,hf] at hb;exact hb
theorem Inv.stkFree (I:Inv X pins σ H s):∀ b∈frs X.stack,H b=none:=fun b hb=>by
 rcases List.mem_cons.mp (I.stkSub b hb) with e | hb
 .rw [e];exact I.free
 .obtain ⟨_,o,ho,_⟩:=I.ok.funs.mem hb;exact I.base.free b o ho (I.ok.frf b hb) fun z=>I.ok.exfs b z hb
theorem Inv.step {g':Array GenState}{t':Nat}{d':Drawn}{ch:List Addr} (I:Inv X pins σ H s)
  (hch:∀ b∈ch,(b∈X.ex\/X.s₀.heap.objs.size<=b)/\b≠X.env.locals/\(∀ x c,X.env.cells.lookup x=some c->c≠b)/\∀ p∈X.pn++pins,p.1≠b)
  (keep:∀ b o,b≠X.env.locals->b ∉ X.fs->b ∉ ch->s.heap.get? b=some o->H b=none->h'.get? b=some o)
  (slot:∀ b o,b≠X.env.locals->b∈X.fs->b ∉ ch->s.heap.get? b=some o->H b=none->∃ sl,h'.get? b=some { o with slots:=sl }) (free:∀ b o,b ∉ ch->s.heap.get? b=some o->H b=none->H' b=none)
  (there:∀ b o,b ∉ ch->s.heap.get? b=some o->∃ o',h'.get? b=some o')
  (tups:∀ b xs,H b=some (.tup xs)->H' b=some (.tup xs)) (frzs:∀ b o u,H b=some (.frz o u)->H' b=some (.frz o u)) (tbls:∀ b ps,H b=some (.tbl ps)->∃ more,H' b=some (.tbl (ps++more)))
  (ns:∀ m,s.heap.Ns X.env.locals m->h'.Ns X.env.locals m) (hok:HOk X.prog X.w H' h') (hg:AllBare g') :
  Inv X pins σ H' { s with heap:=h',gens:=g',drawn:=d',toks:=t' }:=by
 have neL:∀ b o,X.s₀.heap.get? b=some o->b≠X.env.locals:=fun b o e=>Nat.ne_of_lt (Nat.lt_of_lt_of_le (Heap.lt_size e) I.ok.above)
 have neC:∀ b o,X.s₀.heap.get? b=some o->b ∉ X.ex->b ∉ ch:=fun b o e hx hb=>by
  rcases (hch b hb).1 with z | z
  .exact hx z
  .exact absurd (Nat.lt_of_lt_of_le (Heap.lt_size e) z) (Nat.lt_irrefl _)
 have cellK:∀ x c,X.env.cells.lookup x=some c->∀ v,s.heap.IsCell c v->h'.IsCell c v:=fun x c e v ⟨o,ho,hd⟩=>by
  have nch:c ∉ ch:=fun z=>(hch c z).2.2.1 x c e rfl
  by_cases hc:c∈X.fs
  .obtain ⟨sl,q⟩:=slot c o (I.cne x c e) hc nch ho (I.freeC x c e);exact ⟨_,q,hd⟩
  .exact ⟨o,keep c o (I.cne x c e) hc nch ho (I.freeC x c e),hd⟩
 refine ⟨I.ok,I.os,hg,⟨fun b o e n hb hx=>?_,fun b o e n hb hx=>?_,fun b o e n hx=>?_,fun b o e hx=>?_,fun b xs e=>tups b xs (I.base.tups b xs e),fun b o xs e=>frzs b o xs (I.base.frzs b o xs e),fun b ps e=>?_⟩,?_,fun x c e=>?_,?_,fun x c e=>?_,fun p hp=>?_,hok,I.len⟩
 .exact keep b o (neL b o e) hb (neC b o e hx) (I.base.keep b o e n hb hx) (I.base.free b o e n hx)
 .obtain ⟨sl,e1⟩:=I.base.slot b o e n hb hx;obtain ⟨sl',e2⟩:=slot b _ (neL b o e) hb (neC b o e hx) e1 (I.base.free b o e n hx);exact ⟨sl',e2⟩
 .obtain ⟨o',e1⟩:=I.base.there b o e hx;exact free b o' (neC b o e hx) e1 (I.base.free b o e n hx)
 .obtain ⟨o',e1⟩:=I.base.there b o e hx;exact there b o' (neC b o e hx) e1
 .obtain ⟨m1,e1⟩:=I.base.tbls b ps e;obtain ⟨m2,e2⟩:=tbls b _ e1;exact ⟨m1++m2,by rw [e2,Array.append_assoc]⟩
 .obtain ⟨m,hn,hl⟩:=I.loc;refine ⟨m,ns m hn,fun i x v e1 e2 e3=>?_⟩;obtain ⟨u,r,l⟩:=hl i x v e1 e2 e3;refine ⟨u,r,?_⟩;rcases l with l | ⟨k,c,e,z⟩
  .exact .inl l
  .exact .inr ⟨k,c,e,cellK x c e _ z⟩
 .obtain ⟨v,z⟩:=I.cell x c e;exact ⟨v,cellK x c e v z⟩
 .obtain ⟨m,⟨o,_,_,ho,_⟩,_⟩:=I.loc;exact free _ o (fun z=>(hch _ z).2.1 rfl) ho I.free
 .obtain ⟨v,o,ho,hd⟩:=I.cell x c e;exact free c o (fun z=>(hch c z).2.2.1 x c e rfl) ho (I.freeC x c e)
 .obtain ⟨e,n,ne,nf,d⟩:=I.pin p hp;have nch:p.1 ∉ ch:=fun z=>(hch p.1 z).2.2.2 p hp rfl
  exact ⟨keep p.1 p.2 ne nf nch e n,free p.1 p.2 nch e n,ne,nf,d⟩
theorem Inv.un {t':Nat} (I:Inv X pins σ H s) (u:Un X.fs [] H H' s.heap h') (hok:HOk X.prog X.w H' h'):Inv X pins σ H' { s with heap:=h',toks:=t' }:=by
 obtain ⟨m,⟨o,es,ep,ho,r⟩,_⟩:=id I.loc;obtain ⟨sl,hL⟩:=u.any ho I.free (by simp);exact I.step (g':=s.gens) (d':=s.drawn) (ch:=[]) (fun _ z=>nomatch z) (fun b o _ hb _ e n=>u.keep b o e n hb (by simp)) (fun b o _ hb _ e n=>u.slot b o e n hb (by simp)) (fun b o _ e n=>u.free b o e n (by simp)) (fun b o _ e=>u.there b o e (by simp)) u.tups u.frzs u.tbls (fun m' hm=>by
  obtain ⟨o',es',ep',ho',r'⟩:=hm;rw [ho] at ho';cases ho';exact ⟨_,es',ep',hL,r'⟩) hok I.bare
theorem Inv.call {g':Array GenState}{t':Nat}{d':Drawn}{ch:List Addr} (I:Inv X pins σ H s) (u:Un (frs X.stack) ch H H' s.heap h') (hok:HOk X.prog X.w H' h') (hg:AllBare g')
  (hch:∀ b∈ch,(b∈X.ex\/X.s₀.heap.objs.size<=b)/\b≠X.env.locals/\(∀ x c,X.env.cells.lookup x=some c->c≠b)/\∀ p∈X.pn++pins,p.1≠b) :
  Inv X pins σ H' { s with heap:=h',gens:=g',drawn:=d',toks:=t' }:=by
 obtain ⟨m,⟨o,es,ep,ho,r⟩,_⟩:=id I.loc;obtain ⟨sl,hL⟩:=u.any ho I.free fun z=>(hch _ z).2.1 rfl
 exact I.step (ch:=ch) hch (fun b o hL hb hc e n=>u.keep b o e n (fun z=>(List.mem_cons.mp (I.stkSub b z)).elim hL hb) hc) (fun b o _ _ hc e n=>u.any e n hc) (fun b o hc e n=>u.free b o e n hc) (fun b o hc e=>u.there b o e hc) u.tups u.frzs u.tbls (fun m' hm=>by
  obtain ⟨o',es',ep',ho',r'⟩:=hm;rw [ho] at ho';cases ho';exact ⟨_,es',ep',hL,r'⟩) hok hg
theorem Inv.turned {t':Nat}{it:Addr} (I:Inv X pins σ H s) (k:∀ b o,b≠it->s.heap.get? b=some o->h'.get? b=some o) (hn:H it=none) (hL:it≠X.env.locals)
  (h1:it∈X.ex\/X.s₀.heap.objs.size<=it) (h2:∀ x c,X.env.cells.lookup x=some c->c≠it) (h3:∀ p∈X.pn++pins,p.1≠it):Inv X pins σ H { s with heap:=h',toks:=t' }:=by
 have nit:∀ b u,H b=some u->b≠it:=fun b u e z=>by rw [z,hn] at e;cases e
 refine I.step (g':=s.gens) (d':=s.drawn) (ch:=[it]) (fun b hb=>?_) (fun b o _ _ hc e _=>k b o (fun z=>hc (by simp [z])) e) (fun b o _ _ hc e _=>⟨o.slots,k b o (fun z=>hc (by simp [z])) e⟩) (fun _ _ _ _ n=>n)
  (fun b o hc e=>⟨o,k b o (fun z=>hc (by simp [z])) e⟩) (fun _ _ e=>e) (fun _ _ _ e=>e) (fun b ps e=>⟨#[],by rw [e];simp⟩) (fun m hm=>?_) (fun b u e=>?_) I.bare
 .have e:b=it:=by simpa using hb
  subst e;exact ⟨h1,hL,h2,h3⟩
 .obtain ⟨o,es,ep,ho,r⟩:=hm;exact ⟨o,es,ep,k _ o (Ne.symm hL) ho,r⟩
 .refine (I.hok b u e).stay (fun c v hc q=>k c v ?_ q) (fun _ q=>q) fun _ _ q=>q
  rcases hc with z | z
  .rw [z];exact nit b u e
  .exact nit c _ z
theorem Inv.tok (I:Inv X pins σ H s) (t:Nat):Inv X pins σ H { s with toks:=t }:=I.un (h':=s.heap) (t':=t) Un.refl I.hok
theorem Inv.kept {t':Nat} (I:Inv X pins σ H s) (k:∀ b u,s.heap.get? b=some u->h'.get? b=some u):Inv X pins σ H { s with heap:=h',toks:=t' }:=I.un (Un.kept k) (I.hok.kept k)
theorem Inv.laid {a:Addr}{o:HO}{t':Nat} (I:Inv X pins σ H s) (k:∀ b u,s.heap.get? b=some u->h'.get? b=some u) (hp:s.heap.objs.size<=a) (new:bY X.prog X.w (upd H a o) h' a o) :
  Inv X pins σ (upd H a o) { s with heap:=h',toks:=t' }:=I.un (Un.laid k hp (I.hok.fresh hp)) (I.hok.laid k hp new)
theorem Inv.write {x e:Addr}{o:HO}{t':Nat} (I:Inv X pins σ H s) (mu:Mut (H x)) (he:e=x\/H e=some (.own x)) (k:∀ b u,b≠e->s.heap.get? b=some u->h'.get? b=some u) (heo:∃ u,h'.get? e=some u)
  (new:bY X.prog X.w (upd H x o) h' x o):Inv X pins σ (upd H x o) { s with heap:=h',toks:=t' }:=I.un (Un.write mu he k heo) (I.hok.write mu he k heo new)
theorem Inv.weak {σ':List (Option V)} (I:Inv X pins σ H s) (hl:σ'.length=σ.length) (w:∀ (i:Nat) v,σ'[i]?=some (some v)->σ[i]?=some (some v)):Inv X pins σ' H s :=
 ⟨I.ok,I.os,I.bare,I.base,let ⟨m,hn,hl'⟩:=I.loc;⟨m,hn,fun i x v e1 e2 e3=>hl' i x v e1 (w i v e2) e3⟩,I.cell,I.free,I.freeC,I.pin,I.hok,hl.trans I.len⟩
theorem Inv.pins_of {pins':List (Addr × Obj)} (I:Inv X pins σ H s) (h:∀ p∈pins',s.heap.get? p.1=some p.2/\H p.1=none/\p.1≠X.env.locals/\p.1 ∉ X.fs/\∀ v,p.2.data≠.cell v):Inv X pins' σ H s :=
 ⟨I.ok,I.os,I.bare,I.base,I.loc,I.cell,I.free,I.freeC,fun p hp=>(List.mem_append.mp hp).elim (fun z=>I.pin p (List.mem_append_left _ z)) (h p),I.hok,I.len⟩
theorem HY {N:List Str} (hN:N.Nodup) {i j:Nat}{x:Str} (a:N[i]?=some x) (b:N[j]?=some x):i=j:=by
 obtain ⟨h1,e1⟩:=List.getElem?_eq_some_iff.mp a;obtain ⟨h2,e2⟩:=List.getElem?_eq_some_iff.mp b;exact (List.getElem_inj hN).mp (e1.trans e2.symm)
theorem Eu {M:Model}{A:Around}{E:Value->Shared->Prop}{i:Nat}{x:Str}{v:V}{u:Value}{Q:Unit->Shared->Prop} (I:Inv X pins σ H s) (hN:X.N.Nodup) (hi:X.N[i]?=some x) (hx:Loc X.env.scope x) (r:RelV v u)
  (h:∀ s',Inv X pins (σ.set i (some v)) H s'->(∃ a,Heap.SameBut a s.heap s'.heap/\(a=X.env.locals\/X.env.cells.lookup x=some a))->Q () s') (hf:X.fn x=true\/X.env.scope.names.lookup x=some .local:=by first | exact .inl rfl | exact .inr rfl | assumption):wpAny M A (storeName X.env x u) Q E s:=by
 obtain ⟨m,hn,hl⟩:=id I.loc;have hcls:(X.env.scope.kind == .class || (X.env.scope.kind == .module && X.env.locals != X.env.globals))=false:=by rw [I.ok.kind];rfl
 have hiσ:i < σ.length:=by rw [I.len];exact (List.getElem?_eq_some_iff.mp hi).1
 have cne:=I.cne;have tracked:∀ {a:Addr}{h':Heap},(∃ o,s.heap.get? a=some o/\H a=none)->Heap.SameBut a s.heap h'->HOk X.prog X.w H h':=fun {a h'} ha hs b ob e=>by
  obtain ⟨_,_,hfree⟩:=ha;refine (I.hok b ob e).stay (fun c w' hc q=>(hs.2 c ?_).trans q) (fun _ q=>q) fun _ _ q=>q
  rintro rfl;rcases hc with rfl | hc
  .rw [hfree] at e;cases e
  .rw [hfree] at hc;cases hc
 rcases hx with hk | hk
 .refine wpAny_storeName_local hk hn (fun h' hn' hs=>?_) hcls;obtain ⟨oL,_,_,hoL,_⟩:=id hn;refine h _ ⟨I.ok,I.os,I.bare,⟨fun b o e n hb hx=>?_,fun b o e n hb hx=>?_,I.base.free,fun b o e hx=>?_,I.base.tups,I.base.frzs,I.base.tbls⟩,⟨_,hn',fun j y v' e1 e2 e3=>?_⟩,fun y c e=>?_,I.free,I.freeC,fun p hp=>?_,tracked ⟨oL,hoL,I.free⟩ hs,by simpa using I.len⟩ ⟨_,hs,.inl rfl⟩
  .exact (hs.2 b (Nat.ne_of_lt (Nat.lt_of_lt_of_le (Heap.lt_size e) I.ok.above))).trans (I.base.keep b o e n hb hx)
  .obtain ⟨sl,e1⟩:=I.base.slot b o e n hb hx;exact ⟨sl,(hs.2 b (Nat.ne_of_lt (Nat.lt_of_lt_of_le (Heap.lt_size e) I.ok.above))).trans e1⟩
  .obtain ⟨o',e1⟩:=I.base.there b o e hx;exact ⟨o',(hs.2 b (Nat.ne_of_lt (Nat.lt_of_lt_of_le (Heap.lt_size e) I.ok.above))).trans e1⟩
  .by_cases hj:j=i
   .subst hj;rw [hi] at e1;cases e1;rw [List.getElem?_set_self hiσ] at e2;cases e2;exact ⟨u,r,.inl ⟨hk,by simp⟩⟩
   .rw [List.getElem?_set_ne (Ne.symm hj)] at e2;obtain ⟨u',r',q⟩:=hl j y v' e1 e2 e3;refine ⟨u',r',?_⟩;rcases q with ⟨k,e⟩ | ⟨k,c,e,z⟩
    .refine .inl ⟨k,?_⟩;have:y≠x:=fun e=>hj (HY hN e1 (e ▸ hi))
     simp [this,e]
    .exact .inr ⟨k,c,e,z.sameBut hs (cne y c e)⟩
  .obtain ⟨w',z⟩:=I.cell y c e;exact ⟨w',z.sameBut hs (cne y c e)⟩
  .obtain ⟨e,n,ne,nf,d⟩:=I.pin p hp;exact ⟨(hs.2 p.1 ne).trans e,n,ne,nf,d⟩
 .have hfn:X.fn x=true:=by
   rcases hf with z | z
   .exact z
   .rw [z] at hk;cases hk
  obtain ⟨c,hc⟩:=I.ok.has x (.inl hk);obtain ⟨w',z⟩:=I.cell x c hc;refine wpAny_storeName_cell I.ok.kind hk hc z (fun h' hc' hs=>?_);obtain ⟨oc,hoc,hocd⟩:=id z;refine h { s with heap:=h' } ⟨I.ok,I.os,I.bare,⟨fun b o e n hb hx=>?_,fun b o e n hb hx=>?_,I.base.free,fun b o e hx=>?_,I.base.tups,I.base.frzs,I.base.tbls⟩,⟨m,hn.sameBut hs (Ne.symm (cne x c hc)),fun j y v' e1 e2 e3=>?_⟩,fun y c' e=>?_,I.free,I.freeC,fun p hp=>?_,tracked ⟨oc,hoc,I.freeC x c hc⟩ hs,by simpa using I.len⟩ ⟨c,hs,.inr hc⟩
  .exact (hs.2 b (Nat.ne_of_lt (Nat.lt_of_lt_of_le (Heap.lt_size e) (I.ok.cab x c hfn hc)))).trans (I.base.keep b o e n hb hx)
  .obtain ⟨sl,e1⟩:=I.base.slot b o e n hb hx;exact ⟨sl,(hs.2 b (Nat.ne_of_lt (Nat.lt_of_lt_of_le (Heap.lt_size e) (I.ok.cab x c hfn hc)))).trans e1⟩
  .obtain ⟨o',e1⟩:=I.base.there b o e hx;exact ⟨o',(hs.2 b (Nat.ne_of_lt (Nat.lt_of_lt_of_le (Heap.lt_size e) (I.ok.cab x c hfn hc)))).trans e1⟩
  .by_cases hj:j=i
   .subst hj;rw [hi] at e1;cases e1;rw [List.getElem?_set_self hiσ] at e2;cases e2;exact ⟨u,r,.inr ⟨.inl hk,c,hc,hc'⟩⟩
   .rw [List.getElem?_set_ne (Ne.symm hj)] at e2;obtain ⟨u',r',q⟩:=hl j y v' e1 e2 e3;refine ⟨u',r',?_⟩;rcases q with q | ⟨k,c',e,z'⟩
    .exact .inl q
    .refine .inr ⟨k,c',e,z'.sameBut hs ?_⟩;rintro rfl;exact hj (HY hN e1 (I.ok.inj _ _ _ e hc ▸ hi))
  .by_cases hcc:c'=c
   .subst hcc;exact ⟨_,hc'⟩
   .obtain ⟨w2,z2⟩:=I.cell y c' e;exact ⟨w2,z2.sameBut hs hcc⟩
  .obtain ⟨e,n,ne,nf,d⟩:=I.pin p hp;refine ⟨(hs.2 p.1 ?_).trans e,n,ne,nf,d⟩;intro q;rw [q,hoc] at e;have q':oc=p.2:=Option.some.inj e;exact d w' (by rw [<- q'];exact hocd)
theorem Kd {M:Model}{A:Around}{E:Value->Shared->Prop}{i:Nat}{x:Str}{v:V}{u:Value}{Q:Unit->Shared->Prop} (I:Inv X pins σ H s) (hN:X.N.Nodup) (hi:X.N[i]?=some x) (hx:Loc X.env.scope x) (r:RelV v u)
  (h:∀ s',Inv X pins (σ.set i (some v)) H s'->Q () s') (hf:X.fn x=true\/X.env.scope.names.lookup x=some .local:=by first | exact .inl rfl | exact .inr rfl | assumption):wpAny M A (storeName X.env x u) Q E s :=
 Eu I hN hi hx r (fun s' I' _=>h s' I') hf
theorem Inv.call' {s':Shared}{ch:List Addr} (I:Inv X pins σ H s) (ho:s'.os=s.os) (u:Un (frs X.stack) ch H H' s.heap s'.heap) (hok:HOk X.prog X.w H' s'.heap) (hg:AllBare s'.gens)
  (hch:∀ b∈ch,(b∈X.ex\/X.s₀.heap.objs.size<=b)/\b≠X.env.locals/\(∀ x c,X.env.cells.lookup x=some c->c≠b)/\∀ p∈X.pn++pins,p.1≠b):Inv X pins σ H' s':=by
 obtain ⟨h',g',d',t',o'⟩:=s';have e:o'=s.os:=ho;subst e;exact I.call (g':=g') (t':=t') (d':=d') u hok hg hch
end
abbrev XK:=Value->Option Addr->Hp->Prop
abbrev St:=List (Option V)
abbrev VK:=V->Hp->Prop
abbrev TE:=St->Hp->VK->Prop
abbrev TT:=St->Hp->(Bool->Hp->Prop)->Prop
abbrev TA:=St->Hp->(List V->Hp->Prop)->Prop
structure Ends where
 nx:St->Hp->Prop
 rt:VK
 bk:St->Hp->Prop:=fun _ _=>False
 ct:St->Hp->Prop:=fun _ _=>False
abbrev TS:=Ends->St->Hp->Prop
def EP (X:Cx) (pins:List (Addr × Obj)) (σ:St) (Q:VK) (u:Value) (s':Shared):Prop:=∃ v H',Inv X pins σ H' s'/\RelV v u/\Q v H'
def TP (X:Cx) (pins:List (Addr × Obj)) (σ:St) (Q:Bool->Hp->Prop) (b:Bool) (s':Shared):Prop:=∃ H',Inv X pins σ H' s'/\Q b H'
def AP (X:Cx) (pins:List (Addr × Obj)) (σ:St) (Q:List V->Hp->Prop) (us:List Value) (s':Shared):Prop:=∃ vs H',Inv X pins σ H' s'/\Vals vs us/\Q vs H'
def SP (X:Cx) (pins:List (Addr × Obj)) (D:Ends) (f:Flow) (s':Shared):Prop :=
 match f with
 | .next=>∃ σ' H',Inv X pins σ' H' s'/\D.nx σ' H'
 | .brk=>∃ σ' H',Inv X pins σ' H' s'/\D.bk σ' H'
 | .cont=>∃ σ' H',Inv X pins σ' H' s'/\D.ct σ' H'
 | .ret u=>∃ v σ' H',Inv X pins σ' H' s'/\RelV v u/\D.rt v H'
def PE (X:Cx) (e:Expr) (t:TE):Prop :=
 ∀ (pins:List (Addr × Obj)) (s:Shared) (σ:St) (H:Hp) (Q:VK),Inv X pins σ H s->t σ H Q->wpAny (model X.prog X.w) X.A (eval e X.env) (EP X pins σ Q) X.xe s
def PT (X:Cx) (e:Expr) (t:TT):Prop :=
 ∀ (pins:List (Addr × Obj)) (s:Shared) (σ:St) (H:Hp) (Q:Bool->Hp->Prop),Inv X pins σ H s->t σ H Q->wpAny (model X.prog X.w) X.A (isTrue e X.env (eval e X.env)) (TP X pins σ Q) X.xe s
def PW (X:Cx) (e:Expr) (t:TT):Prop :=
 ∀ (whole:Sem Value) (pins:List (Addr × Obj)) (s:Shared) (σ:St) (H:Hp) (Q:Bool->Hp->Prop),Inv X pins σ H s->t σ H Q->wpAny (model X.prog X.w) X.A (isTrue e X.env whole) (TP X pins σ Q) X.xe s
theorem PW.pt {X:Cx}{e:Expr}{t:TT} (h:PW X e t):PT X e t:=h _
def PA (X:Cx) (es:List Expr) (t:TA):Prop :=
 ∀ (pos:Pos) (pins:List (Addr × Obj)) (s:Shared) (σ:St) (H:Hp) (Q:List V->Hp->Prop),Inv X pins σ H s->t σ H Q->wpAny (model X.prog X.w) X.A (spliced (backTo pos (starEach es X.env))) (AP X pins σ Q) X.xe s
def PS (X:Cx) (st:Stmt) (t:TS):Prop :=
 ∀ (pins:List (Addr × Obj)) (s:Shared) (σ:St) (H:Hp) (D:Ends),Inv X pins σ H s->t D σ H->wpAny (model X.prog X.w) X.A (exec st X.env) (SP X pins D) X.xe s
def PSs (X:Cx) (st:List Stmt) (t:TS):Prop :=
 ∀ (pins:List (Addr × Obj)) (s:Shared) (σ:St) (H:Hp) (D:Ends),Inv X pins σ H s->t D σ H->wpAny (model X.prog X.w) X.A (execs st X.env) (SP X pins D) X.xe s
theorem thn {α:Type}{t:Sem α}{Q Q':α->Shared->Prop}{M:Model}{A:Around}{E:Value->Shared->Prop}{s:Shared} (h:wpAny M A t Q E s) (hQ:∀ a s,Q a s->Q' a s):wpAny M A t Q' E s:=wpAny_mono h hQ fun _ _ x=>x
end L2
namespace L2
open PySem PySem.Spec PyProof.Rows
section
variable {X:Cx}
theorem bin {a b:Expr}{ta tb:TE} (ha:PE X a ta) (hb:PE X b tb) {pins:List (Addr × Obj)}{s:Shared}{σ:St}{H:Hp}{R:V->V->Hp->Prop} (I:Inv X pins σ H s) (h:ta σ H fun x H1=>tb σ H1 fun y H2=>R x y H2)
  {α:Type}{Q:α->Shared->Prop}{f:Value->Value->Sem α}
  (hf:∀ v u s2 x y H2,Inv X pins σ H2 s2->RelV x v->RelV y u->R x y H2->wpAny (model X.prog X.w) X.A (f v u) Q X.xe s2) :
  wpAny (model X.prog X.w) X.A (eval a X.env) (fun v s₁=>wpAny (model X.prog X.w) X.A (eval b X.env) (fun u s₂=>wpAny (model X.prog X.w) X.A (f v u) Q X.xe s₂) X.xe s₁) X.xe s:=by
 refine thn (ha pins s σ H _ I h) fun v s1 ⟨x,H1,I1,r1,q1⟩=>?_
 refine thn (hb pins s1 σ H1 _ I1 q1) fun u s2 ⟨y,H2,I2,r2,q2⟩=>?_
 exact hf v u s2 x y H2 I2 r1 r2 q2
def Dk (i:Nat):TE:=fun σ H Q=>∃ v,σ[i]?=some (some v)/\Q v H
def tC (v:V):TE:=fun _ H Q=>Q v H
theorem jY {i:Nat}{x:Str}{pos:Pos} (hN:X.N[i]?=some x) (hv:Vis X.env.scope x) (hd:(x == ("__debug__":Str))=false:=by decide) (hcd:(x == ("__classdict__":Str))=false:=by decide):PE X (.Name x pos) (Dk i):=by
 intro pins s σ H Q I h;obtain ⟨v,e,h⟩:=h;obtain ⟨m,hn,hl⟩:=I.loc;obtain ⟨u,r,l⟩:=hl i x v hN e hv;have fin:EP X pins σ Q u s:=⟨v,H,I,r,h⟩;rcases l with ⟨hk,hm⟩ | ⟨hk,c,hc,hcell⟩
 .exact wpAny_Name (wpAny_loadName_local I.ok.kind hk hn hm fin) hd
 .rcases hk with hk | hk
  .exact wpAny_Name (wpAny_loadName_cell I.ok.kind hk hc hcell fin) hd
  .exact wpAny_Name (wpAny_loadName_free I.ok.kind hk hc hcell fin hcd) hd
theorem Jz {i j pos}:PE X (.Constant (.int i) j pos) (tC (.int i)):=fun _ _ _ H _ I h=>wpAny_Constant_int ⟨.int i,H,I.tok _,⟨_,rfl⟩,h⟩
theorem ab7 {b j pos}:PE X (.Constant (.bool b) j pos) (tC (.bl b)):=fun _ _ _ H _ I h=>Constant_bool ⟨.bl b,H,I,rfl,h⟩
theorem abO {j pos}:PE X (.Constant .none j pos) (tC .non):=fun _ _ _ H _ I h=>Constant_none ⟨.non,H,I,rfl,h⟩
theorem Hy {x j pos}:PE X (.Constant (.str x) j pos) (tC (.str x)):=fun _ _ _ H _ I h=>Calls.Constant_str ⟨.str x,H,I.tok _,⟨_,rfl⟩,h⟩
def Gl (X:Cx) (x:Str):Prop:=X.env.kindOf x=some .globalImplicit
theorem kZ {E:Value->Shared->Prop}{pins:List (Addr × Obj)}{s:Shared}{σ:St}{H:Hp}{x:Str}{u:Value}{pos:Pos}{Q:Value->Shared->Prop} (I:Inv X pins σ H s) (hg:Gl X x) (hm:X.mg x=some u) (h:Q u s)
  (hd:(x == ("__debug__":Str))=false:=by decide):wpAny (model X.prog X.w) X.A (eval (.Name x pos) X.env) Q E s :=
 Calls.Name_function_global I.ok.kind hg (Calls.loadGlobal_global (by rw [I.ok.glob];exact I.mod.glob.keeps I.bk) hm h) hd
theorem lE {E:Value->Shared->Prop}{pins:List (Addr × Obj)}{s:Shared}{σ:St}{H:Hp}{x:Str}{u:Value}{pos:Pos}{Q:Value->Shared->Prop} (I:Inv X pins σ H s) (hg:Gl X x) (hm:X.mg x=none) (hv:bootBuiltins x=some u) (h:Q u s)
  (hn:x ≠ "__name__":=by decide) (hd:(x == ("__debug__":Str))=false:=by decide):wpAny (model X.prog X.w) X.A (eval (.Name x pos) X.env) Q E s:=by
 obtain ⟨mb,h1,h2⟩:=I.mod.blt;exact Calls.Name_function_global I.ok.kind hg (Calls.loadGlobal_builtin (by rw [I.ok.glob];exact I.mod.glob.keeps I.bk) hm (by rw [I.ok.blt];exact h1.keeps I.bk) ((h2 x hn).trans hv) h) hd
theorem Em {x:Str}{v:V}{u:Value}{pos:Pos} (hg:Gl X x) (hm:X.mg x=some u) (r:RelV v u) (hd:(x == ("__debug__":Str))=false:=by decide):PE X (.Name x pos) (tC v) :=
 fun _ _ _ H _ I h=>kZ I hg hm ⟨v,H,I,r,h⟩ hd
theorem pG {x:Str}{v:V}{u:Value}{pos:Pos} (hg:Gl X x) (hm:X.mg x=none) (hv:bootBuiltins x=some u) (r:RelV v u) (hn:x ≠ "__name__":=by decide) (hd:(x == ("__debug__":Str))=false:=by decide):PE X (.Name x pos) (tC v) :=
 fun _ _ _ H _ I h=>lE I hg hm hv ⟨v,H,I,r,h⟩ hn hd
variable {a b:Expr}{ta tb:TE}{pos:Pos}
def PC (X:Cx) (op:CmpOp) (a b:Expr) (t:TE):Prop :=
 ∀ (pins:List (Addr × Obj)) (s:Shared) (σ:St) (H:Hp) (Q:VK),Inv X pins σ H s->t σ H Q ->
  wpAny (model X.prog X.w) X.A (eval a X.env) (fun v s₁=>wpAny (model X.prog X.w) X.A (eval b X.env) (fun u s₂=>wpAny (model X.prog X.w) X.A (compareOp op v u) (EP X pins σ Q) X.xe s₂) X.xe s₁) X.xe s
def tB (t:TE):TT:=fun σ H Q=>t σ H fun x H1=>∃ c,x=.bl c/\Q c H1
theorem adG {op:CmpOp}{t:TE} (h:PC X op a b t) (h1:behindInMarks op b=false:=by first | exact nobehind _ (by decide) (by decide) | rfl):PT X (.Compare a [op] [b] pos) (tB t):=by
 intro pins s σ H Q I hw;refine wpAny_isTrue_Compare1 (thn (h pins s σ H _ I hw) fun v s1 h1=>thn h1 fun u s2 h2=>thn h2 fun c s3 ⟨x,H1,I1,r1,q1⟩=>?_) h1;obtain ⟨d,rfl,q⟩:=q1;cases r1;exact wpAny_truthy_bool ⟨H1,I1,q⟩
theorem Ce {e:Expr}{t:TE} (h:PE X e t) (he:∀ whole,isTrue e X.env whole=(do let v <- whole;standAt e.pos;holding [v] (truthy v)):=by intro _;rfl):PT X e (tB t):=by
 intro pins s σ H Q I hw;refine isTrue_plain (thn (h pins s σ H _ I hw) fun v s1 ⟨x,H1,I1,r1,q1⟩=>?_) (he _);obtain ⟨d,rfl,q⟩:=q1;cases r1;exact wpAny_truthy_bool ⟨H1,I1,q⟩
variable {tA tB':TT}{rest:List Expr}
def adz (t u:TT):TT:=fun σ H Q=>t σ H fun c H1=>if c=true then u σ H1 Q else Q false H1
def tOr (t u:TT):TT:=fun σ H Q=>t σ H fun c H1=>if c=true then Q true H1 else u σ H1 Q
def ade (t:TT):TT:=fun σ H Q=>t σ H fun c H1=>Q (!c) H1
theorem X8 (ha:PT X a tA):PW X (.BoolOp .And [a] pos) tA:=by
 intro wh pins s σ H Q I h;refine isTrue_and (thn (ha pins s σ H Q I h) fun c s1 e=>?_);cases c with
 | true=>exact isTrue_and_nil e
 | false=>exact e
theorem abI (ha:PT X a tA):PW X (.BoolOp .Or [a] pos) tA:=by
 intro wh pins s σ H Q I h;refine isTrue_or (thn (ha pins s σ H Q I h) fun c s1 e=>?_);cases c with
 | false=>exact isTrue_or_nil e
 | true=>exact e
theorem ZG (ha:PT X a tA) (hb:PW X (.BoolOp .And (b::rest) pos) tB'):PW X (.BoolOp .And (a::b::rest) pos) (adz tA tB'):=by
 intro wh pins s σ H Q I h;refine isTrue_and (thn (ha pins s σ H _ I h) fun c s1 ⟨H1,I1,q1⟩=>?_);cases c with
 | true=>exact hb wh pins s1 σ H1 Q I1 q1
 | false=>exact ⟨H1,I1,q1⟩
theorem ace (ha:PT X a tA) (hb:PW X (.BoolOp .Or (b::rest) pos) tB'):PW X (.BoolOp .Or (a::b::rest) pos) (tOr tA tB'):=by
 intro wh pins s σ H Q I h;refine isTrue_or (thn (ha pins s σ H _ I h) fun c s1 ⟨H1,I1,q1⟩=>?_);cases c with
 | true=>exact ⟨H1,I1,q1⟩
 | false=>exact hb wh pins s1 σ H1 Q I1 q1
theorem RQ (ha:PT X a tA):PT X (.UnaryOp .Not a pos) (ade tA):=by
 intro pins s σ H Q I h;exact isTrue_not (ha pins s σ H (fun c H1=>Q (!c) H1) I h)
def acj (ta tb:TE):TE:=fun σ H Q=>ta σ H fun x H1=>∃ c,x=.bl c/\if c=true then tb σ H1 Q else Q (.bl false) H1
def adw (ta tb:TE):TE:=fun σ H Q=>ta σ H fun x H1=>∃ c,x=.bl c/\if c=true then Q (.bl true) H1 else tb σ H1 Q
def abV (ta:TE):TE:=fun σ H Q=>ta σ H fun x H1=>∃ c,x=.bl c/\Q (.bl (!c)) H1
theorem Rq {op}{t:TE} (h:PE X a t):PE X (.BoolOp op [a] pos) t:=fun pins s σ H Q I hw=>BoolOp_one (h pins s σ H Q I hw)
theorem abF (ha:PE X a ta) (hb:PE X (.BoolOp .And (b::rest) pos) tb):PE X (.BoolOp .And (a::b::rest) pos) (acj ta tb):=by
 intro pins s σ H Q I h;refine BoolOp_and (thn (ha pins s σ H _ I h) fun v s1 ⟨x,H1,I1,r1,q1⟩=>?_);obtain ⟨c,rfl,q1⟩:=q1;cases r1;refine wpAny_truthy_bool ?_;cases c with
 | true=>exact hb pins s1 σ H1 Q I1 q1
 | false=>exact ⟨.bl false,H1,I1,rfl,q1⟩
theorem ab3 (ha:PE X a ta) (hb:PE X (.BoolOp .Or (b::rest) pos) tb):PE X (.BoolOp .Or (a::b::rest) pos) (adw ta tb):=by
 intro pins s σ H Q I h;refine BoolOp_or (thn (ha pins s σ H _ I h) fun v s1 ⟨x,H1,I1,r1,q1⟩=>?_);obtain ⟨c,rfl,q1⟩:=q1;cases r1;refine wpAny_truthy_bool ?_;cases c with
 | false=>exact hb pins s1 σ H1 Q I1 q1
 | true=>exact ⟨.bl true,H1,I1,rfl,q1⟩
theorem R7 (ha:PE X a ta):PE X (.UnaryOp .Not a pos) (abV ta):=by
 intro pins s σ H Q I h;refine UnaryOp_ (thn (ha pins s σ H _ I h) fun v s1 ⟨x,H1,I1,r1,q1⟩=>?_);obtain ⟨c,rfl,q1⟩:=q1;cases r1;exact not_of (wpAny_truthy_bool ⟨.bl (!c),H1,I1,rfl,q1⟩)
end
end L2
namespace L2
open PySem PySem.Spec PyProof.Rows
def SqL (K:PySem.W.Frag) (H:Hp) (a:Addr) (xs:List V):Prop :=
 Rd H a (.lst xs) \/
  ∃ (o:Obj) (its:Array Value) (n:Nat),K.lookup a=some o /\ o.cls=.type "list" /\ o.dict=none /\ o.data=.seq its n /\ its.size <= sizeLine /\ Vals xs its.toList
def SqT (K:PySem.W.Frag) (H:Hp) (a:Addr) (xs:List V):Prop :=
 Rd H a (.tup xs) \/
  ∃ (o:Obj) (its:Array Value) (n:Nat),K.lookup a=some o /\ o.cls=.type "tuple" /\ o.data=.seq its n /\ its.size <= sizeLine /\ Vals xs its.toList
noncomputable def adk:Value->Option V
 | .none=>some .non
 | .bool b=>some (.bl b)
 | .int i _=>some (.int i)
 | .str x _=>some (.str x)
 | .bytes b _=>some (.byt b)
 | .float b _=>some (.flt b)
 | .ref a=>some (.ref a)
 | .type n=>some (.ty n)
 | _=>none
theorem RelV.abs {x:V}{u:Value} (r:RelV x u):adk u=some x:=by
 cases x with
 | non=>cases r;rfl
 | bl _=>cases r;rfl
 | int _=>obtain ⟨t,rfl⟩:=r;rfl
 | str _=>obtain ⟨t,rfl⟩:=r;rfl
 | byt _=>obtain ⟨t,rfl⟩:=r;rfl
 | flt _=>obtain ⟨t,rfl⟩:=r;rfl
 | ref _=>cases r;rfl
 | ty _=>cases r;rfl
theorem RelV.inj {x y:V}{u:Value} (r:RelV x u) (q:RelV y u):x=y:=Option.some.inj (r.abs.symm.trans q.abs)
theorem Vals.inj:∀ {xs ys:List V}{us:List Value},Vals xs us->Vals ys us->xs=ys
 | _,_,_,.nil,.nil=>rfl
 | _,_,_,.cons r t,.cons r' t'=>by rw [r.inj r',Vals.inj t t']
section
variable {X:Cx}{pins:List (Addr × Obj)}{σ:St}{H:Hp}{s:Shared}{a:Addr}{xs ys:List V}
theorem SqL.of {K:PySem.W.Frag} (h:H a=some (.lst xs)):SqL K H a xs:=.inl (.inl h)
theorem SqT.of {K:PySem.W.Frag} (h:H a=some (.tup xs)):SqT K H a xs:=.inl (.inl h)
theorem Inv.list (I:Inv X pins σ H s) (h:SqL X.K H a xs):∃ its:List Value,Vals xs its/\PlainL s.heap a its.toArray/\xs.length<=sizeLine:=by
 rcases h with h | ⟨o,its,n,hk,hc,hd,hs,hz,r⟩
 .obtain ⟨z,its,n,r,e⟩:=h.ok I.hok;exact ⟨its,r,⟨_,n,e,rfl,rfl,rfl⟩,z⟩
 .refine ⟨its.toList,r,⟨o,n,I.kIn a o hk,hc,hd,by simpa using hs⟩,?_⟩;have e:=r.length;simp only [Array.length_toList] at e;omega
theorem Inv.tuple (I:Inv X pins σ H s) (h:SqT X.K H a xs):∃ its:List Value,Vals xs its/\IsTup s.heap a its.toArray/\xs.length<=sizeLine:=by
 rcases h with h | ⟨o,its,n,hk,hc,hs,hz,r⟩
 .obtain ⟨z,its,r,p⟩:=h.ok I.hok;exact ⟨its,r,p,z⟩
 .refine ⟨its.toList,r,⟨o,I.kIn a o hk,hc,n,by simpa using hs⟩,?_⟩;have e:=r.length;simp only [Array.length_toList] at e;omega
theorem Inv.list_inj (I:Inv X pins σ H s) (h:SqL X.K H a xs) (h':SqL X.K H a ys):xs=ys:=by
 obtain ⟨its,r,⟨o,n,e,_,_,d⟩,_⟩:=I.list h;obtain ⟨its',r',⟨o',n',e',_,_,d'⟩,_⟩:=I.list h';rw [e] at e';cases e';rw [d] at d';injection d' with d1 _;have:its=its':=by simpa using congrArg Array.toList d1
 subst this;exact r.inj r'
theorem Inv.tuple_inj (I:Inv X pins σ H s) (h:SqT X.K H a xs) (h':SqT X.K H a ys):xs=ys:=by
 obtain ⟨its,r,⟨o,e,_,n,d⟩,_⟩:=I.tuple h;obtain ⟨its',r',⟨o',e',_,n',d'⟩,_⟩:=I.tuple h';rw [e] at e';cases e';rw [d] at d';injection d' with d1 _;have:its=its':=by simpa using congrArg Array.toList d1
 subst this;exact r.inj r'
end
noncomputable abbrev Cx.wish (X:Cx) (E:Value->Shared->Prop):Cx:={ X with xe:=E }
noncomputable abbrev Cx.nox (X:Cx):Cx:=X.wish fun _ _=>False
theorem Cx.Ok.wish {X:Cx} (ok:X.Ok) (E:Value->Shared->Prop):(X.wish E).Ok :=
 ⟨ok.mod,ok.kind,ok.glob,ok.blt,ok.above,ok.inj,ok.has,ok.cab,ok.hd,ok.frames,ok.stk,ok.exf,ok.bs,ok.bsz,ok.noex,ok.exfs,ok.funs,ok.frf,ok.tab⟩
theorem Cx.Ok.unwish {X:Cx}{E:Value->Shared->Prop} (ok:(X.wish E).Ok):X.Ok :=
 ⟨ok.mod,ok.kind,ok.glob,ok.blt,ok.above,ok.inj,ok.has,ok.cab,ok.hd,ok.frames,ok.stk,ok.exf,ok.bs,ok.bsz,ok.noex,ok.exfs,ok.funs,ok.frf,ok.tab⟩
section
variable {X:Cx}{pins:List (Addr × Obj)}{σ:St}{H:Hp}{s:Shared}{E:Value->Shared->Prop}
theorem Inv.wish (I:Inv X pins σ H s) (E:Value->Shared->Prop):Inv (X.wish E) pins σ H s:=⟨I.ok.wish E,I.os,I.bare,I.base,I.loc,I.cell,I.free,I.freeC,I.pin,I.hok,I.len⟩
theorem Inv.unwish (I:Inv (X.wish E) pins σ H s):Inv X pins σ H s:=⟨I.ok.unwish,I.os,I.bare,I.base,I.loc,I.cell,I.free,I.freeC,I.pin,I.hok,I.len⟩
theorem SP.unwish {D:Ends}{f:Flow}{s':Shared} (h:SP (X.wish E) pins D f s'):SP X pins D f s':=by
 cases f with
 | next=>obtain ⟨σ',H',I,q⟩:=h;exact ⟨σ',H',I.unwish,q⟩
 | brk=>obtain ⟨σ',H',I,q⟩:=h;exact ⟨σ',H',I.unwish,q⟩
 | cont=>obtain ⟨σ',H',I,q⟩:=h;exact ⟨σ',H',I.unwish,q⟩
 | ret u=>obtain ⟨v,σ',H',I,r,q⟩:=h;exact ⟨v,σ',H',I.unwish,r,q⟩
theorem PSs.nox {st:List Stmt}{t:TS} (h:PSs X.nox st t):PSs X st t:=fun pins s σ H D I hw =>
 wpAny_mono (h pins s σ H D (I.wish _) hw) (fun _ _ q=>q.unwish) fun _ _ z=>False.elim z
end
section
variable {X:Cx}{st:Stmt}{rest:List Stmt}{t u:TS}{e:Expr}{te:TE}{pos:Pos}
def WT:TS:=fun D σ H=>D.nx σ H
def adh (t u:TS):TS:=fun D σ H=>t { D with nx:=u D } σ H
theorem uc:PSs X [] WT:=fun _ _ σ H _ I h=>wpAny_execs_nil ⟨σ,H,I,h⟩
theorem jK (h1:PS X st t) (h2:PSs X rest u):PSs X (st::rest) (adh t u):=by
 intro pins s σ H D I h;refine wpAny_execs_cons (thn (h1 pins s σ H { D with nx:=u D } I h) fun f s1 q=>?_);cases f with
 | next =>
  obtain ⟨σ',H',I',q⟩:=q;exact h2 pins s1 σ' H' D I' q
 | ret v=>exact q
 | brk=>exact q
 | cont=>exact q
theorem jP (h1:PS X st t):PSs X [st] t:=by
 intro pins s σ H D I h;refine wpAny_execs_cons (thn (h1 pins s σ H D I h) fun f s1 q=>?_);cases f with
 | next=>exact wpAny_execs_nil q
 | ret v=>exact q
 | brk=>exact q
 | cont=>exact q
def aby:TS:=fun D σ H=>D.bk σ H
def abZ:TS:=fun D σ H=>D.ct σ H
theorem W4:PS X (.Pass pos) WT:=fun _ _ σ H _ I h=>wpAny_Pass ⟨σ,H,I,h⟩
theorem Vg:PS X (.Break pos) aby:=fun _ _ σ H _ I h=>wpAny_Break ⟨σ,H,I,h⟩
theorem KQ:PS X (.Continue pos) abZ:=fun _ _ σ H _ I h=>wpAny_Continue ⟨σ,H,I,h⟩
theorem Inv.quiet {pins:List (Addr × Obj)}{σ:St}{H:Hp}{s:Shared} (I:Inv X pins σ H s):interactive X.env=false:=by simp [interactive,I.ok.kind]
def acu (te:TE):TS:=fun D σ H=>te σ H fun _ H1=>D.nx σ H1
theorem yJ (he:PE X e te) (hs:swapsWith e none pos.line X.env=pure false:=by rfl):PS X (.Expr e pos) (acu te):=by
 intro pins s σ H D I h;exact wpAny_Expr_any (thn (he pins s σ H _ I h) fun v s1 ⟨x,H1,I1,r1,q1⟩=>⟨σ,H1,I1,q1⟩) I.quiet hs
def ac6 (te:TE):TS:=fun D σ H=>te σ H D.rt
theorem CT (he:PE X e te):PS X (.Return (some e) pos) (ac6 te):=by
 intro pins s σ H D I h;exact wpAny_Return_some (thn (he pins s σ H _ I h) fun v s1 ⟨x,H1,I1,r1,q1⟩=>⟨x,σ,H1,I1,r1,q1⟩)
def acP:TS:=fun D _ H=>D.rt .non H
theorem Yv:PS X (.Return none pos) acP:=fun _ _ σ H _ I h=>wpAny_Return_none ⟨.non,σ,H,I,rfl,h⟩
def adq (c:TT) (t u:TS):TS:=fun D σ H=>c σ H fun b H1=>if b=true then t D σ H1 else u D σ H1
theorem Cv {c:Expr}{a b:List Stmt}{tc:TT} (hc:PT X c tc) (ha:PSs X a t) (hb:PSs X b u):PS X (.If c a b pos) (adq tc t u):=by
 intro pins s σ H D I h;refine wpAny_If (thn (hc pins s σ H _ I h) fun d s1 ⟨H1,I1,q1⟩=>?_);cases d with
 | true=>exact ha pins s1 σ H1 D I1 q1
 | false=>exact hb pins s1 σ H1 D I1 q1
def Sh:TS:=fun _ _ _=>False
theorem Kc:PS X st Sh:=fun _ _ _ _ _ _ h=>h.elim
theorem nR {sts:List Stmt}:PSs X sts Sh:=fun _ _ _ _ _ _ h=>h.elim
end
abbrev TG:=V->St->Hp->(St->Hp->Prop)->Prop
abbrev TGs:=List V->St->Hp->(St->Hp->Prop)->Prop
def PG (X:Cx) (target:Expr) (t:TG):Prop :=
 ∀ (pins:List (Addr × Obj)) (s:Shared) (σ:St) (H:Hp) (v:V) (u:Value) (Q:St->Hp->Prop),Inv X pins σ H s->RelV v u->t v σ H Q ->
  wpAny (model X.prog X.w) X.A (assign target X.env u) (fun _ s'=>∃ σ' H',Inv X pins σ' H' s'/\Q σ' H') X.xe s
def PGs (X:Cx) (ts:List Expr) (t:TGs):Prop :=
 ∀ (pins:List (Addr × Obj)) (s:Shared) (σ:St) (H:Hp) (vs:List V) (us:List Value) (Q:St->Hp->Prop),Inv X pins σ H s->Vals vs us->t vs σ H Q ->
  wpAny (model X.prog X.w) X.A (assignInOrder ((assignEach ts X.env).map (·.2)) us) (fun _ s'=>∃ σ' H',Inv X pins σ' H' s'/\Q σ' H') X.xe s
section
variable {X:Cx}{pos:Pos}
def Bx (i:Nat):TG:=fun v σ H Q=>Q (σ.set i (some v)) H
theorem Ea {i:Nat}{x:Str} (hN:X.N.Nodup) (hi:X.N[i]?=some x) (hx:Loc X.env.scope x) (hf:X.fn x=true\/X.env.scope.names.lookup x=some .local:=by first | exact .inl rfl | exact .inr rfl | assumption):PG X (.Name x pos) (Bx i):=by
 intro pins s σ H v u Q I r h;exact wpAny_assign_Name (Kd I hN hi hx r (fun s' I'=>⟨_,H,I',h⟩) hf)
def aaj:TGs:=fun vs σ H Q=>vs=[]/\Q σ H
def PL (t:TG) (u:TGs):TGs:=fun vs σ H Q=>∃ v r,vs=v::r/\t v σ H fun σ' H'=>u r σ' H' Q
theorem Xk:PGs X [] aaj:=by
 intro pins s σ H vs us Q I r h;obtain ⟨e,h⟩:=h;subst e;cases r;exact assignInOrder_nil ⟨σ,H,I,h⟩
theorem JL {e:Expr}{es:List Expr}{t:TG}{u:TGs} (h1:PG X e t) (h2:PGs X es u)
  (hs:(assignEach (e::es) X.env).map (·.2)=assign e X.env::(assignEach es X.env).map (·.2):=by rfl):PGs X (e::es) (PL t u):=by
 intro pins s σ H vs us Q I r h;obtain ⟨v,vr,e1,h⟩:=h;subst e1;cases r with
 | cons r rr =>
  rw [hs];refine assignInOrder_cons (thn (h1 pins s σ H _ _ _ I r h) fun _ s1 ⟨σ1,H1,I1,q1⟩=>?_);exact h2 pins s1 σ1 H1 _ _ Q I1 rr q1
def aao (K:PySem.W.Frag) (n:Nat) (t:TGs):TG:=fun v σ H Q=>∃ a xs,v=.ref a/\SqT K H a xs/\xs.length=n/\t xs σ H Q
theorem aat {es:List Expr}{k:Nat}{t:TGs}{n:Nat} (hc:X.calm=true) (h:PGs X es t)
  (hn:(assignEach es X.env).length=n:=by rfl) (hst:(assignEach es X.env).findIdx? (·.1)=none:=by rfl):PG X (.Tuple es k pos) (aao X.K n t):=by
 intro pins s σ H v u Q I r hw;obtain ⟨a,xs,e1,hq,hl,hw⟩:=hw;subst e1;cases r;obtain ⟨its,rv,ht,hz⟩:=I.tuple hq;refine assign_Tuple_tuple (I.ok.hd hc) ht (by simp [hn,<- hl,rv.length]) hst fun h' hx=>?_
 have I1:Inv X pins σ H { s with heap:=h' }:=I.kept (t':=s.toks) fun b o e=>hx b o (Nat.ne_of_lt (Heap.lt_size e)) e
 exact h pins _ σ H xs _ Q I1 (by simpa using rv) hw
def T6 (te:TE) (g:TG):TS:=fun D σ H=>te σ H fun x H1=>g x σ H1 D.nx
theorem nF {tg e:Expr}{te:TE}{g:TG} (he:PE X e te) (hg:PG X tg g) (hs:swapsWithSole [tg] e pos.line X.env=pure false:=by rfl) (hw:swappedStores [tg] e X.env=pure none:=by rfl)
  (h1:(assignEach [tg] X.env).map (·.2)=[assign tg X.env]:=by rfl):PS X (.Assign [tg] e pos) (T6 te g):=by
 intro pins s σ H D I h;refine wpAny_Assign_stores (thn (he pins s σ H _ I h) fun v s1 ⟨x,H1,I1,r1,q1⟩=>?_) hs hw;rw [h1];exact thn (hg pins s1 σ H1 x v _ I1 r1 q1) fun _ s2 q=>q
end
section
variable {X:Cx}{pos:Pos}
end
structure It where
 go:Nat->Hp->Prop
 yld:Nat->Hp->V->Hp->Prop
 stop:Nat->Hp->Prop
def oE (X:Cx) (pins:List (Addr × Obj)) (H:Hp) (b:Addr):Prop :=
 H b=none/\b≠X.env.locals/\b ∉ X.fs/\(b∈X.ex\/X.s₀.heap.objs.size<=b)/\(∀ x c,X.env.cells.lookup x=some c->c≠b)/\∀ p∈X.pn++pins,p.1≠b
theorem Inv.fpOk {X:Cx}{pins:List (Addr × Obj)}{σ:St}{H H':Hp}{s:Shared}{b:Addr} (I:Inv X pins σ H s) (hb:s.heap.objs.size<=b) (hn:H' b=none):oE X pins H' b:=by
 refine ⟨hn,Nat.ne_of_gt (Nat.lt_of_lt_of_le I.lt hb),I.nofs hb,.inr (Nat.le_trans I.sz hb),fun x c e z=>?_,fun p hp z=>?_⟩
 .obtain ⟨v,q⟩:=I.cell x c e;exact absurd (Nat.lt_of_lt_of_le q.lt (by rw [z];exact hb)) (Nat.lt_irrefl _)
 .exact absurd (Nat.lt_of_lt_of_le (Heap.lt_size (I.pin p hp).1) (by rw [z];exact hb)) (Nat.lt_irrefl _)
structure Turn (P:Program) (w:World) (K:PySem.W.Frag) (tg:Expr) (J:It) (fp:List Addr) (it:Addr) (tn:Nat->Heap->Prop):Prop where
 mem:it∈fp
 obj:∀ i h,tn i h->∀ b∈fp,∃ o,h.get? b=some o/\∀ v,o.data≠.cell v
 keep:∀ i h h',tn i h->(∀ b∈fp,∀ o,h.get? b=some o->h'.get? b=some o)->tn i h'
 item:∀ (X:Cx),X.prog=P->X.w=w->X.K=K->X.calm=true->∀ (i:Nat) (pins:List (Addr × Obj)) (s:Shared) (σ:St) (H:Hp) (E:Value->Shared->Prop),Inv X pins σ H s->(∀ b∈fp,oE X pins H b)->tn i s.heap->J.go i H ->
  wpAny (model P w) X.A (pyNext (.ref it)) (fun r s1=>∃ u,r=some u /\
   wpAny (model P w) X.A (letOwnedTupleGo tg (.ref it) u) (fun _ s2=>∃ x H',Inv X pins σ H' s2/\RelV x u/\J.yld i H x H'/\tn (i+1) s2.heap/\∀ b∈fp,H' b=none) E s1) E s
 done:∀ (X:Cx),X.prog=P->X.w=w->X.K=K->X.calm=true->∀ (i:Nat) (pins:List (Addr × Obj)) (s:Shared) (σ:St) (H:Hp) (E:Value->Shared->Prop),Inv X pins σ H s->(∀ b∈fp,oE X pins H b)->tn i s.heap->J.stop i H ->
  wpAny (model P w) X.A (pyNext (.ref it)) (fun r s1=>r=none/\Inv X pins σ H s1) E s
 self:∀ (A:Around) (i:Nat) (s:Shared) (Q:Value->Shared->Prop) (E:Value->Shared->Prop),tn i s.heap->Q (.ref it) s->wpAny (model P w) A (pyIter (.ref it)) Q E s
abbrev TI:=St->Hp->(It->Hp->Prop)->Prop
def PIE (X:Cx) (pins:List (Addr × Obj)) (σ:St) (tg:Expr) (R:It->Hp->Prop) (itv:Value) (s2:Shared):Prop :=
 ∃ (it:Addr) (fp:List Addr) (tn:Nat->Heap->Prop) (J:It) (H':Hp),itv=.ref it/\Inv X pins σ H' s2/\Turn X.prog X.w X.K tg J fp it tn/\tn 0 s2.heap/\(∀ b∈fp,oE X pins H' b)/\R J H'
def PI (X:Cx) (tg iter:Expr) (wi:TI):Prop :=
 ∀ (pins:List (Addr × Obj)) (s:Shared) (σ:St) (H:Hp) (R:It->Hp->Prop),Inv X pins σ H s->wi σ H R ->
  wpAny (model X.prog X.w) X.A (eval iter X.env) (fun v s1=>wpAny (model X.prog X.w) X.A (pyIter v) (PIE X pins σ tg R) X.xe s1) X.xe s
theorem Hq {M:Model}{A:Around}{E:Value->Shared->Prop}{s:Shared}{tg:Expr}{it:Addr}{u:Value}{o:Obj}{n:String}{vs:Array Value}{Q:Unit->Shared->Prop} (ho:s.heap.get? it=some o) (hc:o.cls=.type n) (hd:o.data=.fields vs)
  (hn:["enumerate","zip","dict_itemiterator","dict_reverseitemiterator","odict_iterator","itertools.zip_longest","itertools.pairwise"].contains n=false) (hQ:Q () s):wpAny M A (letOwnedTupleGo tg (.ref it) u) Q E s:=by
 unfold letOwnedTupleGo;cases tg <;> first
  | exact wpAny_pure hQ
  | (cases u <;> first
    | exact wpAny_pure hQ
    | (refine wpAny_bind (wpAny_load ho ?_)
       rw [hc,hd];show wpAny M A (if (["enumerate","zip","dict_itemiterator","dict_reverseitemiterator","odict_iterator","itertools.zip_longest","itertools.pairwise"].contains n && vs[0]? == some (rawInt _))=true then _ else _) Q E s
       rw [if_neg (by intro h;rw [hn,Bool.false_and] at h;cases h)];exact wpAny_pure hQ))
def Itl (K:PySem.W.Frag) (a:Addr):It :=
 ⟨fun i H=>∃ xs x,SqL K H a xs/\xs[i]?=some x,fun i H x H'=>H'=H/\∀ xs,SqL K H a xs->xs[i]?=some x,fun i H=>∃ xs,SqL K H a xs/\xs.length<=i⟩
def Itt (K:PySem.W.Frag) (a:Addr):It :=
 ⟨fun i H=>∃ xs x,SqT K H a xs/\xs[i]?=some x,fun i H x H'=>H'=H/\∀ xs,SqT K H a xs->xs[i]?=some x,fun i H=>∃ xs,SqT K H a xs/\xs.length<=i⟩
def Itr (lo:Int) (n:Nat):It:=⟨fun i _=>i < n,fun i H x H'=>H'=H/\x=.int (lo+i),fun i _=>n<=i⟩
theorem Q6 {P:Program}{w:World}{K:PySem.W.Frag}{tg:Expr} (a it:Addr):Turn P w K tg (Itl K a) [it] it (fun i h=>h.IsListIter it a i) where
 mem:=by simp
 obj:=fun i h st b hb=>by
  have e:b=it:=by simpa using hb
  subst e;obtain ⟨o,e,c,d⟩:=st;exact ⟨o,e,fun v z=>by rw [d] at z;cases z⟩
 keep:=fun i h h' st k=>st.at fun o e=>k it (by simp) o e
 item:=by
  intro X hP hw hK hc i pins s σ H E I hf st hg;subst hP hw hK;obtain ⟨xs,x,hq,hx⟩:=hg;obtain ⟨its,rv,p,hz⟩:=I.list hq;obtain ⟨u,hu,ru⟩:=rv.get hx;obtain ⟨f0,f1,f2,f3,f4,f5⟩:=hf it (by simp);refine wpAny_pyNext_list_item st p.isList (x:=u) (by simpa using hu) fun h' st' sb=>?_
  have I1:Inv X pins σ H { s with heap:=h' }:=I.turned (t':=s.toks) (fun b o hb e=>(sb.2 b hb).trans e) f0 f1 f3 f4 f5;obtain ⟨o,e,c,d⟩:=id st';exact ⟨u,rfl,Hq (s:={ s with heap:=h' }) e c d (by decide) ⟨x,H,I1,ru,⟨rfl,fun ys hy=>by rw [I.list_inj hy hq];exact hx⟩,st',fun b hb=>(hf b hb).1⟩⟩
 done:=by
  intro X hP hw hK hc i pins s σ H E I hf st hg;subst hP hw hK;obtain ⟨xs,hq,hx⟩:=hg;obtain ⟨its,rv,p,hz⟩:=I.list hq;obtain ⟨f0,f1,f2,f3,f4,f5⟩:=hf it (by simp);have hl:=rv.length;exact wpAny_pyNext_list_end (I.ok.hd hc) st p.isList (by simp;omega) fun h' eb=>⟨rfl,I.turned (t':=s.toks) (fun b o hb e=>eb b o hb e) f0 f1 f3 f4 f5⟩
 self:=fun _ _ _ _ _ st h=>wpAny_pyIter_listiter st h
theorem Oa {P:Program}{w:World}{K:PySem.W.Frag}{tg:Expr} (a it:Addr):Turn P w K tg (Itt K a) [it] it (fun i h=>h.IsTupleIter it a i) where
 mem:=by simp
 obj:=fun i h st b hb=>by
  have e:b=it:=by simpa using hb
  subst e;obtain ⟨o,e,c,d⟩:=st;exact ⟨o,e,fun v z=>by rw [d] at z;cases z⟩
 keep:=fun i h h' st k=>st.at fun o e=>k it (by simp) o e
 item:=by
  intro X hP hw hK hc i pins s σ H E I hf st hg;subst hP hw hK;obtain ⟨xs,x,hq,hx⟩:=hg;obtain ⟨its,rv,p,hz⟩:=I.tuple hq;obtain ⟨u,hu,ru⟩:=rv.get hx;obtain ⟨f0,f1,f2,f3,f4,f5⟩:=hf it (by simp);refine wpAny_pyNext_tuple_item st (show s.heap.IsTuple a its.toArray from p) (x:=u) (by simpa using hu) fun h' st' sb=>?_
  have I1:Inv X pins σ H { s with heap:=h' }:=I.turned (t':=s.toks) (fun b o hb e=>(sb.2 b hb).trans e) f0 f1 f3 f4 f5;obtain ⟨o,e,c,d⟩:=id st';exact ⟨u,rfl,Hq (s:={ s with heap:=h' }) e c d (by decide) ⟨x,H,I1,ru,⟨rfl,fun ys hy=>by rw [I.tuple_inj hy hq];exact hx⟩,st',fun b hb=>(hf b hb).1⟩⟩
 done:=by
  intro X hP hw hK hc i pins s σ H E I hf st hg;subst hP hw hK;obtain ⟨xs,hq,hx⟩:=hg;obtain ⟨its,rv,p,hz⟩:=I.tuple hq;obtain ⟨f0,f1,f2,f3,f4,f5⟩:=hf it (by simp);have hl:=rv.length;exact wpAny_pyNext_tuple_end (I.ok.hd hc) st (show s.heap.IsTuple a its.toArray from p) (by simp;omega) fun h' eb=>⟨rfl,I.turned (t':=s.toks) (fun b o hb e=>eb b o hb e) f0 f1 f3 f4 f5⟩
 self:=fun _ _ _ _ _ st h=>wpAny_pyIter_tupleiter st h
theorem PX {P:Program}{w:World}{K:PySem.W.Frag}{tg:Expr} (it:Addr) (lo:Int) (n:Nat):Turn P w K tg (Itr lo n) [it] it (fun i h=>IsRangeIter h it (lo+(i:Nat) * 1) ((n:Int) - (i:Nat)) 1) where
 mem:=by simp
 obj:=fun i h st b hb=>by
  have e:b=it:=by simpa using hb
  subst e;exact ⟨_,st,fun v z=>by
   have z':Data.fields _=Data.cell v:=z;cases z'⟩
 keep:=fun i h h' st k=>k it (by simp) _ st
 item:=by
  intro X hP hw hK hc i pins s σ H E I hf st hg;subst hP hw hK;obtain ⟨f0,f1,f2,f3,f4,f5⟩:=hf it (by simp);have W:=Walks.range (prog:=X.prog) (w:=X.w) (I.ok.hd hc) it lo 1 n;refine W.item i s _ _ hg st fun v h' tk hv st' kk=>?_
  obtain ⟨t,rfl⟩:=hv;have I1:Inv X pins σ H { s with heap:=h',toks:=tk }:=I.turned (fun b o hb e=>kk b o (by simpa using hb) e) f0 f1 f3 f4 f5;refine ⟨_,rfl,Hq (s:={ s with heap:=h',toks:=tk }) (n:="range_iterator") st' rfl rfl (by decide) ⟨.int (lo+i),H,I1,⟨t,?_⟩,⟨rfl,rfl⟩,st',fun b hb=>(hf b hb).1⟩⟩
  rw [Int.mul_one]
 done:=by
  intro X hP hw hK hc i pins s σ H E I hf st hg;subst hP hw hK;obtain ⟨f0,f1,f2,f3,f4,f5⟩:=hf it (by simp);exact wpAny_pyNext_range_end (I.ok.hd hc) st (by have:n<=i:=hg;omega) fun h' eb=>⟨rfl,I.turned (t':=s.toks) (fun b o hb e=>eb b o hb e) f0 f1 f3 f4 f5⟩
 self:=fun _ _ _ _ _ st h=>wpAny_pyIter_rangeiter st h
end L2
namespace L2
open PySem PySem.Spec PyProof.Rows
section
variable {X:Cx}{tg:Expr}
def acT (K:PySem.W.Frag) (tl:TE):TI:=fun σ H R=>tl σ H fun x H1=>∃ a,x=.ref a/\(∃ xs,SqL K H1 a xs)/\R (Itl K a) H1
def adD (K:PySem.W.Frag) (tl:TE):TI:=fun σ H R=>tl σ H fun x H1=>∃ a,x=.ref a/\(∃ xs,SqT K H1 a xs)/\R (Itt K a) H1
theorem Zn {l:Expr}{tl:TE} (hl:PE X l tl):PI X tg l (acT X.K tl):=by
 intro pins s σ H R I h;refine thn (hl pins s σ H _ I h) fun v s1 ⟨x,H1,I1,r1,q1⟩=>?_
 obtain ⟨a,e,⟨xs,hq⟩,q⟩:=q1;subst e;cases r1;obtain ⟨its,rv,p,hz⟩:=I1.list hq;refine wpAny_pyIter_list p.isList ?_;refine ⟨s1.heap.objs.size,[s1.heap.objs.size],_,_,H1,rfl,I1.kept (t':=s1.toks) fun b o e=>Heap.get?_push_of_some _ e,Q6 a _,⟨_,Heap.get?_push_size _ rfl,rfl,rfl⟩,fun b hb=>?_,q⟩;have e:b=s1.heap.objs.size:=by simpa using hb
 subst e;exact I1.fpOk (Nat.le_refl _) (I1.hok.fresh (Nat.le_refl _))
theorem aaJ {l:Expr}{tl:TE} (hl:PE X l tl):PI X tg l (adD X.K tl):=by
 intro pins s σ H R I h;refine thn (hl pins s σ H _ I h) fun v s1 ⟨x,H1,I1,r1,q1⟩=>?_
 obtain ⟨a,e,⟨xs,hq⟩,q⟩:=q1;subst e;cases r1;obtain ⟨its,rv,p,hz⟩:=I1.tuple hq;refine wpAny_pyIter_tuple (show s1.heap.IsTuple a its.toArray from p) ?_;refine ⟨s1.heap.objs.size,[s1.heap.objs.size],_,_,H1,rfl,I1.kept (t':=s1.toks) fun b o e=>Heap.get?_push_of_some _ e,Oa a _,⟨_,Heap.get?_push_size _ rfl,rfl,rfl⟩,fun b hb=>?_,q⟩;have e:b=s1.heap.objs.size:=by simpa using hb
 subst e;exact I1.fpOk (Nat.le_refl _) (I1.hok.fresh (Nat.le_refl _))
theorem Jm {pins:List (Addr × Obj)}{σ:St}{H:Hp}{s:Shared}{R:It->Hp->Prop}{E:Value->Shared->Prop}{lo hi:Int}{t u v:Tok}{tk:Nat} (I:Inv X pins σ H s) (h1:-(2 ^ 62)<=lo) (h2:lo < 2 ^ 62) (h3:-(2 ^ 62)<=hi) (h4:hi < 2 ^ 62)
  (q:R (Itr lo (hi - lo).toNat) H):wpAny (model X.prog X.w) X.A (pyIter (.ref s.heap.objs.size)) (PIE X pins σ tg R) E { s with heap:=s.heap.push { cls:=.type "range",data:=.fields #[.int lo t,.int hi u,.int 1 v] },toks:=tk }:=by
 refine wpAny_pyIter_range (IsRange.new ..) (small_one h1 h2 h3 h4) ?_;have I1:Inv X pins σ H { s with heap:=s.heap.push { cls:=.type "range",data:=.fields #[.int lo t,.int hi u,.int 1 v] },toks:=tk }:=I.kept fun b o e=>Heap.get?_push_of_some _ e
 refine ⟨(s.heap.push { cls:=.type "range",data:=.fields #[.int lo t,.int hi u,.int 1 v] }).objs.size,[(s.heap.push { cls:=.type "range",data:=.fields #[.int lo t,.int hi u,.int 1 v] }).objs.size],_,_,H,rfl,
  I1.kept (t':=tk) fun b o e=>Heap.get?_push_of_some _ e,PX _ lo (hi - lo).toNat,?_,fun b hb=>?_,q⟩
 .have e1:lo+((0:Nat):Int) * 1=lo:=by simp
  have e2:(((hi - lo).toNat:Nat):Int) - ((0:Nat):Int)=Builtin.Range.rangeSize lo hi 1:=by rw [rangeSize_one];split <;> omega
  show IsRangeIter _ _ (lo+((0:Nat):Int) * 1) ((((hi - lo).toNat:Nat):Int) - ((0:Nat):Int)) 1
  rw [e1,e2];exact Heap.get?_push_size _ rfl
 .have e:b=(s.heap.push { cls:=.type "range",data:=.fields #[.int lo t,.int hi u,.int 1 v] }).objs.size:=by simpa using hb
  subst e;exact I1.fpOk (Nat.le_refl _) (I1.hok.fresh (Nat.le_refl _))
def ab9 (ta:TA):TI:=fun σ H R=>ta σ H fun vs H1=>∃ j:Int,vs=[.int j]/\-(2 ^ 62)<=j/\j < 2 ^ 62/\R (Itr 0 j.toNat) H1
def acv (ta:TA):TI:=fun σ H R=>ta σ H fun vs H1=>∃ i j:Int,vs=[.int i,.int j]/\(-(2 ^ 62)<=i/\i < 2 ^ 62/\-(2 ^ 62)<=j/\j < 2 ^ 62)/\R (Itr i (j - i).toNat) H1
theorem QX {a:Expr}{ta:TA}{p pos:Pos} (hg:Gl X "range") (hm:X.mg "range"=none) (ha:PA X [a] ta) (hs:starEach [a] X.env=[(false,eval a X.env)]:=by rfl):PI X tg (.Call (.Name "range" p) [a] [] pos) (ab9 ta):=by
 intro pins s σ H R I h;refine Call_ (lE I hg hm boot_range (PyProof.Rows.callWith_type1 (thn (ha pos pins s σ H _ I h) fun us s1 ⟨vs,H1,I1,r1,q1⟩=>?_) hs rfl));obtain ⟨j,e,q1,q2,q⟩:=q1;subst e;cases r1 with
 | cons r rr =>
  cases rr;obtain ⟨t,rfl⟩:=r;exact call_range_1 (Jm I1 (by omega) (by omega) q1 q2 (by simpa using q))
theorem Qu {a b:Expr}{ta:TA}{p pos:Pos} (hg:Gl X "range") (hm:X.mg "range"=none) (ha:PA X [a,b] ta) (hs:starEach [a,b] X.env=[(false,eval a X.env),(false,eval b X.env)]:=by rfl) (hs2:starEach [b] X.env=[(false,eval b X.env)]:=by rfl) :
  PI X tg (.Call (.Name "range" p) [a,b] [] pos) (acv ta):=by
 intro pins s σ H R I h;refine Call_ (lE I hg hm boot_range (PyProof.Rows.callWith_type1 (thn (ha pos pins s σ H _ I h) fun us s1 ⟨vs,H1,I1,r1,q1⟩=>?_) (by rw [hs,hs2]) (by rw [hs2];rfl)));obtain ⟨i,j,e,⟨q1,q2,q3,q4⟩,q⟩:=q1;subst e;cases r1 with
 | cons r rr =>
  cases rr with
  | cons r' rr =>
   cases rr;obtain ⟨t,rfl⟩:=r;obtain ⟨t',rfl⟩:=r';exact call_range_2 (Jm I1 q1 q2 q3 q4 q)
def ac7 (wi:TI) (g:TG) (tb:TS):TS:=fun D σ H=>wi σ H fun J H1=>∃ W:Nat->Nat->St->Hp->Prop,(∃ m,W 0 m σ H1)/\∀ i m σ H,W i m σ H ->
 (J.stop i H/\D.nx σ H)\/(J.go i H/\∃ N:St->Hp->Prop,(∀ σ' H',N σ' H'->∃ m',m' < m/\W (i+1) m' σ' H')/\∀ x H',J.yld i H x H'->g x σ H' fun σ2 H2=>tb { D with nx:=N,ct:=N,bk:=D.nx } σ2 H2)
noncomputable def yC (fp:List Addr) (h:Heap):List (Addr × Obj):=fp.filterMap fun b=>(h.get? b).map fun o=>(b,o)
theorem o8 {fp:List Addr}{h:Heap}{b:Addr}{o:Obj} (hb:b∈fp) (e:h.get? b=some o):(b,o)∈yC fp h:=List.mem_filterMap.mpr ⟨b,hb,by rw [e];rfl⟩
theorem Q0 {fp:List Addr}{h:Heap}{p:Addr × Obj} (hp:p∈yC fp h):p.1∈fp/\h.get? p.1=some p.2:=by
 obtain ⟨b,hb,e⟩:=List.mem_filterMap.mp hp;cases q:h.get? b with
 | none=>rw [q] at e;cases e
 | some o =>
  rw [q] at e;have e':(b,o)=p:=Option.some.inj e;subst e';exact ⟨hb,q⟩
theorem Inv.pinned {pins:List (Addr × Obj)}{σ:St}{H:Hp}{s:Shared}{fp:List Addr} (I:Inv X pins σ H s) (hf:∀ b∈fp,oE X pins H b) (ho:∀ b∈fp,∃ o,s.heap.get? b=some o/\∀ v,o.data≠.cell v):Inv X (pins++yC fp s.heap) σ H s :=
 I.pins_of fun p hp=>(List.mem_append.mp hp).elim (fun z=>I.pin p (List.mem_append_right _ z)) fun z=>by
  obtain ⟨hb,e⟩:=Q0 z;obtain ⟨f0,f1,f2,_⟩:=hf p.1 hb;obtain ⟨o,e',d⟩:=ho p.1 hb;rw [e] at e';cases e';exact ⟨e,f0,f1,f2,d⟩
theorem Inv.unpinned {pins pl:List (Addr × Obj)}{σ:St}{H:Hp}{s:Shared} (I:Inv X (pins++pl) σ H s):Inv X pins σ H s:=I.pins_of fun p hp=>I.pin p (List.mem_append_right _ (List.mem_append_left _ hp))
theorem RG {iter:Expr}{body:List Stmt}{wi:TI}{g:TG}{tb:TS}{pos:Pos} (hp:PassesOwn (model X.prog X.w) X.A X.env X.xe) (hc:X.calm=true) (hi:PI X tg iter wi) (hg:PG X tg g) (hb:PSs X body tb)
  (hs:∀ x,foldedSetIterable iter X.env x=pure x:=by intro _;rfl):PS X (.For tg iter body [] pos) (ac7 wi g tb):=by
 intro pins s σ H D I h;refine wpAny_For (thn (hi pins s σ H _ I h) fun v s1 h1=>thn h1 fun itv s2 h2=>?_) hs;obtain ⟨it,fp,tn,J,H2,e,I2,T,st2,f2,W,⟨m0,w0⟩,turn⟩:=h2;subst e;have stat:∀ {H':Hp},(∀ b∈fp,H' b=none)->∀ b∈fp,oE X pins H' b:=fun hn b hb=>⟨hn b hb,(f2 b hb).2⟩
 refine codeAny_forLoop_any (fun n s'=>∃ i σ' H',Inv X pins σ' H' s'/\tn i s'.heap/\(∀ b∈fp,H' b=none)/\W i n σ' H') ?_ m0 ⟨0,σ,H2,I2,st2,fun b hb=>(f2 b hb).1,w0⟩;rintro n s3 ⟨i,σ3,H3,I3,st3,fr3,w3⟩;rcases turn i n σ3 H3 w3 with ⟨stop,qn⟩ | ⟨go,N,hN,step⟩
 .refine wpAny_passesOwn hp (thn (T.done X rfl rfl rfl hc i pins s3 σ3 H3 X.xe I3 (stat fr3) st3 stop) fun r s4 ⟨hr,I4⟩=>?_);subst hr;exact wpAny_execs_nil ⟨σ3,H3,I4,qn⟩
 .refine wpAny_passesOwn hp (thn (T.item X rfl rfl rfl hc i pins s3 σ3 H3 X.xe I3 (stat fr3) st3 go) fun r s4 ⟨u,hr,h4⟩=>?_);subst hr;refine wpAny_passesOwn hp (thn h4 fun _ s5 ⟨x,H5,I5,r5,y5,st5,fr5⟩=>?_);have I5':=I5.pinned (stat fr5) (T.obj _ _ st5);refine wpAny_passesOwn hp (thn (hg _ s5 σ3 H5 x u _ I5' r5 (step x H5 y5)) fun _ s6 ⟨σ6,H6,I6,q6⟩=>?_);refine wpAny_passesOwn hp (thn (hb _ s6 σ6 H6 _ I6 q6) fun f s7 q7=>?_);have again:∀ {σ7:St}{H7:Hp},Inv X (pins++yC fp s5.heap) σ7 H7 s7->N σ7 H7->∃ m,m < n/\∃ i σ' H',Inv X pins σ' H' s7/\tn i s7.heap/\(∀ b∈fp,H' b=none)/\W i m σ' H':=fun {σ7 H7} I7 n7=>by
   obtain ⟨m',hm,w7⟩:=hN σ7 H7 n7;refine ⟨m',hm,i+1,σ7,H7,I7.unpinned,T.keep _ _ _ st5 fun b hb o e=>(I7.pin (b,o) (List.mem_append_right _ (List.mem_append_right _ (o8 hb e)))).1,fun b hb=>?_,w7⟩;obtain ⟨o,e,d⟩:=T.obj _ _ st5 b hb;exact (I7.pin (b,o) (List.mem_append_right _ (List.mem_append_right _ (o8 hb e)))).2.1
  cases f with
  | next=>obtain ⟨σ7,H7,I7,n7⟩:=q7;exact again I7 n7
  | cont=>obtain ⟨σ7,H7,I7,n7⟩:=q7;exact again I7 n7
  | brk=>obtain ⟨σ7,H7,I7,q7⟩:=q7;exact ⟨σ7,H7,I7.unpinned,q7⟩
  | ret v=>obtain ⟨x7,σ7,H7,I7,r7,q7⟩:=q7;exact ⟨x7,σ7,H7,I7.unpinned,r7,q7⟩
end
end L2
namespace L2
open PySem PySem.Spec PyProof.Rows
abbrev R2:=V->V->Hp->VK->Prop
def OpR (X:Cx) (f:Value->Value->Sem Value) (r:R2):Prop :=
 ∀ (pins:List (Addr × Obj)) (s:Shared) (σ:St) (H:Hp) (x y:V) (v u:Value) (Q:VK),Inv X pins σ H s->RelV x v->RelV y u->r x y H Q ->
  wpAny (model X.prog X.w) X.A (f v u) (EP X pins σ Q) X.xe s
def UnR (X:Cx) (f:Value->Sem Value) (r:V->Hp->VK->Prop):Prop :=
 ∀ (pins:List (Addr × Obj)) (s:Shared) (σ:St) (H:Hp) (x:V) (v:Value) (Q:VK),Inv X pins σ H s->RelV x v->r x H Q ->
  wpAny (model X.prog X.w) X.A (f v) (EP X pins σ Q) X.xe s
def gn (X:Cx) (f:Value) (r:List V->Hp->VK->Prop):Prop :=
 ∀ (pins:List (Addr × Obj)) (s:Shared) (σ:St) (H:Hp) (xs:List V) (us:List Value) (Q:VK),Inv X pins σ H s->Vals xs us->r xs H Q ->
  wpAny (model X.prog X.w) X.A (call f us) (EP X pins σ Q) X.xe s
def ac9 (X:Cx) (r:V->Hp->(Bool->Hp->Prop)->Prop):Prop :=
 ∀ (pins:List (Addr × Obj)) (s:Shared) (σ:St) (H:Hp) (x:V) (v:Value) (Q:Bool->Hp->Prop),Inv X pins σ H s->RelV x v->r x H Q ->
  wpAny (model X.prog X.w) X.A (truthy v) (TP X pins σ Q) X.xe s
def tOp (r:R2) (ta tb:TE):TE:=fun σ H Q=>ta σ H fun x H1=>tb σ H1 fun y H2=>r x y H2 Q
def tUn (r:V->Hp->VK->Prop) (ta:TE):TE:=fun σ H Q=>ta σ H fun x H1=>r x H1 Q
def rI (C:Int->Int->Prop) (g:Int->Int->V):R2:=fun x y H Q=>∃ i j,x=.int i/\y=.int j/\C i j/\Q (g i j) H
def rI0 (g:Int->Int->V):R2:=fun x y H Q=>∃ i j,x=.int i/\y=.int j/\Q (g i j) H
def rU (g:Int->V):V->Hp->VK->Prop:=fun x H Q=>∃ i,x=.int i/\Q (g i) H
section
variable {X:Cx}{a b c:Expr}{ta tb tc:TE}{pos:Pos}
theorem Vn (ha:PE X a ta) (hb:PE X b tb) {pins:List (Addr × Obj)}{s:Shared}{σ:St}{H:Hp}{R:V->V->Hp->Prop} (I:Inv X pins σ H s)
  (h:ta σ H fun x H1=>tb σ H1 fun y H2=>R x y H2) {Q:Value->Shared->Prop}{f:Value->Value->Sem Value}
  (hf:∀ v u s2 x y H2,Inv X pins σ H2 s2->RelV x v->RelV y u->R x y H2->wpAny (model X.prog X.w) X.A (f v u) Q X.xe s2) :
  wpAny (model X.prog X.w) X.A (eval a X.env) (fun v s₁=>wpAny (model X.prog X.w) X.A (eval b X.env) (fun u s₂=>wpAny (model X.prog X.w) X.A (f v u) Q X.xe s₂) X.xe s₁) X.xe s:=by
 refine thn (ha pins s σ H _ I h) fun v s1 ⟨x,H1,I1,r1,q1⟩=>?_
 refine thn (hb pins s1 σ H1 _ I1 q1) fun u s2 ⟨y,H2,I2,r2,q2⟩=>?_
 exact hf v u s2 x y H2 I2 r1 r2 q2
theorem Wl {op:Operator}{r:R2} (ho:OpR X (binaryOp op) r) (ha:PE X a ta) (hb:PE X b tb):PE X (.BinOp a op b pos) (tOp r ta tb):=by
 intro pins s σ H Q I h;exact wpAny_BinOp (Vn ha hb I h fun v u s2 x y H2 I2 rx ry q=>ho pins s2 σ H2 x y v u Q I2 rx ry q)
theorem acI {op:UnaryOp}{r:V->Hp->VK->Prop} (ho:UnR X (unaryOp op) r) (ha:PE X a ta):PE X (.UnaryOp op a pos) (tUn r ta):=by
 intro pins s σ H Q I h;exact UnaryOp_ (thn (ha pins s σ H _ I h) fun v s1 ⟨x,H1,I1,r1,q1⟩=>ho pins s1 σ H1 x v Q I1 r1 q1)
theorem opI {f:Value->Value->Sem Value}{C:Int->Int->Prop}{g:Int->Int->Int}
  (rule:∀ (i j:Int) (t u:Tok) (s:Shared) (Q:Value->Shared->Prop) (E:Value->Shared->Prop),C i j->Q (.int (g i j) s.toks) { s with toks:=s.toks+1 }->wpAny (model X.prog X.w) X.A (f (.int i t) (.int j u)) Q E s) :
  OpR X f (rI C fun i j=>.int (g i j)):=by
 intro pins s σ H x y v u Q I rx ry h;obtain ⟨i,j,rfl,rfl,hc,q⟩:=h;obtain ⟨t,rfl⟩:=rx;obtain ⟨t',rfl⟩:=ry;exact rule i j t t' s _ _ hc ⟨.int (g i j),H,I.tok _,⟨_,rfl⟩,q⟩
theorem aar {f:Value->Value->Sem Value}{g:Int->Int->Int}
  (rule:∀ (i j:Int) (t u:Tok) (s:Shared) (Q:Value->Shared->Prop) (E:Value->Shared->Prop),Q (.int (g i j) s.toks) { s with toks:=s.toks+1 }->wpAny (model X.prog X.w) X.A (f (.int i t) (.int j u)) Q E s) :
  OpR X f (rI0 fun i j=>.int (g i j)):=by
 intro pins s σ H x y v u Q I rx ry h;obtain ⟨i,j,rfl,rfl,q⟩:=h;obtain ⟨t,rfl⟩:=rx;obtain ⟨t',rfl⟩:=ry;exact rule i j t t' s _ _ ⟨.int (g i j),H,I.tok _,⟨_,rfl⟩,q⟩
theorem Pz {f:Value->Value->Sem Value}{g:Int->Int->Bool}
  (rule:∀ (i j:Int) (t u:Tok) (s:Shared) (Q:Value->Shared->Prop) (E:Value->Shared->Prop),Q (.bool (g i j)) s->wpAny (model X.prog X.w) X.A (f (.int i t) (.int j u)) Q E s) :
  OpR X f (rI0 fun i j=>.bl (g i j)):=by
 intro pins s σ H x y v u Q I rx ry h;obtain ⟨i,j,rfl,rfl,q⟩:=h;obtain ⟨t,rfl⟩:=rx;obtain ⟨t',rfl⟩:=ry;exact rule i j t t' s _ _ ⟨.bl (g i j),H,I,rfl,q⟩
def aaX (i j:Int):Prop:=0 < j/\j < 1073741824
def Nr (i j:Int):Prop:=(-(2 ^ 64) < i/\i < 2 ^ 64)\/(-(2 ^ 64) < j/\j < 2 ^ 64)
theorem Nr.ok {i j:Int} (h:Nr i j):IntMulOk i j:=by
 rcases h with ⟨h1,h2⟩ | ⟨h1,h2⟩
 .exact .of_left (intBits_le_64 h1 h2)
 .exact .of_right (intBits_le_64 h1 h2)
theorem aa4:OpR X (binaryOp .Add) (rI0 fun i j=>.int (i+j)):=aar fun _ _ _ _ _ _ _ q=>add_int q
theorem aap:OpR X (binaryOp .Sub) (rI0 fun i j=>.int (i - j)):=aar fun _ _ _ _ _ _ _ q=>sub_int q
theorem aad:OpR X (binaryOp .Mult) (rI Nr fun i j=>.int (i * j)):=opI fun _ _ _ _ _ _ _ hc q=>mul_int q hc.ok
theorem Yt:OpR X (binaryOp .FloorDiv) (rI aaX fun i j=>.int (i / j)):=opI fun i j _ _ _ _ _ hc q=>by
 have h1:(0:Int) < j:=hc.1;have h2:j < 1073741824:=hc.2;exact floordiv_int (by omega) (by rw [Int.fdiv_eq_ediv_of_nonneg i (by omega)];exact q) (.inl (PyProof.noPylong_small (by omega)))
theorem abe:OpR X (binaryOp .Mod) (rI (fun _ j=>0 < j) fun i j=>.int (i % j)):=opI fun i j _ _ _ _ _ hc q=>by
 have h1:(0:Int) < j:=hc;exact mod_int' (by omega) (by rw [Int.fmod_eq_emod_of_nonneg i (by omega)];exact q)
theorem unI {f:Value->Sem Value}{g:Int->Int}
  (rule:∀ (i:Int) (t:Tok) (s:Shared) (Q:Value->Shared->Prop) (E:Value->Shared->Prop),Q (.int (g i) s.toks) { s with toks:=s.toks+1 }->wpAny (model X.prog X.w) X.A (f (.int i t)) Q E s) :
  UnR X f (rU fun i=>.int (g i)):=by
 intro pins s σ H x v Q I rx h;obtain ⟨i,rfl,q⟩:=h;obtain ⟨t,rfl⟩:=rx;exact rule i t s _ _ ⟨.int (g i),H,I.tok _,⟨_,rfl⟩,q⟩
theorem Zt:UnR X (unaryOp .USub) (rU fun i=>.int (-i)):=unI fun _ _ _ _ _ q=>neg_int q
end
section
variable {X:Cx}{a b c:Expr}{ta tb tc:TE}{pos:Pos}
theorem Rt {pins:List (Addr × Obj)}{σ:St}{H:Hp}{s:Shared}{Q:VK}{k k':Bool} (I:Inv X pins σ H s) (q:Q (.bl k) H) (e:k=k'):EP X pins σ Q (.bool k') s:=by
 subst e;exact ⟨.bl k,H,I,rfl,q⟩
theorem ac3:OpR X (compareOp .Lt) (rI0 fun i j=>.bl (decide (i < j))):=Pz fun _ _ _ _ _ _ _ q=>lt_int q
theorem acz:OpR X (compareOp .LtE) (rI0 fun i j=>.bl (decide (i<=j))):=Pz fun _ _ _ _ _ _ _ q=>le_int q
theorem acs:OpR X (compareOp .Gt) (rI0 fun i j=>.bl (decide (j < i))):=Pz fun _ _ _ _ _ _ _ q=>gt_int q
theorem acJ:OpR X (compareOp .GtE) (rI0 fun i j=>.bl (decide (j<=i))):=Pz fun _ _ _ _ _ _ _ q=>ge_int q
theorem Rn:OpR X (compareOp .In) (fun x y H Q=>∃ i j,x=.str i/\y=.str j/\Q (.bl (!(Builtin.Str.occurrences j i 0 j.length 1).isEmpty)) H):=by
 intro pins s σ H x y v u Q I rx ry h;obtain ⟨i,j,rfl,rfl,q⟩:=h;obtain ⟨t,rfl⟩:=rx;obtain ⟨t',rfl⟩:=ry;exact in_str (Rt I q rfl)
theorem Jr:OpR X (compareOp .NotIn) (fun x y H Q=>∃ i j,x=.str i/\y=.str j/\Q (.bl (!(!(Builtin.Str.occurrences j i 0 j.length 1).isEmpty))) H):=by
 intro pins s σ H x y v u Q I rx ry h;obtain ⟨i,j,rfl,rfl,q⟩:=h;obtain ⟨t,rfl⟩:=rx;obtain ⟨t',rfl⟩:=ry;exact notIn_str (Rt I q rfl)
theorem OpR.or {f:Value->Value->Sem Value}{r r':R2} (h:OpR X f r) (h':OpR X f r'):OpR X f (fun x y H Q=>r x y H Q\/r' x y H Q):=by
 intro pins s σ H x y v u Q I rx ry q;rcases q with q | q
 .exact h pins s σ H x y v u Q I rx ry q
 .exact h' pins s σ H x y v u Q I rx ry q
theorem Lw {op:CmpOp}{r:R2} (ho:OpR X (compareOp op) r) (ha:PE X a ta) (hb:PE X b tb) (hm:behindInMarks op b=false):PE X (.Compare a [op] [b] pos) (tOp r ta tb):=by
 intro pins s σ H Q I h;exact wpAny_Compare1 (Vn ha hb I h fun v u s2 x y H2 I2 rx ry q=>ho pins s2 σ H2 x y v u Q I2 rx ry q) hm
def W2 (t:TE):TT:=fun σ H Q=>t σ H fun x H'=>∃ k,x=.bl k/\Q k H'
theorem X5 {op:CmpOp}{r:R2} (ho:OpR X (compareOp op) r) (ha:PE X a ta) (hb:PE X b tb) (hm:behindInMarks op b=false):PT X (.Compare a [op] [b] pos) (W2 (tOp r ta tb)):=by
 intro pins s σ H Q I h;refine wpAny_isTrue_Compare1 (thn (ha pins s σ H _ I h) fun v s1 ⟨x,H1,I1,r1,q1⟩=>thn (hb pins s1 σ H1 _ I1 q1) fun u s2 ⟨y,H2,I2,r2,q2⟩ =>
  thn (ho pins s2 σ H2 x y v u _ I2 r1 r2 q2) fun c s3 ⟨z,H3,I3,r3,k,e,q3⟩=>?_) hm
 subst e;cases r3;exact wpAny_truthy_bool ⟨H3,I3,q3⟩
def Jy (r r':R2) (ta tb tc:TE):TE:=fun σ H Q=>ta σ H fun x H1=>tb σ H1 fun y H2=>r x y H2 fun z H3=>∃ k,z=.bl k /\
 (if k=true then tc σ H3 fun w' H4=>r' y w' H4 Q else Q (.bl false) H3)
theorem TV {op op':CmpOp}{r r':R2} (ho:OpR X (compareOp op) r) (ho':OpR X (compareOp op') r') (ha:PE X a ta) (hb:PE X b tb) (hc:PE X c tc)
  (hm:lastMarks [op,op'] [b,c]=false:=by with_unfolding_all rfl):PE X (.Compare a [op,op'] [b,c] pos) (Jy r r' ta tb tc):=by
 intro pins s σ H Q I h;refine Compare_chain (thn (ha pins s σ H _ I h) fun v s1 ⟨x,H1,I1,r1,q1⟩=>chain_link (thn (hb pins s1 σ H1 _ I1 q1) fun u s2 ⟨y,H2,I2,r2,q2⟩ =>
  thn (ho pins s2 σ H2 x y v u _ I2 r1 r2 q2) fun d s3 ⟨z,H3,I3,r3,k,e,q3⟩=>?_)) hm
 subst e;cases r3;refine wpAny_truthy_bool ?_;cases k with
 | false=>exact ite_ff ⟨.bl false,H3,I3,rfl,q3⟩
 | true=>exact ite_tt (chain_last (thn (hc pins s3 σ H3 _ I3 q3) fun w' s4 ⟨z',H4,I4,r4,q4⟩=>ho' pins s4 σ H4 y z' u w' Q I4 r2 r4 q4))
theorem T3 {op op':CmpOp}{r r':R2} (ho:OpR X (compareOp op) r) (ho':OpR X (compareOp op') r') (ha:PE X a ta) (hb:PE X b tb) (hc:PE X c tc)
  (hm:lastMarks [op,op'] [b,c]=false:=by with_unfolding_all rfl):PT X (.Compare a [op,op'] [b,c] pos) (W2 (Jy r r' ta tb tc)):=by
 intro pins s σ H Q I h;refine isTrue_chain (thn (ha pins s σ H _ I h) fun v s1 ⟨x,H1,I1,r1,q1⟩=>test_link (thn (hb pins s1 σ H1 _ I1 q1) fun u s2 ⟨y,H2,I2,r2,q2⟩ =>
  thn (ho pins s2 σ H2 x y v u _ I2 r1 r2 q2) fun d s3 ⟨z,H3,I3,r3,k,e,q3⟩=>?_)) hm
 subst e;cases r3;refine wpAny_truthy_bool ?_;cases k with
 | false =>
  obtain ⟨k',e',q'⟩:=q3;cases e';exact ite_ff ⟨H3,I3,q'⟩
 | true =>
  refine ite_tt (test_last (thn (hc pins s3 σ H3 _ I3 q3) fun w' s4 ⟨z',H4,I4,r4,q4⟩=>thn (ho' pins s4 σ H4 y z' u w' _ I4 r2 r4 q4) fun d' s5 ⟨z2,H5,I5,r5,k2,e2,q5⟩=>?_));subst e2;cases r5;exact wpAny_truthy_bool ⟨H5,I5,q5⟩
def aaQ (K:PySem.W.Frag) (x:V) (H:Hp) (k:Bool):Prop :=
 match x with
 | .non=>k=false
 | .bl b=>k=b
 | .int i=>k=(i != 0)
 | .str y=>y.length<=sizeLine/\k=((y.length:Int) != 0)
 | .byt y=>y.size<=sizeLine/\k=((y.size:Int) != 0)
 | .ref p=>(∃ xs,SqL K H p xs/\k=!xs.isEmpty)\/(∃ xs,SqT K H p xs/\k=!xs.isEmpty)\/∃ kvs,H p=some (.dK kvs)/\k=!kvs.isEmpty
 | _=>False
theorem PK {κ:Type}{kvs:List (κ × V)}{vs:List (κ × Value)} (r:KV kvs vs):(!vs.isEmpty)=!kvs.isEmpty:=by
 cases r <;> rfl
theorem Dg {xs:List V}{its:List Value} (r:Vals xs its):(!its.toArray.isEmpty)=!xs.isEmpty:=by
 cases r <;> simp
theorem ud:(sizeLine:Nat) < 2 ^ 63:=by rw [sizeLine_eq];decide
theorem abK:ac9 X (fun x H Q=>∃ k,aaQ X.K x H k/\Q k H):=by
 intro pins s σ H x v Q I rx h;obtain ⟨k,e,q⟩:=h;have hl:=ud;have hs:sizeLine=16777216:=sizeLine_eq;cases x with
 | non =>
  cases rx;have e':k=false:=e;subst e';exact truthy_none ⟨H,I,q⟩
 | bl b =>
  cases rx;have e':k=b:=e;subst e';exact wpAny_truthy_bool ⟨H,I,q⟩
 | int i =>
  obtain ⟨t,rfl⟩:=rx;have e':k=(i != 0):=e;subst e';exact PySem.P.truthy_int ⟨H,I,q⟩
 | str y =>
  obtain ⟨t,rfl⟩:=rx;obtain ⟨hy,e'⟩:y.length<=sizeLine/\k=((y.length:Int) != 0):=e;subst e';exact PySem.P.truthy_str (by omega) ⟨H,I.tok _,q⟩
 | byt y =>
  obtain ⟨t,rfl⟩:=rx;obtain ⟨hy,e'⟩:y.size<=sizeLine/\k=((y.size:Int) != 0):=e;subst e';exact PySem.W.truthy_bytes (by omega) ⟨H,I.tok _,q⟩
 | ref p =>
  cases rx;have e':(∃ xs,SqL X.K H p xs/\k=!xs.isEmpty)\/(∃ xs,SqT X.K H p xs/\k=!xs.isEmpty)\/∃ kvs,H p=some (.dK kvs)/\k=!kvs.isEmpty:=e;rcases e' with ⟨xs,hx,e'⟩ | ⟨xs,hx,e'⟩ | ⟨kvs,hx,e'⟩
  .subst e';obtain ⟨its,r,pl,hz⟩:=I.list hx;have hlen:=r.length;exact wpAny_truthy_list pl.isList (by simp only [List.size_toArray];omega) ⟨H,I.tok _,by rw [Dg r];exact q⟩
  .subst e';obtain ⟨its,r,pl,hz⟩:=I.tuple hx;have hlen:=r.length;exact truthy_tuple pl (by simp only [List.size_toArray];omega) ⟨H,I.tok _,by rw [Dg r];exact q⟩
  .subst e';obtain ⟨hz,hS,vs,r,m⟩:kvs.length<=sizeLine/\(p == sysModules)=false/\∃ vs,KV kvs vs/\s.heap.DictOf (DN X.prog X.w) p vs:=I.hok p _ hx;have hlen:kvs.length=vs.length:=Paired.length r;exact wpAny_truthy_dict hS m (by omega) ⟨H,I.tok _,by rw [PK r];exact q⟩
 | _=>exact (show False from e).elim
theorem Uj (ha:PE X a ta) (he:∀ whole,isTrue a X.env whole=(do let v <- whole;standAt a.pos;holding [v] (truthy v))) :
  PT X a (fun σ H Q=>ta σ H fun x H'=>∃ k,aaQ X.K x H' k/\Q k H'):=by
 intro pins s σ H Q I h;exact isTrue_plain (thn (ha pins s σ H _ I h) fun v s1 ⟨x,H1,I1,r1,q1⟩=>abK pins s1 σ H1 x v Q I1 r1 q1) (he _)
theorem Om:OpR X (binaryOp .Add) (fun x y H Q=>∃ i j,x=.str i/\y=.str j/\i.length+j.length<=sizeLine/\Q (.str (i++j)) H):=by
 intro pins s σ H x y v u Q I rx ry h;obtain ⟨i,j,rfl,rfl,hz,q⟩:=h;obtain ⟨t,rfl⟩:=rx;obtain ⟨t',rfl⟩:=ry;exact add_str (fun t' tk=>⟨.str (i++j),H,I.tok _,⟨_,rfl⟩,q⟩) hz
theorem vals1 {x:V}{us:List Value} (r:Vals [x] us):∃ u,us=[u]/\RelV x u:=by
 cases r with
 | cons r1 r2=>cases r2;exact ⟨_,rfl,r1⟩
theorem vals2 {x y:V}{us:List Value} (r:Vals [x,y] us):∃ u w',us=[u,w']/\RelV x u/\RelV y w':=by
 cases r with
 | cons r1 r2 =>
  cases r2 with
  | cons r3 r4=>cases r4;exact ⟨_,_,rfl,r1,r3⟩
theorem R9 (hc:X.calm=true):gn X (.builtin "min") (fun xs H Q=>∃ i j,xs=[.int i,.int j] /\ Q (.int (if j < i then j else i)) H):=by
 intro pins s σ H xs us Q I r h;obtain ⟨i,j,rfl,q⟩:=h;obtain ⟨u,w',rfl,⟨t,rfl⟩,⟨t',rfl⟩⟩:=vals2 r;refine min_two_ints (I.ok.hd hc) fun h' tk k=>⟨_,H,I.kept k,?_,q⟩
 by_cases hj:j < i
 .rw [if_pos hj,if_pos hj];exact ⟨_,rfl⟩
 .rw [if_neg hj,if_neg hj];exact ⟨_,rfl⟩
end
end L2
namespace L2
open PySem PySem.Spec PyProof.Rows
structure ObjM (h:Heap) (x dx C:Addr) (mA:Str->Option Value):Prop where
 obj:h.get? x=some (PySem.W.instObj C dx)
 ns:h.Ns1 dx mA
 ne:dx≠x
theorem Ge {h:Heap}{dx:Addr}{mA:Str->Option Value} (n:h.Ns1 dx mA):∃ od,h.get? dx=some od/\∀ name,PySem.W.lookIn name od=some (mA name):=by
 obtain ⟨o,es,ep,ho,hd,hk,_,hm⟩:=n;refine ⟨o,ho,fun name=>?_⟩;have e:=hm name;unfold nsFind findBy at e;rw [<- Array.find?_toList] at e;unfold PySem.W.lookIn;rw [hd];dsimp only;split
 .rename_i y q;rw [q] at e;exact congrArg some e
 .rename_i q;rw [q] at e;have a:es.toList.any (·.refKey)=false:=by
   rw [List.any_eq_false];intro y hy;obtain ⟨z,t,hkey⟩:=hk y (Array.mem_toList_iff.mp hy);simp [DictEntry.refKey,hkey]
  have a':¬ es.toList.any (·.refKey)=true:=by rw [a];exact Bool.false_ne_true
  rw [if_neg a'];exact congrArg some e
theorem ObjM.look {h:Heap}{x dx C:Addr}{mA:Str->Option Value} (I:ObjM h x dx C mA):∃ od,PySem.W.InstAt h x (PySem.W.instObj C dx) C (some od)/\∀ name,PySem.W.lookIn name od=some (mA name) :=
 let ⟨od,ho,hl⟩:=Ge I.ns
 ⟨od,⟨I.obj,rfl,rfl,ho⟩,hl⟩
section
variable {prog:Program}{w:World}{A:Around}{E:Value->Shared->Prop}{s:Shared}{K:PySem.W.Frag}{x dx C f:Addr}{mA:Str->Option Value}{name:Str}{v:Value}
end
section
variable {P:Program}{w:World}{H H':Hp}{h h':Heap}{a C dx:Addr}{fs fs':List (Str × V)}
theorem Xn (hok:HOk P w H h) (e:H a=some (.ins C dx fs)):∃ mA,ObjM h a dx C mA/\(∀ f,Nx (fs.lookup f) (mA f))/\PySem.Within mA (fs.map (·.1))/\fs.length<=1000/\H dx=some (.own a):=by
 obtain ⟨d,z,ne,ob,mA,n,r,q⟩:=(show bY P w H h a (.ins C dx fs) from hok a _ e);exact ⟨mA,⟨ob,n,ne⟩,r,q,z,d⟩
end
structure Cls (K:PySem.W.Frag) (C:Addr):Prop where
 pg:PySem.W.plainGet K C Str.empty=true
 hd:PySem.W.hasDictIn K C=true
 po:PySem.W.plainOver K C=true
 sa:PySem.W.findIn K (.ref C) "__setattr__"=some (some (.builtin "object.__setattr__"))
theorem Cls.get {K:PySem.W.Frag}{C:Addr} (c:Cls K C) (f:Str):PySem.W.plainGet K C f=true:=c.pg
section
variable {X:Cx}{pins:List (Addr × Obj)}{σ:St}{H:Hp}{s:Shared}{a C dx:Addr}{fs:List (Str × V)}{f:Str}{v:V}{A:Around}{E:Value->Shared->Prop}
theorem YT {prog:Program}{w:World}{env:Env}{e:Expr}{f:Str}{pos:Pos}{s:Shared}{Q:Value->Shared->Prop} (hb:attributeBase e f env (eval e env)=eval e env)
  (h:wpAny (model prog w) A (eval e env) (fun o s₁=>wpAny (model prog w) A (getAttr o f true) Q E s₁) E s):wpAny (model prog w) A (eval (.Attribute e f pos) env) Q E s :=
 Attribute_any_ h (by rw [arm_eval_Attribute,hb])
end
section
variable {X:Cx}{o e value:Expr}{f:Str}{pos pos' tpos:Pos}{ta tv:TE}
end
section
variable {X:Cx}{pins:List (Addr × Obj)}{σ:St}{H:Hp}{s:Shared}{A:Around}{E:Value->Shared->Prop}{Q:Value->Shared->Prop}{c:Value}{b:Bool}
inductive TyOf (K:PySem.W.Frag) (H:Hp):V->Value->Prop where
 | non:TyOf K H .non (.type "NoneType")
 | bl (x:Bool):TyOf K H (.bl x) (.type "bool")
 | int (i:Int):TyOf K H (.int i) (.type "int")
 | str (x:Str):TyOf K H (.str x) (.type "str")
 | flt (x:UInt64):TyOf K H (.flt x) (.type "float")
 | lst {a:Addr}{xs:List V} (e:H a=some (.lst xs)):TyOf K H (.ref a) (.type "list")
 | frz {a:Addr}{o:Obj}{xs:List V} (e:H a=some (.frz o (.lst xs))):TyOf K H (.ref a) (.type "list")
 | tup {a:Addr}{xs:List V} (e:H a=some (.tup xs)):TyOf K H (.ref a) (.type "tuple")
 | dK {a:Addr}{kvs:List (Key × V)} (e:H a=some (.dK kvs)):TyOf K H (.ref a) (.type "dict")
 | dT {a:Addr}{kvs:List (List Key × V)} (e:H a=some (.dT kvs)):TyOf K H (.ref a) (.type "dict")
 | ins {a C dx:Addr}{fs:List (Str × V)} (e:H a=some (.ins C dx fs)) (cl:Cls K C) (ha:PySem.W.findIn K (.ref C) "__class__"=some (some (.builtin "object.__class__")))
   (hn:PySem.W.specialIn K (.builtin "object.__class__") "__get__"=some (some (.builtin "getset_descriptor.__get__"))) (htk:PySem.W.takesIn K (.builtin "object.__class__")=some true)
   (hm:PySem.W.mroIn K C (.type "object")=some true):TyOf K H (.ref a) (.ref C)
theorem rW {x:V}{u t:Value} (I:Inv X pins σ H s) (rx:RelV x u) (ty:TyOf X.K H x t) (e:PySem.W.kitOne X.K t c=some b) (h:∀ tk,Q (.bool b) { s with toks:=tk }) :
  wpAny (model X.prog X.w) A (call (.builtin "isinstance") [u,c]) Q E s:=by
 cases ty with
 | non=>cases (show u=Value.none from rx);exact PySem.W.kia_one PySem.W.kitx_none I.kIn True.intro e (fun z=>nomatch z) h
 | bl y=>cases (show u=Value.bool y from rx);exact PySem.W.kia_one PySem.W.kitx_bool I.kIn True.intro e (fun z=>nomatch z) h
 | int i=>obtain ⟨t,q⟩:=(show ∃ t,u=Value.int i t from rx);cases q;exact PySem.W.kia_one PySem.W.kitx_int I.kIn True.intro e (fun z=>nomatch z) h
 | str y=>obtain ⟨t,q⟩:=(show ∃ t,u=Value.str y t from rx);cases q;exact PySem.W.kia_one PySem.W.kitx_str I.kIn True.intro e (fun z=>nomatch z) h
 | flt y=>obtain ⟨t,q⟩:=(show ∃ t,u=Value.float y t from rx);cases q;exact PySem.W.kia_one PySem.W.kitx_float I.kIn True.intro e (fun z=>nomatch z) h
 | @lst a xs ea =>
  cases (show u=Value.ref a from rx);obtain ⟨_,_,n,_,h1⟩:=(show bY X.prog X.w H s.heap a (.lst xs) from I.hok a _ ea);exact PySem.W.kia_one PySem.W.kitx_list I.kIn ⟨_,h1,rfl⟩ e (fun z=>nomatch z) h
 | @frz a ob xs ea =>
  cases (show u=Value.ref a from rx);obtain ⟨_,_,_,n,_,h1⟩:=(show bY X.prog X.w H s.heap a (.frz ob (.lst xs)) from I.hok a _ ea);exact PySem.W.kia_one PySem.W.kitx_list I.kIn ⟨_,h1,rfl⟩ e (fun z=>nomatch z) h
 | @tup a xs ea =>
  cases (show u=Value.ref a from rx);obtain ⟨_,_,_,p⟩:=(show bY X.prog X.w H s.heap a (.tup xs) from I.hok a _ ea);obtain ⟨o,h1,h2,_⟩:=p;exact PySem.W.kia_one PySem.W.kitx_tuple I.kIn ⟨o,h1,h2⟩ e (fun z=>nomatch z) h
 | @dK a kvs ea =>
  cases (show u=Value.ref a from rx);obtain ⟨_,_,vs,_,p⟩:=(show bY X.prog X.w H s.heap a (.dK kvs) from I.hok a _ ea);obtain ⟨o,es,ep,h1,h2,_⟩:=p;exact PySem.W.kia_one PySem.W.kitx_dict I.kIn ⟨o,h1,h2.1⟩ e (fun z=>nomatch z) h
 | @dT a kvs ea =>
  cases (show u=Value.ref a from rx);obtain ⟨_,_,xs,_,o,es,ep,h1,h2,_⟩:=(show bY X.prog X.w H s.heap a (.dT kvs) from I.hok a _ ea);exact PySem.W.kia_one PySem.W.kitx_dict I.kIn ⟨o,h1,h2.1⟩ e (fun z=>nomatch z) h
 | @ins a C dx fs ea cl ha hn htk hm =>
  cases (show u=Value.ref a from rx);obtain ⟨mA,O,_⟩:=Xn I.hok ea;obtain ⟨od,J,_⟩:=O.look;exact PySem.W.kia_one (PySem.W.kitx_own (cl.get _) cl.hd ha hn htk hm) I.kIn J e (fun z=>nomatch z) h
end
end L2
namespace L2
open PySem PySem.Spec PyProof.Rows
structure Room (k:Nat) (A:Around):Prop where
 hd:A.handled=none
 dp:A.depth+3 * k+5 < recursionLimit
 un:A.units+16 * k+200 < cLine
theorem Room.deeper {k:Nat}{A:Around} (r:Room (k+1) A) (env:Env):Room k (A.deeper env) :=
 ⟨r.hd,by have:=r.dp;show A.depth+1+3 * k+5 < _;omega,by have:=r.un;show A.units+3+16 * k+200 < _;omega⟩
theorem Nb {A:Around}{C:Addr}{us:List Value}{kw:List (Str × Value)}:(A.under (.builtin "type.__call__" ⟨.ref C::us,kw⟩)).depth=A.depth+1:=by
 first | rfl | simp [Around.under,Code.weight,Code.isCreation,Code.isGuard,Code.isCaller,Code.frames,Code.isFrame,guardIds]
theorem Room.depth {k:Nat}{A:Around} (r:Room k A):A.depth < recursionLimit:=by have:=r.dp;omega
def Iz:TA:=fun _ H Q=>Q [] H
def Hl (ta:TE) (tr:TA):TA:=fun σ H Q=>ta σ H fun x H1=>tr σ H1 fun xs H2=>Q (x::xs) H2
section
variable {X:Cx}{e:Expr}{es:List Expr}{te:TE}{t:TA}{pos:Pos}
theorem jz:PA X [] Iz:=fun _ _ _ _ H Q I h=>Calls.spliced_nil ⟨[],H,I,.nil,h⟩
theorem dw (ha:PE X e te) (hr:PA X es t) (hs:starEach (e::es) X.env=(false,eval e X.env)::starEach es X.env:=by rfl):PA X (e::es) (Hl te t):=by
 intro pos pins s σ H Q I h;rw [hs];show wpAny _ _ (spliced ((false,eval e X.env)::backTo pos (starEach es X.env))) _ _ s
 refine Calls.spliced_cons (thn (ha pins s σ H _ I h) fun u s1 ⟨x,H1,I1,r1,q1⟩=>?_);exact thn (hr pos pins s1 σ H1 _ I1 q1) fun us s2 ⟨xs,H2,I2,r2,q2⟩=>⟨x::xs,H2,I2,.cons r1 r2,q2⟩
def adA (t:TA):TE:=fun σ H Q=>t σ H fun xs H1=>xs.length<=sizeLine/\∀ p,H1 p=none->Q (.ref p) (upd H1 p (.tup xs))
def adf (t:TA):TE:=fun σ H Q=>t σ H fun xs H1=>xs.length<=sizeLine/\∀ p,H1 p=none->Q (.ref p) (upd H1 p (.lst xs))
theorem abw {x1} (h:PA X es t):PE X (.Tuple es x1 pos) (adA t):=by
 intro pins s σ H Q I hq;refine wpAny_Tuple_spliced (thn (h pos pins s σ H _ I hq) fun us s1 ⟨xs,H1,I1,r,z,q⟩=>⟨by rw [<- r.length];exact z,?_⟩);have hf:H1 s1.heap.objs.size=none:=I1.hok.fresh (Nat.le_refl _);refine ⟨.ref s1.heap.objs.size,upd H1 s1.heap.objs.size (.tup xs),I1.laid (t':=s1.toks) (fun b u e=>Heap.get?_push_of_some _ e) (Nat.le_refl _) ?_,rfl,q _ hf⟩;exact ⟨z,us,r,⟨_,Heap.get?_push_size _ rfl,rfl,_,rfl⟩⟩
theorem JK (h:PA X es t):PE X (.List es pos) (adf t):=by
 intro pins s σ H Q I hq;refine wpAny_List_spliced (thn (h pos pins s σ H _ I hq) fun us s1 ⟨xs,H1,I1,r,z,q⟩=>⟨by rw [<- r.length];exact z,?_⟩);have hf:H1 s1.heap.objs.size=none:=I1.hok.fresh (Nat.le_refl _);refine ⟨.ref s1.heap.objs.size,upd H1 s1.heap.objs.size (.lst xs),I1.laid (t':=s1.toks) (fun b u e=>Heap.get?_push_of_some _ e) (Nat.le_refl _) ?_,rfl,q _ hf⟩;exact ⟨z,us,0,r,Heap.get?_push_size _ rfl⟩
end
abbrev Sp:=List V->Hp->VK->XK->Prop
abbrev CXT:=List Env->Hp->Shared->XK->Value->Shared->Prop
structure Env0 (P:Program) (w:World) (K:PySem.W.Frag) (mg:Str->Option Value) (base:Heap) (A:Around) (outer:List Env) (s:Shared) (H:Hp):Prop where
 frames:A.frames=some outer
 mod:Mod K mg base
 bs:∀ b o,base.get? b=some o->s.heap.get? b=some o/\H b=none
 bsz:base.objs.size<=s.heap.objs.size
 funs:s.heap.FunFrames base outer
 frf:∀ b∈frs outer,H b=none
 hok:HOk P w H s.heap
 bare:AllBare s.gens
 tab:sH K mg H
def CE (outer:List Env) (P:Program) (w:World) (H:Hp) (s:Shared) (Q:VK) (u:Value) (s':Shared):Prop :=
 ∃ v H',s'.os=s.os/\AllBare s'.gens/\Un (frs outer) [] H H' s.heap s'.heap/\HOk P w H' s'.heap/\RelV v u/\Q v H'
def CR (CX:CXT) (outer:List Env) (P:Program) (w:World) (H:Hp) (s:Shared) (Q:VK) (E:XK) (r:Result) (s':Shared):Prop :=
 match r with
 | .ok (.ret u)=>CE outer P w H s Q u s'
 | .ok _=>False
 | .error e=>CX outer H s E e s'
structure FnOk (P:Program) (w:World) (K:PySem.W.Frag) (mg:Str->Option Value) (base:Heap) (CX:CXT) (k:Nat) (f:Addr) (fd:FuncData) (ps:List Str) (sp:Sp):Prop where
 len:∀ vs H Q E,sp vs H Q E->vs.length=ps.length
 run:∀ (A:Around) (outer:List Env) (s:Shared) (H:Hp) (args:Args) (us:List Value) (vs:List V) (Q:VK) (E:XK),Room k A->Env0 P w K mg base A outer s H->BindsTo s fd args (ps.zip us)->Vals vs us->sp vs H Q E ->
  codeAny (model P w) A (.call (.ref f) args) (CR CX outer P w H s Q E) s
theorem FnOk.imp {P:Program}{w:World}{K:PySem.W.Frag}{mg:Str->Option Value}{base:Heap}{CX:CXT}{k:Nat}{f:Addr}{fd:FuncData}{ps:List Str}{sp sp':Sp} (F:FnOk P w K mg base CX k f fd ps sp)
  (h:∀ vs H Q E,sp' vs H Q E->sp vs H Q E):FnOk P w K mg base CX k f fd ps sp' :=
 ⟨fun vs H Q E q=>F.len vs H Q E (h _ _ _ _ q),fun A outer s H args us vs Q E hr he hb hv hs=>F.run A outer s H args us vs Q E hr he hb hv (h _ _ _ _ hs)⟩
theorem Env0.make {P:Program}{w:World}{K:PySem.W.Frag}{mg:Str->Option Value}{base:Heap}{A:Around}{outer:List Env}{s:Shared}{H:Hp} (e:Env0 P w K mg base A outer s H) (C:Addr) (us:List Value) (kw:List (Str × Value)) :
  Env0 P w K mg base (A.under (.builtin "type.__call__" ⟨.ref C::us,kw⟩)) outer s H:=⟨by first | exact e.frames | (simpa [Around.under,Code.envs,Code.isFrame,pushEnvs] using e.frames),e.mod,e.bs,e.bsz,e.funs,e.frf,e.hok,e.bare,e.tab⟩
section
variable {X:Cx}{pins:List (Addr × Obj)}{σ:St}{H:Hp}{s s':Shared}
theorem Inv.env0 (I:Inv X pins σ H s):Env0 X.prog X.w X.K X.mg X.base X.A X.stack s H :=
 ⟨I.ok.frames,I.ok.mod,I.bs,Nat.le_trans I.ok.bsz I.sz,I.stack,I.stkFree,I.hok,I.bare,I.ok.tab.un I.base⟩
theorem Inv.after {Q:VK}{u:Value} (I:Inv X pins σ H s) (h:CE X.stack X.prog X.w H s Q u s'):EP X pins σ Q u s':=by
 obtain ⟨v,H',os,bare,un,hok,r,q⟩:=h;obtain ⟨hh,g,d,t,os'⟩:=s';obtain rfl:os'=s.os:=os;exact ⟨v,H',I.call (h':=hh) (g':=g) (d':=d) (t':=t) (ch:=[]) un hok bare (fun b z=>absurd z (by simp)),r,q⟩
end
def Wm (sp:Sp) (dvs:List V) (E:XK) (t:TA):TE:=fun σ H Q=>t σ H fun vs H1=>sp (vs++dvs) H1 Q E
def Binds (K:PySem.W.Frag) (fd:FuncData) (ps:List Str) (ds:List Value):Prop :=
 ∀ (s:Shared) (us:List Value),K.In s.heap->(us++ds).length=ps.length->BindsTo s fd ⟨us,[]⟩ (ps.zip (us++ds))
theorem Binds.all {K:PySem.W.Frag}{fd:FuncData}{ps:List Str} (h:∀ us:List Value,us.length=ps.length->bindArgs fd ⟨us,[]⟩=pure (ps.zip us)):Binds K fd ps []:=fun s us _ hl=>by
 rw [List.append_nil] at hl ⊢;exact .of_eq (h us hl)
def Passes (CX:CXT) (X:Cx) (E:XK):Prop:=∀ (pins:List (Addr × Obj)) (σ:St) (H:Hp) (s:Shared) (e:Value) (s':Shared),Inv X pins σ H s->CX X.stack H s E e s'->X.xe e s'
section
variable {X:Cx}{CX:CXT}{k:Nat}{f C:Addr}{fd:FuncData}{ps:List Str}{sp:Sp}{dvs:List V}{ds:List Value}{E:XK}{x m:Str}{p pos apos:Pos}{e o:Expr}{es:List Expr}{ta:TE}{t:TA}
theorem Sw {pins:List (Addr × Obj)}{σ:St}{H:Hp}{s:Shared}{Q:VK}{us:List Value}{vs:List V} (F:FnOk X.prog X.w X.K X.mg X.base CX k f fd ps sp) (hr:Room k X.A) (hb:Binds X.K fd ps ds) (hd:Vals dvs ds) (hx:Passes CX X E)
  (I:Inv X pins σ H s) (r:Vals vs us) (h:sp (vs++dvs) H Q E):wpAny (model X.prog X.w) X.A (call (.ref f) us) (EP X pins σ Q) X.xe s:=by
 have r2:Vals (vs++dvs) (us++ds):=r.append hd;have hl:(us++ds).length=ps.length:=by rw [<- r2.length];exact F.len _ _ _ _ h
 refine wpAny_call (codeAny_mono (F.run X.A X.stack s H ⟨us,[]⟩ (us++ds) (vs++dvs) Q E hr I.env0 (hb s us I.kIn hl) r2 h) fun r s' hq=>?_);cases r with
 | error e=>exact hx pins σ H s e s' I hq
 | ok fl =>
  cases fl with
  | ret u=>exact I.after hq
  | next=>exact False.elim hq
  | brk=>exact False.elim hq
  | cont=>exact False.elim hq
theorem Dq (F:FnOk X.prog X.w X.K X.mg X.base CX k f fd ps sp) (hr:Room k X.A) (hg:Gl X x) (hm:X.mg x=some (.ref f)) (hk:PySem.W.keepIn X.K (.ref f)=true) (hb:Binds X.K fd ps ds) (hd:Vals dvs ds) (hx:Passes CX X E)
  (ha:PA X (e::es) t) (hdb:(x == ("__debug__":Str))=false:=by decide) (he:starEach (e::es) X.env=(false,eval e X.env)::starEach es X.env:=by rfl) (hpl:(backTo pos (starEach es X.env)).any (·.1)=false:=by rfl) :
  PE X (.Call (.Name x p) (e::es) [] pos) (Wm sp dvs E t):=by
 intro pins s σ H Q I h;refine wpAny_Call_Name_kw (kZ I hg hm ?_ hdb);refine PySem.W.callWith_K (h₀:=X.base) I.ok.mod.kin hk (thn (ha pos pins s σ H _ I h) fun us s1 ⟨vs,H1,I1,r,q⟩=>⟨I1.kIn,?_⟩) he hpl;exact Sw F hr hb hd hx I1 r q
theorem T5 (F:FnOk X.prog X.w X.K X.mg X.base CX k f fd ps sp) (hr:Room k X.A) (hg:Gl X x) (hm:X.mg x=some (.ref f)) (hk:PySem.W.keepIn X.K (.ref f)=true) (hb:Binds X.K fd ps ds) (hd:Vals dvs ds) (hx:Passes CX X E)
  (hdb:(x == ("__debug__":Str))=false:=by decide):PE X (.Call (.Name x p) [] [] pos) (Wm sp dvs E Iz):=by
 intro pins s σ H Q I h;refine wpAny_Call_Name_kw (kZ I hg hm ?_ hdb);exact PySem.W.callWith_K0 I.kIn hk (Sw (us:=[]) F hr hb hd hx I .nil h)
end
section
variable {X:Cx}{CX:CXT}{k:Nat}{f C:Addr}{fd:FuncData}{ps ks:List Str}{sp:Sp}{E:XK}{x m:Str}{p pos apos kpos:Pos}{e o:Expr}{es:List Expr}{kws:List Keyword}{te ta:TE}{t tk:TA}{nm:Option Str}
variable {g:List Value->List Value->List Value}{gV:List V->List V->List V}
end
structure FnScope (N P:List Str) (sc:Scope):Prop where
 kind:sc.kind=.function
 co:sc.isCoroutine=false
 gen:sc.isGenerator=false
 nd:N.Nodup
 pre:N.take P.length=P
 par:∀ x∈P,sc.names.lookup x=some .local\/sc.names.lookup x=some .cell
 nofree:∀ y∈sc.names,y.2≠.free
theorem Fd {kindOf:Str->Option NameKind}{x:Str}:∀ {binds:List (Str × Value)}{m:Str->Option Value},(∀ v,(x,v) ∉ binds)->bindL kindOf binds m x=m x
 | [],_,_=>rfl
 | (n,v)::r,m,h=>by
  unfold bindL;rw [Fd fun w hw=>h w (List.mem_cons_of_mem _ hw)];split
  .have:x≠n:=by rintro rfl;exact h v List.mem_cons_self
   simp [this]
  .rfl
theorem Fl {kindOf:Str->Option NameKind}{x:Str}:∀ {binds:List (Str × Value)}{m:Str->Option Value},(∀ v,(x,v) ∉ binds)->bindC kindOf binds m x=m x
 | [],_,_=>rfl
 | (n,v)::r,m,h=>by
  unfold bindC;rw [Fl fun w hw=>h w (List.mem_cons_of_mem _ hw)];split
  .rfl
  .have:x≠n:=by rintro rfl;exact h v List.mem_cons_self
   simp [this]
theorem Fv {kindOf:Str->Option NameKind}{x:Str}{v:Value}:∀ {P:List Str}{vs:List Value}{i:Nat}{m:Str->Option Value},P.Nodup->P[i]?=some x->vs[i]?=some v->kindOf x=some .local ->
  bindL kindOf (P.zip vs) m x=some v
 | [],_,_,_,_,h,_,_=>by simp at h
 | _::_,[],_,_,_,_,h,_=>by simp at h
 | p::P,w::vs,0,m,nd,h1,h2,hk=>by
  simp at h1 h2;subst h1;subst h2;show bindL kindOf ((p,w)::P.zip vs) m p=_
  unfold bindL;rw [Fd fun v hv=>(List.nodup_cons.mp nd).1 (List.of_mem_zip hv).1,if_pos hk];simp
 | p::P,w::vs,i+1,m,nd,h1,h2,hk=>by
  show bindL kindOf ((p,w)::P.zip vs) m x=_
  unfold bindL;exact Fv (i:=i) (List.nodup_cons.mp nd).2 (by simpa using h1) (by simpa using h2) hk
theorem FW {kindOf:Str->Option NameKind}{x:Str}{v:Value}:∀ {P:List Str}{vs:List Value}{i:Nat}{m:Str->Option Value},P.Nodup->P[i]?=some x->vs[i]?=some v->kindOf x≠some .local ->
  bindC kindOf (P.zip vs) m x=some v
 | [],_,_,_,_,h,_,_=>by simp at h
 | _::_,[],_,_,_,_,h,_=>by simp at h
 | p::P,w::vs,0,m,nd,h1,h2,hk=>by
  simp at h1 h2;subst h1;subst h2;show bindC kindOf ((p,w)::P.zip vs) m p=_
  unfold bindC;rw [Fl fun v hv=>(List.nodup_cons.mp nd).1 (List.of_mem_zip hv).1,if_neg hk];simp
 | p::P,w::vs,i+1,m,nd,h1,h2,hk=>by
  show bindC kindOf ((p,w)::P.zip vs) m x=_
  unfold bindC;exact FW (i:=i) (List.nodup_cons.mp nd).2 (by simpa using h1) (by simpa using h2) hk
noncomputable def start (N:List Str) (vs:List V):St:=vs.map some++List.replicate (N.length - vs.length) none
noncomputable def bV (CX:CXT) (P:Program) (w:World) (K:PySem.W.Frag) (mg:Str->Option Value) (base:Heap) (N:List Str) (qual:Str) (scope:Scope) (f:Addr) (cd:Value) (A:Around) (outer:List Env) (s:Shared) (H:Hp) (E:XK):Cx where
 prog:=P
 w:=w
 K:=K
 mg:=mg
 base:=base
 A:=A.deeper (envOfC qual scope s.heap.objs.size f cd)
 N:=N
 s₀:=s
 H₀:=H
 env:=envOfC qual scope s.heap.objs.size f cd
 outer:=outer
 stack:=envOfC qual scope s.heap.objs.size f cd::outer
 ex:=[]
 calm:=true
 fn:=fun _=>true
 pn:=[]
 xe:=fun e s'=>wpAny (model P w) (A.deeper (envOfC qual scope s.heap.objs.size f cd)) (leaving (envOfC qual scope s.heap.objs.size f cd) e) (fun _ s''=>CX outer H s E e s'') (fun e' s''=>CX outer H s E e' s'') s'
theorem Kq {sc:Scope}{n:Nat}{x:Str} (h:sc.names.lookup x=some .cell):∃ c,(cellsFrom n sc.names []).lookup x=some c:=by
 have q:=PySem.W.cellsFrom_some sc.names n [] (.inl h);exact Option.isSome_iff_exists.mp q
theorem yx {CX:CXT}{P:Program}{w:World}{K:PySem.W.Frag}{mg:Str->Option Value}{base:Heap}{N ps:List Str}{qual:Str}{scope:Scope}{f:Addr}{cd:Value}{A:Around}{outer:List Env}{s s1:Shared}{H:Hp}{E:XK}{us:List Value}{vs:List V}
  (S:FnScope N ps scope) (hd:A.handled=none) (e0:Env0 P w K mg base A outer s H) (hl:vs.length=ps.length) (r:Vals vs us)
  (x:InCallC s s.heap.objs.size (bindL (envOfC qual scope s.heap.objs.size f cd).kindOf (ps.zip us) fun _=>none) (cellsFrom (s.heap.objs.size+1) scope.names []) (bindC (envOfC qual scope s.heap.objs.size f cd).kindOf (ps.zip us) fun _=>none) s1) :
  Inv (bV CX P w K mg base N qual scope f cd A outer s H E) [] (start N vs) H s1:=by
 have hpl:ps.length<=N.length:=by have:=congrArg List.length S.pre;rw [List.length_take] at this;omega
 obtain ⟨h1,tk,rfl,hk⟩:=x.done;have noA:∀ b:Addr,b ∉ (bV CX P w K mg base N qual scope f cd A outer s H E).ex:=fun b z=>absurd (show b∈([]:List Addr) from z) (by simp)
 refine ⟨⟨e0.mod,S.kind,rfl,rfl,Nat.le_refl _,fun y z c h1 h2=>?_,fun y hy=>?_,fun y c _ h=>?_,fun _=>hd,Around.frames_deeper e0.frames,.inr ⟨rfl,rfl⟩,fun b z=>absurd z (noA b),e0.bs,e0.bsz,fun b _ _=>noA b,fun b z=>absurd z (noA b),e0.funs,e0.frf,e0.tab⟩,
  rfl,e0.bare,Un.kept hk,⟨_,x.toInCall.ns,fun i y v h1 h2 h3=>?_⟩,fun y c h=>⟨_,x.cell y c h⟩,e0.hok.fresh (Nat.le_refl _),fun y c h=>?_,fun p hp=>absurd (show p∈([]:List (Addr × Obj)) from hp) (by simp),e0.hok.kept hk,?_⟩
 .exact name_of_addr x.apart (PySem.mem_of_lookup h1) (PySem.mem_of_lookup h2)
 .have hy:scope.names.lookup y=some .cell\/scope.names.lookup y=some .free:=hy;rcases hy with hy | hy
  .exact Kq hy
  .exact absurd rfl (S.nofree _ (PySem.mem_of_lookup hy))
 .exact Nat.le_of_lt (x.above y c (PySem.mem_of_lookup h))
 .have hi:i < vs.length:=by
   unfold start at h2;by_cases hi:i < vs.length
   .exact hi
   .rw [List.getElem?_append_right (by simpa using hi)] at h2;rw [List.getElem?_replicate] at h2;split at h2 <;> cases h2
  have ha:vs[i]?=some v:=by
   unfold start at h2;rw [List.getElem?_append_left (by simpa using hi),List.getElem?_map] at h2;cases e:vs[i]? with
   | none=>rw [e] at h2;cases h2
   | some a=>rw [e] at h2;cases h2;rfl
  obtain ⟨u,hu,rv⟩:=r.get ha;have hp:ps[i]?=some y:=by
   rw [<- S.pre,List.getElem?_take_of_lt (by omega)];exact h1
  have ndP:ps.Nodup:=by rw [<- S.pre];exact S.nd.sublist (List.take_sublist _ _)
  refine ⟨u,rv,?_⟩;rcases S.par y (List.mem_of_getElem? hp) with k | k
  .exact .inl ⟨k,Fv ndP hp hu k⟩
  .obtain ⟨c,e⟩:=Kq (n:=s.heap.objs.size+1) k;refine .inr ⟨.inl k,c,e,?_⟩;have q:=x.cell y c e;rw [FW ndP hp hu (by show scope.names.lookup y≠_;rw [k];decide)] at q;exact q
 .exact e0.hok.fresh (Nat.le_of_lt (x.above y c (PySem.mem_of_lookup h)))
 .unfold start;show _=N.length
  rw [List.length_append,List.length_map,List.length_replicate];omega
theorem Wn {CX:CXT}{P:Program}{w:World}{K:PySem.W.Frag}{mg:Str->Option Value}{base:Heap}{k:Nat}{f:Addr}{name qual:Str}{params:Arguments}{body:List Stmt}{scope:Scope}{dV kV doc pm cdv ct oc:Value}{an od:Option Addr}
  {osl:Array (Option Value)}{N ps:List Str}{sp:Sp} (lk:K.lookup f=some ⟨oc,od,.func (PySem.W.fnOf name qual params body scope dV kV doc pm an cdv ct),osl⟩) (hcd:PySem.W.codeIn K cdv qual=true) (S:FnScope N ps scope)
  (len:∀ vs H Q E,sp vs H Q E->vs.length=ps.length)
  (hbody:∀ (A:Around) (outer:List Env) (s:Shared) (H:Hp) (vs:List V) (Q:VK) (E:XK),Room k (A.deeper (envOfC qual scope s.heap.objs.size f cdv))->sp vs H Q E ->
   ∃ t,PSs (bV CX P w K mg base N qual scope f cdv A outer s H E) body t/\t { nx:=fun _ H'=>Q .non H',rt:=Q } (start N vs) H) :
  FnOk P w K mg base CX (k+1) f (PySem.W.fnOf name qual params body scope dV kV doc pm an cdv ct) ps sp:=by
 refine ⟨len,fun A outer s H args us vs Q E hr e0 hb r hsp=>?_⟩;have hl:=len _ _ _ _ hsp;have KX:K.In s.heap:=e0.mod.kin.keeps fun b o e=>(e0.bs b o e).1
 have lim:s.heap.NoLimit:=e0.mod.nolimit.keeps fun b o e=>(e0.bs b o e).1
 have hkind:∀ y∈ps.zip us,scope.names.lookup y.1=some .local\/(scope.names.lookup y.1=some .cell/\((cellsFrom (s.heap.objs.size+1) scope.names []).lookup y.1).isSome=true):=fun ⟨n,v⟩ hy=>by
  rcases S.par n (List.of_mem_zip hy).1 with q | q
  .exact .inl q
  .exact .inr ⟨q,PySem.W.cellsFrom_some _ _ _ (.inl q)⟩
 refine codeAny_call_function hr.depth (KX _ _ lk) rfl S.co S.gen rfl (PySem.W.codeRec_of KX hcd) (hb _ _ _ _ ?_);refine wpAny_newFunctionEnv_cells S.kind hkind fun env he s1 x=>?_
 subst he;refine ⟨lim.keeps x.toInCall.keep,codeAny_func ?_⟩;obtain ⟨t,ht,hq⟩:=hbody A outer s H vs Q E (hr.deeper _) hsp;have I:Inv (bV CX P w K mg base N qual scope f cdv A outer s H E) [] (start N vs) H s1:=yx S hr.hd e0 hl r x;refine wpAny_mono (ht [] s1 (start N vs) H _ I hq) (fun fl s' hs=>?_) fun e s' hs=>hs
 have fin:∀ {σ':St}{H':Hp}{v:V}{u:Value},Inv (bV CX P w K mg base N qual scope f cdv A outer s H E) [] σ' H' s'->RelV v u->Q v H'->CE outer P w H s Q u s' :=
  fun {σ' H' v u} J rv q=>⟨v,H',J.os,J.bare,J.base,J.hok,rv,q⟩
 cases fl with
 | ret u =>
  obtain ⟨v,σ',H',J,rv,q⟩:=hs;exact fin J rv q
 | next =>
  obtain ⟨σ',H',J,q⟩:=hs;exact fin (v:=V.non) (u:=Value.none) J rfl q
 | brk =>
  obtain ⟨_,_,_,q⟩:=hs;exact False.elim q
 | cont =>
  obtain ⟨_,_,_,q⟩:=hs;exact False.elim q
end L2
namespace L2
open PySem PySem.Spec PyProof.Rows
section
variable {X:Cx}{x:Str}{p pos:Pos}{e:Expr}{es:List Expr}{t:TA}{id T:String}{r:List V->Hp->VK->Prop}
def tCB (r:List V->Hp->VK->Prop) (t:TA):TE:=fun σ H Q=>t σ H fun vs H1=>r vs H1 Q
theorem kJ (hc:gn X (.builtin id) r) (hg:Gl X x) (hm:X.mg x=none) (hv:bootBuiltins x=some (.builtin id)) (ha:PA X (e::es) t) (hn:x ≠ "__name__":=by decide) (hdb:(x == ("__debug__":Str))=false:=by decide)
  (he:starEach (e::es) X.env=(false,eval e X.env)::starEach es X.env:=by rfl) (hpl:(backTo pos (starEach es X.env)).any (·.1)=false:=by rfl):PE X (.Call (.Name x p) (e::es) [] pos) (tCB r t):=by
 intro pins s σ H Q I h;refine wpAny_Call_Name_kw (lE I hg hm hv ?_ hn hdb);exact PyProof.Rows.callWith_builtin1 (thn (ha pos pins s σ H _ I h) fun us s1 ⟨vs,H1,I1,r1,q1⟩=>hc pins s1 σ H1 vs us Q I1 r1 q1) he hpl
theorem sU (hc:gn X (.type T) r) (hg:Gl X x) (hm:X.mg x=none) (hv:bootBuiltins x=some (.type T)) (ha:PA X (e::es) t) (hn:x ≠ "__name__":=by decide) (hdb:(x == ("__debug__":Str))=false:=by decide)
  (he:starEach (e::es) X.env=(false,eval e X.env)::starEach es X.env:=by rfl) (hpl:(backTo pos (starEach es X.env)).any (·.1)=false:=by rfl):PE X (.Call (.Name x p) (e::es) [] pos) (tCB r t):=by
 intro pins s σ H Q I h;refine wpAny_Call_Name_kw (lE I hg hm hv ?_ hn hdb);exact PyProof.Rows.callWith_type1 (thn (ha pos pins s σ H _ I h) fun us s1 ⟨vs,H1,I1,r1,q1⟩=>hc pins s1 σ H1 vs us Q I1 r1 q1) he hpl
end
end L2
namespace HT
open PySem PyProof.Rows
section
open PySem.SeqAt
open PySem.AutoSeq1 (wpAny_loadPart')
open PySem.MeetsSeq PySem.MeetsSeq2 PySem.MeetsSeq3
end
section
variable {prog:Program}{w:World}{A:Around}{E:Value->Shared->Prop}{s:Shared}
theorem Yp {t b:Addr}{vs ws:List Value}{Q:Value->Shared->Prop} (ht:IsTup s.heap t vs.toArray) (hb:IsTup s.heap b ws.toArray) (hv:vs≠[])
  (h1:ws=[] -> Q (.ref t) s) (h2:ws ≠ [] -> Q (.ref s.heap.objs.size) { s with heap:=s.heap.push { cls:=.type "tuple",data:=.seq (vs ++ ws).toArray } })
  (hsz:vs.length+ws.length<=sizeLine):wpAny (model prog w) A (binaryOp .Add (.ref t) (.ref b)) Q E s:=by
 obtain ⟨⟨cls,dd,data,sl⟩,ho,hc,n,hd⟩:=id ht;obtain ⟨⟨cls2,dd2,data2,sl2⟩,ho2,hc2,n2,hd2⟩:=id hb;simp only at hc hd hc2 hd2;subst hc hd hc2 hd2;have e:vs.toArray++ws.toArray=(vs++ws).toArray:=by simp
 by_cases hw:ws=[]
 .exact concat_meets ⟨_,ho,rfl⟩ ⟨_,ho2,rfl⟩ noFill_tuple_add seq_tuple_add PySem.F.slot_tuple_add PySem.F.entry_tuple_add (PySem.F.args_tuple_add_2 _ _)
   (tuple_addW1 t b vs.toArray ws.toArray n n2 dd dd2 sl sl2 (by simpa using hv) (by simp [hw])) ⟨ho,ho2,h1 hw⟩
 .refine concat_meets ⟨_,ho,rfl⟩ ⟨_,ho2,rfl⟩ noFill_tuple_add seq_tuple_add PySem.F.slot_tuple_add PySem.F.entry_tuple_add (PySem.F.args_tuple_add_2 _ _)
   (tuple_addW2 t b vs.toArray ws.toArray n n2 dd dd2 sl sl2 (by simpa using hv) (by simpa using hw) (by rw [List.size_toArray,List.size_toArray];exact hsz)) ⟨ho,ho2,?_⟩
  rw [e];exact h2 hw
noncomputable def sIx (n d:Nat):Option Int->Nat
 | none=>d
 | some v=>if v < 0 then (v+(n:Int)).toNat else min v.toNat n
theorem UW (n d:Nat):sIx n d none=d:=rfl
theorem YG (n d k:Nat):sIx n d (some (k:Int))=min k n:=by
 show (if (k:Int) < 0 then ((k:Int)+(n:Int)).toNat else min (k:Int).toNat n)=min k n
 rw [if_neg (by omega),Int.toNat_natCast]
theorem aaO (n d:Nat) (hd:d<=n) (o:Option Int):sIx n d o<=n:=by
 cases o with
 | none=>exact hd
 | some v =>
  show (if v < 0 then (v+(n:Int)).toNat else min v.toNat n)<=n
  by_cases hv:v < 0
  .rw [if_pos hv];omega
  .rw [if_neg hv];exact Nat.min_le_right _ _
theorem MK (v:Int) (n d:Nat):(if v < 0 then max (v+(n:Int)) 0 else min v (n:Int))=((sIx n d (some v):Nat):Int):=by
 show (if v < 0 then max (v+(n:Int)) 0 else min v (n:Int))=(((if v < 0 then (v+(n:Int)).toNat else min v.toNat n):Nat):Int)
 by_cases hv:v < 0
 .simp only [if_pos hv];omega
 .simp only [if_neg hv];omega
theorem Ny (lo hi:Option Int) (n:Nat):Builtin.Slice.sliceAdjust lo hi 1 (n:Int)=(((sIx n 0 lo:Nat):Int),((sIx n n hi:Nat):Int)):=by
 have h1:¬ ((1:Int) < 0):=by omega
 unfold Builtin.Slice.sliceAdjust;simp only [h1,if_false];refine Prod.ext ?_ ?_
 .cases lo with
  | none=>rfl
  | some v=>exact MK v n 0
 .cases hi with
  | none=>rfl
  | some v=>exact MK v n n
theorem Oj (i j:Nat):Builtin.Slice.slicePlaces (i:Int) (j:Int) 1=j - i:=by
 unfold Builtin.Slice.slicePlaces;have h1:(1:Int) > 0:=by omega
 simp only [h1,if_true,Int.ediv_one];split <;> omega
theorem BP {v:Value}{o:Option Int}{Q:Option Int->Shared->Prop} (p:IsPart v o) (h:Q o s):wpAny (model prog w) A (Builtin.Slice.slicePartIndex v) Q E s:=by
 cases p with
 | none=>exact slicePart_none h
 | int i t=>exact slicePart_int h
theorem rH {sl:Addr}{vl vu:Value}{lo hi:Option Int}{n:Nat}{Q:Int × Int × Nat->Shared->Prop} (hs:s.heap.IsSliceOf sl vl vu .none) (pl:IsPart vl lo) (pu:IsPart vu hi)
  (h:Q (((sIx n 0 lo:Nat):Int),1,sIx n n hi - sIx n 0 lo) s):wpAny (model prog w) A (Builtin.Slice.sliceApplied (.ref sl) (pure (n:Int))) Q E s:=by
 obtain ⟨os,hos,hcs,hds⟩:=id hs;unfold Builtin.Slice.sliceApplied Builtin.Slice.sliceFields;refine wpAny_bind (wpAny_bind (wpAny_field hos hds (x:=vl) rfl (wpAny_bind (wpAny_field hos hds (x:=vu) rfl (wpAny_bind (wpAny_field hos hds (x:=.none) rfl (wpAny_pure ?_)))))));refine wpAny_bind (slicePart_none ?_);show wpAny _ _ (if ((1:Int) == 0)=true then _ else _) _ _ s
 rw [if_neg (by decide)];refine wpAny_bind (BP pl (wpAny_bind (BP pu (wpAny_bind (wpAny_pure ?_)))));show wpAny _ _ (match Builtin.Slice.sliceAdjust lo hi 1 (n:Int) with | (lo,hi)=>pure (lo,(1:Int),Builtin.Slice.slicePlaces lo hi 1)) _ _ s
 rw [Ny lo hi n];show wpAny _ _ (pure (((sIx n 0 lo:Nat):Int),(1:Int),Builtin.Slice.slicePlaces ((sIx n 0 lo:Nat):Int) ((sIx n n hi:Nat):Int) 1)) _ _ s
 rw [Oj];exact wpAny_pure h
theorem VB (xs:Array Value) (i k:Nat):((List.range k).filterMap fun (m:Nat)=>xs[((i:Int)+(m:Int) * 1).toNat]?).toArray=((xs.toList.drop i).take k).toArray:=by
 have e:(fun (m:Nat)=>xs[((i:Int)+(m:Int) * 1).toNat]?)=fun m=>xs[i+m]?:=by
  funext m;have:((i:Int)+(m:Int) * 1).toNat=i+m:=by omega
  rw [this]
 rw [e];have:=pick_run xs i k;rw [List.filterMap_map] at this;have e2:((fun x=>xs[x]?) ∘ fun x=>i+x)=fun m=>xs[i+m]?:=rfl
 rw [e2] at this;rw [this]
theorem zp {t sl:Addr}{items:Array Value}{vl vu:Value}{lo hi:Option Int}{Q:Value->Shared->Prop} (ht:IsTup s.heap t items) (hs:s.heap.IsSliceOf sl vl vu .none) (pl:IsPart vl lo) (pu:IsPart vu hi)
  (hw:¬ (sIx items.size 0 lo=0/\sIx items.size items.size hi=items.size))
  (h:Q (.ref s.heap.objs.size) { s with heap:=s.heap.push { cls:=.type "tuple",data:=.seq ((items.toList.drop (sIx items.size 0 lo)).take (sIx items.size items.size hi - sIx items.size 0 lo)).toArray } })
  (hsz:items.size<=sizeLine):wpAny (model prog w) A (getItem (.ref t) (.ref sl)) Q E s:=by
 have htake:sizeOk (.seq ((items.toList.drop (sIx items.size 0 lo)).take (sIx items.size items.size hi - sIx items.size 0 lo)).toArray):=by
  show ((items.toList.drop (sIx items.size 0 lo)).take (sIx items.size items.size hi - sIx items.size 0 lo)).toArray.size<=sizeLine
  rw [List.size_toArray,List.length_take,List.length_drop,Array.length_toList];omega
 have hj:sIx items.size items.size hi<=items.size:=aaO _ _ (Nat.le_refl _) hi;obtain ⟨os,hos,hcs,hds⟩:=id hs;have hTs:s.TypeIs (.ref sl) "slice":=⟨os,hos,hcs⟩
 unfold getItem
 try with_reducible refine wpAny_holding ?_
 first | refine wpAny_bind (wpAny_pure ?_) | skip
 refine wpAny_bind (wpAny_sequenceKey ht.typeIs (by decide) ?_);refine wpAny_bind (wpAny_callSpecial?_slot (name:=Str.ofString "__getitem__") ht.typeIs PyProof.Rows.slot_tuple_getitem
  (wpAny_call_entry PyProof.Rows.slot_tuple_getitem ht.typeIs entry_tuple_getitem ?_ (args_tuple_getitem _ _)))
 show wpAny _ _ (Builtin.Tuple.tupleItemsOf (.ref t) >>= _) _ _ s
 refine wpAny_bind (tupleItemsOf_ ht ?_);refine wpAny_bind (wpAny_typeOf hTs ?_);rw [if_pos (by decide)];refine wpAny_bind (rH hs pl pu ?_);have hno:¬ ((((sIx items.size 0 lo:Nat):Int) == 0 && (1:Int) == 1 && (sIx items.size items.size hi - sIx items.size 0 lo) == items.size)=true):=by
  intro q;rw [Bool.and_eq_true,Bool.and_eq_true] at q;have q1:((sIx items.size 0 lo:Nat):Int)=0:=eq_of_beq q.1.1;have q2:sIx items.size items.size hi - sIx items.size 0 lo=items.size:=eq_of_beq q.2;exact hw ⟨by omega,by omega⟩
 show wpAny _ _ (if (((sIx items.size 0 lo:Nat):Int) == 0 && (1:Int) == 1 && (sIx items.size items.size hi - sIx items.size 0 lo) == items.size)=true then _ else _) _ _ s
 rw [if_neg hno,VB]
 first
  | exact wpAny_bind (m:=Builtin.Tuple.tupleExact _) (wpAny_newObj_type (wpAny_pure ⟨_,rfl,wpAny_pure h⟩) htake)
  | exact wpAny_bind (m:=Builtin.Tuple.tupleExact _) (wpAny_newObj_type (wpAny_bind (wpAny_pure (wpAny_pure ⟨_,rfl,wpAny_pure h⟩))) htake)
  | exact wpAny_bind (wpAny_bind (m:=Builtin.Tuple.tupleExact _) (wpAny_newObj_type (wpAny_pure (wpAny_pure ⟨_,rfl,wpAny_pure h⟩)) htake))
  | exact wpAny_bind (wpAny_bind (m:=Builtin.Tuple.tupleExact _) (wpAny_newObj_type (wpAny_pure ⟨_,rfl,wpAny_pure h⟩) htake))
end
end HT
namespace L2
open PySem PySem.Spec PyProof.Rows
abbrev TO:=St->Hp->(Option Int->Hp->Prop)->Prop
def PO (X:Cx) (e:Option Expr) (t:TO):Prop :=
 ∀ (pins:List (Addr × Obj)) (s:Shared) (σ:St) (H:Hp) (Q:Option Int->Hp->Prop),Inv X pins σ H s->t σ H Q ->
  wpAny (model X.prog X.w) X.A (evalPart e X.env) (fun u s'=>∃ o H',Inv X pins σ H' s'/\IsPart u o/\Q o H') X.xe s
def XH:TO:=fun _ H Q=>Q none H
def ab6 (t:TE):TO:=fun σ H Q=>t σ H fun x H1=>∃ i,x=.int i/\Q (some i) H1
section
variable {X:Cx}{e:Expr}{te:TE}{lo hi:Option Expr}{tl th:TO}{pos p2:Pos}
theorem Zb:PO X none XH:=by
 intro pins s σ H Q I h;rw [evalPart_none];exact wpAny_pure ⟨none,H,I,.none,h⟩
theorem Zr (h:PE X e te):PO X (some e) (ab6 te):=by
 intro pins s σ H Q I hw;rw [evalPart_some];refine thn (h pins s σ H _ I hw) fun u s1 ⟨x,H1,I1,r1,q1⟩=>?_
 obtain ⟨i,rfl,q⟩:=q1;obtain ⟨t,rfl⟩:=r1;exact ⟨some i,H1,I1,.int i t,q⟩
def SlR (X:Cx) (r:V->Option Int->Option Int->Hp->VK->Prop):Prop :=
 ∀ (pins:List (Addr × Obj)) (s:Shared) (σ:St) (H:Hp) (x:V) (v vl vu:Value) (lo hi:Option Int) (sl:Addr) (Q:VK),Inv X pins σ H s->RelV x v->s.heap.IsSliceOf sl vl vu .none->IsPart vl lo->IsPart vu hi->r x lo hi H Q ->
  ∃ T id,typeLookup (.type T) "__getitem__"=pure (some (.builtin id)) /\ s.TypeIs v T /\ wpAny (model X.prog X.w) X.A (getItem v (.ref sl)) (EP X pins σ Q) X.xe s
theorem SlR.or {r r':V->Option Int->Option Int->Hp->VK->Prop} (h:SlR X r) (h':SlR X r'):SlR X (fun x lo hi H Q=>r x lo hi H Q\/r' x lo hi H Q):=by
 intro pins s σ H x v vl vu lo hi sl Q I rx hs pl pu q;rcases q with q | q
 .exact h pins s σ H x v vl vu lo hi sl Q I rx hs pl pu q
 .exact h' pins s σ H x v vl vu lo hi sl Q I rx hs pl pu q
def tSl (r:V->Option Int->Option Int->Hp->VK->Prop) (te:TE) (tl th:TO):TE:=fun σ H Q=>te σ H fun x H1=>tl σ H1 fun l H2=>th σ H2 fun u H3=>r x l u H3 Q
theorem V8 {r:V->Option Int->Option Int->Hp->VK->Prop} (hr:SlR X r) (he:PE X e te) (hl:PO X lo tl) (hu:PO X hi th):PE X (.Subscript e (.Slice lo hi none p2) pos) (tSl r te tl th):=by
 intro pins s σ H Q I h;refine Subscript_ (thn (he pins s σ H _ I h) fun v s1 ⟨x,H1,I1,r1,q1⟩=>?_);refine wpAny_Slice (thn (hl pins s1 σ H1 _ I1 q1) fun vl s2 ⟨l,H2,I2,pl,q2⟩=>thn (hu pins s2 σ H2 _ I2 q2) fun vu s3 ⟨u,H3,I3,pu,q3⟩=>?_);rw [evalPart_none];refine wpAny_pure ?_;have I4:Inv X pins σ H3 { s3 with heap:=s3.heap.push { cls:=.type "slice",data:=.fields #[vl,vu,.none] } }:=I3.kept (t':=s3.toks) fun b ob q=>Heap.get?_push_of_some _ q
 obtain ⟨T,id,hT,ht,hg⟩:=hr pins { s3 with heap:=s3.heap.push { cls:=.type "slice",data:=.fields #[vl,vu,.none] } } σ H3 x v vl vu l u s3.heap.objs.size Q I4 r1 (Heap.IsSliceOf.new ..) pl pu q3
 show wpAny (model X.prog X.w) X.A (subscriptTail e (.Slice lo hi none p2) v (.ref s3.heap.objs.size)) (EP X pins σ Q) X.xe { s3 with heap:=s3.heap.push { cls:=.type "slice",data:=.fields #[vl,vu,.none] } }
 exact tail_any (ops:=[.ref s3.heap.objs.size,v]) ht hT hg (by with_unfolding_all rfl)
noncomputable def yt (xs:List V) (lo hi:Option Int):List V:=(xs.drop (HT.sIx xs.length 0 lo)).take (HT.sIx xs.length xs.length hi - HT.sIx xs.length 0 lo)
theorem Af (xs:List V) (lo hi:Option Int):(yt xs lo hi).length<=xs.length:=by
 unfold yt;rw [List.length_take,List.length_drop];omega
def ZS (K:PySem.W.Frag):V->Option Int->Option Int->Hp->VK->Prop:=fun x lo hi H Q=>∃ a xs,x=.ref a/\SqT K H a xs /\
 ¬ (HT.sIx xs.length 0 lo=0/\HT.sIx xs.length xs.length hi=xs.length)/\∀ p,H p=none->Q (.ref p) (upd H p (.tup (yt xs lo hi)))
theorem abG:SlR X (ZS X.K):=by
 intro pins s σ H x v vl vu lo hi sl Q I rx hs pl pu h;obtain ⟨a,xs,rfl,hx,hw,q⟩:=h;cases rx;obtain ⟨its,r,ht,hz⟩:=I.tuple hx;have hlen:its.toArray.size=xs.length:=by rw [List.size_toArray];exact r.length.symm
 refine ⟨"tuple",_,PyProof.Rows.slot_tuple_getitem.lookup,ht.typeIs,?_⟩
 refine HT.zp ht hs pl pu (by rw [hlen];exact hw) ?_ (by rw [hlen];exact hz);rw [hlen];refine ⟨.ref s.heap.objs.size,_,I.laid (t':=s.toks) (o:=.tup (yt xs lo hi)) (fun b ob q=>Heap.get?_push_of_some _ q) (Nat.le_refl _) ?_,rfl,q _ (I.hok.fresh (Nat.le_refl _))⟩;exact ⟨Nat.le_trans (Af xs lo hi) hz,_,(r.drop (HT.sIx xs.length 0 lo)).take (HT.sIx xs.length xs.length hi - HT.sIx xs.length 0 lo),IsTup.new _ _⟩
def WK (K:PySem.W.Frag):R2:=fun x y H Q=>∃ a b xs ys,x=.ref a/\y=.ref b/\SqT K H a xs/\SqT K H b ys/\xs≠[]/\xs.length+ys.length<=sizeLine /\
 (ys=[]->Q (.ref a) H)/\(ys≠[]->∀ p,H p=none->Q (.ref p) (upd H p (.tup (xs++ys))))
theorem Vals.nil_iff {xs:List V}{us:List Value} (r:Vals xs us):us=[]↔xs=[]:=by
 cases r with
 | nil=>simp
 | cons _ _=>simp
theorem Zf:OpR X (binaryOp .Add) (WK X.K):=by
 intro pins s σ H x y v u Q I rx ry h;obtain ⟨a,b,xs,ys,rfl,rfl,ha,hb,hx,hz,q1,q2⟩:=h;cases rx;cases ry;obtain ⟨its,r1,p1,_⟩:=I.tuple ha;obtain ⟨its2,r2,p2,_⟩:=I.tuple hb;refine HT.Yp p1 p2 (fun z=>hx (r1.nil_iff.mp z)) (fun z=>⟨.ref a,H,I,rfl,q1 (r2.nil_iff.mp z)⟩) (fun z=>?_) (by rw [<- r1.length,<- r2.length];exact hz);refine ⟨.ref s.heap.objs.size,_,I.laid (t':=s.toks) (o:=.tup (xs++ys)) (fun b ob q=>Heap.get?_push_of_some _ q) (Nat.le_refl _) ?_,rfl,q2 (fun w=>z (r2.nil_iff.mpr w)) _ (I.hok.fresh (Nat.le_refl _))⟩;exact ⟨by rw [List.length_append];exact hz,_,r1.append r2,IsTup.new _ _⟩
end
end L2
namespace L2
open PySem PySem.Spec PyProof.Rows
noncomputable def ixN (n:Nat) (i:Int):Option Nat:=if 0<=i then (if i < n then some i.toNat else none) else if -(n:Int)<=i then some (i+n).toNat else none
noncomputable def atI {α:Type} (xs:List α) (i:Int):Option α:=(ixN xs.length i).bind fun j=>xs[j]?
theorem X6 {n:Nat}{i:Int}{j:Nat} (h:ixN n i=some j):seqIndex? i n=some j/\j < n/\-(n:Int)<=i/\i < n:=by
 unfold ixN at h;by_cases h0:0<=i
 .rw [if_pos h0] at h;by_cases h1:i < n
  .rw [if_pos h1] at h;have e:i.toNat=j:=Option.some.inj h;exact ⟨by rw [seqIndex_of h0 h1,e],by omega,by omega,h1⟩
  .rw [if_neg h1] at h;cases h
 .rw [if_neg h0] at h;by_cases h1:-(n:Int)<=i
  .rw [if_pos h1] at h;have e:(i+n).toNat=j:=Option.some.inj h;exact ⟨by rw [seqIndex_neg (by omega) h1,e],by omega,h1,by omega⟩
  .rw [if_neg h1] at h;cases h
theorem DR {α:Type}{xs:List α}{i:Int}{v:α} (h:atI xs i=some v):∃ j,seqIndex? i xs.length=some j/\xs[j]?=some v/\j < xs.length/\-(xs.length:Int)<=i/\i < xs.length:=by
 unfold atI at h;cases e:ixN xs.length i with
 | none=>rw [e] at h;cases h
 | some j =>
  rw [e] at h;obtain ⟨h1,h2,h3,h4⟩:=X6 e;exact ⟨j,h1,h,h2,h3,h4⟩
def MP (b:Expr):Prop:=∀ o i,subscripted b false o i=operate [o,i] (getItem o i)
def IxR (X:Cx) (r:R2):Prop :=
 ∀ (value slice:Expr) (pins:List (Addr × Obj)) (s:Shared) (σ:St) (H:Hp) (x y:V) (v u:Value) (Q:VK),Inv X pins σ H s->RelV x v->RelV y u->r x y H Q ->
  subscripted slice false v u=operate [v,u] (getItem v u)->wpAny (model X.prog X.w) X.A (subscriptTail value slice v u) (EP X pins σ Q) X.xe s
def MtR (X:Cx) (id:String) (r:V->List V->Hp->VK->Prop):Prop :=
 ∀ (pins:List (Addr × Obj)) (s:Shared) (σ:St) (H:Hp) (x:V) (xs:List V) (v:Value) (us:List Value) (Q:VK),Inv X pins σ H s->RelV x v->Vals xs us->r x xs H Q ->
  wpAny (model X.prog X.w) X.A (call (.builtin id) (v::us)) (EP X pins σ Q) X.xe s
section
variable {X:Cx}{a b:Expr}{ta tb:TE}{pos:Pos}
theorem IxR.or {r r':R2} (h:IxR X r) (h':IxR X r'):IxR X (fun x y H Q=>r x y H Q\/r' x y H Q):=by
 intro value slice pins s σ H x y v u Q I rx ry q hs;rcases q with q | q
 .exact h value slice pins s σ H x y v u Q I rx ry q hs
 .exact h' value slice pins s σ H x y v u Q I rx ry q hs
theorem abY {r:R2} (hr:IxR X r) (ha:PE X a ta) (hb:PE X b tb) (hs:MP b):PE X (.Subscript a b pos) (tOp r ta tb):=by
 intro pins s σ H Q I h;exact Subscript_ (Vn ha hb I h fun v u s2 x y H2 I2 rx ry q=>hr a b pins s2 σ H2 x y v u Q I2 rx ry q (hs _ _))
def aak (K:PySem.W.Frag):R2:=fun x y H Q=>∃ p xs i v,x=.ref p/\y=.int i/\SqL K H p xs/\atI xs i=some v/\Q v H
def aaV (K:PySem.W.Frag):R2:=fun x y H Q=>∃ p xs i v,x=.ref p/\y=.int i/\SqT K H p xs/\atI xs i=some v/\Q v H
def ZP:R2:=fun x y H Q=>∃ z i c,x=.str z/\y=.int i/\z.length<=sizeLine/\atI z.cps.toList i=some c/\Q (.str ⟨#[c]⟩) H
theorem X4:IxR X (aak X.K):=by
 intro value slice pins s σ H x y v u Q I rx ry h hs;obtain ⟨p,xs,i,z,rfl,rfl,hq,he,q⟩:=h;cases rx;obtain ⟨t,rfl⟩:=ry;obtain ⟨its,r,pl,hz⟩:=I.list hq;obtain ⟨j,h1,h2,h3,h4,h5⟩:=DR he;obtain ⟨w,ew,rw'⟩:=r.get h2;have hl:=r.length;have hn:=ud;have fin:EP X pins σ Q w s:=⟨z,H,I,rw',q⟩;by_cases h0:0<=i
 .have hj:i.toNat=j:=by
   rw [seqIndex_of h0 h5] at h1;exact Option.some.inj h1
  exact item_listR pl.isList h0 (by omega) (by rw [hj];simpa using ew) fin hs
 .have hj:(i+(its.toArray.size:Int)).toNat=j:=by
   rw [seqIndex_neg (by omega) h4] at h1;rw [List.size_toArray,<- hl];exact Option.some.inj h1
  exact subscriptTail_builtinR (x:=w) pl.isList.typeIs slot_list_getitem.lookup
   (wpAny_getItem_list_neg (Q:=fun r s'=>r=w/\EP X pins σ Q r s') pl.isList (by omega) (by rw [List.size_toArray] <;> omega) (by omega) (by rw [hj];simpa using ew) ⟨rfl,fin⟩) hs
theorem abr:IxR X (aaV X.K):=by
 intro value slice pins s σ H x y v u Q I rx ry h hs;obtain ⟨p,xs,i,z,rfl,rfl,hq,he,q⟩:=h;cases rx;obtain ⟨t,rfl⟩:=ry;obtain ⟨its,r,pl,hz⟩:=I.tuple hq;obtain ⟨j,h1,h2,h3,h4,h5⟩:=DR he;obtain ⟨w,ew,rw'⟩:=r.get h2;have hl:=r.length;have hn:=ud;have fin:EP X pins σ Q w s:=⟨z,H,I,rw',q⟩;exact subscriptTail_builtinR (x:=w) pl.typeIs slot_tuple_getitem.lookup
  (getItem_tuple (j:=j) (Q:=fun r s'=>r=w/\EP X pins σ Q r s') pl (by omega) (by omega) (by rw [List.size_toArray,<- hl];exact h1) (by simpa using ew) ⟨rfl,fin⟩) hs
theorem aa7:IxR X ZP:=by
 intro value slice pins s σ H x y v u Q I rx ry h hs;obtain ⟨z,i,c,rfl,rfl,hz,he,q⟩:=h;obtain ⟨t,rfl⟩:=rx;obtain ⟨t',rfl⟩:=ry;obtain ⟨j,h1,h2,h3,h4,h5⟩:=DR he;have hl:z.cps.toList.length=z.length:=by simp [Str.length]
 rw [hl] at h1 h4 h5;have hn:=ud;exact tail_any (typeIs_str s z t) slot_str_getitem.lookup (getItem_str (c:=c) (by
  have e1:decide (i < -(2 ^ 63:Int))=false:=decide_eq_false (by omega);have e2:decide (i ≥ 2 ^ 63)=false:=decide_eq_false (by omega);rw [e1,e2,Bool.or_false]) (by rw [h1];simpa using h2) ⟨.str ⟨#[c]⟩,H,I.tok _,⟨_,rfl⟩,q⟩) hs
theorem Jo (lo hi:Option Int) (n:Nat):(sliceBounds lo hi none n).1=((HT.sIx n 0 lo:Nat):Int)/\(sliceBounds lo hi none n).2.1=((HT.sIx n n hi:Nat):Int)/\(sliceBounds lo hi none n).2.2=1:=by
 refine ⟨?_,?_,rfl⟩
 .cases lo with
  | none=>simp [sliceBounds,HT.sIx]
  | some i =>
   simp only [sliceBounds,HT.sIx,Option.getD_none,show (1:Int) > 0 by decide,if_true];by_cases h:i < 0
   .simp only [h,if_true] <;> omega
   .simp only [h,if_false] <;> omega
 .cases hi with
  | none=>simp [sliceBounds,HT.sIx]
  | some i =>
   simp only [sliceBounds,HT.sIx,Option.getD_none,show (1:Int) > 0 by decide,if_true];by_cases h:i < 0
   .simp only [h,if_true] <;> omega
   .simp only [h,if_false] <;> omega
theorem G3 (its:List Value) (lo hi:Option Int):slicePick its.toArray lo hi none=((its.drop (HT.sIx its.length 0 lo)).take (HT.sIx its.length its.length hi - HT.sIx its.length 0 lo)).toArray:=by
 obtain ⟨h1,h2,h3⟩:=Jo lo hi its.toArray.size;unfold slicePick;rw [h1,h2,h3];simp only [sliceRange_one,pick_run,List.size_toArray] <;> rfl
def aa3 (K:PySem.W.Frag):V->Option Int->Option Int->Hp->VK->Prop:=fun x lo hi H Q=>∃ a xs,x=.ref a/\SqL K H a xs/\∀ p,H p=none->Q (.ref p) (upd H p (.lst (yt xs lo hi)))
theorem Xy:SlR X (aa3 X.K):=by
 intro pins s σ H x v vl vu lo hi sl Q I rx hs pl pu h;obtain ⟨a,xs,rfl,hx,q⟩:=h;cases rx;obtain ⟨its,r,ht,hz⟩:=I.list hx;have hlen:=r.length;refine ⟨"list",_,slot_list_getitem.lookup,ht.isList.typeIs,?_⟩
 refine wpAny_getItem_list_slice ht.isList hs pl pu .none (by simp) ?_ (by rw [List.size_toArray] <;> omega);rw [G3,<- hlen];refine ⟨.ref s.heap.objs.size,_,I.laid (t':=s.toks) (o:=.lst (yt xs lo hi)) (fun b ob q=>Heap.get?_push_of_some _ q) (Nat.le_refl _) ?_,rfl,q _ (I.hok.fresh (Nat.le_refl _))⟩;exact ⟨Nat.le_trans (Af xs lo hi) hz,_,0,(r.drop (HT.sIx xs.length 0 lo)).take (HT.sIx xs.length xs.length hi - HT.sIx xs.length 0 lo),Heap.get?_push_size _ rfl⟩
theorem xq:gn X (.builtin "len") (fun xs H Q=>∃ p ys,xs=[.ref p] /\ (SqL X.K H p ys \/ SqT X.K H p ys) /\ Q (.int ys.length) H):=by
 intro pins s σ H xs us Q I r h;obtain ⟨p,ys,rfl,hq,q⟩:=h;obtain ⟨u,rfl,rx⟩:=vals1 r;cases rx;have hn:=ud;rcases hq with hq | hq
 .obtain ⟨its,r',pl,hz⟩:=I.list hq;have hlen:=r'.length;exact Calls.call_len_list pl.isList (by simp only [List.size_toArray] <;> omega) ⟨.int ys.length,H,I.tok _,⟨s.toks+1,by rw [List.size_toArray,hlen]⟩,q⟩
 .obtain ⟨its,r',pl,hz⟩:=I.tuple hq;have hlen:=r'.length;exact len_tuple pl (by simp only [List.size_toArray] <;> omega) ⟨.int ys.length,H,I.tok _,⟨s.toks+1,by rw [List.size_toArray,hlen]⟩,q⟩
theorem yF:gn X (.builtin "len") (fun xs H Q=>∃ z,xs=[.str z] /\ z.length <= sizeLine /\ Q (.int z.length) H):=by
 intro pins s σ H xs us Q I r h;obtain ⟨z,rfl,hz,q⟩:=h;obtain ⟨u,rfl,t,rfl⟩:=vals1 r;have hn:=ud;exact len_str (by omega) ⟨.int z.length,H,I.tok _,⟨_,rfl⟩,q⟩
theorem gn.or {f:Value}{r r':List V->Hp->VK->Prop} (h:gn X f r) (h':gn X f r'):gn X f (fun xs H Q=>r xs H Q\/r' xs H Q):=by
 intro pins s σ H xs us Q I rs q;rcases q with q | q
 .exact h pins s σ H xs us Q I rs q
 .exact h' pins s σ H xs us Q I rs q
theorem xg:gn X (.type "list") (fun xs H Q=>∃ p ys,xs=[.ref p] /\ (SqL X.K H p ys \/ SqT X.K H p ys) /\ ∀ l,H l=none -> Q (.ref l) (upd H l (.lst ys))):=by
 intro pins s σ H xs us Q I r h;obtain ⟨p,ys,rfl,hq,q⟩:=h;obtain ⟨u,rfl,rx⟩:=vals1 r;cases rx;have fin:∀ (its:List Value),Vals ys its->ys.length<=sizeLine->∀ (h':Heap) (c':Nat),(∀ b o',s.heap.get? b=some o'->h'.get? b=some o') ->
   h'.get? s.heap.objs.size=some { cls:=.type "list",dict:=none,data:=.seq its.toArray c',slots:=#[] } -> EP X pins σ Q (.ref s.heap.objs.size) { s with heap:=h' }:=fun its r' hz h' c' kp e =>
  ⟨.ref s.heap.objs.size,_,I.laid (t':=s.toks) kp (Nat.le_refl _) (show bY X.prog X.w _ h' _ (.lst ys) from ⟨hz,its,c',r',e⟩),rfl,q _ (I.hok.fresh (Nat.le_refl _))⟩
 rcases hq with hq | hq
 .obtain ⟨its,r',pl,hz⟩:=I.list hq;have hlen:=r'.length;obtain ⟨o,ho,hc,n,hd⟩:=pl.isList;exact call_list_seq p (.inl rfl) ho hc hd (fun h' c' kp e=>fin its r' hz h' c' kp e) (by simp only [List.size_toArray] <;> omega)
 .obtain ⟨its,r',pl,hz⟩:=I.tuple hq;have hlen:=r'.length;obtain ⟨o,ho,hc,n,hd⟩:=pl;exact call_list_seq p (.inr rfl) ho hc hd (fun h' c' kp e=>fin its r' hz h' c' kp e) (by simp only [List.size_toArray] <;> omega)
theorem GR:gn X (.type "tuple") (fun xs H Q=>∃ p ys,xs=[.ref p] /\ ((SqL X.K H p ys /\ ∀ l,H l=none -> Q (.ref l) (upd H l (.tup ys))) \/ (SqT X.K H p ys /\ Q (.ref p) H))):=by
 intro pins s σ H xs us Q I r h;obtain ⟨p,ys,rfl,h⟩:=h;obtain ⟨u,rfl,rx⟩:=vals1 r;cases rx;rcases h with ⟨hq,q⟩ | ⟨hq,q⟩
 .obtain ⟨its,r',pl,hz⟩:=I.list hq;have hlen:=r'.length;refine call_tuple_list pl.isList (fun h' kp=>?_) (by simp only [List.size_toArray] <;> omega);have I1:Inv X pins σ H { s with heap:=h' }:=I.kept (t':=s.toks) kp;have I2:Inv X pins σ (upd H h'.objs.size (.tup ys)) { s with heap:=h'.push { cls:=.type "tuple",data:=.seq its.toArray } } :=
   I1.laid (t':=s.toks) (fun b o e=>Heap.get?_push_of_some _ e) (Nat.le_refl _) (show bY X.prog X.w _ _ _ (.tup ys) from ⟨hz,its,r',IsTup.new _ _⟩)
  exact ⟨.ref h'.objs.size,_,I2,rfl,q _ (I1.hok.fresh (Nat.le_refl _))⟩
 .obtain ⟨its,r',pl,hz⟩:=I.tuple hq;exact call_tuple_same pl ⟨.ref p,H,I,rfl,q⟩
def tyV (K:PySem.W.Frag) (T:String) (x:V) (H:Hp):Prop:=match x with
 | .str _=>T="str"
 | .int _=>T="int"
 | .ref p=>(T="list" /\ ∃ xs,SqL K H p xs) \/ (T="tuple" /\ ∃ o,K.lookup p=some o /\ o.cls=.type "tuple" /\ o.dict=none) \/
   (T="dict" /\ ((∃ kvs,H p=some (.dK kvs)) \/ ∃ kvs,H p=some (.dT kvs))) \/ (T="set" /\ ∃ S n,H p=some (.set S n))
 | _=>False
theorem aac {pins:List (Addr × Obj)}{σ:St}{H:Hp}{s:Shared}{T:String}{x:V}{v:Value} (I:Inv X pins σ H s) (r:RelV x v) (ty:tyV X.K T x H) :
  s.TypeIs v T/\∀ a,v=.ref a->∃ ob,s.heap.get? a=some ob/\ob.dict=none:=by
 cases x with
 | str z =>
  obtain ⟨t,rfl⟩:=r;cases (show T="str" from ty)
  exact ⟨typeIs_str s z t,fun _ e=>nomatch e⟩
 | int i =>
  obtain ⟨t,rfl⟩:=r;cases (show T="int" from ty)
  exact ⟨typeIs_int s i t,fun _ e=>nomatch e⟩
 | ref p =>
  cases r;rcases ty with ⟨rfl,xs,hq⟩ | ⟨rfl,o,hk,hc,hd⟩ | ⟨rfl,hk⟩ | ⟨rfl,S,n,hk⟩
  .obtain ⟨its,_,pl,_⟩:=I.list hq;refine ⟨pl.isList.typeIs,fun a e=>?_⟩;cases e;obtain ⟨o,n,e,c,hd,_⟩:=pl;exact ⟨o,e,hd⟩
  .refine ⟨⟨o,I.kIn p o hk,hc⟩,fun a e=>?_⟩;cases e;exact ⟨o,I.kIn _ o hk,hd⟩
  .have z:∃ o,s.heap.get? p=some o/\o.ExactDict:=by
    rcases hk with ⟨kvs,hk⟩ | ⟨kvs,hk⟩
    .obtain ⟨_,_,_,_,o,_,_,e,ex,_⟩:=I.hok p _ hk;exact ⟨o,e,ex⟩
    .obtain ⟨_,_,_,_,o,_,_,e,ex,_⟩:=I.hok p _ hk;exact ⟨o,e,ex⟩
   obtain ⟨o,e,ex⟩:=z;refine ⟨⟨o,e,ex.1⟩,fun a e2=>?_⟩;cases e2;exact ⟨o,e,ex.2.1⟩
  .obtain ⟨o,_,_,_,e,ex,_⟩:=I.hok p _ hk;refine ⟨⟨o,e,ex.1⟩,fun a e2=>?_⟩;cases e2;exact ⟨o,e,ex.2.1⟩
 | _=>exact False.elim ty
def tBM (K:PySem.W.Frag) (T:String) (r:V->List V->Hp->VK->Prop) (to:TE) (t:TA):TE:=fun σ H Q=>to σ H fun x H1=>tyV K T x H1/\t σ H1 fun xs H2=>r x xs H2 Q
variable {o e:Expr}{es:List Expr}{to:TE}{t:TA}{name:Str}{apos cpos:Pos}{T id:String}{r:V->List V->Hp->VK->Prop}
theorem acq (pa:PlainAttrs T) (slot:Slot T name id) (hty:typeOf (.builtin id)=pure (.type "method_descriptor")) (hm:MtR X id r) (ho:PE X o to) (ha:PA X (e::es) t)
  (hbase:attributeBase o name X.env (eval o X.env)=eval o X.env:=by rfl)
  (hfew:((backTo cpos (starEach (e::es) X.env)).all (fun x=>!x.1) && (backToKw cpos (keywordEach [] X.env)).all (fun x=>x.1.isSome)
   && decide ((e::es).length+([]:List Keyword).length+(if ([]:List Keyword).isEmpty then 0 else 1) < 30))=true:=by rfl)
  (hline:(apos.endLine == cpos.line)=true:=by rfl) (hs:starEach (e::es) X.env=(false,eval e X.env)::starEach es X.env:=by rfl) (hplain:(backTo cpos (starEach es X.env)).any (·.1)=false:=by rfl) :
  PE X (.Call (.Attribute o name apos) (e::es) [] cpos) (tBM X.K T r to t):=by
 intro pins s σ H Q I h;refine wpAny_Call_method_late hbase hfew hline rfl (thn (ho pins s σ H _ I h) fun v s1 ⟨x,H1,I1,r1,ty,q1⟩=>?_);obtain ⟨h1,h2⟩:=aac I1 r1 ty;refine ⟨T,id,pa,slot,hty,h1,h2,?_⟩;have hA:=ha cpos pins s1 σ H1 _ I1 q1;rw [hs] at hA ⊢;refine Calls.callWith_builtin (by show (false || (backTo cpos (starEach es X.env)).any (·.1))=false;rw [hplain] <;> rfl) (Calls.evalArgs_plain ?_);exact thn hA fun us s2 ⟨vs,H2,I2,r2,q2⟩=>hm pins s2 σ H2 x vs v us Q I2 r1 r2 q2
end
end L2
namespace L2
open PySem PySem.Spec PyProof.Rows
def MtM (X:Cx) (id:String) (r:V->List V->Hp->VK->Prop):Prop :=
 ∀ (pins:List (Addr × Obj)) (s:Shared) (σ:St) (H:Hp) (x:V) (xs:List V) (v:Value) (us:List Value) (Q:VK),Inv X pins σ H s->RelV x v->Vals xs us->r x xs H Q ->
  wpAny (model X.prog X.w) X.A (call (.builtin id) (v::us)) (EP X pins σ Q) X.xe s
theorem Vals.one:∀ {x:V}{us:List Value},Vals [x] us->∃ u,us=[u]/\RelV x u
 | _,_,.cons r .nil=>⟨_,rfl,r⟩
theorem Vals.rep {xs:List V}{us:List Value} (h:Vals xs us):∀ k:Nat,Vals (List.replicate k xs).flatten (List.replicate k us).flatten
 | 0=>.nil
 | k+1=>by
  rw [List.replicate_succ,List.replicate_succ,List.flatten_cons,List.flatten_cons];exact Vals.append h (Vals.rep h k)
theorem foldl_rep (its:List Value):∀ (k:Nat) (acc:List Value),
  List.foldl (fun x1 x2=>x1++x2) acc.toArray (List.replicate k its.toArray)=(acc++(List.replicate k its).flatten).toArray
 | 0,acc=>by simp
 | k+1,acc=>by
  have e:acc.toArray++its.toArray=(acc++its).toArray:=by simp
  have e2:(acc++its)++(List.replicate k its).flatten=acc++(List.replicate (k+1) its).flatten:=by
   rw [List.replicate_succ,List.flatten_cons,List.append_assoc]
  rw [<- e2,<- foldl_rep its k (acc++its),<- e,List.replicate_succ,List.foldl_cons]
section
variable {X:Cx}{pins:List (Addr × Obj)}{σ:St}{H:Hp}{s:Shared}{l b:Addr}{xs ys zs:List V}
theorem Inv.lset {its its':List Value}{n:Nat}{f:Array Value->Array Value}{t':Nat} (I:Inv X pins σ H s) (hH:H l=some (.lst xs))
  (e:s.heap.get? l=some { cls:=.type "list",data:=.seq its.toArray n }) (hf:f its.toArray=its'.toArray) (hv:Vals ys its') (hz:ys.length <= sizeLine) :
  Inv X pins σ (upd H l (.lst ys)) { s with heap:=s.heap.update l (Obj.mapSeq f),toks:=t' }:=by
 have q:=PySem.IsL.update e f;rw [hf] at q;refine I.write (x:=l) (e:=l) (by rw [hH];exact trivial) (.inl rfl) (fun b' u hb hu=>(Heap.get?_update_other s.heap (Obj.mapSeq f) (Ne.symm hb)).trans hu) ⟨_,q⟩ ?_;exact ⟨hz,its',_,hv,q⟩
theorem Inv.lnew {its:List Value}{t':Nat} (I:Inv X pins σ H s) (hv:Vals ys its) (hz:ys.length<=sizeLine) :
  Inv X pins σ (upd H s.heap.objs.size (.lst ys)) { s with heap:=s.heap.push { cls:=.type "list",data:=.seq its.toArray },toks:=t' } :=
 I.laid (fun _ _ q=>Heap.get?_push_of_some _ q) (Nat.le_refl _) ⟨hz,its,0,hv,Heap.get?_push_size _ rfl⟩
theorem Inv.fresh (I:Inv X pins σ H s):H s.heap.objs.size=none:=I.hok.fresh (Nat.le_refl _)
theorem Inv.lstM (I:Inv X pins σ H s) (hH:H l=some (.lst xs)):xs.length <= sizeLine /\ ∃ (its:List Value) (n:Nat),Vals xs its /\ xs.length=its.length /\ s.heap.get? l=some { cls:=.type "list",data:=.seq its.toArray n }:=by
 obtain ⟨z,its,n,r,e⟩:=I.hok l _ hH;exact ⟨z,its,n,r,r.length,e⟩
theorem Ud {n:Nat} (h:n<=sizeLine):Builtin.List.listTooLong n=false:=by
 unfold Builtin.List.listTooLong;exact decide_eq_false (by omega)
end
section
variable {X:Cx}
def Xx:V->List V->Hp->VK->Prop:=fun x vs H Q=>∃ l xs y,x=.ref l/\vs=[y]/\H l=some (.lst xs)/\xs.length < sizeLine/\Q .non (upd H l (.lst (xs++[y])))
theorem Fq:MtM X "list.append" Xx:=by
 intro pins s σ H x vs v us Q I rx rv h;obtain ⟨l,xs,y,rfl,rfl,hH,hz,q⟩:=h;cases rx;obtain ⟨u,rfl,ru⟩:=rv.one;obtain ⟨z,its,n,r,hl,e⟩:=I.lstM hH;refine call_meets F.slot_list_append ⟨_,e,rfl⟩ F.entry_list_append (F.args_list_append_2 _ _) (PySem.list_append l its.toArray n u (by rw [List.size_toArray];omega)) ⟨e,?_⟩;refine ⟨.non,_,I.lset (its':=its++[u]) hH e (by simp) (r.append (.cons ru .nil)) ?_,rfl,q⟩;rw [List.length_append,List.length_singleton];omega
theorem len_rep {α:Type} (xs:List α) (k:Nat):(List.replicate k xs).flatten.length=k * xs.length:=by
 induction k with
 | zero=>simp
 | succ k ih=>rw [List.replicate_succ,List.flatten_cons,List.length_append,ih,Nat.succ_mul,Nat.add_comm]
end
section
variable {prog:Program}{w:World}{A:Around}{E:Value->Shared->Prop}{s:Shared}
end
section
variable {X:Cx}
end
end L2
namespace L2
open PySem PySem.Spec PyProof.Rows
section
variable {κ:Type} [DecidableEq κ]
end
section
variable {P:Program}{w:World}{H:Hp}{h:Heap}{a:Addr}
end
section
variable {X:Cx}{pins:List (Addr × Obj)}{σ:St}{H:Hp}{s:Shared}{a:Addr}{y v:V}{u r:Value}{o:Option V}{A:Around}{E:Value->Shared->Prop}
end
section
variable {X:Cx}{pins:List (Addr × Obj)}{σ:St}{H:Hp}{s:Shared}{a:Addr}{kvs:List (Key × V)}{k:Key}{u:Value}{A:Around}{E:Value->Shared->Prop}
end
section
variable {X:Cx}{o i e value:Expr}{pos pos' tpos:Pos}{td ty tv:TE}
end
section
variable {X:Cx}{pos:Pos}
end
section
variable {X:Cx}{pins:List (Addr × Obj)}{σ:St}{H:Hp}{s:Shared}{a:Addr}{y d:V}{u r:Value}{o:Option V}{A:Around}{E:Value->Shared->Prop}
end
section
variable {X:Cx}{o e f:Expr}{apos cpos:Pos}{td ty tx:TE}
end
section
variable {X:Cx}{pins:List (Addr × Obj)}{σ:St}{H:Hp}{s:Shared}{a:Addr}{kvs:List (Key × V)}{A:Around}{E:Value->Shared->Prop}
end
section
variable {X:Cx}{pins:List (Addr × Obj)}{σ:St}{H:Hp}{s:Shared}{a:Addr}{y:V}{u:Value}{A:Around}{E:Value->Shared->Prop}
end
end L2
namespace Att
open PySem PySem.W PySem.Calls PyProof.Rows
theorem BW {P:Params}{h:Heap}:∀ (ns:List Int) (vs:List Value),WellAll P h vs (ns.map WData.int)->IntsAre vs ns:=by
 intro ns;induction ns with
 | nil =>
  intro vs w;rw [List.map_nil] at w;cases w;exact .nil
 | cons n ns ih =>
  intro vs w;rw [List.map_cons] at w;cases w with
  | cons a b =>
   cases a;exact .cons _ _ (ih _ b)
theorem Rx {l:OpenLaw}{n:Nat} (hn:l.most=some n) {P:Params}{h:Heap}{args:List WData}{vals:List Value}
  (hpre:l.row.toRowW.claim.pre args=true) (hwl:WellAll P h vals args) :
  ∃ a vs ns,vals=[Value.ref a] /\ args=[WData.list (ns.map WData.int)] /\ h.get? a=some { cls:=.type "list",data:=.seq vs.toArray } /\ IntsAre vs ns /\ ns.length <= n:=by
 have hsh:WShape.hasAll [] args [.list .int]=true:=(pre_splitW hpre).1;have hc:l.pre.holds [] { args:=args }=true:=(pre_splitW hpre).2;obtain ⟨d,r,rfl,h1,h2⟩:=hasAllW_cons hsh;obtain rfl:=hasAllW_nil h2;obtain ⟨xs,rfl,h3⟩:=hasW_list h1;obtain ⟨ns,rfl⟩:=items_int h3;have hlen:ns.length<=n:=by
  unfold OpenLaw.pre at hc;have h4:(WTm.not (.lt (.lit (.int (n:Int))) (.len (.arg 0)))).holds [] { args:=[.list (ns.map .int)] }=true:=by
   have h4:=(holds_andW hc).1;rw [hn] at h4;exact h4
  have h5:=condW_of h4 (w_not (w_lt w_lit (w_len_list (w_arg rfl))));rw [List.length_map] at h5;refine Nat.le_of_not_lt fun q=>?_
  have q':(n:Int) < ((ns.length:Nat):Int):=by omega
  first
   | (rw [decide_eq_true q'] at h5;exact absurd h5 (by decide))
   | (simp at h5;omega)
 cases hwl with
 | cons w1 w2 =>
  cases w2;cases w1 with
  | list ho hall=>exact ⟨_,_,ns,rfl,rfl,ho,BW ns _ hall,hlen⟩
theorem Qt (l:OpenLaw) (args:List WData):l.row.toRowW.claim.post args (.bool true) args=true :=
 postW_of (r:=l.row.toRowW) (X:=(true == true))
  (show WShape.has [] (.bool true) .bool=true by first | rfl | decide | simp [WShape.has,WShape.arms,WShape.armsAll])
  (show (WTm.eq .res (.lit (.bool true))).value [] { args:=args,res:=some (.bool true),after:=args }=some (.bool (true == true)) from w_eq_bool (w_res rfl) w_lit) rfl
theorem K1 {l:OpenLaw}{n:Nat}{q:Program}{loose:List Str}{XP:(Str->Option Value)->Heap->Prop}{YP:World->Heap->Prop}{d:DefRec}
  (hn:l.most=some n) (hdf:d.params.defaults=[])
  (call:∀ (w:World) (s₀ s₁:Shared) (mg mb:Str->Option Value) (fa:Addr) (o:Obj) (pm cd doc:Value) (a:Addr) (vs:List Value) (ns:List Int),
   Ground q loose [] XP w s₀ mg mb s₁.heap->YP w s₁.heap ->
   s₁.heap.get? fa=some o->o.data=.func (docDef d.name d.params d.body d.scope pm cd doc)->s₁.heap.CodeRec cd d.name->mg d.name=some (.ref fa) ->
   s₁.heap.get? a=some { cls:=.type "list",data:=.seq vs.toArray } -> IntsAre vs ns -> ns.length <= n -> s₁.gens=#[] ->
   codeAny (model l.prog w) callerA (.call (.ref fa) ⟨[.ref a],[]⟩) (fun r s'=>r=.ok (.ret (.bool true))/\OldK s₁.heap s'.heap/\s'.os=s₁.os/\AllBare s'.gens) s₁) :
  WalkO q loose XP YP l.row.toRowW d [] (fun f vs=>PySem.call f vs):=by
 intro w s₀ s₁ mg mb G Y fa o pm cd doc dV kV ho hd hcd hD hmg hg args vals as hpre hlay hrd hwl hlo;obtain rfl:dV=.none:=Dflts.none hD hdf;obtain rfl:kV=.none:=Dflts.noKw hD;obtain ⟨a,vs,ns,rfl,rfl,hobj,hints,hlen⟩:=Rx hn hpre hwl;refine enter_call (codeAny_mono (call w s₀ s₁ mg mb fa o pm cd doc a vs ns G Y ho (fd_plain hd) hcd hmg hobj hints hlen hg) fun r s' hq=>?_);obtain ⟨rfl,h2,h3,h4⟩:=hq;exact ⟨.inl ⟨.bool true,.bool true,[],rfl,fun _=>rfl,.bool true,Qt l _,fun _=>⟨List.Pairwise.nil,fun _ hm=>(nomatch hm)⟩⟩,h2,h3,h4⟩
section
variable {prog:Program}{w:World}{A:Around}{E:Value->Shared->Prop}{s:Shared}{K:Frag}
end
end Att
namespace L2
open PySem PySem.Spec PyProof.Rows
theorem FZ:∀ {vs:List Value}{ns:List Int},IntsAre vs ns->Vals (ns.map V.int) vs
 | _,_,.nil=>.nil
 | _,_,.cons n t h=>.cons ⟨t,rfl⟩ (FZ h)
def Only (H:Hp):Prop:=∀ b,H b=none\/(∃ o xs,H b=some (.frz o (.lst xs)))\/H b=some (.tbl #[])
def BL (mg:Str->Option Value) (h:Heap) (tP:Option Addr):Prop:=match tP with
 | none=>∀ a,mg "check_tests" ≠ some (.ref a)
 | some P=>∃ zX ot fdt ct,mg "check_tests"=some (.ref zX) /\ h.get? zX=some ot /\ ot.data=.func fdt /\ fdt.code=.ref ct /\ h.TableAt ct P #[]
theorem Vy {P:Program}{w:World}{K:PySem.W.Frag}{mg mb:Str->Option Value}{CX:CXT}{k:Nat}{fa a:Addr}{fd:FuncData}{x:Str}{sp:Sp}{s₁:Shared}{vs:List Value}{ns:List Int}{tP:Option Addr}
  (KX:K.In s₁.heap) (hns:s₁.heap.Ns mainGlobals mg) (hb:s₁.heap.Ns builtinsNs mb) (hbb:∀ x:Str,x ≠ "__name__" -> mb x=bootBuiltins x) (hlim:s₁.heap.NoLimit) (hg:s₁.gens=#[])
  (hbm:∃ bm ob,mg "__builtins__"=some (.ref bm) /\ bm ≠ builtinsNs /\ s₁.heap.get? bm=some ob /\ ob.cls=.type "module" /\ ob.dict=some builtinsNs /\ ob.data=.plain) (hT:BL mg s₁.heap tP) (hKc:∀ b o,K.lookup b=some o -> Qh o)
  (ha:s₁.heap.get? a=some { cls:=.type "list",data:=.seq vs.toArray }) (hi:IntsAre vs ns) (hl:ns.length <= sizeLine) (hr:Room k callerA)
  (F:∀ base:Heap,K.In base->base.Ns mainGlobals mg->FnOk P w K mg base CX k fa fd [x] sp) (hbind:∀ (s:Shared) (u:Value),BindsTo s fd ⟨[u],[]⟩ [(x,u)])
  (hsp:∀ H:Hp,Only H->SqL K H a (ns.map V.int)->sp [.ref a] H (fun v _=>v=.bl true) fun _ _ _=>False)
  (hCX:∀ H e s',CX [] H s₁ (fun _ _ _=>False) e s'->False) :
  codeAny (model P w) callerA (.call (.ref fa) ⟨[.ref a],[]⟩) (fun r s'=>r=.ok (.ret (.bool true))/\OldK s₁.heap s'.heap/\s'.os=s₁.os/\AllBare s'.gens) s₁:=by
 have rv:=FZ hi;have lenV:=hi.length;have tabP:∀ p,tP=some p->∃ ct,s₁.heap.TableAt ct p #[]:=fun p e=>by
  subst e;obtain ⟨_,_,_,ct,_,_,_,_,q⟩:=hT;exact ⟨ct,q⟩
 have tne:∀ p,tP=some p->p≠a:=fun p e z=>by
  obtain ⟨ct,_,q⟩:=tabP p e;rw [z,ha] at q;cases q
 have core:∀ H:Hp,Only H -> SqL K H a (ns.map V.int) -> (∀ b,H b ≠ none -> b=a \/ (tP=some b /\ H b=some (.tbl #[]))) -> (H a ≠ none -> K.lookup a=none /\ ∃ xs:List V,xs.length <= sizeLine /\ Vals xs vs /\ H a=some (.frz { cls:=.type "list",data:=.seq vs.toArray } (.lst xs))) -> (∀ p,tP=some p -> H p=some (.tbl #[])) ->
   codeAny (model P w) callerA (.call (.ref fa) ⟨[.ref a],[]⟩) (fun r s'=>r=.ok (.ret (.bool true))/\OldK s₁.heap s'.heap/\s'.os=s₁.os/\AllBare s'.gens) s₁:=by
  intro H hO hS hA hK hTb;have hok:HOk P w H s₁.heap:=fun b u z=>by
   rcases hA b (by rw [z];simp) with rfl | ⟨e,e2⟩
   .obtain ⟨_,xs,h1,h2,h3⟩:=hK (by rw [z];simp);rw [z] at h3;cases h3;exact ⟨ha,h1,vs,_,h2,ha⟩
   .rw [z] at e2;cases e2;obtain ⟨ct,_,q⟩:=tabP b e;exact ⟨#[],q,trivial,fun pos v hc=>by cases hc⟩
  have base_of:∀ {b:Addr}{o:Obj},s₁.heap.get? b=some o->H b=none->(tG s₁.heap H).get? b=some o:=fun e n=>T8 e n
  have noT:∀ {b:Addr}{o:Obj},s₁.heap.get? b=some o->(∀ us n,o.data≠.seq us n)->(∀ us,o.data≠.fields us)->H b=none:=fun {b o} e d1 d2=>by
   cases q:H b with
   | none=>rfl
   | some u =>
    rcases hA b (by rw [q];simp) with e' | ⟨e',_⟩
    .subst e';rw [ha] at e;cases e;exact absurd rfl (d1 _ _)
    .obtain ⟨ct,_,q'⟩:=tabP b e';rw [q'] at e;cases e;exact absurd rfl (d2 _)
  have noA:∀ {b:Addr}{o:Obj}{es:Array DictEntry}{ep:Nat},s₁.heap.get? b=some o->o.data=.dict es ep->H b=none:=fun {b o es ep} e d=>noT e (fun us n z=>by rw [d] at z;cases z) fun us z=>by rw [d] at z;cases z
  have nsK:∀ {b:Addr}{m:Str->Option Value},s₁.heap.Ns b m->(tG s₁.heap H).Ns b m:=fun {b m} ⟨o,es,ep,e,d,r⟩=>⟨o,es,ep,base_of e (noA e d),d,r⟩
  have hKb:K.In (tG s₁.heap H):=fun b o e=>base_of (KX b o e) (by
   cases q:H b with
   | none=>rfl
   | some u =>
    rcases hA b (by rw [q];simp) with e' | ⟨e',_⟩
    .subst e';rw [(hK (by rw [q];simp)).1] at e;cases e
    .obtain ⟨ct,_,q'⟩:=tabP b e';have e2:=KX b o e;rw [q'] at e2;cases e2;exact absurd rfl (hKc b _ e _ rfl))
  have hB:∃ bm ob,mg "__builtins__"=some (.ref bm) /\ bm ≠ builtinsNs /\ bm ≠ mainGlobals /\ (tG s₁.heap H).get? bm=some ob /\ ob.cls=.type "module" /\ ob.dict=some builtinsNs /\ ob.data=.plain:=by
   obtain ⟨bm,ob,b1,b2,b3,b4,b5,b6⟩:=hbm;refine ⟨bm,ob,b1,b2,fun q=>?_,base_of b3 (noT b3 (fun us n z=>by rw [b6] at z;cases z) fun us z=>by rw [b6] at z;cases z),b4,b5,b6⟩;obtain ⟨o,es,ep,e,hd,_⟩:=hns;rw [q,e] at b3;cases b3;rw [hd] at b6;cases b6
  have hM:Mod K mg (tG s₁.heap H):=⟨hKb,nsK hns,⟨mb,nsK hb,hbb⟩,let ⟨mc,h1,h2⟩:=hlim;⟨mc,nsK h1,h2⟩,hB⟩;have hTI:sH K mg H:=fun a' o fd' c oc us p e1 e2 e3 e4 e5 e6 e7=>by
   cases tP with
   | none=>exact absurd e1 (hT a')
   | some p' =>
    obtain ⟨zX,ot,fdt,ct,t1,t2,t3,t4,⟨o',vs',t5,_,t6,t7⟩,_⟩:=hT;rw [e1] at t1;cases t1;rw [KX _ _ e2] at t2;cases t2;rw [e3] at t3;cases t3;rw [e4] at t4;cases t4;rw [KX _ _ e5] at t5;cases t5;rw [e6] at t6;cases t6;rw [e7] at t7;cases t7;exact ⟨_,hTb _ rfl⟩
  have e0:Env0 P w K mg (tG s₁.heap H) callerA [] s₁ H:=⟨rfl,hM,fun b o e=>W5 e,Nat.le_of_eq (Qy _ _),trivial,fun b hb=>absurd (show b∈([]:List Addr) from hb) (by simp),hok,.of_eq hg,hTI⟩;refine codeAny_mono ((F _ hKb (nsK hns)).run callerA [] s₁ H ⟨[.ref a],[]⟩ [.ref a] [.ref a] _ _ hr e0 (hbind s₁ (.ref a)) (.cons rfl .nil) (hsp H hO hS)) fun r s' h=>?_
  cases r with
  | error e=>exact (hCX H e s' h).elim
  | ok fl =>
   cases fl with
   | next=>exact False.elim h
   | brk=>exact False.elim h
   | cont=>exact False.elim h
   | ret u =>
    obtain ⟨v,H',os,bare,un,hok',r',q⟩:=h;have q':v=.bl true:=q;subst q';obtain rfl:u=Value.bool true:=r';refine ⟨rfl,⟨fun b o e=>?_,fun b o e=>un.there b o e (by simp)⟩,os,bare⟩;cases q:H b with
    | none=>exact .inl (un.keep b o e q (by intro z;exact absurd (show b∈([]:List Addr) from z) (by simp)) (by simp))
    | some u =>
     rcases hO b with z | ⟨ob,xs,z⟩ | z
     .rw [q] at z;cases z
     .have z2:=un.frzs b ob _ z;obtain ⟨e1,_⟩:=hok b _ z;obtain ⟨e2,_⟩:=hok' b _ z2;rw [e] at e1;cases e1;exact .inl e2
     .rcases hA b (by rw [z];simp) with rfl | ⟨e',_⟩
      .obtain ⟨_,xs,_,_,h3⟩:=hK (by rw [z];simp);rw [z] at h3;cases h3
      .obtain ⟨m,z2⟩:=un.tbls b _ z;obtain ⟨ps,e2,_⟩:=hok' b _ z2;obtain ⟨ct,qt⟩:=tabP b e';have e3:=qt.2;rw [e] at e3;cases e3;exact .inr (.inl ⟨qt.isCodeTable,rfl,#[],ps,rfl,by simpa using e2⟩)
 cases hk:K.lookup a with
 | some o =>
  have e:=KX a o hk;rw [ha] at e;cases e;refine core (fun b=>if tP=some b then some (.tbl #[]) else none) (fun b=>?_) (.inr ⟨_,vs.toArray,_,hk,rfl,rfl,rfl,by rw [List.size_toArray,lenV];exact hl,by simpa using rv⟩) (fun b z=>?_) (fun z=>?_) fun p e=>if_pos e
  .by_cases hb:tP=some b
   .exact .inr (.inr (if_pos hb))
   .exact .inl (if_neg hb)
  .by_cases hb:tP=some b
   .exact .inr ⟨hb,if_pos hb⟩
   .exact absurd (if_neg hb) z
  .exact absurd (if_neg fun e=>tne a e rfl) z
 | none =>
  refine core (fun b=>if b=a then some (.frz { cls:=.type "list",data:=.seq vs.toArray } (.lst (ns.map V.int))) else if tP=some b then some (.tbl #[]) else none) (fun b=>?_) (.inl (.inr ⟨{ cls:=.type "list",data:=.seq vs.toArray },if_pos rfl⟩)) (fun b z=>?_) (fun z=>⟨hk,ns.map V.int,by rw [List.length_map]; exact hl,rv,if_pos rfl⟩) fun p e=>?_
  .by_cases hb:b=a
   .exact .inr (.inl ⟨_,_,if_pos hb⟩)
   .by_cases hb2:tP=some b
    .exact .inr (.inr ((if_neg hb).trans (if_pos hb2)))
    .exact .inl ((if_neg hb).trans (if_neg hb2))
  .by_cases hb:b=a
   .exact .inl hb
   .by_cases hb2:tP=some b
    .exact .inr ⟨hb2,(if_neg hb).trans (if_pos hb2)⟩
    .exact absurd ((if_neg hb).trans (if_neg hb2)) z
  .exact (if_neg (tne p e)).trans (if_pos e)
end L2
namespace L2
open PySem PySem.Spec PyProof.Rows
theorem Y0 {l:PySem.W.OpenLaw}{n k:Nat}{q:Program}{loose:List Str}{XP:(Str->Option Value)->Heap->Prop}{YP:World->Heap->Prop}{d:DefRec}{K:Params->PySem.W.Frag}{CX:World->CXT}{sp:World->Sp}{x:Str}
  (hn:l.most=some n) (hn2:n<=sizeLine) (hdf:d.params.defaults=[]) (hr:Room k callerA)
  (hY:∀ (w:World) (h:Heap),YP w h->(K w.params).In h) (hKc:∀ (p:Params) (b:Addr) (o:Obj),(K p).lookup b=some o->Qh o) (hT:∀ (w:World) (s₀:Shared) (mg mb:Str->Option Value) (h:Heap),PySem.W.Ground q loose [] XP w s₀ mg mb h->YP w h->∃ tP,BL mg h tP)
  (F:∀ (w:World) (mg:Str->Option Value) (fa:Addr) (h:Heap),(K w.params).In h->h.Ns mainGlobals mg->mg d.name=some (.ref fa) ->
   ∃ fd:FuncData,(∀ (s:Shared) (u:Value),BindsTo s fd ⟨[u],[]⟩ [(x,u)]) /\
    ∀ base:Heap,(K w.params).In base->base.Ns mainGlobals mg->FnOk l.prog w (K w.params) mg base (CX w) k fa fd [x] (sp w))
  (hsp:∀ (w:World) (H:Hp) (a:Addr) (ns:List Int),ns.length<=n->Only H->SqL (K w.params) H a (ns.map V.int)->sp w [.ref a] H (fun v _=>v=.bl true) fun _ _ _=>False)
  (hCX:∀ (w:World) (H:Hp) (s:Shared) (e:Value) (s':Shared),CX w [] H s (fun _ _ _=>False) e s'->False) :
  PySem.W.WalkO q loose XP YP l.row.toRowW d [] (fun f vs=>PySem.call f vs):=by
 refine Att.K1 hn hdf fun w s₀ s₁ mg mb fa o pm cd doc a vs ns G Y ho hd hcd hmg hobj hints hlen hg=>?_
 have KX:=hY w _ Y;obtain ⟨fd,hb,hF⟩:=F w mg fa _ KX G.T.g hmg;obtain ⟨tP,hTP⟩:=hT w s₀ mg mb _ G Y;exact Vy KX G.T.g G.T.b G.T.builtins G.T.nolimit hg G.T.bmain hTP (hKc w.params) hobj hints (Nat.le_trans hlen hn2) hr hF hb (fun H hO hS=>hsp w H a ns hlen hO hS) fun H e s'=>hCX w H s₁ e s'
end L2
namespace L2
open PySem PySem.Spec PyProof.Rows
abbrev CX0:CXT:=fun _ _ _ _ _ _=>False
abbrev E0:XK:=fun _ _ _=>False
theorem Ws {X:Cx}:Passes CX0 X E0:=fun _ _ _ _ _ _ _ h=>h.elim
structure Fun (K:PySem.W.Frag) (x qual:Str) (st:Stmt) (f:Addr) (fd:FuncData):Prop where
 ex:∃ (oc:Value) (od:Option Addr) (kV doc pm:Value) (an:Option Addr) (cdv ct:Value) (osl:Array (Option Value)),
  fd=PySem.W.fnOf x qual (bQ st) (bC st) (aH st) .none kV doc pm an cdv ct/\K.lookup f=some ⟨oc,od,.func fd,osl⟩/\PySem.W.codeIn K cdv qual=true
 kp:PySem.W.keepIn K (.ref f)=true
section
variable {P:Program}{w:World}{K:PySem.W.Frag}{mg:Str->Option Value}{base:Heap}
theorem Fun.ok {x qual:Str}{st:Stmt}{f:Addr}{fd:FuncData}{N ps:List Str}{k:Nat}{sp:Sp} (F:Fun K x qual st f fd) (S:FnScope N ps (aH st)) (len:∀ vs H Q E,sp vs H Q E->vs.length=ps.length)
  (hbody:∀ (cdv:Value) (A:Around) (outer:List Env) (s:Shared) (H:Hp) (vs:List V) (Q:VK) (E:XK),Room k (A.deeper (envOfC qual (aH st) s.heap.objs.size f cdv))->sp vs H Q E ->
   ∃ t,PSs (bV CX0 P w K mg base N qual (aH st) f cdv A outer s H E).nox (bC st) t/\t { nx:=fun _ H'=>Q .non H',rt:=Q } (start N vs) H):FnOk P w K mg base CX0 (k+1) f fd ps sp:=by
 obtain ⟨oc,od,kV,doc,pm,an,cdv,ct,osl,rfl,lk,hcd⟩:=F.ex;refine Wn lk hcd S len fun A outer s H vs Q E hr hsp=>?_
 obtain ⟨t,h,q⟩:=hbody cdv A outer s H vs Q E hr hsp;exact ⟨t,h.nox,q⟩
theorem Fun.binds {x qual:Str}{st:Stmt}{f:Addr}{fd:FuncData}{ps:List Str} (F:Fun K x qual st f fd)
  (h:∀ (kV doc pm:Value) (an:Option Addr) (cdv ct:Value) (us:List Value),us.length=ps.length->bindArgs (PySem.W.fnOf x qual (bQ st) (bC st) (aH st) .none kV doc pm an cdv ct) ⟨us,[]⟩=pure (ps.zip us)):Binds K fd ps []:=by
 obtain ⟨oc,od,kV,doc,pm,an,cdv,ct,osl,rfl,lk,hcd⟩:=F.ex;exact .all (h kV doc pm an cdv ct)
theorem R5 {x qual:Str}{st:Stmt}{f:Addr}{oc:Value}{od an:Option Addr}{osl:Array (Option Value)}{kV doc pm cdv ct:Value} (l:K.lookup f=some ⟨oc,od,.func (PySem.W.fnOf x qual (bQ st) (bC st) (aH st) .none kV doc pm an cdv ct),osl⟩)
  (c:PySem.W.codeIn K cdv qual=true) (k:PySem.W.keepIn K (.ref f)=true):Fun K x qual st f (PySem.W.fnOf x qual (bQ st) (bC st) (aH st) .none kV doc pm an cdv ct):=⟨⟨oc,od,kV,doc,pm,an,cdv,ct,osl,rfl,l,c⟩,k⟩
end
section
variable {X:Cx}
end
theorem aaf {A B:Prop} (h:B):if false=true then A else B:=by
 rw [if_neg Bool.false_ne_true];exact h
theorem Va {A B:Prop} (h:A):if true=true then A else B:=by
 rw [if_pos rfl];exact h
def Same (H H':Hp):Prop:=∀ b o,H b=some o->H' b=some o
theorem Same.refl (H:Hp):Same H H:=fun _ _ h=>h
theorem Same.trans {H H1 H2:Hp} (a:Same H H1) (b:Same H1 H2):Same H H2:=fun c o h=>b c o (a c o h)
theorem Same.free {H H':Hp} (e:Same H H') {l:Addr} (h:H' l=Option.none):H l=Option.none:=by
 cases q:H l with
 | none=>rfl
 | some o =>
  rw [e l o q] at h;cases h
theorem Same.seq {K:PySem.W.Frag}{H H':Hp}{a:Addr}{xs:List V} (e:Same H H') (h:SqL K H a xs):SqL K H' a xs:=by
 rcases h with (h | ⟨o,h⟩) | h
 .exact .inl (.inl (e _ _ h))
 .exact .inl (.inr ⟨o,e _ _ h⟩)
 .exact .inr h
end L2
set_option genInjectivity true
set_option genSizeOfSpec true
namespace Mi
open PySem L2 PyProof.Rows
inductive D where
 | non | bl (b:Bool) | int (i:Int) | str (x:Str) | tup (ds:List D) | lst (ds:List D) | dct (ks vs:List D)
mutual
noncomputable def tX:D->D->Bool
 | .non,.non=>true
 | .bl a,.bl b=>a == b
 | .int a,.int b=>a == b
 | .str a,.str b=>decide (a=b)
 | .tup a,.tup b=>oV a b
 | .lst a,.lst b=>oV a b
 | .dct a b,.dct c d=>oV a c && oV b d
 | _,_=>false
noncomputable def oV:List D->List D->Bool
 | [],[]=>true
 | a::as,b::bs=>tX a b && oV as bs
 | _,_=>false
end
mutual
theorem Ef:∀ (a b:D),tX a b=true↔a=b
 | .non,b=>by cases b <;> simp [tX]
 | .bl x,b=>by cases b <;> simp [tX]
 | .int x,b=>by cases b <;> simp [tX]
 | .str x,b=>by cases b <;> simp [tX]
 | .tup x,b=>by cases b <;> simp [tX,rE x]
 | .lst x,b=>by cases b <;> simp [tX,rE x]
 | .dct x y,b=>by cases b <;> simp [tX,rE x,rE y]
theorem rE:∀ (a b:List D),oV a b=true↔a=b
 | [],b=>by cases b <;> simp [oV]
 | x::xs,b=>by
  cases b with
  | nil=>simp [oV]
  | cons y ys=>simp [oV,Ef x y,rE xs ys]
end
noncomputable instance:DecidableEq D:=fun a b=>if h:tX a b=true then isTrue ((Ef a b).mp h) else isFalse fun e=>h ((Ef a b).mpr e)
noncomputable def b2i (b:Bool):Int:=if b then 1 else 0
mutual
noncomputable def ao:D->D->Bool
 | .non,.non=>true
 | .bl a,.bl b=>a == b
 | .bl a,.int b=>b2i a == b
 | .int a,.bl b=>a == b2i b
 | .int a,.int b=>a == b
 | .str a,.str b=>a == b
 | .tup a,.tup b=>fj a b
 | .lst a,.lst b=>fj a b
 | _,_=>false
noncomputable def fj:List D->List D->Bool
 | [],[]=>true
 | a::as,b::bs=>ao a b && fj as bs
 | _,_=>false
end
mutual
noncomputable def dep:D->Nat
 | .tup ds=>deps ds+1
 | .lst ds=>deps ds+1
 | .dct _ _=>1000
 | _=>0
noncomputable def deps:List D->Nat
 | []=>0
 | d::ds=>max (dep d) (deps ds)
end
mutual
def RpV (h:Heap):D->Value->Prop
 | .non,u=>u=.none
 | .bl b,u=>u=.bool b
 | .int i,u=>∃ t,u=.int i t
 | .str x,u=>∃ t,u=.str x t
 | .tup ds,u=>∃ a its,u=.ref a/\h.IsTuple a (List.toArray its)/\aP h ds its
 | .lst ds,u=>∃ a its,u=.ref a/\h.IsList a (List.toArray its)/\aP h ds its
 | .dct _ _,_=>False
def aP (h:Heap):List D->List Value->Prop
 | [],us=>us=[]
 | d::ds,us=>∃ y ys,us=y::ys/\RpV h d y/\aP h ds ys
end
theorem aP.length {h:Heap}:∀ {ds:List D}{us:List Value},aP h ds us->ds.length=us.length
 | [],us,r=>by rw [aP] at r;subst r;rfl
 | d::ds,us,r=>by
  rw [aP] at r;obtain ⟨y,ys,rfl,_,r⟩:=r;simp [aP.length r]
theorem aP.get {h:Heap}:∀ {ds:List D}{us:List Value}{i:Nat} (h1:i < ds.length) (h2:i < us.length),aP h ds us->RpV h ds[i] us[i]
 | [],us,i,h1,h2,r=>by simp at h1
 | d::ds,us,i,h1,h2,r=>by
  rw [aP] at r;obtain ⟨y,ys,rfl,r0,r⟩:=r;cases i with
  | zero=>exact r0
  | succ i=>exact aP.get (ds:=ds) (us:=ys) (i:=i) (by simpa using h1) (by simpa using h2) r
theorem eO:∀ {ds:List D}{i:Nat} (h:i < ds.length),dep ds[i]<=deps ds
 | [],i,h=>by simp at h
 | d::ds,0,h=>by simp only [deps,List.getElem_cons_zero];omega
 | d::ds,i+1,h=>by
  have:=eO (ds:=ds) (i:=i) (by simpa using h);simp only [deps,List.getElem_cons_succ];omega
theorem jE:∀ (as bs:List D),fj as bs=((List.range (min as.length bs.length)).all (fun j=>ao (as.getD j .non) (bs.getD j .non)) && as.length == bs.length)
 | [],[]=>by simp [fj]
 | [],b::bs=>by simp [fj]
 | a::as,[]=>by simp [fj]
 | a::as,b::bs=>by
  rw [fj,jE as bs];have e:min (a::as).length (b::bs).length=min as.length bs.length+1:=by simp only [List.length_cons];omega
  rw [e,List.range_succ_eq_map,List.all_cons,List.all_map];simp [Function.comp_def,Bool.and_assoc]
mutual
theorem RpV.inj {h:Heap}:∀ {d e:D}{u:Value},RpV h d u->RpV h e u->d=e
 | .non,e,u,r,q=>by
  rw [RpV] at r;subst r;cases e <;> simp [RpV] at q ⊢
 | .bl b,e,u,r,q=>by
  rw [RpV] at r;subst r;cases e <;> simp [RpV] at q ⊢;exact q
 | .int b,e,u,r,q=>by
  rw [RpV] at r;obtain ⟨t,rfl⟩:=r;cases e <;> simp [RpV] at q ⊢;exact q
 | .str b,e,u,r,q=>by
  rw [RpV] at r;obtain ⟨t,rfl⟩:=r;cases e <;> simp [RpV] at q ⊢;exact q
 | .tup ds,e,u,r,q=>by
  rw [RpV] at r;obtain ⟨a,its,rfl,⟨o,ho,hc,n,hd⟩,rs⟩:=r;cases e <;> simp only [RpV] at q
  .cases q
  .cases q
  .obtain ⟨_,q⟩:=q;cases q
  .obtain ⟨_,q⟩:=q;cases q
  .obtain ⟨a',its',z,⟨o',ho',hc',n',hd'⟩,qs⟩:=q;cases z;rw [ho] at ho';cases ho';rw [hd] at hd';injection hd' with z _;have z':its=its':=by simpa using z
   subst z';rw [aP.inj rs qs]
  .obtain ⟨a',its',z,⟨o',ho',hc',n',hd'⟩,qs⟩:=q;cases z;rw [ho] at ho';cases ho';rw [hc] at hc';exact absurd hc' (by simp)
 | .lst ds,e,u,r,q=>by
  rw [RpV] at r;obtain ⟨a,its,rfl,⟨o,ho,hc,n,hd⟩,rs⟩:=r;cases e <;> simp only [RpV] at q
  .cases q
  .cases q
  .obtain ⟨_,q⟩:=q;cases q
  .obtain ⟨_,q⟩:=q;cases q
  .obtain ⟨a',its',z,⟨o',ho',hc',n',hd'⟩,qs⟩:=q;cases z;rw [ho] at ho';cases ho';rw [hc] at hc';exact absurd hc' (by simp)
  .obtain ⟨a',its',z,⟨o',ho',hc',n',hd'⟩,qs⟩:=q;cases z;rw [ho] at ho';cases ho';rw [hd] at hd';injection hd' with z _;have z':its=its':=by simpa using z
   subst z';rw [aP.inj rs qs]
 | .dct ks vs,e,u,r,q=>by rw [RpV] at r;exact r.elim
theorem aP.inj {h:Heap}:∀ {ds es:List D}{us:List Value},aP h ds us->aP h es us->ds=es
 | [],es,us,r,q=>by
  rw [aP] at r;subst r;cases es with
  | nil=>rfl
  | cons e es=>rw [aP] at q;obtain ⟨_,_,z,_⟩:=q;cases z
 | d::ds,es,us,r,q=>by
  rw [aP] at r;obtain ⟨y,ys,rfl,r0,rs⟩:=r;cases es with
  | nil=>rw [aP] at q;cases q
  | cons e es =>
   rw [aP] at q;obtain ⟨y',ys',z,q0,qs⟩:=q;cases z;rw [RpV.inj r0 q0,aP.inj rs qs]
end
mutual
theorem Rg {h:Heap}:∀ {d:D}{u:Value},RpV h d u->ao d d=true
 | .non,_,_=>by simp [ao]
 | .bl b,_,_=>by simp [ao]
 | .int b,_,_=>by simp [ao]
 | .str b,_,_=>by simp [ao]
 | .tup ds,_,r=>by
  rw [RpV] at r;obtain ⟨_,_,_,_,rs⟩:=r;rw [ao];exact oX rs
 | .lst ds,_,r=>by
  rw [RpV] at r;obtain ⟨_,_,_,_,rs⟩:=r;rw [ao];exact oX rs
 | .dct _ _,_,r=>by rw [RpV] at r;exact r.elim
theorem oX {h:Heap}:∀ {ds:List D}{us:List Value},aP h ds us->fj ds ds=true
 | [],_,_=>by simp [fj]
 | d::ds,_,r=>by
  rw [aP] at r;obtain ⟨_,_,_,r0,rs⟩:=r;rw [fj,Rg r0,oX rs];rfl
end
theorem Dc {h:Heap} (ds es:List D) {us:List Value} (r:aP h ds us) (q:aP h es us):fj ds es=true:=by
 rw [aP.inj r q];exact oX q
section
open PySem.SeqAt
theorem nP:∀ (d e:D) {A:Around}{s:Shared}{u v:Value},RpV s.heap d u->RpV s.heap e v->A.units+dep d < cLine->A.units+dep e < cLine->EqAt A s u v (ao d e)
 | .non,e,A,s,u,v,r,q,hd,he=>by
  rw [RpV] at r;subst r;have hu:A.units < cLine:=by omega
  cases e <;> simp only [RpV] at q
  .subst q;rw [ao];exact EqAt.same _
  .subst q;rw [ao];exact EqAt.none_bool _;all_goals simp
  .obtain ⟨t,rfl⟩:=q;rw [ao];exact EqAt.none_int _ _;all_goals simp
  .obtain ⟨t,rfl⟩:=q;rw [ao];exact EqAt.none_str _ _;all_goals simp
  .obtain ⟨a,its,rfl,q,_⟩:=q;rw [ao];exact EqAt.none_tuple q hu;all_goals simp
  .obtain ⟨a,its,rfl,q,_⟩:=q;rw [ao];exact EqAt.none_list q hu;all_goals simp
 | .bl b,e,A,s,u,v,r,q,hd,he=>by
  rw [RpV] at r;subst r;have hu:A.units < cLine:=by omega
  cases e <;> simp only [RpV] at q
  .subst q;rw [ao];exact EqAt.bool_none _;all_goals simp
  .subst q;rw [ao];exact EqAt.bool_bool _ _
  .obtain ⟨t,rfl⟩:=q;rw [ao];exact EqAt.bool_int _ _ _
  .obtain ⟨t,rfl⟩:=q;rw [ao];exact EqAt.bool_str _ _ _;all_goals simp
  .obtain ⟨a,its,rfl,q,_⟩:=q;rw [ao];exact EqAt.bool_tuple _ q hu;all_goals simp
  .obtain ⟨a,its,rfl,q,_⟩:=q;rw [ao];exact EqAt.bool_list _ q hu;all_goals simp
 | .int b,e,A,s,u,v,r,q,hd,he=>by
  rw [RpV] at r;obtain ⟨t0,rfl⟩:=r;have hu:A.units < cLine:=by omega
  cases e <;> simp only [RpV] at q
  .subst q;rw [ao];exact EqAt.int_none _ _;all_goals simp
  .subst q;rw [ao];exact EqAt.int_bool _ _ _
  .obtain ⟨t,rfl⟩:=q;rw [ao];exact EqAt.int_int _ _ _ _
  .obtain ⟨t,rfl⟩:=q;rw [ao];exact EqAt.int_str _ _ _ _;all_goals simp
  .obtain ⟨a,its,rfl,q,_⟩:=q;rw [ao];exact EqAt.int_tuple _ _ q hu;all_goals simp
  .obtain ⟨a,its,rfl,q,_⟩:=q;rw [ao];exact EqAt.int_list _ _ q hu;all_goals simp
 | .str b,e,A,s,u,v,r,q,hd,he=>by
  rw [RpV] at r;obtain ⟨t0,rfl⟩:=r;have hu:A.units < cLine:=by omega
  cases e <;> simp only [RpV] at q
  .subst q;rw [ao];exact EqAt.str_none _ _;all_goals simp
  .subst q;rw [ao];exact EqAt.str_bool _ _ _;all_goals simp
  .obtain ⟨t,rfl⟩:=q;rw [ao];exact EqAt.str_int _ _ _ _;all_goals simp
  .obtain ⟨t,rfl⟩:=q;rw [ao];exact EqAt.str_str _ _ _ _
  .obtain ⟨a,its,rfl,q,_⟩:=q;rw [ao];exact EqAt.str_tuple _ _ q hu;all_goals simp
  .obtain ⟨a,its,rfl,q,_⟩:=q;rw [ao];exact EqAt.str_list _ _ q hu;all_goals simp
 | .tup ds,e,A,s,u,v,r,q,hd,he=>by
  rw [RpV] at r;obtain ⟨a0,its0,rfl,r,rs⟩:=r;rw [dep] at hd;have hu:A.units < cLine:=by omega
  cases e <;> simp only [RpV] at q
  .subst q;rw [ao];exact EqAt.tuple_none r hu;all_goals simp
  .subst q;rw [ao];exact EqAt.tuple_bool _ r hu;all_goals simp
  .obtain ⟨t,rfl⟩:=q;rw [ao];exact EqAt.tuple_int _ _ r hu;all_goals simp
  .obtain ⟨t,rfl⟩:=q;rw [ao];exact EqAt.tuple_str _ _ r hu;all_goals simp
  .rename_i es;obtain ⟨a,its,rfl,q,qs⟩:=q;rw [dep] at he;have l1:=rs.length;have l2:=qs.length;rw [ao];have items:∀ j (h1:j < its0.toArray.size) (h2:j < its.toArray.size),EqAt A.in1 s its0.toArray[j] its.toArray[j] (ao (ds.getD j .non) (es.getD j .non)):=fun j h1 h2=>by
    have k1:j < ds.length:=by simp at h1;omega
    have k2:j < es.length:=by simp at h2;omega
    have e1:ds.getD j .non=ds[j]:=by simp [k1]
    have e2:es.getD j .non=es[j]:=by simp [k2]
    rw [e1,e2];have w1:=eO k1;have w2:=eO k2;have hin:A.in1.units=A.units+1:=rfl;exact nP ds[j] es[j] (aP.get k1 (by omega) rs) (aP.get k2 (by omega) qs) (by omega) (by omega)
   by_cases hab:a0=a
   .subst hab;have ei:its0=its:=by
     obtain ⟨o,ho,_,n,hd1⟩:=r;obtain ⟨o',ho',_,n',hd2⟩:=q;rw [ho] at ho';cases ho';rw [hd1] at hd2;injection hd2 with z _;simpa using z
    subst ei;have hQ:fj ds es=true:=by
     exact Dc ds es rs qs
    rw [hQ];exact EqAt.same _
   .refine EqAt.of_refs hab ?_;have rc:=RcAt.tuples (e:=fun j=>ao (ds.getD j .non) (es.getD j .non)) r q hu items;rw [jE,l1,l2];simpa using rc
  .obtain ⟨a,its,rfl,q,_⟩:=q;rw [ao];exact EqAt.tuple_list r q hu;all_goals simp
 | .lst ds,e,A,s,u,v,r,q,hd,he=>by
  rw [RpV] at r;obtain ⟨a0,its0,rfl,r,rs⟩:=r;rw [dep] at hd;have hu:A.units < cLine:=by omega
  cases e <;> simp only [RpV] at q
  .subst q;rw [ao];exact EqAt.list_none r hu;all_goals simp
  .subst q;rw [ao];exact EqAt.list_bool _ r hu;all_goals simp
  .obtain ⟨t,rfl⟩:=q;rw [ao];exact EqAt.list_int _ _ r hu;all_goals simp
  .obtain ⟨t,rfl⟩:=q;rw [ao];exact EqAt.list_str _ _ r hu;all_goals simp
  .obtain ⟨a,its,rfl,q,_⟩:=q;rw [ao];exact EqAt.list_tuple r q hu;all_goals simp
  .rename_i es;obtain ⟨a,its,rfl,q,qs⟩:=q;rw [dep] at he;have l1:=rs.length;have l2:=qs.length;rw [ao];have items:∀ j (h1:j < its0.toArray.size) (h2:j < its.toArray.size),EqAt A.in1 s its0.toArray[j] its.toArray[j] (ao (ds.getD j .non) (es.getD j .non)):=fun j h1 h2=>by
    have k1:j < ds.length:=by simp at h1;omega
    have k2:j < es.length:=by simp at h2;omega
    have e1:ds.getD j .non=ds[j]:=by simp [k1]
    have e2:es.getD j .non=es[j]:=by simp [k2]
    rw [e1,e2];have w1:=eO k1;have w2:=eO k2;have hin:A.in1.units=A.units+1:=rfl;exact nP ds[j] es[j] (aP.get k1 (by omega) rs) (aP.get k2 (by omega) qs) (by omega) (by omega)
   by_cases hab:a0=a
   .subst hab;have ei:its0=its:=by
     obtain ⟨o,ho,_,n,hd1⟩:=r;obtain ⟨o',ho',_,n',hd2⟩:=q;rw [ho] at ho';cases ho';rw [hd1] at hd2;injection hd2 with z _;simpa using z
    subst ei;rw [Dc ds es rs qs];exact EqAt.same _
   .refine EqAt.of_refs hab ?_;rw [jE];by_cases hs:ds.length=es.length
    .have rc:=RcAt.lists (e:=fun j=>ao (ds.getD j .non) (es.getD j .non)) r q (by simp;omega) hu items;have e1:min ds.length es.length=its0.toArray.size:=by simp;omega
     rw [e1];simpa [hs] using rc
    .have rc:=RcAt.lists_lengths r q (by simp;omega) hu;have e0:(ds.length == es.length)=false:=by simpa using hs
     rw [e0,Bool.and_false];exact rc
 | .dct ks vs,e,A,s,u,v,r,q,hd,he=>by rw [RpV] at r;exact r.elim
termination_by d=>sizeOf d
decreasing_by
 all_goals
  have:=List.sizeOf_lt_of_mem (List.getElem_mem (by assumption:j < ds.length));simp only [D.tup.sizeOf_spec,D.lst.sizeOf_spec];omega
theorem ZR:∀ (d e:D) {A:Around}{s:Shared}{u v:Value},RpV s.heap d u->RpV s.heap e v->A.units+dep d < cLine->A.units+dep e < cLine->RcAt A s u v (ao d e)
 | .non,e,A,s,u,v,r,q,hd,he=>by
  rw [RpV] at r;subst r;have hu:A.units < cLine:=by omega
  cases e <;> simp only [RpV] at q
  .subst q;rw [ao];exact RcAt.none_none
  .subst q;rw [ao];exact RcAt.none_bool _;all_goals simp
  .obtain ⟨t,rfl⟩:=q;rw [ao];exact RcAt.none_int _ _;all_goals simp
  .obtain ⟨t,rfl⟩:=q;rw [ao];exact RcAt.none_str _ _;all_goals simp
  .obtain ⟨a,its,rfl,q,qs⟩:=q;rw [ao];exact RcAt.none_tuple q hu;all_goals simp
  .obtain ⟨a,its,rfl,q,qs⟩:=q;rw [ao];exact RcAt.none_list q hu;all_goals simp
 | .bl b,e,A,s,u,v,r,q,hd,he=>by
  rw [RpV] at r;subst r;have hu:A.units < cLine:=by omega
  cases e <;> simp only [RpV] at q
  .subst q;rw [ao];exact RcAt.bool_none _;all_goals simp
  .subst q;rw [ao];exact RcAt.bool_bool _ _
  .obtain ⟨t,rfl⟩:=q;rw [ao];exact RcAt.bool_int _ _ _
  .obtain ⟨t,rfl⟩:=q;rw [ao];exact RcAt.bool_str _ _ _;all_goals simp
  .obtain ⟨a,its,rfl,q,qs⟩:=q;rw [ao];exact RcAt.bool_tuple _ q hu;all_goals simp
  .obtain ⟨a,its,rfl,q,qs⟩:=q;rw [ao];exact RcAt.bool_list _ q hu;all_goals simp
 | .int b,e,A,s,u,v,r,q,hd,he=>by
  rw [RpV] at r;obtain ⟨t0,rfl⟩:=r;have hu:A.units < cLine:=by omega
  cases e <;> simp only [RpV] at q
  .subst q;rw [ao];exact RcAt.int_none _ _;all_goals simp
  .subst q;rw [ao];exact RcAt.int_bool _ _ _
  .obtain ⟨t,rfl⟩:=q;rw [ao];exact RcAt.int_int _ _ _ _
  .obtain ⟨t,rfl⟩:=q;rw [ao];exact RcAt.int_str _ _ _ _;all_goals simp
  .obtain ⟨a,its,rfl,q,qs⟩:=q;rw [ao];exact RcAt.int_tuple _ _ q hu;all_goals simp
  .obtain ⟨a,its,rfl,q,qs⟩:=q;rw [ao];exact RcAt.int_list _ _ q hu;all_goals simp
 | .str b,e,A,s,u,v,r,q,hd,he=>by
  rw [RpV] at r;obtain ⟨t0,rfl⟩:=r;have hu:A.units < cLine:=by omega
  cases e <;> simp only [RpV] at q
  .subst q;rw [ao];exact RcAt.str_none _ _;all_goals simp
  .subst q;rw [ao];exact RcAt.str_bool _ _ _;all_goals simp
  .obtain ⟨t,rfl⟩:=q;rw [ao];exact RcAt.str_int _ _ _ _;all_goals simp
  .obtain ⟨t,rfl⟩:=q;rw [ao];exact RcAt.str_str _ _ _ _
  .obtain ⟨a,its,rfl,q,qs⟩:=q;rw [ao];exact RcAt.str_tuple _ _ q hu;all_goals simp
  .obtain ⟨a,its,rfl,q,qs⟩:=q;rw [ao];exact RcAt.str_list _ _ q hu;all_goals simp
 | .tup ds,e,A,s,u,v,r,q,hd,he=>by
  rw [RpV] at r;obtain ⟨a0,its0,rfl,r,rs⟩:=r;rw [dep] at hd;have hu:A.units < cLine:=by omega
  cases e <;> simp only [RpV] at q
  .subst q;rw [ao];exact RcAt.tuple_none r hu;all_goals simp
  .subst q;rw [ao];exact RcAt.tuple_bool _ r hu;all_goals simp
  .obtain ⟨t,rfl⟩:=q;rw [ao];exact RcAt.tuple_int _ _ r hu;all_goals simp
  .obtain ⟨t,rfl⟩:=q;rw [ao];exact RcAt.tuple_str _ _ r hu;all_goals simp
  .rename_i es;obtain ⟨a,its,rfl,q,qs⟩:=q;rw [dep] at he;have l1:=rs.length;have l2:=qs.length;rw [ao];have items:∀ j (h1:j < its0.toArray.size) (h2:j < its.toArray.size),EqAt A.in1 s its0.toArray[j] its.toArray[j] (ao (ds.getD j .non) (es.getD j .non)):=fun j h1 h2=>by
    have k1:j < ds.length:=by simp at h1;omega
    have k2:j < es.length:=by simp at h2;omega
    have e1:ds.getD j .non=ds[j]:=by simp [k1]
    have e2:es.getD j .non=es[j]:=by simp [k2]
    rw [e1,e2];have w1:=eO k1;have w2:=eO k2;have hin:A.in1.units=A.units+1:=rfl;exact nP ds[j] es[j] (aP.get k1 (by omega) rs) (aP.get k2 (by omega) qs) (by omega) (by omega)
   have rc:=RcAt.tuples (e:=fun j=>ao (ds.getD j .non) (es.getD j .non)) r q hu items;rw [jE,l1,l2];simpa using rc
  .obtain ⟨a,its,rfl,q,qs⟩:=q;rw [ao];exact RcAt.tuple_list r q hu;all_goals simp
 | .lst ds,e,A,s,u,v,r,q,hd,he=>by
  rw [RpV] at r;obtain ⟨a0,its0,rfl,r,rs⟩:=r;rw [dep] at hd;have hu:A.units < cLine:=by omega
  cases e <;> simp only [RpV] at q
  .subst q;rw [ao];exact RcAt.list_none r hu;all_goals simp
  .subst q;rw [ao];exact RcAt.list_bool _ r hu;all_goals simp
  .obtain ⟨t,rfl⟩:=q;rw [ao];exact RcAt.list_int _ _ r hu;all_goals simp
  .obtain ⟨t,rfl⟩:=q;rw [ao];exact RcAt.list_str _ _ r hu;all_goals simp
  .obtain ⟨a,its,rfl,q,qs⟩:=q;rw [ao];exact RcAt.list_tuple r q hu;all_goals simp
  .rename_i es;obtain ⟨a,its,rfl,q,qs⟩:=q;rw [dep] at he;have l1:=rs.length;have l2:=qs.length;rw [ao];have items:∀ j (h1:j < its0.toArray.size) (h2:j < its.toArray.size),EqAt A.in1 s its0.toArray[j] its.toArray[j] (ao (ds.getD j .non) (es.getD j .non)):=fun j h1 h2=>by
    have k1:j < ds.length:=by simp at h1;omega
    have k2:j < es.length:=by simp at h2;omega
    have e1:ds.getD j .non=ds[j]:=by simp [k1]
    have e2:es.getD j .non=es[j]:=by simp [k2]
    rw [e1,e2];have w1:=eO k1;have w2:=eO k2;have hin:A.in1.units=A.units+1:=rfl;exact nP ds[j] es[j] (aP.get k1 (by omega) rs) (aP.get k2 (by omega) qs) (by omega) (by omega)
   rw [jE];by_cases hs:ds.length=es.length
   .have rc:=RcAt.lists (e:=fun j=>ao (ds.getD j .non) (es.getD j .non)) r q (by simp;omega) hu items;have e1:min ds.length es.length=its0.toArray.size:=by simp;omega
    rw [e1];simpa [hs] using rc
   .have rc:=RcAt.lists_lengths r q (by simp;omega) hu;have e0:(ds.length == es.length)=false:=by simpa using hs
    rw [e0,Bool.and_false];exact rc
 | .dct ks vs,e,A,s,u,v,r,q,hd,he=>by rw [RpV] at r;exact r.elim
theorem Y5:∀ (d e:D) {A:Around}{s:Shared}{u v:Value},RpV s.heap d u->RpV s.heap e v->A.units+dep d < cLine->A.units+dep e < cLine->RcNeAt A s u v (!ao d e)
 | .non,e,A,s,u,v,r,q,hd,he=>by
  rw [RpV] at r;subst r;have hu:A.units < cLine:=by omega
  cases e <;> simp only [RpV] at q
  .subst q;rw [ao];exact RcNeAt.none_none
  .subst q;rw [ao];exact RcNeAt.none_bool _;all_goals simp
  .obtain ⟨t,rfl⟩:=q;rw [ao];exact RcNeAt.none_int _ _;all_goals simp
  .obtain ⟨t,rfl⟩:=q;rw [ao];exact RcNeAt.none_str _ _;all_goals simp
  .obtain ⟨a,its,rfl,q,qs⟩:=q;rw [ao];exact RcNeAt.none_tuple q hu;all_goals simp
  .obtain ⟨a,its,rfl,q,qs⟩:=q;rw [ao];exact RcNeAt.none_list q hu;all_goals simp
 | .bl b,e,A,s,u,v,r,q,hd,he=>by
  rw [RpV] at r;subst r;have hu:A.units < cLine:=by omega
  cases e <;> simp only [RpV] at q
  .subst q;rw [ao];exact RcNeAt.bool_none _;all_goals simp
  .subst q;rw [ao];exact RcNeAt.bool_bool _ _
  .obtain ⟨t,rfl⟩:=q;rw [ao];exact RcNeAt.bool_int _ _ _
  .obtain ⟨t,rfl⟩:=q;rw [ao];exact RcNeAt.bool_str _ _ _;all_goals simp
  .obtain ⟨a,its,rfl,q,qs⟩:=q;rw [ao];exact RcNeAt.bool_tuple _ q hu;all_goals simp
  .obtain ⟨a,its,rfl,q,qs⟩:=q;rw [ao];exact RcNeAt.bool_list _ q hu;all_goals simp
 | .int b,e,A,s,u,v,r,q,hd,he=>by
  rw [RpV] at r;obtain ⟨t0,rfl⟩:=r;have hu:A.units < cLine:=by omega
  cases e <;> simp only [RpV] at q
  .subst q;rw [ao];exact RcNeAt.int_none _ _;all_goals simp
  .subst q;rw [ao];exact RcNeAt.int_bool _ _ _
  .obtain ⟨t,rfl⟩:=q;rw [ao];exact RcNeAt.int_int _ _ _ _
  .obtain ⟨t,rfl⟩:=q;rw [ao];exact RcNeAt.int_str _ _ _ _;all_goals simp
  .obtain ⟨a,its,rfl,q,qs⟩:=q;rw [ao];exact RcNeAt.int_tuple _ _ q hu;all_goals simp
  .obtain ⟨a,its,rfl,q,qs⟩:=q;rw [ao];exact RcNeAt.int_list _ _ q hu;all_goals simp
 | .str b,e,A,s,u,v,r,q,hd,he=>by
  rw [RpV] at r;obtain ⟨t0,rfl⟩:=r;have hu:A.units < cLine:=by omega
  cases e <;> simp only [RpV] at q
  .subst q;rw [ao];exact RcNeAt.str_none _ _;all_goals simp
  .subst q;rw [ao];exact RcNeAt.str_bool _ _ _;all_goals simp
  .obtain ⟨t,rfl⟩:=q;rw [ao];exact RcNeAt.str_int _ _ _ _;all_goals simp
  .obtain ⟨t,rfl⟩:=q;rw [ao];exact RcNeAt.str_str _ _ _ _
  .obtain ⟨a,its,rfl,q,qs⟩:=q;rw [ao];exact RcNeAt.str_tuple _ _ q hu;all_goals simp
  .obtain ⟨a,its,rfl,q,qs⟩:=q;rw [ao];exact RcNeAt.str_list _ _ q hu;all_goals simp
 | .tup ds,e,A,s,u,v,r,q,hd,he=>by
  rw [RpV] at r;obtain ⟨a0,its0,rfl,r,rs⟩:=r;rw [dep] at hd;have hu:A.units < cLine:=by omega
  cases e <;> simp only [RpV] at q
  .subst q;rw [ao];exact RcNeAt.tuple_none r hu;all_goals simp
  .subst q;rw [ao];exact RcNeAt.tuple_bool _ r hu;all_goals simp
  .obtain ⟨t,rfl⟩:=q;rw [ao];exact RcNeAt.tuple_int _ _ r hu;all_goals simp
  .obtain ⟨t,rfl⟩:=q;rw [ao];exact RcNeAt.tuple_str _ _ r hu;all_goals simp
  .rename_i es;obtain ⟨a,its,rfl,q,qs⟩:=q;rw [dep] at he;have l1:=rs.length;have l2:=qs.length;rw [ao];have items:∀ j (h1:j < its0.toArray.size) (h2:j < its.toArray.size),EqAt A.in1 s its0.toArray[j] its.toArray[j] (ao (ds.getD j .non) (es.getD j .non)):=fun j h1 h2=>by
    have k1:j < ds.length:=by simp at h1;omega
    have k2:j < es.length:=by simp at h2;omega
    have e1:ds.getD j .non=ds[j]:=by simp [k1]
    have e2:es.getD j .non=es[j]:=by simp [k2]
    rw [e1,e2];have w1:=eO k1;have w2:=eO k2;have hin:A.in1.units=A.units+1:=rfl;exact nP ds[j] es[j] (aP.get k1 (by omega) rs) (aP.get k2 (by omega) qs) (by omega) (by omega)
   have rc:=RcNeAt.tuples (e:=fun j=>ao (ds.getD j .non) (es.getD j .non)) r q hu items;rw [jE,l1,l2];simpa using rc
  .obtain ⟨a,its,rfl,q,qs⟩:=q;rw [ao];exact RcNeAt.tuple_list r q hu;all_goals simp
 | .lst ds,e,A,s,u,v,r,q,hd,he=>by
  rw [RpV] at r;obtain ⟨a0,its0,rfl,r,rs⟩:=r;rw [dep] at hd;have hu:A.units < cLine:=by omega
  cases e <;> simp only [RpV] at q
  .subst q;rw [ao];exact RcNeAt.list_none r hu;all_goals simp
  .subst q;rw [ao];exact RcNeAt.list_bool _ r hu;all_goals simp
  .obtain ⟨t,rfl⟩:=q;rw [ao];exact RcNeAt.list_int _ _ r hu;all_goals simp
  .obtain ⟨t,rfl⟩:=q;rw [ao];exact RcNeAt.list_str _ _ r hu;all_goals simp
  .obtain ⟨a,its,rfl,q,qs⟩:=q;rw [ao];exact RcNeAt.list_tuple r q hu;all_goals simp
  .rename_i es;obtain ⟨a,its,rfl,q,qs⟩:=q;rw [dep] at he;have l1:=rs.length;have l2:=qs.length;rw [ao];have items:∀ j (h1:j < its0.toArray.size) (h2:j < its.toArray.size),EqAt A.in1 s its0.toArray[j] its.toArray[j] (ao (ds.getD j .non) (es.getD j .non)):=fun j h1 h2=>by
    have k1:j < ds.length:=by simp at h1;omega
    have k2:j < es.length:=by simp at h2;omega
    have e1:ds.getD j .non=ds[j]:=by simp [k1]
    have e2:es.getD j .non=es[j]:=by simp [k2]
    rw [e1,e2];have w1:=eO k1;have w2:=eO k2;have hin:A.in1.units=A.units+1:=rfl;exact nP ds[j] es[j] (aP.get k1 (by omega) rs) (aP.get k2 (by omega) qs) (by omega) (by omega)
   rw [jE];by_cases hs:ds.length=es.length
   .have rc:=RcNeAt.lists (e:=fun j=>ao (ds.getD j .non) (es.getD j .non)) r q (by simp;omega) hu items;have e1:min ds.length es.length=its0.toArray.size:=by simp;omega
    rw [e1];simpa [hs] using rc
   .have rc:=RcNeAt.lists_lengths r q (by simp;omega) hu;have e0:(ds.length == es.length)=false:=by simpa using hs
    rw [e0,Bool.and_false];exact rc
 | .dct ks vs,e,A,s,u,v,r,q,hd,he=>by rw [RpV] at r;exact r.elim
end
end Mi
namespace Mi
open PySem L2 PyProof.Rows
mutual
noncomputable def yN (w:World):D->Int
 | .int i=>hashInt i
 | .str x=>hashStr w x
 | .tup ds=>reduceHash (Builtin.Tuple.tupleHashOf (gB w ds))
 | _=>0
noncomputable def gB (w:World):List D->List Int
 | []=>[]
 | d::ds=>yN w d::gB w ds
end
mutual
noncomputable def uI:D->Nat
 | .int _=>1
 | .str _=>1
 | .tup ds=>fW ds+1
 | _=>0
noncomputable def fW:List D->Nat
 | []=>0
 | d::ds=>uI d+fW ds
end
mutual
noncomputable def keyOk:D->Bool
 | .int _=>true
 | .str _=>true
 | .tup ds=>dY ds
 | _=>false
noncomputable def dY:List D->Bool
 | []=>true
 | d::ds=>keyOk d && dY ds
end
mutual
theorem Ay:∀ {d e:D},keyOk d=true->keyOk e=true->ao d e=decide (d=e)
 | .non,e,h,_=>by simp [keyOk] at h
 | .bl _,e,h,_=>by simp [keyOk] at h
 | .int a,e,h,g=>by cases e <;> simp [keyOk] at g <;> simp [ao];rw [Bool.eq_iff_iff];simp
 | .str a,e,h,g=>by cases e <;> simp [keyOk] at g <;> simp [ao];rw [Bool.eq_iff_iff];simp
 | .tup ds,e,h,g=>by
  cases e <;> simp [keyOk] at g <;> simp [ao];exact xW (by simpa [keyOk] using h) g
 | .lst _,e,h,_=>by simp [keyOk] at h
 | .dct _ _,e,h,_=>by simp [keyOk] at h
theorem xW:∀ {ds es:List D},dY ds=true->dY es=true->fj ds es=decide (ds=es)
 | [],es,h,g=>by cases es <;> simp [fj]
 | d::ds,[],h,g=>by simp [fj]
 | d::ds,e::es,h,g=>by
  rw [dY,Bool.and_eq_true] at h g;rw [fj,Ay h.1 g.1,xW h.2 g.2];rw [Bool.eq_iff_iff];simp
end
theorem oH (w:World):∀ (a b:List D),gB w (a++b)=gB w a++gB w b
 | [],b=>rfl
 | d::ds,b=>by rw [List.cons_append,gB,gB,oH w ds b,List.cons_append]
theorem mF:∀ (a b:List D),fW (a++b)=fW a+fW b
 | [],b=>by simp [fW]
 | d::ds,b=>by rw [List.cons_append,fW,fW,mF ds b];omega
theorem vJ:∀ (a b:List D),dY (a++b)=(dY a && dY b)
 | [],b=>by simp [dY]
 | d::ds,b=>by rw [List.cons_append,dY,dY,vJ ds b,Bool.and_assoc]
theorem Rj {P:Program}{w:World}:∀ (d:D) {A:Around}{E:Value->Shared->Prop}{s:Shared}{u:Value}{Q:Int->Shared->Prop},keyOk d=true->RpV s.heap d u->A.units+dep d < cLine ->
  Q (yN w d) { s with toks:=s.toks+uI d }->wpAny (model P w) A (pyHash u) Q E s
 | .non,A,E,s,u,Q,hk,r,hu,h=>by simp [keyOk] at hk
 | .bl _,A,E,s,u,Q,hk,r,hu,h=>by simp [keyOk] at hk
 | .int i,A,E,s,u,Q,hk,r,hu,h=>by
  rw [RpV] at r;obtain ⟨t,rfl⟩:=r;rw [yN,uI] at h;exact wpAny_pyHash_int h
 | .str x,A,E,s,u,Q,hk,r,hu,h=>by
  rw [RpV] at r;obtain ⟨t,rfl⟩:=r;rw [yN,uI] at h;exact wpAny_pyHash_str h
 | .lst _,A,E,s,u,Q,hk,r,hu,h=>by simp [keyOk] at hk
 | .dct _ _,A,E,s,u,Q,hk,r,hu,h=>by simp [keyOk] at hk
 | .tup ks,A,E,s,u,Q,hk,r,hu,h=>by
  rw [RpV] at r;obtain ⟨a,its,rfl,⟨o,ho,hc,n,hd⟩,hi⟩:=r;rw [keyOk] at hk;rw [yN,uI] at h;rw [dep] at hu;have hT:s.TypeIs (.ref a) "tuple":=⟨o,ho,hc⟩
  unfold pyHash
  first | unfold pyHashByItsType | skip
  first | refine wpAny_bind (wpAny_cRoomFor_or (.inr (by omega)) ?_) | skip
  refine wpAny_bind (wpAny_specialOf hT F.slot_tuple_hash.lookup ?_);show wpAny _ _ (if (some (Value.builtin "tuple.__hash__") == some Value.none)=true then _ else _) Q E s
  rw [if_neg (by rw [beq_builtin_none];exact Bool.false_ne_true)];refine wpAny_bind (wpAny_specialOf hT F.slot_tuple_hash.lookup ?_);show wpAny _ _ (callSpecialIfBoundUnlessNone? (.ref a) "__hash__" _ >>= _) Q E s
  refine wpAny_bind (wpAny_callSpecialIfBoundUnlessNone?_slot hT F.slot_tuple_hash (wpAny_call_entry F.slot_tuple_hash hT F.entry_tuple_hash ?_ (F.args_tuple_hash_1 _)));show wpAny _ _ (Builtin.Tuple.tupleItemsOf (.ref a) >>= _) _ _ s
  refine wpAny_bind (wpAny_tupleItemsOf ho hd ?_);refine wpAny_bind ?_;rw [<- Array.forIn_toList];refine wpAny_forIn_list _
   (fun rest (b:Array Int) s'=>∃ done left,ks=done++left/\aP s.heap left rest/\b.toList=gB w done/\s'={ s with toks:=s.toks+fW done })
   _ ?_ ?_ _ _ ⟨[],ks,rfl,by simpa using hi,rfl,rfl⟩
  .rintro x rest b s' ⟨done,left,hks,hl,hb,rfl⟩;cases left with
   | nil=>rw [aP] at hl;cases hl
   | cons k ks' =>
    rw [aP] at hl;obtain ⟨y,ys,z,h1,hl'⟩:=hl;cases z;have hmem:k∈ks:=by rw [hks];simp
    have hlt:=List.sizeOf_lt_of_mem hmem;have hko:keyOk k=true:=by
     rw [hks,vJ,dY] at hk;simp at hk;exact hk.2.1
    have hdep:dep k<=deps ks:=by
     obtain ⟨i,hi2,e⟩:=List.getElem_of_mem hmem;rw [<- e];exact eO hi2
    refine wpAny_bind (Rj k (s:={ s with toks:=s.toks+fW done }) hko h1 (by first | (show A.in1.units+dep k < cLine;show A.units+1+dep k < cLine;omega) | (show A.in1.in1.units+dep k < cLine;show A.units+1+1+dep k < cLine;omega)) ?_)
    first
     | exact wpAny_pure ⟨done++[k],ks',by simp [hks],hl',by simp [hb,oH,gB],by simp [mF,fW,Nat.add_assoc]⟩
     | exact wpAny_bind (wpAny_pure (wpAny_pure ⟨done++[k],ks',by simp [hks],hl',by simp [hb,oH,gB],by simp [mF,fW,Nat.add_assoc]⟩))
  .rintro b s' ⟨done,left,hks,hl,hb,rfl⟩;cases left with
   | cons k ks'=>rw [aP] at hl;obtain ⟨y,ys,z,_⟩:=hl;cases z
   | nil =>
    rw [List.append_nil] at hks;subst hks;show wpAny _ _ (retInt (Builtin.Tuple.tupleHashOf b.toList)) _ _ _
    rw [hb];refine wpAny_ret_mkInt ?_;show wpAny _ _ (if (decide (-(2:Int) ^ 63<=Builtin.Tuple.tupleHashOf (gB w ks)) && decide (Builtin.Tuple.tupleHashOf (gB w ks) < 2 ^ 63))=true then _ else _) Q E _
    unfold reduceHash at h;by_cases hr:(decide (-(2:Int) ^ 63<=Builtin.Tuple.tupleHashOf (gB w ks)) && decide (Builtin.Tuple.tupleHashOf (gB w ks) < 2 ^ 63))=true
    .rw [if_pos hr];rw [if_pos hr] at h;exact wpAny_pure (by simpa [Nat.add_assoc] using h)
    .rw [if_neg hr];rw [if_neg hr] at h;exact wpAny_bind (wpAny_rule (wpAny_pure (by simpa [Nat.add_assoc] using h)))
termination_by d=>sizeOf d
decreasing_by
 simp only [D.tup.sizeOf_spec];omega
theorem Yx {P:Program}{w:World}:∀ (m:Nat) (d:D) {A:Around}{E:Value->Shared->Prop}{s:Shared}{u:Value}{Q:Bool->Shared->Prop},keyOk d=true->dep d<=m->RpV s.heap d u->Q true s ->
  wpAny (model P w) A (eqIsQuiet m u) Q E s:=by
 intro m;induction m with
 | zero =>
  intro d A E s u Q hk hm r h;cases d <;> simp [keyOk,dep] at hk hm
  .rw [RpV] at r;obtain ⟨t,rfl⟩:=r;rw [eqIsQuiet_byValue _ (by rfl)];exact wpAny_pure h
  .rw [RpV] at r;obtain ⟨t,rfl⟩:=r;rw [eqIsQuiet_byValue _ (by rfl)];exact wpAny_pure h
 | succ m ih =>
  intro d A E s u Q hk hm r h;cases d with
  | non=>simp [keyOk] at hk
  | bl _=>simp [keyOk] at hk
  | lst _=>simp [keyOk] at hk
  | dct _ _=>simp [keyOk] at hk
  | int _ =>
   rw [RpV] at r;obtain ⟨t,rfl⟩:=r;rw [eqIsQuiet_byValue _ (by rfl)];exact wpAny_pure h
  | str _ =>
   rw [RpV] at r;obtain ⟨t,rfl⟩:=r;rw [eqIsQuiet_byValue _ (by rfl)];exact wpAny_pure h
  | tup ks =>
   rw [RpV] at r;obtain ⟨a,its,rfl,⟨o,ho,hc,n,hd⟩,hi⟩:=r;rw [keyOk] at hk;rw [dep] at hm;have hT:s.TypeIs (.ref a) "tuple":=⟨o,ho,hc⟩
   unfold eqIsQuiet;refine wpAny_bind (wpAny_specialOf hT F.slot_tuple_eq.lookup ?_);show wpAny _ _ (isInstance (.ref a) (.type "tuple") >>= _) _ _ s
   refine wpAny_bind (wpAny_isInstance hT isSubtype_tuple_tuple ?_);simp only [Bool.not_true,Bool.false_eq_true,if_false];refine wpAny_bind (wpAny_seqItems ho hd ?_);refine wpAny_bind ?_;show wpAny _ _ (forIn its.toArray _ _) _ _ s
   rw [<- Array.forIn_toList];refine wpAny_forIn_list _ (fun rest r s'=>r.1=none/\s'=s/\∃ left,aP s.heap left rest/\dY left=true/\deps left<=m) _ ?_ ?_ _ _ ⟨rfl,rfl,ks,by simpa using hi,hk,by omega⟩
   .rintro v rest r s' ⟨hr,rfl,left,hl,hok,hdp⟩;cases left with
    | nil=>rw [aP] at hl;cases hl
    | cons k ks' =>
     rw [aP] at hl;obtain ⟨y,ys,z,h1,hl'⟩:=hl;cases z;rw [dY,Bool.and_eq_true] at hok;rw [deps] at hdp;refine wpAny_bind (ih k hok.1 (by omega) h1 ?_);simp only [Bool.not_true,Bool.false_eq_true,if_false];exact wpAny_pure ⟨rfl,rfl,ks',hl',hok.2,by omega⟩
   .rintro ⟨r1,r2⟩ s' ⟨hr,rfl,_⟩;simp only at hr;subst hr;exact wpAny_pure h
mutual
theorem RpV.keep {h h':Heap}:∀ {d:D}{u:Value},(∀ a o,h.get? a=some o->(∀ es ep,o.data≠.dict es ep)->h'.get? a=some o)->RpV h d u->RpV h' d u
 | .non,u,k,r=>by rw [RpV] at r ⊢;exact r
 | .bl _,u,k,r=>by rw [RpV] at r ⊢;exact r
 | .int _,u,k,r=>by rw [RpV] at r ⊢;exact r
 | .str _,u,k,r=>by rw [RpV] at r ⊢;exact r
 | .tup ds,u,k,r=>by
  rw [RpV] at r ⊢;obtain ⟨a,its,rfl,⟨o,ho,hc,n,hd⟩,rs⟩:=r;exact ⟨a,its,rfl,⟨o,k a o ho (by intro es ep z;rw [hd] at z;cases z),hc,n,hd⟩,aP.keep k rs⟩
 | .lst ds,u,k,r=>by
  rw [RpV] at r ⊢;obtain ⟨a,its,rfl,⟨o,ho,hc,n,hd⟩,rs⟩:=r;exact ⟨a,its,rfl,⟨o,k a o ho (by intro es ep z;rw [hd] at z;cases z),hc,n,hd⟩,aP.keep k rs⟩
 | .dct _ _,u,k,r=>by rw [RpV] at r;exact r.elim
theorem aP.keep {h h':Heap}:∀ {ds:List D}{us:List Value},(∀ a o,h.get? a=some o->(∀ es ep,o.data≠.dict es ep)->h'.get? a=some o)->aP h ds us->aP h' ds us
 | [],us,k,r=>by rw [aP] at r ⊢;exact r
 | d::ds,us,k,r=>by
  rw [aP] at r ⊢;obtain ⟨y,ys,rfl,r0,rs⟩:=r;exact ⟨y,ys,rfl,RpV.keep k r0,aP.keep k rs⟩
end
def acH (h:Heap) (d:D) (a:Addr):Prop:=keyOk d=true/\dep d<=6/\RpV h d (.ref a)
noncomputable def mC (P:Program) (w:World):HeapKind P w D where
 is:=acH
 hash:=yN w
 draws:=uI
 room:=fun A=>A.units+10 < cLine
 inj:=fun hx hy=>RpV.inj hx.2.2 hy.2.2
 keeps:=fun x ho hd hs=>⟨x.1,x.2.1,x.2.2.keep fun b ob hb hnd=>(hs.2 b (by
  rintro rfl;rw [ho] at hb;cases hb;exact hnd _ _ hd)).trans hb⟩
 pyHash:=fun hu hk h=>Rj _ hk.1 hk.2.2 (by have:=hk.2.1;omega) h
 eqBool:=fun hu hx hy h=>by
  have e:=Ay hx.1 hy.1;exact nP _ _ hx.2.2 hy.2.2 (by have:=hx.2.1;omega) (by have:=hy.2.1;omega) _ _ _ _ (by rw [e];exact h)
 quiet:=fun hk h=>Yx 8 _ hk.1 (by have:=hk.2.1;omega) hk.2.2 h
end Mi
namespace L2
open PySem PySem.Spec PyProof.Rows
section
variable {X:Cx}
theorem GX:gn X (.type "int") (fun xs H Q=>∃ z n,xs=[.str z] /\ PySem.intText? z=some n /\ z.length <= 640 /\ Q (.int n) H):=by
 intro pins s σ H xs us Q I r h;obtain ⟨z,n,rfl,hn,hl,q⟩:=h;obtain ⟨u,rfl,rx⟩:=vals1 r;obtain ⟨t,rfl⟩:=rx;exact PySem.W.KIN.call_text hn hl ⟨.int n,H,I.tok _,⟨_,rfl⟩,q⟩
theorem Ky:gn X (.type "int") (fun xs H Q=>∃ b,xs=[.bl b] /\ Q (.int (if b=true then 1 else 0)) H):=by
 intro pins s σ H xs us Q I r h;obtain ⟨b,rfl,q⟩:=h;obtain ⟨u,rfl,rx⟩:=vals1 r;cases rx;exact PySem.call_int_bool ⟨.int _,H,I.tok _,⟨_,rfl⟩,q⟩
noncomputable def xH (z:Str) (lo hi:Option Int):Str:=⟨((Builtin.Str.strSliceIndices lo hi 1 z.length).filterMap (z.cps[·]?)).toArray⟩
theorem RK (z:Str) (lo hi:Option Int):(xH z lo hi).length<=z.length:=by
 show (List.filterMap _ _).toArray.size<=z.length
 rw [List.size_toArray];exact Nat.le_trans (List.length_filterMap_le _ _) (sliceIndices_le lo hi z.length)
theorem Im {α:Type} (l:List α):∀ n:Nat,n<=l.length->(List.range n).filterMap (fun k=>l[k]?)=l.take n
 | 0,_=>rfl
 | n+1,h=>by
  have e:l[n]?=some l[n]:=List.getElem?_eq_getElem (by omega);rw [List.range_succ,List.filterMap_append,Im l n (by omega),List.take_succ,e];simp [e]
theorem Hw (z:Str) (lo hi:Option Int) (h:(Builtin.Str.strSliceIndices lo hi 1 z.length).length=z.length):xH z lo hi=z:=by
 have key:∀ a b:Int,0<=a->b<=z.length->(sliceRange a b 1).length=z.length->sliceRange a b 1=List.range z.length:=by
  intro a b h0 hb hl;have e:sliceRange a b 1=(List.range (b - a).toNat).map fun (k:Nat)=>(a+k).toNat:=by
   unfold sliceRange;by_cases c:a < b
   .simp [c]
   .have:(b - a).toNat=0:=by omega
    simp [c,this]
  rw [e] at hl ⊢;rw [List.length_map,List.length_range] at hl;by_cases hz:z.length=0
  .rw [hl,hz];rfl
  .have ha:a=0:=by omega
   subst ha;rw [hl];have:(fun (k:Nat)=>((0:Int)+k).toNat)=id:=by funext k;simp
   rw [this,List.map_id]
 have hlen:z.cps.toList.length=z.length:=by simp [Str.length]
 have e2:Builtin.Str.strSliceIndices lo hi 1 z.length=List.range z.length:=by
  unfold Builtin.Str.strSliceIndices at h ⊢;refine key _ _ ?_ ?_ h
  .cases lo <;> simp <;> omega
  .cases hi <;> simp <;> omega
 unfold xH;rw [e2];have e3:(fun (k:Nat)=>z.cps[k]?)=fun k=>z.cps.toList[k]?:=by funext k;simp
 rw [e3,Im _ _ (by omega),<- hlen,List.take_length]
def abj:V->Option Int->Option Int->Hp->VK->Prop:=fun x lo hi H Q=>∃ z,x=.str z/\z.length<=sizeLine/\Q (.str (xH z lo hi)) H
theorem aaM:SlR X abj:=by
 intro pins s σ H x v vl vu lo hi sl Q I rx hs pl pu h;obtain ⟨z,rfl,hz,q⟩:=h;have hz2:=Nat.le_trans (RK z lo hi) hz;have hw:=Hw z lo hi;obtain ⟨t,rfl⟩:=rx;refine ⟨"str",_,F.slot_str_getitem.lookup,typeIs_str s z t,?_⟩
 have go:∀ l u:Option (Int × Tok),vl=partValue l->vu=partValue u->lo=l.map (·.1)->hi=u.map (·.1)->wpAny (model X.prog X.w) X.A (getItem (.str z t) (.ref sl)) (EP X pins σ Q) X.xe s:=by
  intro l u e1 e2 e3 e4;subst e1 e2 e3 e4;obtain ⟨o,a1,a2,a3⟩:=hs;refine wpAny_getItem_str_slice (l:=l) (u:=u) (st:=none) ⟨o,a1,a2,a3⟩ rfl ?_;unfold sliceMade slicePicked;by_cases c:(Builtin.Str.strSliceIndices (l.map (·.1)) (u.map (·.1)) 1 z.length).length=z.length
  .have c':((((none:Option (Int × Tok)).map (·.1)).getD 1 == 1) && ((Builtin.Str.strSliceIndices (l.map (·.1)) (u.map (·.1)) (((none:Option (Int × Tok)).map (·.1)).getD 1) z.length).length == z.length))=true:=by simp [c]
   rw [if_pos c'];rw [hw c] at q;exact ⟨.str z,H,I,⟨t,rfl⟩,q⟩
  .have c':¬ ((((none:Option (Int × Tok)).map (·.1)).getD 1 == 1) && ((Builtin.Str.strSliceIndices (l.map (·.1)) (u.map (·.1)) (((none:Option (Int × Tok)).map (·.1)).getD 1) z.length).length == z.length))=true:=by simp [c]
   rw [if_neg c'];exact ⟨hz2,.str _,H,I.tok _,⟨_,rfl⟩,q⟩
 cases pl with
 | none=>cases pu with
  | none=>exact go none none rfl rfl rfl rfl
  | int j t2=>exact go none (some (j,t2)) rfl rfl rfl rfl
 | int i t1=>cases pu with
  | none=>exact go (some (i,t1)) none rfl rfl rfl rfl
  | int j t2=>exact go (some (i,t1)) (some (j,t2)) rfl rfl rfl rfl
noncomputable def abJ (i:Int) (sep:Str) (k:Int):Str:=Str.empty++Str.ofString (toString i)++sep++Str.ofString (toString k)
end
end L2
namespace Mi
open PySem L2 PyProof.Rows
structure Xc where
 cls:Str
 val:D
inductive R (α:Type) where
 | ok (a:α) | exc (x:Xc) | stuck
noncomputable def R.bind {α β:Type}:R α->(α->R β)->R β
 | .ok a,f=>f a
 | .exc x,_=>.exc x
 | .stuck,_=>.stuck
noncomputable instance:Monad R where
 pure:=R.ok
 bind:=R.bind
@[simp] theorem qR {α β:Type} (a:α) (f:α->R β):(R.ok a >>= f)=f a:=rfl
@[simp] theorem Ug {α β:Type} (x:Xc) (f:α->R β):((R.exc x:R α) >>= f)=.exc x:=rfl
@[simp] theorem Pa {α β:Type} (f:α->R β):((R.stuck:R α) >>= f)=.stuck:=rfl
@[simp] theorem adF {α:Type} (a:α):(pure a:R α)=.ok a:=rfl
inductive BO where | add | sub | mul | mod | fdiv
inductive CO where | eq | ne | lt | le | gt | ge | in_ | notin
 deriving DecidableEq
inductive Ty where | int | bool | str | tuple | list
inductive BI where | len | min2 | max2 | all | any | sorted | list | tuple | listEnum | listRev | str | int
 deriving DecidableEq
inductive MT where | ends | split | join
inductive IK where | seq | rng | enum | zip | rev
inductive Tg where
 | one (i:Nat) | two (i j:Nat)
abbrev En:=List (Option D)
def lim:Nat:=100000
theorem jy:lim<=sizeLine:=by decide
noncomputable def jM:D->D->R D
 | .int a,.int b=>.ok (.int (a+b))
 | .lst a,.lst b=>if a.length+b.length<=lim then .ok (.lst (a++b)) else .stuck
 | .tup a,.tup b=>if a.length+b.length<=lim then .ok (.tup (a++b)) else .stuck
 | .str a,.str b=>if a.length+b.length<=lim then .ok (.str (a++b)) else .stuck
 | _,_=>.stuck
noncomputable def jj:Int->Bool
 | .ofNat n=>Nat.ble n 18446744073709551615
 | .negSucc n=>Nat.ble n 18446744073709551614
noncomputable def fQ:BO->D->D->R D
 | .add,a,b=>jM a b
 | .sub,.int a,.int b=>.ok (.int (a - b))
 | .mul,.int a,.int b=>if jj a || jj b then .ok (.int (a * b)) else .stuck
 | .mul,.lst ds,.int k=>if 0<=k/\k<=1000/\ds.length<=1000 then .ok (.lst (List.replicate k.toNat ds).flatten) else .stuck
 | .mul,.tup ds,.int k=>if 1<=k/\k<=1000/\ds.length<=1000/\0 < ds.length then .ok (.tup (List.replicate k.toNat ds).flatten) else .stuck
 | .mod,.int a,.int b=>if 0 < b then .ok (.int (a % b)) else .stuck
 | .fdiv,.int a,.int b=>if 0 < b/\b < 1073741824 then .ok (.int (a / b)) else .stuck
 | _,_,_=>.stuck
noncomputable def bx (a b:D):Bool:=decide (dep a<=30) && decide (dep b<=30)
def inD (x:D) (c:D):R Bool:=match c with
 | .lst ds=>if ds.all (fun d=>bx d x) && decide (dep x<=30) then .ok (ds.any fun d=>ao d x) else .stuck
 | .tup ds=>if ds.all (fun d=>bx d x) && decide (dep x<=30) then .ok (ds.any fun d=>ao d x) else .stuck
 | .dct ks _=>if keyOk x && decide (dep x<=6) && (match x with | .tup _=>true | _=>false) then .ok (decide (x∈ks)) else .stuck
 | .str z=>(match x with | .str w=>.ok (!(Builtin.Str.occurrences z w 0 z.length 1).isEmpty) | _=>.stuck)
 | _=>.stuck
def aY:CO->D->D->R Bool
 | .eq,a,b=>if bx a b then .ok (ao a b) else .stuck
 | .ne,a,b=>if bx a b then .ok (!ao a b) else .stuck
 | .lt,.int a,.int b=>.ok (decide (a < b))
 | .le,.int a,.int b=>.ok (decide (a<=b))
 | .gt,.int a,.int b=>.ok (decide (b < a))
 | .ge,.int a,.int b=>.ok (decide (b<=a))
 | .in_,a,b=>inD a b
 | .notin,a,b=>do let r <- inD a b;.ok (!r)
 | _,_,_=>.stuck
def vI:List D->List D->D->Option D
 | k'::ks,v::vs,k=>if k'=k then some v else vI ks vs k
 | _,_,_=>none
noncomputable def keyB (k:D):Bool:=keyOk k && decide (dep k<=6) && (match k with | .tup _=>true | _=>false)
def ixD:D->D->R D
 | .dct ks vs,k=>if keyB k then (match vI ks vs k with | some d=>.ok d | none=>.stuck) else .stuck
 | .lst ds,.int i=>match ixN ds.length i with | some k=>(match ds[k]? with | some d=>.ok d | none=>.stuck) | none=>.stuck
 | .tup ds,.int i=>match ixN ds.length i with | some k=>(match ds[k]? with | some d=>.ok d | none=>.stuck) | none=>.stuck
 | .str z,.int i=>if z.length<=lim then (match atI z.cps.toList i with | some c=>.ok (.str ⟨#[c]⟩) | none=>.stuck) else .stuck
 | _,_=>.stuck
noncomputable def strsOf:List D->Option (List Str)
 | []=>some []
 | .str s::ds=>(strsOf ds).map (s::·)
 | _=>none
noncomputable def aag:MT->D->D->R D
 | .ends,.str z,.str y=>.ok (.bl (Txt.endswith z y))
 | .split,.str z,.str y=>if y.length=1/\z.length<=lim then .ok (.lst ((Txt.split z y).map .str)) else .stuck
 | .join,.str z,.lst ds=>(match strsOf ds with | some ts=>if (ts.map (·.length)).sum+ts.length * z.length<=lim then .ok (.str (Txt.join z ts)) else .stuck | none=>.stuck)
 | _,_,_=>.stuck
noncomputable def aas (sep:Str):D->D->R D
 | .int i,.int k=>if jj i && jj k && decide ((abJ i sep k).length<=lim) then .ok (.str (abJ i sep k)) else .stuck
 | _,_=>.stuck
noncomputable def ado:D->R D
 | .int i=>if jj i then .ok (.str (Str.ofString (toString i))) else .stuck
 | _=>.stuck
noncomputable def intD:D->R D
 | .str z=>if z.length<=640 then (match PySem.intText? z with | some n=>.ok (.int n) | none=>.stuck) else .stuck
 | .bl b=>.ok (.int (if b=true then 1 else 0))
 | _=>.stuck
noncomputable def acE:D->R (List D)
 | .lst ds=>.ok ds
 | .tup ds=>.ok ds
 | .dct ks _=>.ok ks
 | _=>.stuck
noncomputable def bT (n:Nat):List D->List D
 | []=>[]
 | d::ds=>.tup [.int n,d]::bT (n+1) ds
noncomputable def n8:List D->List D->List D
 | a::as,b::bs=>.tup [a,b]::n8 as bs
 | _,_=>[]
noncomputable def itemsOf:IK->List D->R (List D)
 | .seq,[.lst ds]=>.ok ds
 | .seq,[.tup ds]=>.ok ds
 | .enum,[.tup ds]=>.ok (bT 0 ds)
 | .enum,[.lst ds]=>.ok (bT 0 ds)
 | .zip,[.tup as,.tup bs]=>.ok (n8 as bs)
 | .rev,[.lst ds]=>.ok ds.reverse
 | .rng,[.int a,.int b,.int c]=>if c=-1/\-(lim:Int)<=a/\a<=lim/\-(lim:Int)<=b/\b<=lim then .ok ((List.range (a - b).toNat).map fun (k:Nat)=>D.int (a - (k:Int))) else .stuck
 | .rng,[.int n]=>if -(lim:Int)<=n/\n<=lim then .ok ((List.range n.toNat).map fun (k:Nat)=>D.int (k:Int)) else .stuck
 | .rng,[.int a,.int b]=>if -(lim:Int)<=a/\a<=lim/\-(lim:Int)<=b/\b<=lim then .ok ((List.range (b - a).toNat).map fun (k:Nat)=>D.int (a+(k:Int))) else .stuck
 | _,_=>.stuck
noncomputable def boolsOf:List D->Option (List Bool)
 | []=>some []
 | .bl b::ds=>(boolsOf ds).map (b::·)
 | _=>none
mutual
def ltD:D->D->Bool
 | .int a,.int b=>decide (a < b)
 | .tup a,.tup b=>aaW a b
 | _,_=>false
def aaW:List D->List D->Bool
 | [],[]=>false
 | [],_::_=>true
 | _::_,[]=>false
 | a::as,b::bs=>if a=b then aaW as bs else ltD a b
end
end Mi
namespace Mi
open PySem L2
open PyProof.Rows hiding St
noncomputable def jg (env:Env):List (Str × NameKind)->List (Str × Addr)->List (Str × Addr)
 | [],acc=>acc
 | (n,k)::r,acc=>if k == .free then (match env.cells.lookup n with | some a=>jg env r ((n,a)::acc) | none=>jg env r acc) else jg env r acc
theorem Fx (env:Env) (f:Str × NameKind->List (Str × Addr)->Sem (ForInStep (List (Str × Addr))))
  (hf:∀ n k cs,f (n,k) cs=if k == .free then (do let a <- cellOf env n;pure (.yield ((n,a)::cs))) else pure (.yield cs)) :
  ∀ (l:List (Str × NameKind)) (acc:List (Str × Addr)),(∀ x∈l,x.2=.free->∃ c,env.cells.lookup x.1=some c)->forIn l acc f=(pure (jg env l acc):Sem _)
 | [],acc,_=>by rw [List.forIn_nil];rfl
 | (n,k)::r,acc,h=>by
  rw [List.forIn_cons,hf];have ih:=fun acc=>Fx env f hf r acc fun x hx=>h x (List.mem_cons_of_mem _ hx)
  unfold jg;by_cases hk:(k == NameKind.free)=true
  .obtain ⟨c,hc⟩:=h (n,k) List.mem_cons_self (by simpa using hk);have hc':env.cells.lookup n=some c:=hc;rw [if_pos hk,if_pos hk,hc'];have e:cellOf env n=pure c:=by unfold cellOf;rw [hc']
   rw [e];simp only [pure_bind];exact ih _
  .rw [if_neg hk,if_neg hk];simp only [pure_bind];exact ih _
theorem N5 {env:Env}{scope:Scope} (h:∀ x∈scope.names,x.2=.free->∃ c,env.cells.lookup x.1=some c):closureFor scope env=pure (jg env scope.names []):=by
 simp only [closureFor];rw [Fx env _ (fun n k cs=>by cases hk:k == NameKind.free <;> simp [hk]) scope.names [] h];rfl
theorem rT {env:Env}:∀ {l:List (Str × NameKind)}{acc:List (Str × Addr)}{p:Str × Addr},p∈jg env l acc->p∈acc\/((p.1,NameKind.free)∈l/\env.cells.lookup p.1=some p.2)
 | [],acc,p,h=>.inl h
 | (n,k)::r,acc,p,h=>by
  unfold jg at h;split at h
  .rename_i hk;split at h
   .rename_i a ha;rcases rT h with h | h
    .rcases List.mem_cons.mp h with e | h
     .right;subst e;have:k=.free:=by simpa using hk
      subst this;exact ⟨List.mem_cons_self,ha⟩
     .exact .inl h
    .exact .inr ⟨List.mem_cons_of_mem _ h.1,h.2⟩
   .rcases rT h with h | h
    .exact .inl h
    .exact .inr ⟨List.mem_cons_of_mem _ h.1,h.2⟩
  .rcases rT h with h | h
   .exact .inl h
   .exact .inr ⟨List.mem_cons_of_mem _ h.1,h.2⟩
theorem mj {env:Env}{x:Str}{c:Addr} (hc:env.cells.lookup x=some c):∀ {l:List (Str × NameKind)}{acc:List (Str × Addr)},((x,NameKind.free)∈l\/acc.lookup x=some c)->(jg env l acc).lookup x=some c
 | [],acc,h=>by
  rcases h with h | h
  .simp at h
  .exact h
 | (n,k)::r,acc,h=>by
  unfold jg;split
  .rename_i hk;have hk':k=.free:=by simpa using hk
   split
   .rename_i a ha;apply mj hc;by_cases hx:x=n
    .subst hx;rw [hc] at ha;cases ha;right;simp [List.lookup_cons]
    .rcases h with h | h
     .rcases List.mem_cons.mp h with e | h
      .cases e;exact absurd rfl hx
      .exact .inl h
     .right;have:(x == n)=false:=beq_eq_false_iff_ne.mpr hx;rw [List.lookup_cons,this];exact h
   .rename_i ha;apply mj hc;rcases h with h | h
    .rcases List.mem_cons.mp h with e | h
     .cases e;rw [hc] at ha;cases ha
     .exact .inl h
    .exact .inr h
  .rename_i hk;apply mj hc;rcases h with h | h
   .rcases List.mem_cons.mp h with e | h
    .cases e;exact absurd (by rfl) hk
    .exact .inl h
   .exact .inr h
noncomputable def dD (scope:Scope) (C:Addr) (env:Env):Env :=
 { scope:=relabel scope env,locals:=C,globals:=env.globals,cells:=cellsFrom (C+1) scope.names (jg env scope.names []),qual:=env.qual,func:=none,code:=env.code,frame:=env.frame,builtins:=env.builtins }
theorem aaC {M:Model}{A:Around}{E:Value->Shared->Prop}{s:Shared}{env:Env}{scope:Scope}{cl:List (Str × Addr)}{Q:Env->Shared->Prop}
  (h:Q { scope:=scope,locals:=s.heap.objs.size,globals:=env.globals,cells:=cellsFrom (s.heap.objs.size+1) scope.names cl,qual:=env.qual,func:=none,code:=env.code,frame:=env.frame,builtins:=env.builtins }
   { s with heap:=pushCells (s.heap.push { cls:=.type "dict",data:=.dict #[] }) scope.names }) :
  wpAny M A (newFunctionEnv scope env.globals cl [] env.qual none .none (some env)) Q E s:=by
 simp only [newFunctionEnv,Option.isSome_some,if_true];refine wpAny_bind (wpAny_alloc ?_);refine wpAny_bind (wpAny_layCells _ (fun name kind cells=>by cases hkc:kind == NameKind.cell <;> simp [hkc]) _ _ _ _ ?_);rw [show ({ s with heap:=s.heap.push { cls:=.type "dict",data:=.dict #[] } }:Shared).heap.objs.size=s.heap.objs.size+1 from Heap.size_push ..]
 simp only [List.forIn_nil,pure_bind];exact wpAny_pure h
theorem oR:∀ {l:List (Str × NameKind)}{n:Nat}{acc:List (Str × Addr)}{p:Str × Addr},p∈cellsFrom n l acc->p∈acc\/(n<=p.2/\(p.1,NameKind.cell)∈l)
 | [],n,acc,p,h=>.inl h
 | (x,k)::r,n,acc,p,h=>by
  unfold cellsFrom at h;split at h
  .rename_i hk;have hk':k=.cell:=by simpa using hk
   subst hk';rcases oR h with h | h
   .rcases List.mem_cons.mp h with e | h
    .subst e;exact .inr ⟨Nat.le_refl _,List.mem_cons_self⟩
    .exact .inl h
   .exact .inr ⟨by omega,List.mem_cons_of_mem _ h.2⟩
  .rcases oR h with h | h
   .exact .inl h
   .exact .inr ⟨h.1,List.mem_cons_of_mem _ h.2⟩
theorem ou:∀ {l:List (Str × NameKind)}{n:Nat}{acc:List (Str × Addr)},(∀ p∈acc,p.2 < n)->(∀ p∈acc,∀ q∈acc,p.2=q.2->p.1=q.1)->∀ p∈cellsFrom n l acc,∀ q∈cellsFrom n l acc,p.2=q.2->p.1=q.1
 | [],n,acc,h1,h2=>h2
 | (x,k)::r,n,acc,h1,h2=>by
  unfold cellsFrom;split
  .refine ou (fun p hp=>?_) fun p hp q hq e=>?_
   .rcases List.mem_cons.mp hp with e | hp
    .subst e;exact Nat.lt_succ_self _
    .exact Nat.lt_succ_of_lt (h1 p hp)
   .rcases List.mem_cons.mp hp with e1 | hp
    .rcases List.mem_cons.mp hq with e2 | hq
     .rw [e1,e2]
     .subst e1;have:=h1 q hq;have e':n=q.2:=e;exact absurd (e' ▸ this) (Nat.lt_irrefl _)
    .rcases List.mem_cons.mp hq with e2 | hq
     .subst e2;have:=h1 p hp;have e':p.2=n:=e;exact absurd (e' ▸ this) (Nat.lt_irrefl _)
     .exact h2 p hp q hq e
  .exact ou h1 h2
theorem kI {x:Str}:∀ {l:List (Str × NameKind)}{n:Nat}{acc:List (Str × Addr)},(x,NameKind.cell) ∉ l->(cellsFrom n l acc).lookup x=acc.lookup x
 | [],n,acc,h=>rfl
 | (y,k)::r,n,acc,h=>by
  have h':(x,NameKind.cell) ∉ r:=fun z=>h (List.mem_cons_of_mem _ z)
  unfold cellsFrom;split
  .rename_i hk;have hk':k=.cell:=by simpa using hk
   subst hk';rw [kI h'];have hne:x≠y:=fun e=>h (by rw [e];exact List.mem_cons_self)
   have:(x == y)=false:=beq_eq_false_iff_ne.mpr hne;rw [List.lookup_cons,this]
  .exact kI h'
theorem mL:∀ {l:List (Str × NameKind)}{h:Heap}{acc:List (Str × Addr)}{p:Str × Addr},p∈cellsFrom h.objs.size l acc->p∈acc\/(pushCells h l).IsCell p.2 none
 | [],h,acc,p,q=>.inl q
 | (y,k)::r,h,acc,p,q=>by
  unfold cellsFrom at q;unfold pushCells;split at q
  .rename_i hk;rw [if_pos hk];have e:(h.push { cls:=.type "cell",data:=.cell none }).objs.size=h.objs.size+1:=Heap.size_push ..
   rw [<- e] at q;rcases mL q with q | q
   .rcases List.mem_cons.mp q with z | q
    .subst z;right;exact Heap.IsCell.keeps ⟨_,Heap.get?_push_size _ rfl,rfl⟩ (pushCells_keeps r _)
    .exact .inl q
   .exact .inr q
  .rename_i hk;rw [if_neg hk];exact mL q
theorem fV {α:Type}:∀ {l:List (Str × α)}{x:Str}{k:α},(l.map (·.1)).Nodup->(x,k)∈l->l.lookup x=some k
 | (y,j)::r,x,k,nd,h=>by
  rw [List.map_cons,List.nodup_cons] at nd;rcases List.mem_cons.mp h with e | h
  .cases e;simp [List.lookup_cons]
  .have hne:x≠y:=fun e=>nd.1 (by rw [<- e];exact List.mem_map.mpr ⟨_,h,rfl⟩)
   have:(x == y)=false:=beq_eq_false_iff_ne.mpr hne;rw [List.lookup_cons,this];exact fV nd.2 h
theorem Cm {env:Env}{x:Str}:∀ {names:List (Str × NameKind)},
  (names.map fun (n,k)=>if (k == NameKind.free && env.scope.kind == .function && env.kindOf n == some .cell) then (n,NameKind.cell) else (n,k)).lookup x =
   (names.lookup x).map fun k=>if (k == NameKind.free && env.scope.kind == .function && env.kindOf x == some .cell) then NameKind.cell else k
 | []=>rfl
 | (n,k)::r=>by
  have ih:=Cm (env:=env) (x:=x) (names:=r);rw [List.map_cons];cases hx:x == n with
  | true =>
   have e:x=n:=by simpa using hx
   subst e;by_cases hc:(k == NameKind.free && env.scope.kind == .function && env.kindOf x == some .cell)=true
   .simp only [hc,if_true,List.lookup_cons,hx,Option.map_some]
   .simp only [hc,Bool.false_eq_true,if_false,List.lookup_cons,hx,Option.map_some]
  | false =>
   by_cases hc:(k == NameKind.free && env.scope.kind == .function && env.kindOf n == some .cell)=true
   .simp only [hc,if_true,List.lookup_cons,hx];exact ih
   .simp only [hc,Bool.false_eq_true,if_false,List.lookup_cons,hx];exact ih
theorem rK (scope:Scope) (env:Env) (x:Str):(relabel scope env).names.lookup x=(scope.names.lookup x).map fun k=>if (k == NameKind.free && env.scope.kind == .function && env.kindOf x == some .cell) then NameKind.cell else k:=Cm
structure ScOk (around:Scope) (scope:Scope):Prop where
 kind:scope.kind=.function
 nd:(scope.names.map (·.1)).Nodup
 cap:∀ x,scope.names.lookup x=some .free->around.names.lookup x=some .cell\/around.names.lookup x=some .free
def cA (N:List Str) (scope:Scope):List Bool:=N.map fun x=>decide (scope.names.lookup x=some .free)
noncomputable def aZ {α:Type}:List Bool->List (Option α)->List (Option α)
 | b::bs,v::vs=>(if b then v else none)::aZ bs vs
 | [],vs=>vs.map fun _=>none
 | _,[]=>[]
theorem lW {α:Type}:∀ (bs:List Bool) (vs:List (Option α)),(aZ bs vs).length=vs.length
 | [],vs=>by simp [aZ]
 | _::_,[]=>rfl
 | _::bs,_::vs=>by simp [aZ,lW bs vs]
theorem sV {α:Type}:∀ {bs:List Bool}{vs:List (Option α)}{i:Nat}{v:α},(aZ bs vs)[i]?=some (some v)->bs[i]?=some true/\vs[i]?=some (some v)
 | [],vs,i,v,h=>by
  simp only [aZ,List.getElem?_map] at h;cases e:vs[i]? <;> simp [e] at h
 | _::_,[],i,v,h=>by simp [aZ] at h
 | b::bs,w::vs,0,v,h=>by
  cases b <;> simp [aZ] at h ⊢;exact h
 | b::bs,w::vs,i+1,v,h=>by
  simp only [aZ,List.getElem?_cons_succ] at h ⊢;exact sV h
theorem Gf {α:Type}:∀ {bs:List Bool}{vs:List (Option α)}{i:Nat}{v:α},bs[i]?=some true->vs[i]?=some (some v)->(aZ bs vs)[i]?=some (some v)
 | b::bs,w::vs,0,v,h,g=>by
  simp at h g;subst h g;simp [aZ]
 | b::bs,w::vs,i+1,v,h,g=>by
  simp only [aZ,List.getElem?_cons_succ] at h g ⊢;exact Gf h g
 | [],vs,i,v,h,g=>by simp at h
 | _::_,[],i,v,h,g=>by simp at g
noncomputable def cN (X:Cx) (scope:Scope) (s₃:Shared) (H₃:Hp) (fp:List Addr) (xe:Value->Shared->Prop):Cx :=
 { X with s₀:=s₃,H₀:=H₃,env:=dD scope s₃.heap.objs.size X.env,outer:=X.stack,stack:=X.stack,ex:=fp,fn:=fun x=>decide (scope.names.lookup x=some .cell),pn:=[],xe:=xe }
section
variable {X:Cx}{pins:List (Addr × Obj)}{σ:St}{H:Hp}{s:Shared}
theorem YC {scope:Scope}{fp:List Addr}{xe:Value->Shared->Prop} (I:Inv X pins σ H s) (S:ScOk X.env.scope scope) (hf:∀ b∈fp,oE X pins H b) (ho:∀ b∈fp,∃ o,s.heap.get? b=some o) :
  Inv (cN X scope s H fp xe) [] (aZ (cA X.N scope) σ) H { s with heap:=pushCells (s.heap.push { cls:=.type "dict",data:=.dict #[] }) scope.names }:=by
 have keep:∀ b o,s.heap.get? b=some o -> (pushCells (s.heap.push { cls:=.type "dict",data:=.dict #[] }) scope.names).get? b=some o:=fun b o e=>pushCells_keeps _ _ b o (Heap.get?_push_of_some _ e)
 have hsz:(s.heap.push { cls:=.type "dict",data:=.dict #[] }).objs.size=s.heap.objs.size+1:=Heap.size_push ..
 have clo:∀ p∈jg X.env scope.names [],scope.names.lookup p.1=some .free/\X.env.cells.lookup p.1=some p.2:=fun p hp=>by
  rcases rT hp with h | h
  .simp at h
  .exact ⟨fV S.nd h.1,h.2⟩
 have clt:∀ p∈jg X.env scope.names [],p.2 < s.heap.objs.size:=fun p hp=>by
  obtain ⟨v,q⟩:=I.cell _ _ (clo p hp).2;exact q.lt
 have memc:∀ {x c},(dD scope s.heap.objs.size X.env).cells.lookup x=some c->(x,c)∈cellsFrom (s.heap.objs.size+1) scope.names (jg X.env scope.names []):=fun h=>mem_of_lookup h
 have cases2:∀ {x c},(dD scope s.heap.objs.size X.env).cells.lookup x=some c->(scope.names.lookup x=some .free/\X.env.cells.lookup x=some c)\/(s.heap.objs.size+1<=c/\scope.names.lookup x=some .cell):=fun {x c} h=>by
  rcases oR (memc h) with q | q
  .exact .inl (clo _ q)
  .exact .inr ⟨q.1,fV S.nd q.2⟩
 have free_has:∀ {x},scope.names.lookup x=some .free->∃ c,X.env.cells.lookup x=some c:=fun {x} h=>I.ok.has x (S.cap x h)
 have lookF:∀ {x c},scope.names.lookup x=some .free->X.env.cells.lookup x=some c->(dD scope s.heap.objs.size X.env).cells.lookup x=some c:=fun {x c} h1 h2=>by
  have ncell:(x,NameKind.cell) ∉ scope.names:=fun z=>by
   have:=fV S.nd z;rw [h1] at this;cases this
  show (cellsFrom (s.heap.objs.size+1) scope.names (jg X.env scope.names [])).lookup x=some c
  rw [kI ncell];exact mj h2 (.inl (mem_of_lookup h1))
 have kindB:∀ {x},(Env.kindOf (dD scope s.heap.objs.size X.env) x=some .cell\/Env.kindOf (dD scope s.heap.objs.size X.env) x=some .free)->scope.names.lookup x=some .cell\/scope.names.lookup x=some .free:=fun {x} h=>by
  have e:Env.kindOf (dD scope s.heap.objs.size X.env) x=_:=rK scope X.env x;rw [e] at h;cases q:scope.names.lookup x with
  | none=>rw [q] at h;simp at h
  | some k =>
   rw [q] at h;cases k <;> simp at h ⊢
 have ok:(cN X scope s H fp xe).Ok:=by
  refine ⟨I.ok.mod,S.kind,I.ok.glob,I.ok.blt,Nat.le_refl _,fun x y c h1 h2=>?_,fun x h=>?_,fun x c h1 h2=>?_,I.ok.hd,I.ok.frames,.inl rfl,fun b hb=>⟨?_,fun x c h=>?_⟩,I.bs,Nat.le_trans I.ok.bsz I.sz,fun b o e hb=>?_,fun b hb z=>?_,I.stack,I.stkFree,I.ok.tab.un I.base⟩
  .exact ou (fun p hp=>Nat.lt_succ_of_lt (clt p hp)) (fun p hp q hq e=>I.ok.inj _ _ _ (clo p hp).2 (by rw [e];exact (clo q hq).2)) _ (memc h1) _ (memc h2) rfl
  .rcases kindB h with h | h
   .exact Option.isSome_iff_exists.mp (PySem.W.cellsFrom_some scope.names (s.heap.objs.size+1) _ (.inl h))
   .obtain ⟨c,hc⟩:=free_has h;exact ⟨c,lookF h hc⟩
  .rcases cases2 h2 with ⟨q,_⟩ | ⟨q,_⟩
   .have h1':scope.names.lookup x=some .cell:=of_decide_eq_true h1;rw [q] at h1';cases h1'
   .exact Nat.le_of_succ_le q
  .obtain ⟨o,e⟩:=ho b hb;exact Nat.ne_of_lt (Heap.lt_size e)
  .rcases cases2 h with ⟨_,q⟩ | ⟨q,_⟩
   .exact (hf b hb).2.2.2.2.1 x c q
   .obtain ⟨o,e⟩:=ho b hb;have:=Heap.lt_size e;intro z;subst z;exact Nat.lt_irrefl _ (Nat.lt_trans this (Nat.lt_of_succ_le q))
  .obtain ⟨_,_,_,q,_⟩:=hf b hb;rcases q with q | q
   .exact I.ok.noex b o e q
   .exact absurd (Nat.lt_of_lt_of_le (Heap.lt_size e) (Nat.le_trans I.ok.bsz q)) (Nat.lt_irrefl _)
  .obtain ⟨_,q1,q2,_⟩:=hf b hb;rcases List.mem_cons.mp (I.stkSub b z) with e | e
   .exact q1 e
   .exact q2 e
 refine ⟨ok,rfl,I.bare,Un.kept keep,⟨fun _=>none,(Heap.Ns.new s.heap (.type "dict")).keeps (pushCells_keeps _ _),fun i x v h1 h2 h3=>?_⟩,fun x c h=>?_,I.hok.fresh (Nat.le_refl _),fun x c h=>?_,fun p hp=>absurd (show p ∈ ([]:List (Addr × Obj)) from hp) (by simp),I.hok.kept keep,?_⟩
 .obtain ⟨g1,g2⟩:=sV h2;have hx:X.N[i]?=some x:=h1;have hfr:scope.names.lookup x=some .free:=by
   unfold cA at g1;rw [List.getElem?_map,hx] at g1;simpa using g1
  have hcap:=S.cap x hfr;obtain ⟨m,hn,hl⟩:=I.loc;obtain ⟨u,r,l⟩:=hl i x v hx g2 (by rcases hcap with h | h;exact .inr (.inl h);exact .inr (.inr h));refine ⟨u,r,?_⟩;rcases l with ⟨hk,_⟩ | ⟨_,c,hc,hcell⟩
  .have hk':X.env.scope.names.lookup x=some .local:=hk;rcases hcap with h | h <;> rw [hk'] at h <;> cases h
  .refine .inr ⟨?_,c,lookF hfr hc,hcell.keeps keep⟩;have e:Env.kindOf (dD scope s.heap.objs.size X.env) x=_:=rK scope X.env x;show Env.kindOf (dD scope s.heap.objs.size X.env) x=some .cell\/Env.kindOf (dD scope s.heap.objs.size X.env) x=some .free
   rw [e,hfr];simp only [Option.map_some];split
   .exact .inl rfl
   .exact .inr rfl
 .rcases cases2 h with ⟨_,q⟩ | ⟨_,q⟩
  .obtain ⟨v,z⟩:=I.cell x c q;exact ⟨v,z.keeps keep⟩
  .have hm:=memc h;rw [<- hsz] at hm;rcases mL hm with z | z
   .have:=(clo _ z).1;rw [q] at this;cases this
   .exact ⟨none,z⟩
 .rcases cases2 h with ⟨_,q⟩ | ⟨q,_⟩
  .exact I.freeC x c q
  .exact I.hok.fresh (Nat.le_of_succ_le q)
 .rw [lW];exact I.len
theorem Ly {scope:Scope}{fp:List Addr}{xe:Value->Shared->Prop}{pins':List (Addr × Obj)}{σ':St}{H':Hp}{s':Shared}{h':Heap} (I:Inv X pins σ H s) (hf:∀ b∈fp,oE X pins H b)
  (J:Inv (cN X scope s H fp xe) pins' σ' H' s') (hs:Heap.SameBut s.heap.objs.size s'.heap h'):Inv X pins σ H' { s' with heap:=h' }:=by
 have ne:∀ b o,s.heap.get? b=some o->b≠s.heap.objs.size:=fun b o e=>Nat.ne_of_lt (Heap.lt_size e)
 have eq:∀ b,b≠s.heap.objs.size->h'.get? b=s'.heap.get? b:=fun b hb=>hs.2 b hb
 have U:Un (frs X.stack) fp H H' s.heap s'.heap:=J.base;have U':Un (frs X.stack) fp H H' s.heap h' :=
  ⟨fun b o e n hb hx=>by rw [eq b (ne b o e)];exact U.keep b o e n hb hx,fun b o e n hb hx=>by rw [eq b (ne b o e)];exact U.slot b o e n hb hx,U.free,fun b o e hx=>by rw [eq b (ne b o e)];exact U.there b o e hx,U.tups,U.frzs,U.tbls⟩
 have hC:H' s.heap.objs.size=none:=J.free;have hok:HOk X.prog X.w H' h':=fun a o e=>by
  have neH:∀ {b u},H' b=some u->b≠s.heap.objs.size:=fun {b u} q z=>by rw [z,hC] at q;cases q
  refine (J.hok a o e).stay (fun b u hb q=>?_) (fun _ q=>q) fun _ _ q=>q
  have hbn:b≠s.heap.objs.size:=by
   rcases hb with rfl | hb
   .exact neH e
   .exact neH hb
  rw [eq b hbn];exact q
 refine I.call' (s':={ s' with heap:=h' }) (ch:=fp) J.os U' hok J.bare fun b hb=>?_
 obtain ⟨_,f1,f2,f3,f4,f5⟩:=hf b hb;exact ⟨f3,f1,f4,f5⟩
end
def PTs (X:Cx) (ifs:List Expr) (tt:TT):Prop :=
 ∀ (pins:List (Addr × Obj)) (s:Shared) (σ:St) (H:Hp) (Q:Bool->Hp->Prop),Inv X pins σ H s->tt σ H Q ->
  wpAny (model X.prog X.w) X.A (forIn ifs true fun c r=>if r=true then do let ok <- isTrue c X.env (eval c X.env);pure (ForInStep.yield ok) else pure (ForInStep.yield r)) (TP X pins σ Q) X.xe s
theorem M4 {X:Cx}:PTs X [] (fun _ H Q=>Q true H):=fun _ _ _ H _ I h=>wpAny_tests_nil ⟨H,I,h⟩
theorem Mp {X:Cx}{c:Expr}{tt:TT} (h:PT X c tt):PTs X [c] tt:=fun pins s σ H Q I q=>wpAny_tests_one (h pins s σ H Q I q)
def ZW (a b:St):Prop:=b.length=a.length/\∀ (i:Nat) v,a[i]?=some (some v)->b[i]?=some (some v)
def Cw (wi:TI) (g:TG) (tt:TT) (te:TE) (mk:St->St):TE:=fun σ H Q=>wi σ H fun J H1=>∀ D,H1 D=none ->
 ∃ W:Nat->Nat->List V->Hp->Prop,(∃ m,W 0 m [] (upd H1 D (.lst [])))/\∀ i m ys H',W i m ys H' ->
  (J.stop i H'/\Q (.ref D) H')\/(J.go i H'/\∀ x H2,J.yld i H' x H2->g x (mk σ) H2 fun σ2 H3=>ZW (mk σ) σ2/\tt σ2 H3 fun b H4 =>
   if b=true then te σ2 H4 fun y H5=>H5 D=some (.lst ys)/\ys.length < sizeLine/\∃ m',m' < m/\W (i+1) m' (ys++[y]) (upd H5 D (.lst (ys++[y])))
   else ∃ m',m' < m/\W (i+1) m' ys H4)
theorem vU {X:Cx}{Pb:Cx->Prop}{elt tg iter:Expr}{ifs:List Expr}{scope:Scope}{pos pos':Pos}{wi:TI}{g:TG}{tt:TT}{te:TE}{use:Option (Value->Sem Unit)}{Qv:Value->Shared->Prop}{pins:List (Addr × Obj)}{s:Shared}{σ:St}{H:Hp}{Q:VK}
  (I:Inv X pins σ H s) (h:Cw wi g tt te (aZ (cA X.N scope)) σ H Q)
  (hfin:∀ {s3:Shared}{H3:Hp}{fp:List Addr}{xe:Value->Shared->Prop}{s6:Shared}{H5:Hp}{D:Addr},Inv X pins σ H3 s3->(∀ b∈fp,oE X pins H3 b)->Inv (cN X scope s3 H3 fp xe) [] (aZ (cA X.N scope) σ) H5 s6->Q (.ref D) H5->compPost (model X.prog X.w) X.A X.xe use Qv (.ref D) s3.heap.objs.size (.ok .next) s6)
  (hc:X.calm=true) (hi:PI X tg iter wi) (S:ScOk X.env.scope scope)
  (hP:∀ s₃ H₃ fp acc,Inv X pins σ H₃ s₃->(∀ b∈fp,oE X pins H₃ b)->Pb (cN X scope s₃ H₃ fp (fun e s'=>notedBy (model X.prog X.w) X.A (dD scope s₃.heap.objs.size X.env) (fun e s'=>compPost (model X.prog X.w) X.A X.xe use Qv acc s₃.heap.objs.size (.error e) s') e s')))
  (hblk:∀ s₃ H₃ fp xe,Pb (cN X scope s₃ H₃ fp xe)->PG (cN X scope s₃ H₃ fp xe) tg g/\PTs (cN X scope s₃ H₃ fp xe) ifs tt/\PE (cN X scope s₃ H₃ fp xe) elt te)
  (hs:∀ x,foldedSetIterable iter X.env x=pure x:=by intro _;rfl) :
  wpAny (model X.prog X.w) X.A (comprehension (.ListComp elt [⟨tg,iter,ifs,0⟩] scope pos) scope X.env pos' (newList []) false (eval iter X.env) use) Qv X.xe s:=by
 have hcl:=N5 (env:=X.env) (scope:=scope) fun x hx hk=>I.ok.has x.1 (S.cap x.1 (fV S.nd (by rw [<- hk];exact hx)))
 refine wpAny_comprehension_free (use:=use) rfl hs hcl S.kind (fun x hx hk=>fV S.nd (by rw [<- hk];exact hx)) ?_;refine thn (hi pins s σ H _ I h) fun v s1 h1=>thn h1 fun itv s2 h2=>?_
 obtain ⟨it,fp,tn,J,H2,rfl,I2,T,st2,f2,hR⟩:=h2;refine wpAny_newList ?_;have hD:H2 s2.heap.objs.size=none:=I2.hok.fresh (Nat.le_refl _);obtain ⟨W,⟨m0,w0⟩,turn⟩:=hR s2.heap.objs.size hD;have keep3:∀ b o,s2.heap.get? b=some o -> (s2.heap.push { cls:=.type "list",data:=.seq ([]:List Value).toArray }).get? b=some o:=fun b o e=>Heap.get?_push_of_some _ e
 have I3:Inv X pins σ (upd H2 s2.heap.objs.size (.lst [])) { s2 with heap:=s2.heap.push { cls:=.type "list",data:=.seq ([]:List Value).toArray } } :=
  I2.laid (t':=s2.toks) keep3 (Nat.le_refl _) ⟨by simp,[],0,.nil,Heap.get?_push_size _ rfl⟩
 generalize hs3:({ s2 with heap:=s2.heap.push { cls:=.type "list",data:=.seq ([]:List Value).toArray } }:Shared)=s3 at I3
 have h3:s3.heap=s2.heap.push { cls:=.type "list",data:=.seq ([]:List Value).toArray }:=by rw [<- hs3]
 have obj2:∀ b∈fp,∃ o,s2.heap.get? b=some o:=fun b hb=>by
  obtain ⟨o,e,_⟩:=T.obj 0 _ st2 b hb;exact ⟨o,e⟩
 have obj3:∀ b∈fp,∃ o,s3.heap.get? b=some o:=fun b hb=>by
  obtain ⟨o,e⟩:=obj2 b hb;exact ⟨o,by rw [h3];exact keep3 b o e⟩
 have neD:∀ b∈fp,b≠s2.heap.objs.size:=fun b hb=>by
  obtain ⟨o,e⟩:=obj2 b hb;exact Nat.ne_of_lt (Heap.lt_size e)
 have f3:∀ b∈fp,oE X pins (upd H2 s2.heap.objs.size (.lst [])) b:=fun b hb=>by
  obtain ⟨g0,g1⟩:=f2 b hb;exact ⟨by rw [ak (neD b hb)];exact g0,g1⟩
 refine aaC ?_;have hPb:=hP s3 (upd H2 s2.heap.objs.size (.lst [])) fp (.ref s2.heap.objs.size) I3 f3;generalize hE:(fun e s'=>notedBy (model X.prog X.w) X.A (dD scope s3.heap.objs.size X.env) (fun e s'=>compPost (model X.prog X.w) X.A X.xe use Qv (.ref s2.heap.objs.size) s3.heap.objs.size (.error e) s') e s')=xe at hPb;have J4:Inv (cN X scope s3 (upd H2 s2.heap.objs.size (.lst [])) fp xe) [] (aZ (cA X.N scope) σ) (upd H2 s2.heap.objs.size (.lst [])) { s3 with heap:=pushCells (s3.heap.push { cls:=.type "dict",data:=.dict #[] }) scope.names }:=YC I3 S f3 obj3
 obtain ⟨hg,ht,he⟩:=hblk s3 (upd H2 s2.heap.objs.size (.lst [])) fp xe hPb;generalize hX:cN X scope s3 (upd H2 s2.heap.objs.size (.lst [])) fp xe=X' at J4 hg ht he;have eP:X'.prog=X.prog:=by rw [<- hX];rfl
 have eW:X'.w=X.w:=by rw [<- hX];rfl
 have eK:X'.K=X.K:=by rw [<- hX];rfl
 have eA:X'.A=X.A:=by rw [<- hX];rfl
 have eC:X'.calm=true:=by rw [<- hX];exact hc
 have eEnv:X'.env=dD scope s3.heap.objs.size X.env:=by rw [<- hX];rfl
 have eX:X'.xe=xe:=by rw [<- hX];rfl
 have eFp:∀ {pins':List (Addr × Obj)}{H':Hp},(∀ b∈fp,H' b=none)->pins'=[]->∀ b∈fp,oE X' pins' H' b:=fun {pins' H'} hn hp b hb=>by
  subst hp;have q:=(J4.ok.exf b (by rw [<- hX];exact hb));refine ⟨hn b hb,q.1,J4.ok.exfs b (by rw [<- hX];exact hb),.inl (by rw [<- hX];exact hb),q.2,fun p hp=>?_⟩;rw [<- hX] at hp;exact absurd (show p∈([]:List (Addr × Obj)) from hp) (by simp)
 have tn4:tn 0 (pushCells (s3.heap.push { cls:=.type "dict",data:=.dict #[] }) scope.names):=T.keep _ _ _ st2 fun b hb o e=>pushCells_keeps _ _ b o (Heap.get?_push_of_some _ (by rw [h3]; exact keep3 b o e))
 have loop:∀ s5:Shared,s5={ s3 with heap:=pushCells (s3.heap.push { cls:=.type "dict",data:=.dict #[] }) scope.names } ->
   codeAny (model X.prog X.w) X.A (.compLoop (.ListComp elt [⟨tg,iter,ifs,0⟩] scope pos) 0 (.ref it) (.ref s2.heap.objs.size) (dD scope s3.heap.objs.size X.env))
    (compPost (model X.prog X.w) X.A X.xe use Qv (.ref s2.heap.objs.size) s3.heap.objs.size) s5:=by
  rintro s5 rfl;refine codeAny_loop rfl (fun n s'=>∃ i ys H',Inv X' [] (aZ (cA X.N scope) σ) H' s'/\tn i s'.heap/\(∀ b∈fp,H' b=none)/\W i n ys H') (fun n s5 hI=>?_) m0
   ⟨0,[],_,J4,tn4,fun b hb=>by rw [ak (neD b hb)];exact (f2 b hb).1,w0⟩
  obtain ⟨i,ys,H5,I5,st5,fr5,w5⟩:=hI;show wpAny _ X.A ((compTurn (.ListComp elt [⟨tg,iter,ifs,0⟩] scope pos) 0 (.ref it) (.ref s2.heap.objs.size) (dD scope s3.heap.objs.size X.env)).onRaise (fun x=>do noteFrame x (dD scope s3.heap.objs.size X.env);theTreesLotGoes x)) _ _ s5
  refine wpAny_noted ?_;rw [compTurn_list];refine wpAny_bind (wpAny_standAt (wpAny_bind ?_));have eN:notedBy (model X.prog X.w) X.A (dD scope s3.heap.objs.size X.env) (fun e s'=>compPost (model X.prog X.w) X.A X.xe use Qv (.ref s2.heap.objs.size) s3.heap.objs.size (.error e) s')=X'.xe:=by rw [eX,<- hE]
  rw [eN];rcases turn i n ys H5 w5 with ⟨stop,qn⟩ | ⟨go,step⟩
  .have dn:=T.done X' eP eW eK eC i [] s5 _ H5 X'.xe I5 (eFp fr5 rfl) st5 stop;rw [eA] at dn;refine thn dn fun r s6 ⟨hr,I6⟩=>?_
   subst hr;refine wpAny_pure ?_;rw [<- hX] at I6;exact hfin I3 f3 I6 qn
  .have itm:=T.item X' eP eW eK eC i [] s5 _ H5 X'.xe I5 (eFp fr5 rfl) st5 go;rw [eA] at itm;refine thn itm fun r s6 ⟨u,hr,h6⟩=>?_
   subst hr;refine wpAny_bind (thn h6 fun _ s7 ⟨x,H7,I7,r7,y7,st7,fr7⟩=>?_);have I7':=I7.pinned (eFp fr7 rfl) (T.obj _ _ st7);have as7:=hg _ s7 _ H7 x u _ I7' r7 (step x H7 y7);rw [eP,eW,eA,eEnv] at as7;refine wpAny_bind (thn as7 fun _ s8 ⟨σ8,H8,I8,ex8,q8⟩=>?_);have again:∀ {s9:Shared}{H9:Hp}{ys':List V},Inv X' ([]++yC fp s7.heap) σ8 H9 s9->(∃ m',m' < n/\W (i+1) m' ys' H9) ->
     ∃ m,m < n/\∃ i ys H',Inv X' [] (aZ (cA X.N scope) σ) H' s9/\tn i s9.heap/\(∀ b∈fp,H' b=none)/\W i m ys H':=fun {s9 H9 ys'} I9 ⟨m',hm,w9⟩=>by
    refine ⟨m',hm,i+1,ys',H9,?_,T.keep _ _ _ st7 fun b hb o e=>(I9.pin (b,o) (List.mem_append_right _ (List.mem_append_right _ (o8 hb e)))).1,fun b hb=>?_,w9⟩
    .exact (I9.weak ex8.1.symm ex8.2).unpinned
    .obtain ⟨o,e,d⟩:=T.obj _ _ st7 b hb;exact (I9.pin (b,o) (List.mem_append_right _ (List.mem_append_right _ (o8 hb e)))).2.1
   have te8:=ht _ s8 σ8 H8 _ I8 q8;rw [eP,eW,eA,eEnv] at te8;refine wpAny_bind (thn te8 fun ok s9 ⟨H9,I9,q9⟩=>?_);cases ok with
   | false =>
    rw [if_neg Bool.false_ne_true] at q9;exact wpAny_pure ⟨rfl,again I9 q9⟩
   | true =>
    rw [if_pos rfl] at q9;have el9:=he _ s9 σ8 H9 _ I9 q9;rw [eP,eW,eA,eEnv] at el9;refine wpAny_bind (wpAny_bind (thn el9 fun y s10 ⟨v10,H10,I10,r10,hl10,hz10,q10⟩=>?_));have ap:=Fq (X:=X') _ s10 σ8 H10 (.ref s2.heap.objs.size) [v10] (.ref s2.heap.objs.size) [y] (fun _ H'=>H'=upd H10 s2.heap.objs.size (.lst (ys++[v10]))) I10 rfl (.cons r10 .nil) ⟨s2.heap.objs.size,ys,v10,rfl,rfl,hl10,hz10,rfl⟩;rw [eP,eW,eA] at ap;refine wpAny_bind (thn ap fun _ s11 ⟨_,H11,I11,_,e11⟩=>?_);subst e11;exact wpAny_pure (wpAny_pure ⟨rfl,again I11 q10⟩)
 refine codeAny_compStart_list (loop _ rfl) ?_;have tself:=T.self X.A 0 { s3 with heap:=pushCells (s3.heap.push { cls:=.type "dict",data:=.dict #[] }) scope.names }
  (fun it' s'=>codeAny (model X.prog X.w) X.A (.compLoop (.ListComp elt [⟨tg,iter,ifs,0⟩] scope pos) 0 it' (.ref s2.heap.objs.size) (dD scope s3.heap.objs.size X.env)) (compPost (model X.prog X.w) X.A X.xe use Qv (.ref s2.heap.objs.size) s3.heap.objs.size) s')
 exact tself _ tn4 (loop _ rfl)
theorem zx {X:Cx}{elt tg iter:Expr}{ifs:List Expr}{scope:Scope}{pos:Pos}{wi:TI}{g:TG}{tt:TT}{te:TE}
  (hc:X.calm=true) (hi:PI X tg iter wi) (S:ScOk X.env.scope scope)
  (hblk:∀ s₃ H₃ fp xe,PG (cN X scope s₃ H₃ fp xe) tg g/\PTs (cN X scope s₃ H₃ fp xe) ifs tt/\PE (cN X scope s₃ H₃ fp xe) elt te)
  (hs:∀ x,foldedSetIterable iter X.env x=pure x:=by intro _;rfl) :
  PE X (.ListComp elt [⟨tg,iter,ifs,0⟩] scope pos) (Cw wi g tt te (aZ (cA X.N scope))):=by
 intro pins s σ H Q I h;rw [eval_ListComp];refine vU (use:=none) I h (fun {s3 H3 fp xe s6 H5 D} I3 f3 I6 qn=>?_) hc hi S (Pb:=fun _=>True) (fun _ _ _ _ _ _=>trivial) (fun s₃ H₃ fp xe _=>hblk s₃ H₃ fp xe) hs;obtain ⟨m,hn,_⟩:=id I6.loc;exact ⟨m,hn,fun h' hsb=>⟨.ref D,H5,Ly I3 f3 I6 hsb,rfl,qn⟩⟩
theorem U0 {X:Cx}{pins:List (Addr × Obj)}{σ:St}{H:Hp}{s:Shared}{C:Addr}{h':Heap} (I:Inv X pins σ H s) (hC:H C=none) (hb:X.s₀.heap.objs.size<=C) (hl:C≠X.env.locals) (hcl:∀ x c,X.env.cells.lookup x=some c->c≠C) (hp:∀ p∈X.pn++pins,p.1≠C)
  (hs:Heap.SameBut C s.heap h'):Inv X pins σ H { s with heap:=h' }:=by
 have hok:HOk X.prog X.w H h':=fun b ob e=>by
  refine (I.hok b ob e).stay (fun c w' hc q=>(hs.2 c ?_).trans q) (fun _ q=>q) fun _ _ q=>q
  rintro rfl;rcases hc with rfl | hc
  .rw [hC] at e;cases e
  .rw [hC] at hc;cases hc
 refine I.call' (s':={ s with heap:=h' }) (ch:=[C]) rfl ⟨fun b o e n hb hx=>?_,fun b o e n hb hx=>?_,fun b o e n hx=>n,fun b o e hx=>?_,fun b xs q=>q,fun b o u q=>q,fun b ps q=>⟨#[],by rw [Array.append_empty];exact q⟩⟩ hok I.bare fun b hbm=>?_
 .exact (hs.2 b fun z=>hx (by rw [z];simp)).trans e
 .exact ⟨o.slots,(hs.2 b fun z=>hx (by rw [z];simp)).trans e⟩
 .exact ⟨o,(hs.2 b fun z=>hx (by rw [z];simp)).trans e⟩
 .rw [List.mem_singleton.mp hbm];exact ⟨.inr hb,hl,hcl,hp⟩
theorem NZ {X:Cx}{elt tg iter:Expr}{ifs:List Expr}{scope:Scope}{pos pos' spos:Pos}{wi:TI}{g:TG}{tt:TT}{te:TE}{i:Nat}{x:Str}
  (hN:X.N.Nodup) (hi':X.N[i]?=some x) (hx:L2.Loc X.env.scope x) (hf:X.fn x=true\/X.env.scope.names.lookup x=some .local)
  (hsw:X.env.scope.kind=.function->swapsWith (.ListComp elt [⟨tg,iter,ifs,0⟩] scope pos) (some (.Name x pos')) spos.line X.env=pure true)
  (hc:X.calm=true) (hi:PI X tg iter wi) (S:ScOk X.env.scope scope)
  (hblk:∀ s₃ H₃ fp xe,PG (cN X scope s₃ H₃ fp xe) tg g/\PTs (cN X scope s₃ H₃ fp xe) ifs tt/\PE (cN X scope s₃ H₃ fp xe) elt te)
  (hs:∀ x,foldedSetIterable iter X.env x=pure x:=by intro _;rfl) :
  PS X (.Assign [.Name x pos'] (.ListComp elt [⟨tg,iter,ifs,0⟩] scope pos) spos) (T6 (Cw wi g tt te (aZ (cA X.N scope))) (Bx i)):=by
 intro pins s σ H D I h;rw [exec_Assign_Name_used x pos' _ spos (hsw I.ok.kind)];refine wpAny_bind (wpAny_standAt (wpAny_bind ?_));show wpAny _ _ (do let _ <- comprehension (.ListComp elt [⟨tg,iter,ifs,0⟩] scope pos) scope X.env iter.pos (newList []) false (eval iter X.env) (some (assign (.Name x pos') X.env));pure ()) _ _ s
 refine wpAny_bind (vU (use:=some (assign (.Name x pos') X.env)) I h (fun {s3 H3 fp xe s6 H5 Da} I3 f3 I6 qn=>?_) hc hi S (Pb:=fun _=>True) (fun _ _ _ _ _ _=>trivial) (fun s₃ H₃ fp xe _=>hblk s₃ H₃ fp xe) hs);have I':Inv X pins σ H5 s6:=Ly I3 f3 I6 (h':=s6.heap) ⟨rfl,fun _ _=>rfl⟩;have hlt:X.env.locals < s3.heap.objs.size:=I3.lt;have cells:∀ y c,X.env.cells.lookup y=some c->c < s3.heap.objs.size:=fun y c e=>by
  obtain ⟨v,q⟩:=I3.cell y c e;exact q.lt
 refine wpAny_assign_Name (Eu I' hN hi' hx (v:=.ref Da) rfl (fun s'' I'' ⟨a,sb,ha⟩=>?_) hf);obtain ⟨m,hn,_⟩:=id I6.loc;have hCa:s3.heap.objs.size≠a:=by
  rcases ha with rfl | ha
  .exact Nat.ne_of_gt hlt
  .exact Nat.ne_of_gt (cells x a ha)
 refine ⟨m,hn.sameBut sb hCa,fun h' hsb=>?_⟩;refine wpAny_pure (wpAny_pure ⟨_,H5,?_,qn⟩);exact U0 I'' (C:=s3.heap.objs.size) I6.free I3.sz (Nat.ne_of_gt hlt) (fun y c e=>Nat.ne_of_lt (cells y c e)) (fun p hp=>Nat.ne_of_lt (Heap.lt_size (I3.pin p hp).1)) hsb
end Mi
namespace Mi
open PySem
section
variable {prog:Program}{w:World}{A:Around}{E:Value->Shared->Prop}{s:Shared}
end
end Mi
namespace Mi
open PySem L2
open PyProof.Rows hiding St
open PySem.AutoSeq1 (wpAny_loadPart')
section
variable {prog:Program}{w:World}{A:Around}{E:Value->Shared->Prop}{s:Shared}
theorem oU {it l:Addr}{i:Nat}{items}{x:Value}{Q:Value->Shared->Prop} (hit:s.heap.IsTupleIter it l i)
  (hl:s.heap.IsTuple l items) (hx:items[i]?=some x)
  (hQ:∀ h',h'.IsTupleIter it l (i+1)->Heap.SameBut it s.heap h'->Q x { s with heap:=h' }) :
  wpAny (model prog w) A (Builtin.SmallTypes.nextOf (.ref it)) Q E s:=by
 obtain ⟨o,ho,hc,hd⟩:=id hit;obtain ⟨ol,hol,_,nl,hdl⟩:=hl;unfold Builtin.SmallTypes.nextOf;refine wpAny_bind (wpAny_callSpecial?_slot (name:=Str.ofString "__next__") hit.typeIs F.slot_tuple_iterator_next
  (wpAny_call_entry F.slot_tuple_iterator_next hit.typeIs F.entry_tuple_iterator_next ?_ (F.args_tuple_iterator_next_1 _)))
 show wpAny _ _ (field (.ref it) 0 >>= _) _ _ s
 refine wpAny_bind (wpAny_field ho hd (x:=.ref l) rfl ?_);show wpAny _ _ (if (Value.ref l == Value.none)=true then _ else _) _ _ s
 rw [if_neg (show ¬ ((Value.ref l == Value.none)=true) from Bool.false_ne_true)];show wpAny _ _ (field (.ref it) 1 >>= _) _ _ s
 refine wpAny_bind (wpAny_field ho hd (x:=.int i 0) rfl ?_);show wpAny _ _ (seqItems? (.ref l) >>= _) _ _ s
 refine wpAny_bind (wpAny_seqItems hol hdl ?_);simp only [Int.toNat_natCast,hx];refine wpAny_bind (wpAny_setField ho hd (by simp) (wpAny_pure ⟨x,rfl,wpAny_pure (hQ _ ?_ (Heap.SameBut.update ..))⟩));exact ⟨_,Heap.get?_update_self _ ho (Obj.isFreed_of_fields (Obj.data_mapFields hd _)),(Obj.cls_mapFields ..).trans hc,by
  rw [Obj.data_mapFields hd];simp [rawInt]⟩
theorem xX {it l:Addr}{i:Nat}{items}{Q:Value->Shared->Prop} (hh:A.handled=none)
  (hit:s.heap.IsTupleIter it l i) (hl:s.heap.IsTuple l items) (hx:items[i]?=none)
  (hE:∀ h' e,Heap.ExtBut it s.heap h' -> (∃ o,h'.get? e=some o /\ o.cls=.type "StopIteration") -> E (.ref e) { s with heap:=h' }) :
  wpAny (model prog w) A (Builtin.SmallTypes.nextOf (.ref it)) Q E s:=by
 obtain ⟨o,ho,hc,hd⟩:=id hit;obtain ⟨ol,hol,_,nl,hdl⟩:=hl;unfold Builtin.SmallTypes.nextOf;refine wpAny_bind (wpAny_callSpecial?_slot (name:=Str.ofString "__next__") hit.typeIs F.slot_tuple_iterator_next
  (wpAny_call_entry F.slot_tuple_iterator_next hit.typeIs F.entry_tuple_iterator_next ?_ (F.args_tuple_iterator_next_1 _)))
 show wpAny _ _ (field (.ref it) 0 >>= _) _ _ s
 refine wpAny_bind (wpAny_field ho hd (x:=.ref l) rfl ?_);show wpAny _ _ (if (Value.ref l == Value.none)=true then _ else _) _ _ s
 rw [if_neg (show ¬ ((Value.ref l == Value.none)=true) from Bool.false_ne_true)];show wpAny _ _ (field (.ref it) 1 >>= _) _ _ s
 refine wpAny_bind (wpAny_field ho hd (x:=.int i 0) rfl ?_);show wpAny _ _ (seqItems? (.ref l) >>= _) _ _ s
 refine wpAny_bind (wpAny_seqItems hol hdl ?_);simp only [Int.toNat_natCast,hx];refine wpAny_bind (wpAny_rule (wpAny_bind (wpAny_setField ho hd (by simp) ?_)));show wpAny _ _ (newExc (.type "StopIteration") [] >>= _) _ _ _
 refine wpAny_bind ?_;simp only [newExc,newTuple];refine wpAny_bind (wpAny_newObj_type ?_ (by size_fits));refine wpAny_bind (m:=firstArgMember _ _) (wpAny_of_eq (a:=Value.none) (by first | rfl | (simp only [firstArgMember];rfl)) ?_);refine wpAny_newObj_type ?_ (by size_fits);simp only [raiseNew];refine wpAny_bind (wpAny_handled ?_)
 first | rw [show A.in1.handled=none from hh] | rw [hh]
 refine wpAny_bind (wpAny_pure (wpAny_throw ?_));exact hE _ _ (((Heap.SameBut.update ..).extBut.push _).push _) ⟨_,Heap.get?_push_size _ rfl,rfl⟩
theorem QT {prog:Program}{w:World}{A:Around} (hh:A.handled=none) (it l:Addr) (hne:l≠it) (items:Array Value) :
  Draws prog w A it [it,l] items.size (fun i v=>items[i]?=some v) (fun i h=>h.IsTupleIter it l i/\h.IsTuple l items) where
 live:=fun _ _ st=>let ⟨o,ho,_⟩:=st.1;⟨o,ho⟩
 frame:=fun _ _ _ st hk=>⟨let ⟨o,e,r⟩:=st.1;⟨o,hk it (by simp) o e,r⟩,let ⟨o,e,r⟩:=st.2;⟨o,hk l (by simp) o e,r⟩⟩
 item:=fun i s Q E hi st hQ=>by
  refine oU st.1 st.2 (x:=items[i]) (by simp [hi]) fun h' hit' hs'=>?_
  exact hQ _ h' s.toks (by simp [hi]) ⟨hit',st.2.extBut hs'.extBut hne⟩ hs'
 done:=fun s Q E st hE=>xX hh st.1 st.2 (by simp) hE
end
theorem RV (l:Addr) (items:Array Value) (n:Nat) (dct:Option Addr) (sl:Array (Option Value)) :
  Meets (Builtin.«enumerate.__new__» ⟨[.type "enumerate",.ref l],[]⟩) (fun _ R s=>s.heap.get? l=some { cls:=.type "tuple",dict:=dct,data:=.seq items n,slots:=sl } /\
   R (.ok (.ret (.ref (s.heap.push { cls:=.type "tuple_iterator",data:=.fields #[.ref l,.int 0 0] }).objs.size)))
    { s with heap:=(s.heap.push { cls:=.type "tuple_iterator",data:=.fields #[.ref l,.int 0 0] }).push { cls:=.type "enumerate",data:=.fields #[.none,.bool false,.ref s.heap.objs.size,rawInt 0,.none,.none] } }) :=
 .of_wp fun prog w A R s h=>by
  obtain ⟨hp,g,d,tk,os⟩:=s;obtain ⟨hl,h⟩:=h;have hsub:=sub_enumerate;have hL:Heap.IsTuple (Shared.heap ⟨hp,g,d,tk,os⟩) l items:=⟨_,hl,rfl,n,rfl⟩
  wp_walk using wpAny_loadPart' hl
  refine wpAny_stack_any fun st=>wpAny_pure ?_
  split
  .rename_i c _ _ _ _ _;cases (c == Value.type "enumerate")
   .wp_walk using wpAny_loadPart' hl,wpAny_pyIter_tuple hL
    exact ⟨_,rfl,h⟩
   .wp_walk using wpAny_loadPart' hl,wpAny_pyIter_tuple hL
    exact ⟨_,rfl,h⟩
  .wp_walk using wpAny_loadPart' hl,wpAny_pyIter_tuple hL
   exact ⟨_,rfl,h⟩
section
variable {prog:Program}{w:World}{A:Around}{E:Value->Shared->Prop}{s:Shared}
theorem PJ {l:Addr}{items:Array Value}{Q:Value->Shared->Prop} (hL:s.heap.IsTuple l items)
  (h:∀ h',IsEnum h' (s.heap.objs.size+1) s.heap.objs.size 0 .none->h'.IsTupleIter s.heap.objs.size l 0->h'.objs.size=s.heap.objs.size+2 ->
   (∀ b o,s.heap.get? b=some o->h'.get? b=some o)->Q (.ref (s.heap.objs.size+1)) { s with heap:=h' }) :
  wpAny (model prog w) A (call (.type "enumerate") [.ref l]) Q E s:=by
 obtain ⟨⟨c,dct,dt,sl⟩,hl,hc,n,hd⟩:=hL;replace hc:c=.type "tuple":=hc
 replace hd:dt=.seq items n:=hd;subst hc hd;refine callType_new F.called_enumerate (by decide) (F.typeCall_enumerate_1 _) (F.newCall_enumerate_1 _) (fun obj=>F.args_object_init_2 obj _) F.entry_enumerate_new
  (RV l items n dct sl) ⟨hl,?_⟩
 have hz:(s.heap.push { cls:=.type "tuple_iterator",data:=.fields #[.ref l,.int 0 0] }).objs.size=s.heap.objs.size+1:=Heap.size_push ..
 show _/\_
 rw [hz];have he:IsEnum ((s.heap.push { cls:=.type "tuple_iterator",data:=.fields #[.ref l,.int 0 0] }).push
   { cls:=.type "enumerate",data:=.fields #[.none,.bool false,.ref s.heap.objs.size,rawInt 0,.none,.none] }) (s.heap.objs.size+1) s.heap.objs.size 0 .none:=by
  have:=Heap.get?_push_size (s.heap.push { cls:=.type "tuple_iterator",data:=.fields #[.ref l,.int 0 0] })
   (o:={ cls:=.type "enumerate",data:=.fields #[.none,.bool false,.ref s.heap.objs.size,rawInt 0,.none,.none] }) rfl
  rw [hz] at this;exact this
 refine ⟨⟨_,he,rfl⟩,h _ he ⟨_,Heap.get?_push_of_some _ (Heap.get?_push_size _ rfl),rfl,rfl⟩ (by rw [Heap.size_push,hz]) fun b o x=>Heap.get?_push_of_some _ (Heap.get?_push_of_some _ x)⟩
end
theorem Gk:bootBuiltins "enumerate"=some (.type "enumerate"):=by decide +kernel
def Qa (K:PySem.W.Frag) (a:Addr):It :=
 ⟨fun i H=>∃ xs x,SqT K H a xs/\xs[i]?=some x,
  fun i H x H'=>∃ p y,H p=none/\x=.ref p/\H'=upd H p (.tup [.int i,y])/\∀ xs,SqT K H a xs->xs[i]?=some y,
  fun i H=>∃ xs,SqT K H a xs/\xs.length=i⟩
theorem Qe {P:Program}{w:World}{K:PySem.W.Frag}{els:List Expr}{x1:Nat}{tpos:Pos} (a e it:Addr) (hei:e≠it):Turn P w K (.Tuple els x1 tpos) (Qa K a) [e,it] e (fun i h=>(∃ old,IsEnum h e it i old)/\h.IsTupleIter it a i) where
 mem:=by simp
 obj:=fun i h st b hb=>by
  obtain ⟨⟨old,he⟩,o,e1,c,d⟩:=st;rcases List.mem_cons.mp hb with z | z
  .subst z;exact ⟨_,he,fun v q=>by cases q⟩
  .have z':=List.mem_singleton.mp z;subst z';exact ⟨o,e1,fun v q=>by rw [d] at q;cases q⟩
 keep:=fun i h h' st k=>by
  obtain ⟨⟨old,he⟩,o,e1,c,d⟩:=st;exact ⟨⟨old,k e (by simp) _ he⟩,o,k it (by simp) _ e1,c,d⟩
 item:=by
  intro X hP hw hK hc i pins s σ H E I hf st hg;subst hP hw hK;obtain ⟨xs,x,hq,hx⟩:=hg;obtain ⟨its,rv,p,hz⟩:=I.tuple hq;have p':s.heap.IsTuple a its.toArray:=p;obtain ⟨u,hu,ru⟩:=rv.get hx;obtain ⟨⟨old,he⟩,hb⟩:=st;obtain ⟨o1,q1,c1,d1⟩:=id hb;obtain ⟨o2,q2,c2,n2,d2⟩:=id p';have hai:a≠it:=fun z=>by
   subst z;rw [q1] at q2;cases q2;rw [c1] at c2;exact absurd c2 (by simp)
  have hea:e≠a:=fun z=>by
   subst z;have he':s.heap.get? e=some _:=he;rw [q2] at he';have z2:=congrArg Obj.cls (Option.some.inj he');rw [c2] at z2;exact absurd z2 (by simp)
  have hil:i < its.toArray.size:=by
   have h1:=(List.getElem?_eq_some_iff.mp hu).1;simpa using h1
  have D:=QT (prog:=X.prog) (w:=X.w) (A:=X.A.in1) (I.ok.hd hc) it a hai its.toArray;refine wpAny_pyNext_enum_itemD D he ⟨hb,p'⟩ hil hei (by simp [hei,hea]) fun x' h' tk hPx hout hst' hT hsz hk=>?_
  have ex:x'=u:=by
   have z:its.toArray[i]?=some u:=by simpa using hu
   have hPx':its.toArray[i]?=some x':=hPx;rw [z] at hPx';exact (Option.some.inj hPx').symm
  subst ex;refine ⟨.ref s.heap.objs.size,rfl,wpAny_letOwnedTupleGo_enum (s:={ s with heap:=h',toks:=tk+1 }) hout fun h2 hEn hSame=>?_⟩;have hSame':Heap.SameBut e h' h2:=hSame;have elt:e < s.heap.objs.size:=Heap.lt_size he;have ilt:it < s.heap.objs.size:=Heap.lt_size q1;have kp:∀ b o,b≠e->b≠it->s.heap.get? b=some o->h2.get? b=some o:=fun b o n1 n2 q=>hSame'.extBut b o n1 (hk b o n1 n2 q)
  obtain ⟨fe0,fe1,fe2,fe3,fe4,fe5⟩:=hf e (by simp);obtain ⟨fi0,fi1,fi2,fi3,fi4,fi5⟩:=hf it (by simp);have hTn:H s.heap.objs.size=none:=I.hok.fresh (Nat.le_refl _);have nT:∀ b o,s.heap.get? b=some o->b≠s.heap.objs.size:=fun b o q=>Nat.ne_of_lt (Heap.lt_size q)
  have hTo:h2.get? s.heap.objs.size=some { cls:=.type "tuple",data:=.seq #[.int i tk,x'] }:=hSame'.extBut _ _ (Nat.ne_of_gt elt) hT
  have nch:∀ b,b ∉ ([e,it]:List Addr)->b≠e/\b≠it:=fun b hb=>by simp at hb;exact hb
  have I2:Inv X pins σ (upd H s.heap.objs.size (.tup [.int i,x])) { s with heap:=h2,toks:=tk+1 }:=by
   refine I.step (g':=s.gens) (d':=s.drawn) (ch:=[e,it]) (fun b hb=>?_) (fun b o _ _ hc q _=>kp b o (nch b hc).1 (nch b hc).2 q) (fun b o _ _ hc q _=>⟨o.slots,kp b o (nch b hc).1 (nch b hc).2 q⟩) (fun b o _ q n=>by rw [ak (nT b o q)];exact n)
    (fun b o hc q=>⟨o,kp b o (nch b hc).1 (nch b hc).2 q⟩) (fun b ys q=>by rw [ak (aB q hTn)];exact q) (fun b o u q=>by rw [ak (aB q hTn)];exact q) (fun b ps q=>⟨#[],by rw [ak (aB q hTn),q];simp⟩) (fun m hm=>?_) (fun b u q=>?_) I.bare
   .rcases List.mem_cons.mp hb with z | z
    .subst z;exact ⟨fe3,fe1,fe4,fe5⟩
    .have z':=List.mem_singleton.mp z;subst z';exact ⟨fi3,fi1,fi4,fi5⟩
   .obtain ⟨o,es,ep,ho,r⟩:=hm;exact ⟨o,es,ep,kp _ o (Ne.symm fe1) (Ne.symm fi1) ho,r⟩
   .by_cases hbT:b=s.heap.objs.size
    .subst hbT;rw [aD] at q;cases q;exact ⟨by show 2<=sizeLine;decide,[.int i tk,x'],.cons ⟨tk,rfl⟩ (.cons ru .nil),⟨_,hTo,rfl,_,rfl⟩⟩
    .rw [ak hbT] at q;have nb:∀ c v,H c=some v->c≠e/\c≠it:=fun c v z=>⟨aB z fe0,aB z fi0⟩
     refine (I.hok b u q).stay (fun c v hc r=>?_) (fun c r=>by rw [ak (aB r hTn)];exact r) (fun c ys r=>by rw [ak (aB r hTn)];exact r) (fun c _ r _=>by rw [ak (aB r hTn)];exact r);have nc:c≠e/\c≠it:=by
      rcases hc with z | z
      .rw [z];exact nb b u q
      .exact nb c _ z
     exact kp c v nc.1 nc.2 r
  refine ⟨.ref s.heap.objs.size,_,I2,rfl,⟨s.heap.objs.size,x,hTn,rfl,rfl,fun ys hy=>by rw [I.tuple_inj hy hq];exact hx⟩,⟨⟨x',by simpa using hEn⟩,?_⟩,fun b hb=>?_⟩
  .exact hst'.1.extBut hSame'.extBut (Ne.symm hei)
  .rcases List.mem_cons.mp hb with z | z
   .subst z;rw [ak (Nat.ne_of_lt elt)];exact fe0
   .have z':=List.mem_singleton.mp z;subst z';rw [ak (Nat.ne_of_lt ilt)];exact fi0
 done:=by
  intro X hP hw hK hc i pins s σ H E I hf st hg;subst hP hw hK;obtain ⟨xs,hq,hx⟩:=hg;obtain ⟨its,rv,p,hz⟩:=I.tuple hq;have p':s.heap.IsTuple a its.toArray:=p;obtain ⟨⟨old,he⟩,hb⟩:=st;obtain ⟨o1,q1,c1,d1⟩:=id hb;obtain ⟨o2,q2,c2,n2,d2⟩:=id p';have hai:a≠it:=fun z=>by
   subst z;rw [q1] at q2;cases q2;rw [c1] at c2;exact absurd c2 (by simp)
  obtain ⟨fi0,fi1,fi2,fi3,fi4,fi5⟩:=hf it (by simp);have D:=QT (prog:=X.prog) (w:=X.w) (A:=X.A.in1) (I.ok.hd hc) it a hai its.toArray;have hl:=rv.length;have en:i=its.toArray.size:=by simp;omega
  subst en;exact wpAny_pyNext_enum_endD D he ⟨hb,p'⟩ fun h' eb=>⟨rfl,I.turned (t':=s.toks) (fun b o hb e=>eb b o hb e) fi0 fi1 fi3 fi4 fi5⟩
 self:=fun _ _ _ _ _ st h=>by
  obtain ⟨⟨old,he⟩,_⟩:=st;exact wpAny_pyIter_enum he h
section
variable {X:Cx}
def abd (K:PySem.W.Frag) (ta:TA):TI:=fun σ H R=>ta σ H fun vs H1=>∃ a xs,vs=[.ref a]/\SqT K H1 a xs/\R (Qa K a) H1
theorem VD {pins:List (Addr × Obj)}{σ:St}{H:Hp}{s:Shared}{R:It->Hp->Prop}{els:List Expr}{x1:Nat}{tpos:Pos}{a:Addr}{xs:List V}{E:Value->Shared->Prop} (I:Inv X pins σ H s) (hq:SqT X.K H a xs) (q:R (Qa X.K a) H) :
  wpAny (model X.prog X.w) X.A (call (.type "enumerate") [.ref a]) (fun v s1=>wpAny (model X.prog X.w) X.A (pyIter v) (PIE X pins σ (.Tuple els x1 tpos) R) E s1) E s:=by
 obtain ⟨its,rv,p,hz⟩:=I.tuple hq;have p':s.heap.IsTuple a its.toArray:=p;refine PJ p' fun h' he hit hsz hk=>?_
 refine wpAny_pyIter_enum (s:={ s with heap:=h' }) he ?_;have I1:Inv X pins σ H { s with heap:=h' }:=I.kept (t':=s.toks) hk;refine ⟨s.heap.objs.size+1,[s.heap.objs.size+1,s.heap.objs.size],_,_,H,rfl,I1,Qe a (s.heap.objs.size+1) s.heap.objs.size (by exact Nat.succ_ne_self _),⟨⟨_,he⟩,hit⟩,fun b hb=>?_,q⟩;rcases List.mem_cons.mp hb with z | z
 .subst z;exact I.fpOk (Nat.le_succ _) (I.hok.fresh (Nat.le_succ _))
 .have z':=List.mem_singleton.mp z;subst z';exact I.fpOk (Nat.le_refl _) (I.hok.fresh (Nat.le_refl _))
theorem T4 {a:Expr}{ta:TA}{p pos tpos:Pos}{els:List Expr}{x1:Nat} (hg:Gl X "enumerate") (hm:X.mg "enumerate"=none) (ha:PA X [a] ta) (hs:starEach [a] X.env=[(false,eval a X.env)]:=by rfl) :
  PI X (.Tuple els x1 tpos) (.Call (.Name "enumerate" p) [a] [] pos) (abd X.K ta):=by
 intro pins s σ H R I h;refine Call_ (lE I hg hm Gk (PyProof.Rows.callWith_type1 (thn (ha pos pins s σ H _ I h) fun us s1 ⟨vs,H1,I1,r1,q1⟩=>?_) hs rfl));obtain ⟨b,xs,rfl,hq,q⟩:=q1;obtain ⟨u,rfl,ru⟩:=vals1 r1;cases ru;exact VD I1 hq q
end
def P0 (K:PySem.W.Frag) (a:Addr):It :=
 ⟨fun i H=>∃ xs x,SqL K H a xs/\xs[i]?=some x,
  fun i H x H'=>∃ p y,H p=none/\x=.ref p/\H'=upd H p (.tup [.int i,y])/\∀ xs,SqL K H a xs->xs[i]?=some y,
  fun i H=>∃ xs,SqL K H a xs/\xs.length=i⟩
theorem Oo {P:Program}{w:World}{K:PySem.W.Frag}{els:List Expr}{x1:Nat}{tpos:Pos} (a e it:Addr) (hei:e≠it):Turn P w K (.Tuple els x1 tpos) (P0 K a) [e,it] e (fun i h=>(∃ old,IsEnum h e it i old)/\h.IsListIter it a i) where
 mem:=by simp
 obj:=fun i h st b hb=>by
  obtain ⟨⟨old,he⟩,o,e1,c,d⟩:=st;rcases List.mem_cons.mp hb with z | z
  .subst z;exact ⟨_,he,fun v q=>by cases q⟩
  .have z':=List.mem_singleton.mp z;subst z';exact ⟨o,e1,fun v q=>by rw [d] at q;cases q⟩
 keep:=fun i h h' st k=>by
  obtain ⟨⟨old,he⟩,o,e1,c,d⟩:=st;exact ⟨⟨old,k e (by simp) _ he⟩,o,k it (by simp) _ e1,c,d⟩
 item:=by
  intro X hP hw hK hc i pins s σ H E I hf st hg;subst hP hw hK;obtain ⟨xs,x,hq,hx⟩:=hg;obtain ⟨its,rv,p,hz⟩:=I.list hq;have p':s.heap.IsList a its.toArray:=p.isList;obtain ⟨u,hu,ru⟩:=rv.get hx;obtain ⟨⟨old,he⟩,hb⟩:=st;obtain ⟨o1,q1,c1,d1⟩:=id hb;obtain ⟨o2,q2,c2,n2,d2⟩:=id p';have hai:a≠it:=fun z=>by
   subst z;rw [q1] at q2;cases q2;rw [c1] at c2;exact absurd c2 (by simp)
  have hea:e≠a:=fun z=>by
   subst z;have he':s.heap.get? e=some _:=he;rw [q2] at he';have z2:=congrArg Obj.cls (Option.some.inj he');rw [c2] at z2;exact absurd z2 (by simp)
  have hil:i < its.toArray.size:=by
   have h1:=(List.getElem?_eq_some_iff.mp hu).1;simpa using h1
  have D:=PySem.Draws.list (prog:=X.prog) (w:=X.w) (A:=X.A.in1) (I.ok.hd hc) it a hai its.toArray;refine wpAny_pyNext_enum_itemD D he ⟨hb,p'⟩ hil hei (by simp [hei,hea]) fun x' h' tk hPx hout hst' hT hsz hk=>?_
  have ex:x'=u:=by
   have z:its.toArray[i]?=some u:=by simpa using hu
   have hPx':its.toArray[i]?=some x':=hPx;rw [z] at hPx';exact (Option.some.inj hPx').symm
  subst ex;refine ⟨.ref s.heap.objs.size,rfl,wpAny_letOwnedTupleGo_enum (s:={ s with heap:=h',toks:=tk+1 }) hout fun h2 hEn hSame=>?_⟩;have hSame':Heap.SameBut e h' h2:=hSame;have elt:e < s.heap.objs.size:=Heap.lt_size he;have ilt:it < s.heap.objs.size:=Heap.lt_size q1;have kp:∀ b o,b≠e->b≠it->s.heap.get? b=some o->h2.get? b=some o:=fun b o n1 n2 q=>hSame'.extBut b o n1 (hk b o n1 n2 q)
  obtain ⟨fe0,fe1,fe2,fe3,fe4,fe5⟩:=hf e (by simp);obtain ⟨fi0,fi1,fi2,fi3,fi4,fi5⟩:=hf it (by simp);have hTn:H s.heap.objs.size=none:=I.hok.fresh (Nat.le_refl _);have nT:∀ b o,s.heap.get? b=some o->b≠s.heap.objs.size:=fun b o q=>Nat.ne_of_lt (Heap.lt_size q)
  have hTo:h2.get? s.heap.objs.size=some { cls:=.type "tuple",data:=.seq #[.int i tk,x'] }:=hSame'.extBut _ _ (Nat.ne_of_gt elt) hT
  have nch:∀ b,b ∉ ([e,it]:List Addr)->b≠e/\b≠it:=fun b hb=>by simp at hb;exact hb
  have I2:Inv X pins σ (upd H s.heap.objs.size (.tup [.int i,x])) { s with heap:=h2,toks:=tk+1 }:=by
   refine I.step (g':=s.gens) (d':=s.drawn) (ch:=[e,it]) (fun b hb=>?_) (fun b o _ _ hc q _=>kp b o (nch b hc).1 (nch b hc).2 q) (fun b o _ _ hc q _=>⟨o.slots,kp b o (nch b hc).1 (nch b hc).2 q⟩) (fun b o _ q n=>by rw [ak (nT b o q)];exact n)
    (fun b o hc q=>⟨o,kp b o (nch b hc).1 (nch b hc).2 q⟩) (fun b ys q=>by rw [ak (aB q hTn)];exact q) (fun b o u q=>by rw [ak (aB q hTn)];exact q) (fun b ps q=>⟨#[],by rw [ak (aB q hTn),q];simp⟩) (fun m hm=>?_) (fun b u q=>?_) I.bare
   .rcases List.mem_cons.mp hb with z | z
    .subst z;exact ⟨fe3,fe1,fe4,fe5⟩
    .have z':=List.mem_singleton.mp z;subst z';exact ⟨fi3,fi1,fi4,fi5⟩
   .obtain ⟨o,es,ep,ho,r⟩:=hm;exact ⟨o,es,ep,kp _ o (Ne.symm fe1) (Ne.symm fi1) ho,r⟩
   .by_cases hbT:b=s.heap.objs.size
    .subst hbT;rw [aD] at q;cases q;exact ⟨by show 2<=sizeLine;decide,[.int i tk,x'],.cons ⟨tk,rfl⟩ (.cons ru .nil),⟨_,hTo,rfl,_,rfl⟩⟩
    .rw [ak hbT] at q;have nb:∀ c v,H c=some v->c≠e/\c≠it:=fun c v z=>⟨aB z fe0,aB z fi0⟩
     refine (I.hok b u q).stay (fun c v hc r=>?_) (fun c r=>by rw [ak (aB r hTn)];exact r) (fun c ys r=>by rw [ak (aB r hTn)];exact r) (fun c _ r _=>by rw [ak (aB r hTn)];exact r);have nc:c≠e/\c≠it:=by
      rcases hc with z | z
      .rw [z];exact nb b u q
      .exact nb c _ z
     exact kp c v nc.1 nc.2 r
  refine ⟨.ref s.heap.objs.size,_,I2,rfl,⟨s.heap.objs.size,x,hTn,rfl,rfl,fun ys hy=>by rw [I.list_inj hy hq];exact hx⟩,⟨⟨x',by simpa using hEn⟩,?_⟩,fun b hb=>?_⟩
  .exact hst'.1.extBut hSame'.extBut (Ne.symm hei)
  .rcases List.mem_cons.mp hb with z | z
   .subst z;rw [ak (Nat.ne_of_lt elt)];exact fe0
   .have z':=List.mem_singleton.mp z;subst z';rw [ak (Nat.ne_of_lt ilt)];exact fi0
 done:=by
  intro X hP hw hK hc i pins s σ H E I hf st hg;subst hP hw hK;obtain ⟨xs,hq,hx⟩:=hg;obtain ⟨its,rv,p,hz⟩:=I.list hq;have p':s.heap.IsList a its.toArray:=p.isList;obtain ⟨⟨old,he⟩,hb⟩:=st;obtain ⟨o1,q1,c1,d1⟩:=id hb;obtain ⟨o2,q2,c2,n2,d2⟩:=id p';have hai:a≠it:=fun z=>by
   subst z;rw [q1] at q2;cases q2;rw [c1] at c2;exact absurd c2 (by simp)
  obtain ⟨fi0,fi1,fi2,fi3,fi4,fi5⟩:=hf it (by simp);have D:=PySem.Draws.list (prog:=X.prog) (w:=X.w) (A:=X.A.in1) (I.ok.hd hc) it a hai its.toArray;have hl:=rv.length;have en:i=its.toArray.size:=by simp;omega
  subst en;exact wpAny_pyNext_enum_endD D he ⟨hb,p'⟩ fun h' eb=>⟨rfl,I.turned (t':=s.toks) (fun b o hb e=>eb b o hb e) fi0 fi1 fi3 fi4 fi5⟩
 self:=fun _ _ _ _ _ st h=>by
  obtain ⟨⟨old,he⟩,_⟩:=st;exact wpAny_pyIter_enum he h
section
variable {X:Cx}
def aai (K:PySem.W.Frag) (ta:TA):TI:=fun σ H R=>ta σ H fun vs H1=>∃ a xs,vs=[.ref a]/\SqL K H1 a xs/\R (P0 K a) H1
theorem Wi {pins:List (Addr × Obj)}{σ:St}{H:Hp}{s:Shared}{R:It->Hp->Prop}{els:List Expr}{x1:Nat}{tpos:Pos}{a:Addr}{xs:List V}{E:Value->Shared->Prop} (I:Inv X pins σ H s) (hq:SqL X.K H a xs) (q:R (P0 X.K a) H) :
  wpAny (model X.prog X.w) X.A (call (.type "enumerate") [.ref a]) (fun v s1=>wpAny (model X.prog X.w) X.A (pyIter v) (PIE X pins σ (.Tuple els x1 tpos) R) E s1) E s:=by
 obtain ⟨its,rv,p,hz⟩:=I.list hq;have p':s.heap.IsList a its.toArray:=p.isList;refine call_enumerate_list p' fun h' he hit hsz hk=>?_
 refine wpAny_pyIter_enum (s:={ s with heap:=h' }) he ?_;have I1:Inv X pins σ H { s with heap:=h' }:=I.kept (t':=s.toks) hk;refine ⟨s.heap.objs.size+1,[s.heap.objs.size+1,s.heap.objs.size],_,_,H,rfl,I1,Oo a (s.heap.objs.size+1) s.heap.objs.size (by exact Nat.succ_ne_self _),⟨⟨_,he⟩,hit⟩,fun b hb=>?_,q⟩;rcases List.mem_cons.mp hb with z | z
 .subst z;exact I.fpOk (Nat.le_succ _) (I.hok.fresh (Nat.le_succ _))
 .have z':=List.mem_singleton.mp z;subst z';exact I.fpOk (Nat.le_refl _) (I.hok.fresh (Nat.le_refl _))
theorem Um {a:Expr}{ta:TA}{p pos tpos:Pos}{els:List Expr}{x1:Nat} (hg:Gl X "enumerate") (hm:X.mg "enumerate"=none) (ha:PA X [a] ta) (hs:starEach [a] X.env=[(false,eval a X.env)]:=by rfl) :
  PI X (.Tuple els x1 tpos) (.Call (.Name "enumerate" p) [a] [] pos) (aai X.K ta):=by
 intro pins s σ H R I h;refine Call_ (lE I hg hm Gk (PyProof.Rows.callWith_type1 (thn (ha pos pins s σ H _ I h) fun us s1 ⟨vs,H1,I1,r1,q1⟩=>?_) hs rfl));obtain ⟨b,xs,rfl,hq,q⟩:=q1;obtain ⟨u,rfl,ru⟩:=vals1 r1;cases ru;exact Wi I1 hq q
end
end Mi
namespace Mi
open PySem L2
open PyProof.Rows hiding St
section
variable {prog:Program}{w:World}{A:Around}{E:Value->Shared->Prop}{s:Shared}
end
end Mi
namespace Mi
open PySem L2
open PyProof.Rows hiding St
section
variable {X:Cx}{pins:List (Addr × Obj)}{σ:St}{H:Hp}{s:Shared}
theorem Ue {K:PySem.W.Frag}{H H':Hp}{a:Addr}{xs:List V} (h:SqT K H a xs) (k:∀ o,(∀ ys,o≠.lst ys)->H a=some o->H' a=some o):SqT K H' a xs:=by
 rcases h with (h | ⟨o,h⟩) | h
 .exact .inl (.inl (k _ (by intro ys z;cases z) h))
 .exact .inl (.inr ⟨o,k _ (by intro ys z;cases z) h⟩)
 .exact .inr h
end
end Mi
namespace Mi
open PySem PySem.W PyProof.Rows
variable {r:Nat->Int}{N:Nat}
end Mi
namespace Mi
open PySem L2
open PyProof.Rows hiding St
mutual
def WW:D->D->Bool
 | .int _,.int _=>true
 | .tup a,.tup b=>RJ a b
 | _,_=>false
def RJ:List D->List D->Bool
 | a::as,b::bs=>if a=b then RJ as bs else WW a b
 | [],_=>true
 | _::_,[]=>true
end
section
open PySem.SeqAt
open PySem.AutoSeq1 (wpAny_loadPart')
open PySem.MeetsSeq PySem.MeetsSeq2 PySem.MeetsSeq3
end
end Mi
namespace Mi
open PySem
def ZM (d:D):List D->List D
 | []=>[d]
 | e::es=>if ltD e d=true then e::ZM d es else d::e::es
def Ww:List D->List D
 | []=>[]
 | d::ds=>ZM d (Ww ds)
end Mi
namespace Mi
open PySem L2 PySem.W
open PyProof.Rows hiding St
def isInt:D->Bool
 | .int _=>true
 | _=>false
noncomputable def YL:D->Bool
 | .tup (.int _::_)=>true
 | _=>false
noncomputable def YM:D->Bool
 | .tup (.tup _::_)=>true
 | _=>false
def abR (ds:List D):Bool :=
 decide (ds.length < 64) && dY ds && decide (deps ds<=20) && (ds.all fun a=>ds.all fun b=>WW a b) && (decide (ds.length < 2) || ds.all isInt || ds.all YL || ds.all YM)
section
variable {prog:Program}{w:World}{A:Around}{E:Value->Shared->Prop}{s:Shared}
end
end Mi
namespace Mi
open PySem L2
open PyProof.Rows hiding St
structure G where
 P:Program
 w:World
 K:PySem.W.Frag
def DAt (g:G) (a:Addr) (xs:List (D × Addr × Value)) (ys:List V) (h:Heap):Prop :=
 (a == sysModules)=false/\xs.length<=sizeLine/\Vals ys (xs.map (·.2.2)) /\
  ∃ o es ep,h.get? a=some o/\o.ExactDict/\o.data=.dict es ep/\es.toList=xs.map (entryOfKey (mC g.P g.w))/\(xs.map (·.1)).Nodup
noncomputable def isKey (d:D):Bool:=keyOk d && decide (dep d<=6) && (match d with | .tup _=>true | _=>false)
mutual
def Rp (g:G) (H:Hp):D->V->Prop
 | .non,v=>v=.non
 | .bl b,v=>v=.bl b
 | .int i,v=>v=.int i
 | .str x,v=>v=.str x
 | .tup ds,v=>∃ a xs,v=.ref a/\SqT g.K H a xs/\Rps g H ds xs
 | .lst ds,v=>∃ a xs,v=.ref a/\SqL g.K H a xs/\Rps g H ds xs
 | .dct ks vs,v=>∃ a xs ys,v=.ref a/\H a=some (.ext (DAt g a xs ys))/\ks=xs.map (·.1)/\(∀ k∈ks,isKey k=true)/\Rps g H ks (xs.map fun x=>V.ref x.2.1)/\Rps g H vs ys
def Rps (g:G) (H:Hp):List D->List V->Prop
 | [],xs=>xs=[]
 | d::ds,xs=>∃ y ys,xs=y::ys/\Rp g H d y/\Rps g H ds ys
end
theorem bw {K:PySem.W.Frag}{H H':Hp}{a:Addr}{xs:List V} (e:Same H H') (h:SqL K H a xs):SqL K H' a xs:=e.seq h
theorem aO {K:PySem.W.Frag}{H H':Hp}{a:Addr}{xs:List V} (e:Same H H') (h:SqT K H a xs):SqT K H' a xs:=Ue h fun o _ q=>e a o q
mutual
theorem Rp.mono {g:G}{H H':Hp}:∀ {d:D}{v:V},Same H H'->Rp g H d v->Rp g H' d v
 | .non,v,e,r=>by rw [Rp] at r ⊢;exact r
 | .bl _,v,e,r=>by rw [Rp] at r ⊢;exact r
 | .int _,v,e,r=>by rw [Rp] at r ⊢;exact r
 | .str _,v,e,r=>by rw [Rp] at r ⊢;exact r
 | .tup ds,v,e,r=>by
  rw [Rp] at r ⊢;obtain ⟨a,xs,rfl,q,rs⟩:=r;exact ⟨a,xs,rfl,aO e q,Rps.mono e rs⟩
 | .lst ds,v,e,r=>by
  rw [Rp] at r ⊢;obtain ⟨a,xs,rfl,q,rs⟩:=r;exact ⟨a,xs,rfl,bw e q,Rps.mono e rs⟩
 | .dct ks vs,v,e,r=>by
  rw [Rp] at r ⊢;obtain ⟨a,xs,ys,rfl,q,ek,hk,r1,r2⟩:=r;exact ⟨a,xs,ys,rfl,e a _ q,ek,hk,Rps.mono e r1,Rps.mono e r2⟩
theorem Rps.mono {g:G}{H H':Hp}:∀ {ds:List D}{vs:List V},Same H H'->Rps g H ds vs->Rps g H' ds vs
 | [],vs,e,r=>by rw [Rps] at r ⊢;exact r
 | d::ds,vs,e,r=>by
  rw [Rps] at r ⊢;obtain ⟨y,ys,rfl,r0,rs⟩:=r;exact ⟨y,ys,rfl,Rp.mono e r0,Rps.mono e rs⟩
end
theorem Rps.length {g:G}{H:Hp}:∀ {ds:List D}{vs:List V},Rps g H ds vs->ds.length=vs.length
 | [],vs,r=>by rw [Rps] at r;subst r;rfl
 | d::ds,vs,r=>by
  rw [Rps] at r;obtain ⟨y,ys,rfl,_,r⟩:=r;simp [Rps.length r]
theorem Rps.getD {g:G}{H:Hp}:∀ {ds:List D}{vs:List V}{i:Nat}{d:D},Rps g H ds vs->ds[i]?=some d->∃ v,vs[i]?=some v/\Rp g H d v
 | [],vs,i,d,r,h=>by simp at h
 | d0::ds,vs,i,d,r,h=>by
  rw [Rps] at r;obtain ⟨y,ys,rfl,r0,rs⟩:=r;cases i with
  | zero=>simp at h;subst h;exact ⟨y,rfl,r0⟩
  | succ i =>
   simp only [List.getElem?_cons_succ] at h;obtain ⟨v,e,q⟩:=Rps.getD rs h;exact ⟨v,by simpa using e,q⟩
theorem Rps.append {g:G}{H:Hp}:∀ {ds es:List D}{vs ws:List V},Rps g H ds vs->Rps g H es ws->Rps g H (ds++es) (vs++ws)
 | [],es,vs,ws,r,q=>by rw [Rps] at r;subst r;exact q
 | d::ds,es,vs,ws,r,q=>by
  rw [Rps] at r;obtain ⟨y,ys,rfl,r0,rs⟩:=r;rw [List.cons_append,Rps];exact ⟨y,ys++ws,rfl,r0,rs.append q⟩
theorem Rps.nil {g:G}{H:Hp}:Rps g H [] []:=by rw [Rps]
theorem Rps.cons {g:G}{H:Hp}{d:D}{v:V}{ds:List D}{vs:List V} (r:Rp g H d v) (rs:Rps g H ds vs):Rps g H (d::ds) (v::vs):=by
 rw [Rps];exact ⟨v,vs,rfl,r,rs⟩
theorem Rps.one {g:G}{H:Hp}{d:D}{v:V} (r:Rp g H d v):Rps g H [d] [v]:=Rps.cons r Rps.nil
theorem Rps.cons_inv {g:G}{H:Hp}{d:D}{ds:List D}{vs:List V} (r:Rps g H (d::ds) vs):∃ v ws,vs=v::ws/\Rp g H d v/\Rps g H ds ws:=by rw [Rps] at r;exact r
theorem Rps.nil_inv {g:G}{H:Hp}{vs:List V} (r:Rps g H [] vs):vs=[]:=by rw [Rps] at r;exact r
theorem Rps.take {g:G}{H:Hp}:∀ {ds:List D}{vs:List V} (n:Nat),Rps g H ds vs->Rps g H (ds.take n) (vs.take n)
 | [],vs,n,r=>by rw [r.nil_inv];simp [Rps]
 | d::ds,vs,0,r=>by simp [Rps]
 | d::ds,vs,n+1,r=>by
  obtain ⟨v,ws,rfl,r0,rs⟩:=r.cons_inv;exact Rps.cons r0 (Rps.take n rs)
theorem Rps.drop {g:G}{H:Hp}:∀ {ds:List D}{vs:List V} (n:Nat),Rps g H ds vs->Rps g H (ds.drop n) (vs.drop n)
 | [],vs,n,r=>by rw [r.nil_inv];simp [Rps]
 | d::ds,vs,0,r=>r
 | d::ds,vs,n+1,r=>by
  obtain ⟨v,ws,rfl,r0,rs⟩:=r.cons_inv;exact Rps.drop n rs
section
variable {X:Cx}{pins:List (Addr × Obj)}{σ:St}{H:Hp}{s:Shared}
abbrev gOf (X:Cx):G:=⟨X.prog,X.w,X.K⟩
mutual
theorem rpV (I:Inv X pins σ H s):∀ {d:D}{v:V}{u:Value},dep d < 1000->Rp (gOf X) H d v->RelV v u->RpV s.heap d u
 | .non,v,u,hd,r,q=>by rw [Rp] at r;subst r;rw [RpV];exact q
 | .bl _,v,u,hd,r,q=>by rw [Rp] at r;subst r;rw [RpV];exact q
 | .int _,v,u,hd,r,q=>by rw [Rp] at r;subst r;rw [RpV];exact q
 | .str _,v,u,hd,r,q=>by rw [Rp] at r;subst r;rw [RpV];exact q
 | .tup ds,v,u,hd,r,q=>by
  rw [Rp] at r;obtain ⟨a,xs,rfl,sq,rs⟩:=r;cases q;obtain ⟨its,rv,p,hz⟩:=I.tuple sq;rw [RpV];rw [dep] at hd;exact ⟨a,its,rfl,p,Av I (by omega) rs rv⟩
 | .lst ds,v,u,hd,r,q=>by
  rw [Rp] at r;obtain ⟨a,xs,rfl,sq,rs⟩:=r;cases q;obtain ⟨its,rv,p,hz⟩:=I.list sq;rw [RpV];rw [dep] at hd;exact ⟨a,its,rfl,p.isList,Av I (by omega) rs rv⟩
 | .dct _ _,v,u,hd,r,q=>by rw [dep] at hd;omega
theorem Av (I:Inv X pins σ H s):∀ {ds:List D}{vs:List V}{us:List Value},deps ds < 1000->Rps (gOf X) H ds vs->Vals vs us->aP s.heap ds us
 | [],vs,us,hd,r,q=>by rw [r.nil_inv] at q;cases q;rw [aP]
 | d::ds,vs,us,hd,r,q=>by
  obtain ⟨v,ws,rfl,r0,rs⟩:=r.cons_inv;rw [deps] at hd;cases q with
  | cons q0 qs =>
   rw [aP];exact ⟨_,_,rfl,rpV I (by omega) r0 q0,Av I (by omega) rs qs⟩
end
end
structure Grow (H Hs H' Hs':Hp):Prop where
 keep:∀ a o,H a=some o->H' a=some o
 old:∀ a o,H a=some o->Hs' a=Hs a
 sub:Same Hs' H'
theorem Grow.refl {H Hs:Hp} (h:Same Hs H):Grow H Hs H Hs:=⟨fun _ _ q=>q,fun _ _ _=>rfl,h⟩
theorem Grow.trans {H Hs H1 Hs1 H2 Hs2:Hp} (a:Grow H Hs H1 Hs1) (b:Grow H1 Hs1 H2 Hs2):Grow H Hs H2 Hs2 :=
 ⟨fun c o q=>b.keep c o (a.keep c o q),fun c o q=>(b.old c o (a.keep c o q)).trans (a.old c o q),b.sub⟩
theorem Grow.same {H Hs H' Hs':Hp} (g:Grow H Hs H' Hs') (h:Same Hs H):Same Hs Hs':=fun a o q=>by rw [g.old a o (h a o q)];exact q
theorem Grow.new {H Hs:Hp}{p:Addr}{o:HO} (h:Same Hs H) (hp:H p=none):Grow H Hs (upd H p o) (upd Hs p o):=by
 refine ⟨fun a u q=>by rw [ak (aB q hp)];exact q,fun a u q=>by rw [ak (aB q hp)],fun a u q=>?_⟩;by_cases e:a=p
 .subst e;rw [aD] at q ⊢;exact q
 .rw [ak e] at q ⊢;exact h a u q
theorem Grow.own {H Hs:Hp}{p:Addr}{o:HO} (h:Same Hs H) (hp:H p=none):Grow H Hs (upd H p o) Hs:=by
 refine ⟨fun a u q=>by rw [ak (aB q hp)];exact q,fun a u q=>rfl,fun a u q=>?_⟩;rw [ak (aB (h a u q) hp)];exact h a u q
end Mi
namespace Mi
open PySem L2
open PyProof.Rows hiding St
section
variable {X:Cx}
theorem yZ {a b:D} (h:bx a b=true):dep a<=30/\dep b<=30:=by
 unfold bx at h;simpa using h
def aam (X:Cx):R2:=fun x y H Q=>∃ d e,Rp (gOf X) H d x/\Rp (gOf X) H e y/\bx d e=true/\Q (.bl (ao d e)) H
def Zz (X:Cx):R2:=fun x y H Q=>∃ d e,Rp (gOf X) H d x/\Rp (gOf X) H e y/\bx d e=true/\Q (.bl (!ao d e)) H
theorem aaS (hu:X.A.units+100 < cLine):OpR X (compareOp .Eq) (aam X):=by
 intro pins s σ H x y v u Q I rx ry h;obtain ⟨d,e,r1,r2,hf,q⟩:=h;obtain ⟨f1,f2⟩:=yZ hf;exact ZR d e (rpV I (by omega) r1 rx) (rpV I (by omega) r2 ry) (by omega) (by omega) _ _ _ _ ⟨.bl (ao d e),H,I,rfl,q⟩
theorem abg (hu:X.A.units+100 < cLine):OpR X (compareOp .NotEq) (Zz X):=by
 intro pins s σ H x y v u Q I rx ry h;obtain ⟨d,e,r1,r2,hf,q⟩:=h;obtain ⟨f1,f2⟩:=yZ hf;exact Y5 d e (rpV I (by omega) r1 rx) (rpV I (by omega) r2 ry) (by omega) (by omega) _ _ _ _ ⟨.bl (!ao d e),H,I,rfl,q⟩
open Classical in
def eOf (h:Heap) (x:D) (y:Value):Bool:=if p:∃ d,RpV h d y then ao (Classical.choose p) x else false
theorem Ra {h:Heap}{x d:D}{y:Value} (r:RpV h d y):eOf h x y=ao d x:=by
 unfold eOf;have p:∃ d,RpV h d y:=⟨d,r⟩;rw [dif_pos p,RpV.inj (Classical.choose_spec p) r]
theorem uh {h:Heap}{x:D}:∀ {ds:List D}{us:List Value},aP h ds us->us.any (eOf h x)=ds.any fun d=>ao d x
 | [],us,r=>by rw [aP] at r;subst r;rfl
 | d::ds,us,r=>by
  rw [aP] at r;obtain ⟨y,ys,rfl,r0,rs⟩:=r;rw [List.any_cons,List.any_cons,Ra r0,uh rs]
theorem ug {A:Around}{s:Shared}{x:D}{v:Value} (rx:RpV s.heap x v) (hx:A.units+dep x < cLine):∀ {ds:List D}{us:List Value},aP s.heap ds us->A.units+deps ds < cLine->∀ y∈us,SeqAt.EqAt A s y v (eOf s.heap x y)
 | [],us,r,_,y,hy=>by rw [aP] at r;subst r;simp at hy
 | d::ds,us,r,hd,y,hy=>by
  rw [aP] at r;obtain ⟨z,ys,rfl,r0,rs⟩:=r;rw [deps] at hd;rcases List.mem_cons.mp hy with e | hy
  .subst e;rw [Ra r0];exact nP d x r0 rx (by omega) hx
  .exact ug rx hx rs (by omega) y hy
theorem Hx {ds:List D}{n:Nat}:(∀ d∈ds,dep d<=n)->deps ds<=n:=by
 induction ds with
 | nil=>intro _;simp [deps]
 | cons d ds ih =>
  intro h;rw [deps];have h1:=h d List.mem_cons_self;have h2:=ih fun x hx=>h x (List.mem_cons_of_mem _ hx)
  omega
def Ke (X:Cx) (neg:Bool):R2:=fun x y H Q=>∃ d ds p xs,Rp (gOf X) H d x/\y=.ref p/\(SqL X.K H p xs\/SqT X.K H p xs)/\Rps (gOf X) H ds xs/\(ds.all fun e=>bx e d)=true/\dep d<=30 /\
 Q (.bl (if neg then !(ds.any fun e=>ao e d) else ds.any fun e=>ao e d)) H
theorem abM (hu:X.A.units+100 < cLine):OpR X (compareOp .In) (Ke X false):=by
 intro pins s σ H x y v u Q I rx ry h;obtain ⟨d,ds,p,xs,r1,rfl,sq,rs,hf,hd,q⟩:=h;cases ry;have dd:deps ds<=30:=Hx fun e he=>(yZ (List.all_eq_true.mp hf e he)).1
 have rx':=rpV I (by omega) r1 rx;have hin:X.A.in1.units=X.A.units+1:=rfl;rcases sq with sq | sq
 .obtain ⟨its,rv,pl,hz⟩:=I.list sq;have rs':=Av I (by omega) rs rv;refine SeqAt.in_listAt (eOf s.heap d) pl.isList (fun z hz=>ug rx' (by omega) rs' (by omega) z (by simpa using hz)) ?_;refine ⟨.bl _,H,I,rfl,?_⟩;rw [List.any_toArray,uh rs'];exact q
 .obtain ⟨its,rv,pl,hz⟩:=I.tuple sq;have rs':=Av I (by omega) rs rv;refine SeqAt.in_tupleAt (eOf s.heap d) pl (fun z hz=>ug rx' (by omega) rs' (by omega) z (by simpa using hz)) ?_;refine ⟨.bl _,H,I,rfl,?_⟩;rw [List.any_toArray,uh rs'];exact q
theorem R3 (hu:X.A.units+100 < cLine):OpR X (compareOp .NotIn) (Ke X true):=by
 intro pins s σ H x y v u Q I rx ry h;obtain ⟨d,ds,p,xs,r1,rfl,sq,rs,hf,hd,q⟩:=h;cases ry;have dd:deps ds<=30:=Hx fun e he=>(yZ (List.all_eq_true.mp hf e he)).1
 have rx':=rpV I (by omega) r1 rx;have hin:X.A.in1.units=X.A.units+1:=rfl;rcases sq with sq | sq
 .obtain ⟨its,rv,pl,hz⟩:=I.list sq;have rs':=Av I (by omega) rs rv;refine SeqAt.notIn_listAt (eOf s.heap d) pl.isList (fun z hz=>ug rx' (by omega) rs' (by omega) z (by simpa using hz)) ?_;refine ⟨.bl _,H,I,rfl,?_⟩;rw [List.any_toArray,uh rs'];exact q
 .obtain ⟨its,rv,pl,hz⟩:=I.tuple sq;have rs':=Av I (by omega) rs rv;refine SeqAt.notIn_tupleAt (eOf s.heap d) pl (fun z hz=>ug rx' (by omega) rs' (by omega) z (by simpa using hz)) ?_;refine ⟨.bl _,H,I,rfl,?_⟩;rw [List.any_toArray,uh rs'];exact q
structure DictR (X:Cx) (H:Hp) (a:Addr) (ks:List D) (xs:List (D × Addr × Value)) (ys:List V):Prop where
 at_:H a=some (.ext (DAt (gOf X) a xs ys))
 keys:ks=xs.map (·.1)
 ok:∀ k∈ks,isKey k=true
 rep:Rps (gOf X) H ks (xs.map fun x=>V.ref x.2.1)
theorem nJ {d:D} (h:isKey d=true):keyOk d=true/\dep d<=6/\∃ ds,d=.tup ds:=by
 unfold isKey at h;simp only [Bool.and_eq_true,decide_eq_true_eq] at h;refine ⟨h.1.1,h.1.2,?_⟩;cases d <;> simp at h;exact ⟨_,rfl⟩
theorem Ko {g:G}{H:Hp}:∀ {xs:List (D × Addr × Value)},Rps g H (xs.map (·.1)) (xs.map fun x=>V.ref x.2.1)->∀ x∈xs,Rp g H x.1 (.ref x.2.1)
 | [],r,x,hx=>by simp at hx
 | y::ys,r,x,hx=>by
  rw [List.map_cons,List.map_cons] at r;obtain ⟨v,ws,e,r0,rs⟩:=r.cons_inv;cases e;rcases List.mem_cons.mp hx with e | hx
  .rw [e];exact r0
  .exact Ko rs x hx
section
variable {pins:List (Addr × Obj)}{σ:St}{H:Hp}{s:Shared}{a:Addr}{ks:List D}{xs:List (D × Addr × Value)}{ys:List V}
theorem dictOf (I:Inv X pins σ H s) (d:DictR X H a ks xs ys):(a == sysModules)=false/\xs.length<=sizeLine/\Vals ys (xs.map (·.2.2))/\s.heap.DictOfH (mC X.prog X.w) a xs:=by
 obtain ⟨⟨h1,h2,h3,o,es,ep,h4,h5,h6,h7,h8⟩,_⟩:=(show bY X.prog X.w H s.heap a (.ext (DAt (gOf X) a xs ys)) from I.hok a _ d.at_);refine ⟨h1,h2,h3,o,es,ep,h4,h5,h6,h7,fun x hx=>?_,h8⟩;have hk:=nJ (d.ok x.1 (by rw [d.keys];exact List.mem_map.mpr ⟨x,hx,rfl⟩));have rep:=d.rep;rw [d.keys] at rep;exact ⟨hk.1,hk.2.1,rpV I (by omega) (Ko rep x hx) rfl⟩
theorem Ph {k:D}{b:Addr} (I:Inv X pins σ H s) (hk:isKey k=true) (r:Rp (gOf X) H k (.ref b)):(mC X.prog X.w).is s.heap k b:=by
 have h:=nJ hk;exact ⟨h.1,h.2.1,rpV I (by omega) r rfl⟩
theorem BX {k:D}:(atKey xs k).isSome=decide (k∈xs.map (·.1)):=by
 unfold atKey;rw [Option.isSome_map,Bool.eq_iff_iff,List.find?_isSome,decide_eq_true_iff,List.mem_map];constructor
 .rintro ⟨x,hx,e⟩;exact ⟨x,hx,of_decide_eq_true e⟩
 .rintro ⟨x,hx,e⟩;exact ⟨x,hx,decide_eq_true e⟩
end
def Bv (X:Cx) (neg:Bool):R2:=fun x y H Q=>∃ k a ks xs ys,Rp (gOf X) H k x/\isKey k=true/\y=.ref a/\DictR X H a ks xs ys/\Q (.bl (if neg then !decide (k∈ks) else decide (k∈ks))) H
theorem Yw (hu:X.A.units+100 < cLine):OpR X (compareOp .In) (Bv X false):=by
 intro pins s σ H x y v u Q I rx ry h;obtain ⟨k,a,ks,xs,ys,r1,hk,rfl,d,q⟩:=h;cases ry;obtain ⟨_,_,ds,rfl⟩:=nJ hk;rw [Rp] at r1;obtain ⟨b,zs,rfl,sq,rs⟩:=id r1;cases rx;obtain ⟨h1,h2,h3,h4⟩:=dictOf I d;have hin:X.A.in1.units=X.A.units+1:=rfl;refine wpAny_in_heap (knd:=mC X.prog X.w) (by show X.A.in1.units+10 < cLine;omega) (Ph I hk (by rw [Rp];exact ⟨b,zs,rfl,sq,rs⟩)) h1 h4 ?_;refine ⟨.bl _,H,I.tok _,rfl,?_⟩;rw [BX,<- d.keys];exact q
theorem Nj (hu:X.A.units+100 < cLine):OpR X (compareOp .NotIn) (Bv X true):=by
 intro pins s σ H x y v u Q I rx ry h;obtain ⟨k,a,ks,xs,ys,r1,hk,rfl,d,q⟩:=h;cases ry;obtain ⟨_,_,ds,rfl⟩:=nJ hk;rw [Rp] at r1;obtain ⟨b,zs,rfl,sq,rs⟩:=id r1;cases rx;obtain ⟨h1,h2,h3,h4⟩:=dictOf I d;have hin:X.A.in1.units=X.A.units+1:=rfl;refine wpAny_notIn_heap (knd:=mC X.prog X.w) (by show X.A.in1.units+10 < cLine;omega) (Ph I hk (by rw [Rp];exact ⟨b,zs,rfl,sq,rs⟩)) h1 h4 ?_;refine ⟨.bl _,H,I.tok _,rfl,?_⟩;rw [BX,<- d.keys];exact q
def Wr (ks vs:List D) (k v:D):List D × List D:=if k∈ks then (ks,(ks.zip vs).map fun p=>if p.1=k then v else p.2) else (ks++[k],vs++[v])
end
end Mi
namespace Mi
open PySem L2
open PyProof.Rows hiding St
section
variable {X:Cx}
theorem yw:∀ {bs:List Bool}{us:List Value},Vals (bs.map V.bl) us->LSm.BoolsAre us bs
 | [],us,q=>by cases q;exact .nil
 | b::bs,us,q=>by
  rw [List.map_cons] at q;cases q with
  | cons q0 qs=>cases q0;exact .cons b (yw qs)
def aa9 (X:Cx):List V->Hp->VK->Prop:=fun xs H Q=>∃ (p:Addr) (bs:List Bool),xs=[.ref p]/\SqL X.K H p (bs.map V.bl)/\Q (.bl (bs.all id)) H
def abo (X:Cx):List V->Hp->VK->Prop:=fun xs H Q=>∃ (p:Addr) (bs:List Bool),xs=[.ref p]/\SqL X.K H p (bs.map V.bl)/\Q (.bl (bs.any id)) H
theorem SJ (hc:X.calm=true):gn X (.builtin "all") (aa9 X):=by
 intro pins s σ H xs us Q I r h;obtain ⟨p,bs,rfl,sq,q⟩:=h;obtain ⟨u,rfl,ru⟩:=vals1 r;cases ru;obtain ⟨its,rv,pl,hz⟩:=I.list sq;have hb:=yw rv;have hl:=pl.isList;have hlt:p < s.heap.objs.size:=by obtain ⟨_,e,_⟩:=hl;exact Heap.lt_size e
 refine call_all_walk (wpAny_pyIter_list hl ?_);refine ⟨s.heap.objs.size,[s.heap.objs.size,p],[s.heap.objs.size],its.toArray.size,_,_,fun i=>(bs[i]?).getD true,rfl,Walks.list (A:=X.A.in1) (I.ok.hd hc) _ p (Nat.ne_of_lt hlt) its.toArray,
  ⟨⟨_,Heap.get?_push_size _ rfl,rfl,rfl⟩,hl.push _⟩,fun i v s' Q' E' hP hQ=>?_,fun h' tk hk=>?_⟩
 .obtain ⟨b,e,rfl⟩:=hb.get i v (by simpa using hP);simp only [e,Option.getD_some] at hQ;exact wpAny_truthy_bool hQ
 .have e:((List.range its.toArray.size).all fun i=>(bs[i]?).getD true)=bs.all id:=by
   rw [List.size_toArray,hb.length];exact LSm.range_all bs
  rw [e];exact ⟨.bl _,H,I.kept (LSm.kept_iter hk),rfl,q⟩
theorem Ru (hc:X.calm=true):gn X (.builtin "any") (abo X):=by
 intro pins s σ H xs us Q I r h;obtain ⟨p,bs,rfl,sq,q⟩:=h;obtain ⟨u,rfl,ru⟩:=vals1 r;cases ru;obtain ⟨its,rv,pl,hz⟩:=I.list sq;have hb:=yw rv;have hl:=pl.isList;have hlt:p < s.heap.objs.size:=by obtain ⟨_,e,_⟩:=hl;exact Heap.lt_size e
 refine call_any_walk (wpAny_pyIter_list hl ?_);refine ⟨s.heap.objs.size,[s.heap.objs.size,p],[s.heap.objs.size],its.toArray.size,_,_,fun i=>(bs[i]?).getD false,rfl,Walks.list (A:=X.A.in1) (I.ok.hd hc) _ p (Nat.ne_of_lt hlt) its.toArray,
  ⟨⟨_,Heap.get?_push_size _ rfl,rfl,rfl⟩,hl.push _⟩,fun i v s' Q' E' hP hQ=>?_,fun h' tk hk=>?_⟩
 .obtain ⟨b,e,rfl⟩:=hb.get i v (by simpa using hP);simp only [e,Option.getD_some] at hQ;exact wpAny_truthy_bool hQ
 .have e:((List.range its.toArray.size).any fun i=>(bs[i]?).getD false)=bs.any id:=by
   rw [List.size_toArray,hb.length];exact LSm.range_any bs
  rw [e];exact ⟨.bl _,H,I.kept (LSm.kept_iter hk),rfl,q⟩
noncomputable def Ty.name:Ty->String
 | .int=>"int" | .bool=>"bool" | .str=>"str" | .tuple=>"tuple" | .list=>"list"
noncomputable def tyD:D->String
 | .non=>"NoneType" | .bl _=>"bool" | .int _=>"int" | .str _=>"str" | .tup _=>"tuple" | .lst _=>"list" | .dct _ _=>"dict"
noncomputable def jc (d:D) (t:Ty):Bool:=match t,d with
 | .int,.int _=>true | .int,.bl _=>true | .bool,.bl _=>true | .str,.str _=>true | .tuple,.tup _=>true | .list,.lst _=>true
 | _,_=>false
theorem abt (K:PySem.W.Frag) (d:D) (t:Ty):PySem.W.kitOne K (.type (tyD d)) (.type t.name)=some (jc d t):=by
 cases d <;> cases t <;> rfl
theorem Yh {pins:List (Addr × Obj)}{σ:St}{H:Hp}{s:Shared}{A:Around}{E:Value->Shared->Prop}{Q:Value->Shared->Prop}{d:D}{v:V}{u:Value} (t:Ty) (I:Inv X pins σ H s) (r:Rp (gOf X) H d v) (ru:RelV v u)
  (h:∀ tk,Q (.bool (jc d t)) { s with toks:=tk }):wpAny (model X.prog X.w) A (call (.builtin "isinstance") [u,.type t.name]) Q E s:=by
 have e:=abt X.K d t;cases d with
 | non=>rw [Rp] at r;subst r;exact rW I ru .non e h
 | bl b=>rw [Rp] at r;subst r;exact rW I ru (.bl b) e h
 | int b=>rw [Rp] at r;subst r;exact rW I ru (.int b) e h
 | str b=>rw [Rp] at r;subst r;exact rW I ru (.str b) e h
 | tup ds =>
  rw [Rp] at r;obtain ⟨a,xs,rfl,sq,rs⟩:=r;cases ru;obtain ⟨its,rv,⟨o,h1,h2,_⟩,hz⟩:=I.tuple sq;exact PySem.W.kia_one PySem.W.kitx_tuple I.kIn ⟨o,h1,h2⟩ e (fun z=>nomatch z) h
 | lst ds =>
  rw [Rp] at r;obtain ⟨a,xs,rfl,sq,rs⟩:=r;cases ru;obtain ⟨its,rv,pl,hz⟩:=I.list sq;obtain ⟨o,h1,h2,_⟩:=pl.isList;exact PySem.W.kia_one PySem.W.kitx_list I.kIn ⟨o,h1,h2⟩ e (fun z=>nomatch z) h
 | dct ks vs =>
  rw [Rp] at r;obtain ⟨a,xs,ys,rfl,hH,_⟩:=r;cases ru;obtain ⟨⟨_,_,_,o,es,ep,h4,h5,_⟩,_⟩:=(show bY X.prog X.w H s.heap a (.ext (DAt (gOf X) a xs ys)) from I.hok a _ hH);exact PySem.W.kia_one PySem.W.kitx_dict I.kIn ⟨o,h4,h5.1⟩ e (fun z=>nomatch z) h
def acV (X:Cx):List V->Hp->VK->Prop:=fun xs H Q=>∃ d v t,xs=[v,.ty t.name]/\Rp (gOf X) H d v/\Q (.bl (jc d t)) H
theorem QK:gn X (.builtin "isinstance") (acV X):=by
 intro pins s σ H xs us Q I r h;obtain ⟨d,v,t,rfl,rd,q⟩:=h;obtain ⟨u,w',rfl,ru,rw'⟩:=vals2 r;cases rw';exact Yh t I rd ru fun tk=>⟨.bl _,H,I.tok _,rfl,q⟩
theorem Te {prog:Program}{w:World}{A:Around}{E:Value->Shared->Prop}{s:Shared}{t b:Addr}{ws:List Value}{Q:Value->Shared->Prop} (ht:IsTup s.heap t (List.toArray [])) (hb:IsTup s.heap b ws.toArray)
  (h1:Q (.ref b) s):wpAny (model prog w) A (binaryOp .Add (.ref t) (.ref b)) Q E s:=by
 obtain ⟨⟨cls,dd,data,sl⟩,ho,hc,n,hd⟩:=id ht;obtain ⟨⟨cls2,dd2,data2,sl2⟩,ho2,hc2,n2,hd2⟩:=id hb;simp only at hc hd hc2 hd2;subst hc hd hc2 hd2;exact concat_meets ⟨_,ho,rfl⟩ ⟨_,ho2,rfl⟩ noFill_tuple_add seq_tuple_add PySem.F.slot_tuple_add PySem.F.entry_tuple_add (PySem.F.args_tuple_add_2 _ _)
  (tuple_addW0 t b _ ws.toArray n n2 dd dd2 sl sl2 (by simp)) ⟨ho,ho2,h1⟩
def S8 (K:PySem.W.Frag):R2:=fun x y H Q=>∃ a b ys,x=.ref a/\y=.ref b/\SqT K H a []/\SqT K H b ys/\Q (.ref b) H
theorem VP:OpR X (binaryOp .Add) (S8 X.K):=by
 intro pins s σ H x y v u Q I rx ry h;obtain ⟨a,b,ys,rfl,rfl,ha,hb,q⟩:=h;cases rx;cases ry;obtain ⟨its,r1,p1,_⟩:=I.tuple ha;obtain ⟨its2,r2,p2,_⟩:=I.tuple hb;cases r1;exact Te p1 p2 ⟨.ref b,H,I,rfl,q⟩
def WM (K:PySem.W.Frag):R2:=fun x y H Q=>∃ l b xs zs,x=.ref l/\y=.ref b/\SqL K H l xs/\SqL K H b zs/\xs.length+zs.length<=sizeLine/\∀ p,H p=none->Q (.ref p) (upd H p (.lst (xs++zs)))
end
end Mi
namespace Mi
open PySem L2
open PyProof.Rows hiding St
section
variable {prog:Program}{w:World}{A:Around}{E:Value->Shared->Prop}{s:Shared}{z ti to i1 i2 l1 l2:Addr}{n1 n2:Nat}{us vs:Array Value}{u v c d:Value}
structure ZAt (z ti to i1 i2 l1 l2:Addr) (f:Value) (us vs:Array Value) (n1 n2:Nat) (h:Heap):Prop where
 ap:ZipApart z ti to i1 i2 l1 l2
 zr:IsZip h z ti to f
 its:IsPair h ti (.ref i1) (.ref i2)
 out:∃ c d,IsPair h to c d
 one:h.IsTupleIter i1 l1 n1
 two:h.IsTupleIter i2 l2 n2
 src1:h.IsTuple l1 us
 src2:h.IsTuple l2 vs
theorem uJ {h h':Heap}{i l:Addr}{n:Nat} (x:h.IsTupleIter i l n) (k:∀ o,h.get? i=some o->h'.get? i=some o):h'.IsTupleIter i l n:=let ⟨o,e,r⟩:=x;⟨o,k o e,r⟩
theorem pH {h h':Heap}{l:Addr}{us:Array Value} (x:h.IsTuple l us) (k:∀ o,h.get? l=some o->h'.get? l=some o):h'.IsTuple l us:=let ⟨o,e,r⟩:=x;⟨o,k o e,r⟩
theorem Qp {Q:Value->Shared->Prop} (S:ZAt z ti to i1 i2 l1 l2 .none us vs n1 n2 s.heap) (hu:us[n1]?=some u) (hv:vs[n2]?=some v)
  (hQ:∀ g,ZAt z ti to i1 i2 l1 l2 (rawInt s.heap.objs.size) us vs (n1+1) (n2+1) g->IsPair g s.heap.objs.size u v->g.objs.size=s.heap.objs.size+1 ->
   (∀ b o,b≠z->b≠to->b≠i1->b≠i2->s.heap.get? b=some o->g.get? b=some o)->Q (.ref s.heap.objs.size) { s with heap:=g }) :
  wpAny (model prog w) A (Builtin.«zip.__next__» ⟨[.ref z],[]⟩) (fun fin s'=>∃ v,fin=.done (.ret v)/\Q v s') E s:=by
 obtain ⟨D,hz,ht,⟨c,d,ho⟩,k1,k2,m1,m2⟩:=S;show wpAny _ _ (field (.ref z) 2 >>= _) _ _ _
 refine wpAny_bind (wpAny_field hz rfl (x:=.bool false) rfl ?_);show wpAny _ _ (field (.ref z) 3 >>= _) _ _ _
 refine wpAny_bind (wpAny_field hz rfl (x:=.ref ti) rfl (wpAny_bind (wpAny_seqItems ht rfl ?_)));show wpAny _ _ (Builtin.SmallTypes.ownedTupleIsFree (.ref z) >>= _) _ _ _
 refine wpAny_bind ?_;unfold Builtin.SmallTypes.ownedTupleIsFree;refine wpAny_bind (wpAny_field hz rfl (x:=.none) rfl (wpAny_pure ?_));simp only [if_true];refine wpAny_bind (wpAny_rule (wpAny_bind (wpAny_field hz rfl (x:=.ref to) rfl (wpAny_bind (wpAny_setField_rec hz (by simp) fun g1 z1 e1=>?_)))));replace z1:IsZip g1 z ti to .ellipsis:=z1;refine wpAny_bind ?_;simp only [List.zipIdx_cons,List.zipIdx_nil,List.forIn_cons,List.forIn_nil];refine wpAny_bind (wpAny_bind (wpAny_onRaise ?_));show wpAny _ _ (Builtin.SmallTypes.nextOf (.ref i1) >>= _) _ _ _
 refine wpAny_bind (oU (k1.extBut e1.extBut D.i1z) (m1.extBut e1.extBut D.l1z) hu fun g2 k12 e2=>wpAny_pure ?_);have o2:IsPair g2 to c d:=e2.extBut _ _ D.TOi1 (e1.extBut _ _ D.TOz ho);refine wpAny_bind (wpAny_seqItems o2 rfl (wpAny_bind (wpAny_updateSeq_pair o2 fun g3 o3 e3=>?_)));replace o3:IsPair g3 to u d:=o3;refine wpAny_bind (wpAny_letGo (wpAny_pure (wpAny_bind (wpAny_bind (wpAny_onRaise ?_)))));show wpAny _ _ (Builtin.SmallTypes.nextOf (.ref i2) >>= _) _ _ _
 refine wpAny_bind (oU (((k2.extBut e1.extBut D.i2z).extBut e2.extBut D.i12.symm).extBut e3.extBut D.TOi2.symm) (((m2.extBut e1.extBut D.l2z).extBut e2.extBut D.l2i1).extBut e3.extBut D.l2TO) hv fun g4 k24 e4=>wpAny_pure ?_);have o4:IsPair g4 to u d:=e4.extBut _ _ D.TOi2 o3;refine wpAny_bind (wpAny_seqItems o4 rfl (wpAny_bind (wpAny_updateSeq_pair o4 fun g5 o5 e5=>?_)));replace o5:IsPair g5 to u v:=o5;refine wpAny_bind (wpAny_letGo (wpAny_pure (wpAny_pure (wpAny_bind (wpAny_seqItems o5 rfl (wpAny_bind (wpAny_newTuple ?_)))))));have sz:g5.objs.size=s.heap.objs.size:=by rw [e5.1,e4.1,e3.1,e2.1,e1.1]
 have z5:IsZip g5 z ti to .ellipsis:=e5.extBut _ _ D.TOz.symm (e4.extBut _ _ D.i2z.symm (e3.extBut _ _ D.TOz.symm (e2.extBut _ _ D.i1z.symm z1)));have kp:∀ b o,b≠z->b≠to->b≠i1->b≠i2->s.heap.get? b=some o->g5.get? b=some o:=fun b o b1 b2 b3 b4 e=>e5.extBut _ _ b2 (e4.extBut _ _ b4 (e3.extBut _ _ b2 (e2.extBut _ _ b3 (e1.extBut _ _ b1 e))))
 have k15:g5.IsTupleIter i1 l1 (n1+1):=((k12.extBut e3.extBut D.TOi1.symm).extBut e4.extBut D.i12).extBut e5.extBut D.TOi1.symm;have k25:g5.IsTupleIter i2 l2 (n2+1):=k24.extBut e5.extBut D.TOi2.symm;have zlt:z < g5.objs.size:=Heap.lt_size z5;show wpAny _ _ (Builtin.SmallTypes.ownedTupleHandOut (.ref z) (.ref g5.objs.size) >>= _) _ _ _
 refine wpAny_bind ?_;unfold Builtin.SmallTypes.ownedTupleHandOut;have z6:IsZip (g5.push { cls:=.type "tuple",data:=.seq #[u,v] }) z ti to .ellipsis:=Heap.get?_push_of_some _ z5
 refine wpAny_bind (wpAny_setField_rec z6 (by simp) fun g7 z7 e7=>?_);replace z7:IsZip g7 z ti to (rawInt g5.objs.size):=z7;refine wpAny_setField_rec z7 (by simp) fun g8 z8 e8=>?_
 replace z8:IsZip g8 z ti to (rawInt g5.objs.size):=z8;have up:∀ b o,b≠z->g5.get? b=some o->g8.get? b=some o:=fun b o b1 e=>e8.extBut _ _ b1 (e7.extBut _ _ b1 (Heap.get?_push_of_some _ e))
 have p8:IsPair g8 g5.objs.size u v:=e8.extBut _ _ (Nat.ne_of_gt zlt) (e7.extBut _ _ (Nat.ne_of_gt zlt) (Heap.get?_push_size _ rfl));have s8:g8.objs.size=g5.objs.size+1:=by rw [e8.1,e7.1,Heap.size_push]
 rw [sz] at z8 p8 s8;refine wpAny_pure ⟨_,rfl,?_⟩;show Q (.ref g5.objs.size) _
 rw [sz];have kp8:∀ b o,b≠z->b≠to->b≠i1->b≠i2->s.heap.get? b=some o->g8.get? b=some o:=fun b o b1 b2 b3 b4 e=>up b o b1 (kp b o b1 b2 b3 b4 e)
 exact hQ g8 ⟨D,z8,kp8 _ _ D.TIz D.TITO D.TIi1 D.TIi2 ht,⟨_,_,up _ _ D.TOz o5⟩,uJ k15 fun o e=>up _ o D.i1z e,uJ k25 fun o e=>up _ o D.i2z e,pH m1 fun o e=>kp8 _ o D.l1z D.l1TO D.l1i1 D.l1i2 e,pH m2 fun o e=>kp8 _ o D.l2z D.l2TO D.l2i1 D.l2i2 e⟩ p8 s8 kp8
theorem Vh {Q:Fin->Shared->Prop} (hh:A.handled=none) (S:ZAt z ti to i1 i2 l1 l2 .none us vs n1 n2 s.heap) (he:us[n1]?=none\/vs[n2]?=none)
  (hE:∀ g e,(∀ b o,b ≠ z -> b ≠ to -> b ≠ i1 -> b ≠ i2 -> s.heap.get? b=some o -> g.get? b=some o) -> (∃ o,g.get? e=some o /\ o.cls=.type "StopIteration") -> E (.ref e) { s with heap:=g }) :
  wpAny (model prog w) A (Builtin.«zip.__next__» ⟨[.ref z],[]⟩) Q E s:=by
 obtain ⟨D,hz,ht,⟨c,d,ho⟩,k1,k2,m1,m2⟩:=S;show wpAny _ _ (field (.ref z) 2 >>= _) _ _ _
 refine wpAny_bind (wpAny_field hz rfl (x:=.bool false) rfl ?_);show wpAny _ _ (field (.ref z) 3 >>= _) _ _ _
 refine wpAny_bind (wpAny_field hz rfl (x:=.ref ti) rfl (wpAny_bind (wpAny_seqItems ht rfl ?_)));show wpAny _ _ (Builtin.SmallTypes.ownedTupleIsFree (.ref z) >>= _) _ _ _
 refine wpAny_bind ?_;unfold Builtin.SmallTypes.ownedTupleIsFree;refine wpAny_bind (wpAny_field hz rfl (x:=.none) rfl (wpAny_pure ?_));simp only [if_true];refine wpAny_bind (wpAny_rule (wpAny_bind (wpAny_field hz rfl (x:=.ref to) rfl (wpAny_bind (wpAny_setField_rec hz (by simp) fun g1 z1 e1=>?_)))));replace z1:IsZip g1 z ti to .ellipsis:=z1;refine wpAny_bind ?_;simp only [List.zipIdx_cons,List.zipIdx_nil,List.forIn_cons,List.forIn_nil];refine wpAny_bind (wpAny_bind (wpAny_onRaise ?_));show wpAny _ _ (Builtin.SmallTypes.nextOf (.ref i1) >>= _) _ _ _
 cases hx:us[n1]? with
 | none =>
  refine wpAny_bind (xX hh (k1.extBut e1.extBut D.i1z) (m1.extBut e1.extBut D.l1z) hx fun g2 e e2 q=>?_);obtain ⟨oe,qo,qc⟩:=q;have z2:IsZip g2 z ti to .ellipsis:=e2 _ _ D.i1z.symm z1;have ez:e≠z:=fun x=>by subst x;rw [z2] at qo;cases qo;simp at qc
  exact wpAny_setField_rec z2 (by simp) fun g3 _ e3=>hE g3 e (fun b o b1 _ b3 _ x=>e3.extBut _ _ b1 (e2 _ _ b3 (e1.extBut _ _ b1 x))) ⟨oe,e3.extBut _ _ ez qo,qc⟩
 | some x =>
  have hy:vs[n2]?=none:=by
   rcases he with q | q
   .rw [hx] at q;cases q
   .exact q
  refine wpAny_bind (oU (k1.extBut e1.extBut D.i1z) (m1.extBut e1.extBut D.l1z) hx fun g2 k12 e2=>wpAny_pure ?_);have o2:IsPair g2 to c d:=e2.extBut _ _ D.TOi1 (e1.extBut _ _ D.TOz ho);refine wpAny_bind (wpAny_seqItems o2 rfl (wpAny_bind (wpAny_updateSeq_pair o2 fun g3 o3 e3=>?_)));refine wpAny_bind (wpAny_letGo (wpAny_pure (wpAny_bind (wpAny_bind (wpAny_onRaise ?_)))));show wpAny _ _ (Builtin.SmallTypes.nextOf (.ref i2) >>= _) _ _ _
  refine wpAny_bind (xX hh (((k2.extBut e1.extBut D.i2z).extBut e2.extBut D.i12.symm).extBut e3.extBut D.TOi2.symm) (((m2.extBut e1.extBut D.l2z).extBut e2.extBut D.l2i1).extBut e3.extBut D.l2TO) hy fun g4 e e4 q=>?_);obtain ⟨oe,qo,qc⟩:=q;have z4:IsZip g4 z ti to .ellipsis:=e4 _ _ D.i2z.symm (e3.extBut _ _ D.TOz.symm (e2.extBut _ _ D.i1z.symm z1));have ez:e≠z:=fun x=>by subst x;rw [z4] at qo;cases qo;simp at qc
  exact wpAny_setField_rec z4 (by simp) fun g5 _ e5=>hE g5 e (fun b o b1 b2 b3 b4 x=>e5.extBut _ _ b1 (e4 _ _ b4 (e3.extBut _ _ b2 (e2.extBut _ _ b3 (e1.extBut _ _ b1 x))))) ⟨oe,e5.extBut _ _ ez qo,qc⟩
theorem PB {Q:Option Value->Shared->Prop} (S:ZAt z ti to i1 i2 l1 l2 .none us vs n1 n2 s.heap) (hu:us[n1]?=some u) (hv:vs[n2]?=some v)
  (hQ:∀ g,ZAt z ti to i1 i2 l1 l2 (rawInt s.heap.objs.size) us vs (n1+1) (n2+1) g->IsPair g s.heap.objs.size u v->g.objs.size=s.heap.objs.size+1 ->
   (∀ b o,b≠z->b≠to->b≠i1->b≠i2->s.heap.get? b=some o->g.get? b=some o)->Q (some (.ref s.heap.objs.size)) { s with heap:=g }) :
  wpAny (model prog w) A (pyNext (.ref z)) Q E s:=by
 have ty:s.TypeIs (.ref z) "zip":=⟨_,S.zr,rfl⟩
 unfold pyNext;exact wpAny_bind (wpAny_attempt (wpAny_callSpecial?_slot (name:=Str.ofString "__next__") ty F.slot_zip_next (wpAny_call_entry F.slot_zip_next ty F.entry_zip_next (Qp S hu hv fun g q1 q2 q3 q4=>wpAny_pure (hQ g q1 q2 q3 q4)) (F.args_zip_next_1 _))))
theorem Qq {Q:Option Value->Shared->Prop} (hh:A.handled=none) (S:ZAt z ti to i1 i2 l1 l2 .none us vs n1 n2 s.heap) (he:us[n1]?=none\/vs[n2]?=none)
  (hQ:∀ g,(∀ b o,b≠z->b≠to->b≠i1->b≠i2->s.heap.get? b=some o->g.get? b=some o)->Q none { s with heap:=g }):wpAny (model prog w) A (pyNext (.ref z)) Q E s:=by
 have ty:s.TypeIs (.ref z) "zip":=⟨_,S.zr,rfl⟩
 unfold pyNext;refine wpAny_bind (wpAny_attempt (wpAny_callSpecial?_slot (name:=Str.ofString "__next__") ty F.slot_zip_next (wpAny_call_entry F.slot_zip_next ty F.entry_zip_next (Vh hh S he fun g e kp q=>?_) (F.args_zip_next_1 _))))
 obtain ⟨o,qo,qc⟩:=q;exact wpAny_bind (wpAny_isInstance (T:="StopIteration") (b:=true) ⟨o,qo,qc⟩ isSubtype_stop (wpAny_pure (hQ _ kp)))
noncomputable abbrev zo (l:Addr):Obj:={ cls:=.type "tuple_iterator",data:=.fields #[.ref l,.int 0 0] }
noncomputable abbrev zh (h:Heap) (l1 l2:Addr):Heap:=((((h.push (zo l1)).push (zo l2)).push { cls:=.type "tuple",data:=.seq #[.ref h.objs.size,.ref (h.push (zo l1)).objs.size] }).push { cls:=.type "tuple",data:=.seq #[.none,.none] }).push
 { cls:=.type "zip",data:=.fields #[.none,.bool false,.bool false,.ref ((h.push (zo l1)).push (zo l2)).objs.size,.ref (((h.push (zo l1)).push (zo l2)).push { cls:=.type "tuple",data:=.seq #[.ref h.objs.size,.ref (h.push (zo l1)).objs.size] }).objs.size] }
theorem Tw (l1 l2:Addr) (us vs:Array Value):Meets (Builtin.«zip.__new__» ⟨[.type "zip",.ref l1,.ref l2],[]⟩) (fun _ R s=>s.heap.IsTuple l1 us /\ s.heap.IsTuple l2 vs /\
   R (.ok (.ret (.ref ((((s.heap.push (zo l1)).push (zo l2)).push { cls:=.type "tuple",data:=.seq #[.ref s.heap.objs.size,.ref (s.heap.push (zo l1)).objs.size] }).push { cls:=.type "tuple",data:=.seq #[.none,.none] }).objs.size))) { s with heap:=zh s.heap l1 l2 }) :=
 .of_wp fun prog w A R s h=>by
  obtain ⟨hp,g,d,tk,os⟩:=s;obtain ⟨m1,m2,h⟩:=h;have hsub:=sub_zip;have t1:Heap.IsTuple (Shared.heap ⟨hp,g,d,tk,os⟩) l1 us:=m1;have t2:Heap.IsTuple (Shared.heap ⟨hp.push (zo l1),g,d,tk,os⟩) l2 vs:=pH m2 fun o e=>Heap.get?_push_of_some _ e
  wp_walk using wpAny_pyIter_tuple t1,wpAny_pyIter_tuple t2
  exact ⟨_,rfl,h⟩
theorem zap {n a b:Nat} (h1:a < n) (h2:b < n):ZipApart (n+4) (n+2) (n+3) n (n+1) a b where
 TIz:=show n+2≠n+4 by omega
 TOz:=show n+3≠n+4 by omega
 i1z:=show n≠n+4 by omega
 i2z:=show n+1≠n+4 by omega
 TITO:=show n+2≠n+3 by omega
 TIi1:=show n+2≠n by omega
 TIi2:=show n+2≠n+1 by omega
 TOi1:=show n+3≠n by omega
 TOi2:=show n+3≠n+1 by omega
 i12:=show n≠n+1 by omega
 l1z:=show a≠n+4 by omega
 l1TO:=show a≠n+3 by omega
 l1i1:=show a≠n by omega
 l1i2:=show a≠n+1 by omega
 l2z:=show b≠n+4 by omega
 l2TO:=show b≠n+3 by omega
 l2i1:=show b≠n by omega
 l2i2:=show b≠n+1 by omega
theorem SM {Q:Value->Shared->Prop} (m1:s.heap.IsTuple l1 us) (m2:s.heap.IsTuple l2 vs)
  (h:∀ g,ZAt (s.heap.objs.size+4) (s.heap.objs.size+2) (s.heap.objs.size+3) s.heap.objs.size (s.heap.objs.size+1) l1 l2 .none us vs 0 0 g->g.objs.size=s.heap.objs.size+5 ->
   (∀ b o,s.heap.get? b=some o->g.get? b=some o)->Q (.ref (s.heap.objs.size+4)) { s with heap:=g }) :
  wpAny (model prog w) A (call (.type "zip") [.ref l1,.ref l2]) Q E s:=by
 refine callType_new F.called_zip (by decide) (F.typeCall_zip_2 _ _) (F.newCall_zip_2 _ _) (fun obj=>F.args_object_init_3 obj _ _) F.entry_zip_new (Tw l1 l2 us vs) ⟨m1,m2,?_⟩;have lt1:l1 < s.heap.objs.size:=by obtain ⟨_,e,_⟩:=m1;exact Heap.lt_size e
 have lt2:l2 < s.heap.objs.size:=by obtain ⟨_,e,_⟩:=m2;exact Heap.lt_size e
 have a1:(s.heap.push (zo l1)).objs.size=s.heap.objs.size+1:=Heap.size_push ..;have a2:((s.heap.push (zo l1)).push (zo l2)).objs.size=s.heap.objs.size+2:=by rw [Heap.size_push,a1]
 have a3:(((s.heap.push (zo l1)).push (zo l2)).push { cls:=.type "tuple",data:=.seq #[.ref s.heap.objs.size,.ref (s.heap.push (zo l1)).objs.size] }).objs.size=s.heap.objs.size+3:=by rw [Heap.size_push,a2]
 have a4:((((s.heap.push (zo l1)).push (zo l2)).push { cls:=.type "tuple",data:=.seq #[.ref s.heap.objs.size,.ref (s.heap.push (zo l1)).objs.size] }).push { cls:=.type "tuple",data:=.seq #[.none,.none] }).objs.size=s.heap.objs.size+4:=by rw [Heap.size_push,a3]
 have a5:(zh s.heap l1 l2).objs.size=s.heap.objs.size+5:=by rw [Heap.size_push,a4]
 have b5:(zh s.heap l1 l2).get? ((((s.heap.push (zo l1)).push (zo l2)).push { cls:=.type "tuple",data:=.seq #[.ref s.heap.objs.size,.ref (s.heap.push (zo l1)).objs.size] }).push { cls:=.type "tuple",data:=.seq #[.none,.none] }).objs.size=some _:=Heap.get?_push_size _ rfl
 have b4:(zh s.heap l1 l2).get? (((s.heap.push (zo l1)).push (zo l2)).push { cls:=.type "tuple",data:=.seq #[.ref s.heap.objs.size,.ref (s.heap.push (zo l1)).objs.size] }).objs.size=some _:=Heap.get?_push_of_some _ (Heap.get?_push_size _ rfl)
 have b3:(zh s.heap l1 l2).get? ((s.heap.push (zo l1)).push (zo l2)).objs.size=some _:=Heap.get?_push_of_some _ (Heap.get?_push_of_some _ (Heap.get?_push_size _ rfl));have b2:(zh s.heap l1 l2).get? (s.heap.push (zo l1)).objs.size=some _:=Heap.get?_push_of_some _ (Heap.get?_push_of_some _ (Heap.get?_push_of_some _ (Heap.get?_push_size _ rfl)));have b1:(zh s.heap l1 l2).get? s.heap.objs.size=some _:=Heap.get?_push_of_some _ (Heap.get?_push_of_some _ (Heap.get?_push_of_some _ (Heap.get?_push_of_some _ (Heap.get?_push_size _ rfl))));have kp:∀ b o,s.heap.get? b=some o->(zh s.heap l1 l2).get? b=some o:=fun b o x=>Heap.get?_push_of_some _ (Heap.get?_push_of_some _ (Heap.get?_push_of_some _ (Heap.get?_push_of_some _ (Heap.get?_push_of_some _ x))))
 show _/\_
 rw [a2,a3,a4] at b5;rw [a1,a2] at b3;rw [a3] at b4;rw [a1] at b2;rw [a4];exact ⟨⟨_,b5,rfl⟩,h _ ⟨zap lt1 lt2,b5,b3,⟨_,_,b4⟩,⟨_,b1,rfl,rfl⟩,⟨_,b2,rfl,rfl⟩,pH m1 fun o e=>kp _ o e,pH m2 fun o e=>kp _ o e⟩ a5 kp⟩
end
def Itz (K:PySem.W.Frag) (a b:Addr):It :=
 ⟨fun i H=>∃ xs ys x y,SqT K H a xs/\SqT K H b ys/\xs[i]?=some x/\ys[i]?=some y,
  fun i H x H'=>∃ p y1 y2,H p=none/\x=.ref p/\H'=upd H p (.tup [y1,y2])/\(∀ xs,SqT K H a xs->xs[i]?=some y1)/\∀ ys,SqT K H b ys->ys[i]?=some y2,
  fun i H=>∃ xs ys,SqT K H a xs/\SqT K H b ys/\(xs[i]?=none\/ys[i]?=none)⟩
def aaF (z ti to i1 i2 a b:Addr) (i:Nat) (h:Heap):Prop:=IsZip h z ti to .none/\IsPair h ti (.ref i1) (.ref i2)/\(∃ c d,IsPair h to c d)/\h.IsTupleIter i1 a i/\h.IsTupleIter i2 b i
theorem Mh {z ti to i1 i2 a b:Addr}{i:Nat}{h:Heap}{us vs:Array Value} (D:ZipApart z ti to i1 i2 a b) (S:aaF z ti to i1 i2 a b i h) (m1:h.IsTuple a us) (m2:h.IsTuple b vs):ZAt z ti to i1 i2 a b .none us vs i i h :=
 ⟨D,S.1,S.2.1,S.2.2.1,S.2.2.2.1,S.2.2.2.2,m1,m2⟩
theorem Uo {z ti to i1 i2 b:Addr} (h:b∈([z,ti,to,i1,i2]:List Addr)):b=z\/b=ti\/b=to\/b=i1\/b=i2:=by simpa using h
theorem S9 {P:Program}{w:World}{K:PySem.W.Frag}{els:List Expr}{x1:Nat}{tpos:Pos}{z ti to i1 i2 a b:Addr} (D:ZipApart z ti to i1 i2 a b) :
  Turn P w K (.Tuple els x1 tpos) (Itz K a b) [z,ti,to,i1,i2] z (aaF z ti to i1 i2 a b) where
 mem:=by simp
 obj:=fun i h st q hq=>by
  obtain ⟨r1,r2,⟨c,d,r3⟩,⟨o4,e4,c4,d4⟩,⟨o5,e5,c5,d5⟩⟩:=st;rcases Uo hq with e | e | e | e | e <;> subst e
  .exact ⟨_,r1,fun v x=>by cases x⟩
  .exact ⟨_,r2,fun v x=>by cases x⟩
  .exact ⟨_,r3,fun v x=>by cases x⟩
  .exact ⟨o4,e4,fun v x=>by rw [d4] at x;cases x⟩
  .exact ⟨o5,e5,fun v x=>by rw [d5] at x;cases x⟩
 keep:=fun i h h' st k=>by
  obtain ⟨r1,r2,⟨c,d,r3⟩,r4,r5⟩:=st;exact ⟨k z (by simp) _ r1,k ti (by simp) _ r2,⟨c,d,k to (by simp) _ r3⟩,uJ r4 fun o e=>k i1 (by simp) o e,uJ r5 fun o e=>k i2 (by simp) o e⟩
 item:=by
  intro X hP hw hK hc i pins s σ H E I hf st hg;subst hP hw hK;obtain ⟨xs,ys,x,y,hqx,hqy,hx,hy⟩:=hg;obtain ⟨us,rx,p1,_⟩:=I.tuple hqx;obtain ⟨vs,ry,p2,_⟩:=I.tuple hqy;obtain ⟨u,hu,ru⟩:=rx.get hx;obtain ⟨v,hv,rv⟩:=ry.get hy;have S:=Mh D st (show s.heap.IsTuple a us.toArray from p1) (show s.heap.IsTuple b vs.toArray from p2);refine PB S (u:=u) (v:=v) (by simpa using hu) (by simpa using hv) fun g S1 hT hsz kp=>?_
  refine ⟨.ref s.heap.objs.size,rfl,wpAny_letOwnedTupleGo_zip (s:={ s with heap:=g }) S1.zr fun g2 hz2 e2=>?_⟩;have e2':Heap.SameBut z g g2:=e2;have lt:∀ q o,s.heap.get? q=some o->q < s.heap.objs.size:=fun q o e=>Heap.lt_size e
  have zlt:=lt _ _ st.1;have kp2:∀ q o,q≠z->q≠to->q≠i1->q≠i2->s.heap.get? q=some o->g2.get? q=some o:=fun q o n1 n2 n3 n4 e=>e2'.extBut q o n1 (kp q o n1 n2 n3 n4 e)
  have fz:=hf z (by simp);have fo:=hf to (by simp);have f1:=hf i1 (by simp);have f2:=hf i2 (by simp);have zX:=hf ti (by simp);have hTn:H s.heap.objs.size=none:=I.hok.fresh (Nat.le_refl _);have nT:∀ q o,s.heap.get? q=some o->q≠s.heap.objs.size:=fun q o e=>Nat.ne_of_lt (Heap.lt_size e)
  have hTo:g2.get? s.heap.objs.size=some { cls:=.type "tuple",data:=.seq #[u,v] }:=e2'.extBut _ _ (Nat.ne_of_gt zlt) hT
  have nch:∀ q,q ∉ ([z,to,i1,i2]:List Addr)->q≠z/\q≠to/\q≠i1/\q≠i2:=fun q hq=>by simpa using hq
  have I2:Inv X pins σ (upd H s.heap.objs.size (.tup [x,y])) { s with heap:=g2 }:=by
   refine I.step (g':=s.gens) (d':=s.drawn) (t':=s.toks) (ch:=[z,to,i1,i2]) (fun q hq=>?_) (fun q o _ _ hc e _=>kp2 q o (nch q hc).1 (nch q hc).2.1 (nch q hc).2.2.1 (nch q hc).2.2.2 e) (fun q o _ _ hc e _=>⟨o.slots,kp2 q o (nch q hc).1 (nch q hc).2.1 (nch q hc).2.2.1 (nch q hc).2.2.2 e⟩) (fun q o _ e n=>by rw [ak (nT q o e)];exact n)
    (fun q o hc e=>⟨o,kp2 q o (nch q hc).1 (nch q hc).2.1 (nch q hc).2.2.1 (nch q hc).2.2.2 e⟩) (fun q zs e=>by rw [ak (aB e hTn)];exact e) (fun q o u e=>by rw [ak (aB e hTn)];exact e) (fun q ps e=>⟨#[],by rw [ak (aB e hTn),e];simp⟩) (fun m hm=>?_) (fun q u' e=>?_) I.bare
   .have hq':q=z\/q=to\/q=i1\/q=i2:=by simpa using hq
    rcases hq' with e | e | e | e <;> subst e
    .exact ⟨fz.2.2.2.1,fz.2.1,fz.2.2.2.2.1,fz.2.2.2.2.2⟩
    .exact ⟨fo.2.2.2.1,fo.2.1,fo.2.2.2.2.1,fo.2.2.2.2.2⟩
    .exact ⟨f1.2.2.2.1,f1.2.1,f1.2.2.2.2.1,f1.2.2.2.2.2⟩
    .exact ⟨f2.2.2.2.1,f2.2.1,f2.2.2.2.2.1,f2.2.2.2.2.2⟩
   .obtain ⟨o,es,ep,ho,r⟩:=hm;exact ⟨o,es,ep,kp2 _ o (Ne.symm fz.2.1) (Ne.symm fo.2.1) (Ne.symm f1.2.1) (Ne.symm f2.2.1) ho,r⟩
   .by_cases hqT:q=s.heap.objs.size
    .subst hqT;rw [aD] at e;cases e;exact ⟨by show 2<=sizeLine;decide,[u,v],.cons ru (.cons rv .nil),⟨_,hTo,rfl,_,rfl⟩⟩
    .rw [ak hqT] at e;have nb:∀ c v,H c=some v->c≠z/\c≠to/\c≠i1/\c≠i2:=fun c v e=>⟨aB e fz.1,aB e fo.1,aB e f1.1,aB e f2.1⟩
     refine (I.hok q u' e).stay (fun c v hc r=>?_) (fun c r=>by rw [ak (aB r hTn)];exact r) (fun c zs r=>by rw [ak (aB r hTn)];exact r) (fun c _ r _=>by rw [ak (aB r hTn)];exact r);have nc:c≠z/\c≠to/\c≠i1/\c≠i2:=by
      rcases hc with k | k
      .rw [k];exact nb q u' e
      .exact nb c _ k
     exact kp2 c v nc.1 nc.2.1 nc.2.2.1 nc.2.2.2 r
  refine ⟨.ref s.heap.objs.size,_,I2,rfl,⟨s.heap.objs.size,x,y,hTn,rfl,rfl,fun ws hw=>by rw [I.tuple_inj hw hqx];exact hx,fun ws hw=>by rw [I.tuple_inj hw hqy];exact hy⟩,?_,fun q hq=>?_⟩
  .obtain ⟨c,d,ho⟩:=S1.out;exact ⟨hz2,e2'.extBut _ _ D.TIz S1.its,⟨c,d,e2'.extBut _ _ D.TOz ho⟩,S1.one.extBut e2'.extBut D.i1z,S1.two.extBut e2'.extBut D.i2z⟩
  .have hn:∀ {q o},s.heap.get? q=some o->H q=none->upd H s.heap.objs.size (.tup [x,y]) q=none:=fun e n=>by rw [ak (nT _ _ e)];exact n
   obtain ⟨r1,r2,⟨c,d,r3⟩,⟨o4,e4,_⟩,⟨o5,e5,_⟩⟩:=st;rcases Uo hq with e | e | e | e | e <;> subst e
   .exact hn r1 fz.1
   .exact hn r2 zX.1
   .exact hn r3 fo.1
   .exact hn e4 f1.1
   .exact hn e5 f2.1
 done:=by
  intro X hP hw hK hc i pins s σ H E I hf st hg;subst hP hw hK;obtain ⟨xs,ys,hqx,hqy,he⟩:=hg;obtain ⟨us,rx,p1,_⟩:=I.tuple hqx;obtain ⟨vs,ry,p2,_⟩:=I.tuple hqy;have S:=Mh D st (show s.heap.IsTuple a us.toArray from p1) (show s.heap.IsTuple b vs.toArray from p2);have l1:=rx.length;have l2:=ry.length;have he':us.toArray[i]?=none\/vs.toArray[i]?=none:=by
   rcases he with e | e
   .left;rw [List.getElem?_eq_none_iff] at e;simp;omega
   .right;rw [List.getElem?_eq_none_iff] at e;simp;omega
  refine Qq (I.ok.hd hc) S he' fun g kp=>⟨rfl,?_⟩
  have fz:=hf z (by simp);have fo:=hf to (by simp);have f1:=hf i1 (by simp);have f2:=hf i2 (by simp);have nch:∀ q,q ∉ ([z,to,i1,i2]:List Addr)->q≠z/\q≠to/\q≠i1/\q≠i2:=fun q hq=>by simpa using hq
  have kc:∀ q o,q ∉ ([z,to,i1,i2]:List Addr)->s.heap.get? q=some o->g.get? q=some o:=fun q o hc e=>kp q o (nch q hc).1 (nch q hc).2.1 (nch q hc).2.2.1 (nch q hc).2.2.2 e
  refine I.step (g':=s.gens) (d':=s.drawn) (t':=s.toks) (ch:=[z,to,i1,i2]) (fun q hq=>?_) (fun q o _ _ hc e _=>kc q o hc e) (fun q o _ _ hc e _=>⟨o.slots,kc q o hc e⟩) (fun _ _ _ _ n=>n) (fun q o hc e=>⟨o,kc q o hc e⟩)
   (fun _ _ e=>e) (fun _ _ _ e=>e) (fun q ps e=>⟨#[],by rw [e];simp⟩) (fun m hm=>?_) (fun q u' e=>?_) I.bare
  .have hq':q=z\/q=to\/q=i1\/q=i2:=by simpa using hq
   rcases hq' with e | e | e | e <;> subst e
   .exact ⟨fz.2.2.2.1,fz.2.1,fz.2.2.2.2.1,fz.2.2.2.2.2⟩
   .exact ⟨fo.2.2.2.1,fo.2.1,fo.2.2.2.2.1,fo.2.2.2.2.2⟩
   .exact ⟨f1.2.2.2.1,f1.2.1,f1.2.2.2.2.1,f1.2.2.2.2.2⟩
   .exact ⟨f2.2.2.2.1,f2.2.1,f2.2.2.2.2.1,f2.2.2.2.2.2⟩
  .obtain ⟨o,es,ep,ho,r⟩:=hm;exact ⟨o,es,ep,kp _ o (Ne.symm fz.2.1) (Ne.symm fo.2.1) (Ne.symm f1.2.1) (Ne.symm f2.2.1) ho,r⟩
  .have nb:∀ c v,H c=some v->c≠z/\c≠to/\c≠i1/\c≠i2:=fun c v e=>⟨aB e fz.1,aB e fo.1,aB e f1.1,aB e f2.1⟩
   refine (I.hok q u' e).stay (fun c v hc r=>?_) (fun c r=>r) fun c zs r=>r
   have nc:c≠z/\c≠to/\c≠i1/\c≠i2:=by
    rcases hc with k | k
    .rw [k];exact nb q u' e
    .exact nb c _ k
   exact kp c v nc.1 nc.2.1 nc.2.2.1 nc.2.2.2 r
 self:=fun _ _ _ _ _ st h=>wpAny_pyIter_zip st.1 h
section
variable {X:Cx}
theorem boot_zip:bootBuiltins "zip"=some (.type "zip"):=by decide +kernel
def ac8 (K:PySem.W.Frag) (ta:TA):TI:=fun σ H R=>ta σ H fun vs H1=>∃ a xs b ys,vs=[.ref a,.ref b]/\SqT K H1 a xs/\SqT K H1 b ys/\R (Itz K a b) H1
theorem abk {pins:List (Addr × Obj)}{σ:St}{H:Hp}{s:Shared}{R:It->Hp->Prop}{els:List Expr}{x1:Nat}{tpos:Pos}{a b:Addr}{xs ys:List V}{E:Value->Shared->Prop} (I:Inv X pins σ H s) (hx:SqT X.K H a xs) (hy:SqT X.K H b ys) (q:R (Itz X.K a b) H) :
  wpAny (model X.prog X.w) X.A (call (.type "zip") [.ref a,.ref b]) (fun v s1=>wpAny (model X.prog X.w) X.A (pyIter v) (PIE X pins σ (.Tuple els x1 tpos) R) E s1) E s:=by
 obtain ⟨us,rx,p1,_⟩:=I.tuple hx;obtain ⟨vs,ry,p2,_⟩:=I.tuple hy;refine SM (show s.heap.IsTuple a us.toArray from p1) (show s.heap.IsTuple b vs.toArray from p2) fun g S hsz kp=>?_
 refine wpAny_pyIter_zip (s:={ s with heap:=g }) S.zr ?_;have I1:Inv X pins σ H { s with heap:=g }:=I.kept (t':=s.toks) kp;refine ⟨s.heap.objs.size+4,_,_,_,H,rfl,I1,S9 S.ap,⟨S.zr,S.its,S.out,S.one,S.two⟩,fun c hc=>?_,q⟩;have hle:s.heap.objs.size<=c:=by
  rcases Uo hc with e | e | e | e | e <;> subst e
  .exact Nat.le_add_right _ _
  .exact Nat.le_add_right _ _
  .exact Nat.le_add_right _ _
  .exact Nat.le_refl _
  .exact Nat.le_add_right _ _
 exact I.fpOk hle (I.hok.fresh hle)
theorem Zw {a b:Expr}{ta:TA}{p pos tpos:Pos}{els:List Expr}{x1:Nat} (hg:Gl X "zip") (hm:X.mg "zip"=none) (ha:PA X [a,b] ta) (hs:starEach [a,b] X.env=[(false,eval a X.env),(false,eval b X.env)]) (hs2:starEach [b] X.env=[(false,eval b X.env)]) :
  PI X (.Tuple els x1 tpos) (.Call (.Name "zip" p) [a,b] [] pos) (ac8 X.K ta):=by
 intro pins s σ H R I h;refine Call_ (lE I hg hm boot_zip (PyProof.Rows.callWith_type1 (thn (ha pos pins s σ H _ I h) fun us s1 ⟨vs,H1,I1,r1,q1⟩=>?_) (by rw [hs,hs2]) (by rw [hs2];rfl)));obtain ⟨c,xs,d,ys,rfl,hx,hy,q⟩:=q1;obtain ⟨u,v,rfl,ru,rv⟩:=vals2 r1;cases ru;cases rv;exact abk I1 hx hy q
def Itd (hi:Int) (n:Nat):It:=⟨fun i _=>i < n,fun i H x H'=>H'=H/\x=.int (hi - i),fun i _=>n<=i⟩
theorem Sx {P:Program}{w:World}{K:PySem.W.Frag}{tg:Expr} (it:Addr) (hi:Int) (n:Nat):Turn P w K tg (Itd hi n) [it] it (fun i h=>IsRangeIter h it (hi+(i:Nat) * (-1)) ((n:Int) - (i:Nat)) (-1)) where
 mem:=by simp
 obj:=fun i h st b hb=>by
  rw [List.mem_singleton.mp hb];exact ⟨_,st,fun v z=>by
   have z':Data.fields _=Data.cell v:=z;cases z'⟩
 keep:=fun i h h' st k=>k it (by simp) _ st
 item:=by
  intro X hP hw hK hc i pins s σ H E I hf st hg;subst hP hw hK;obtain ⟨f0,f1,f2,f3,f4,f5⟩:=hf it (by simp);have W:=Walks.range (prog:=X.prog) (w:=X.w) (I.ok.hd hc) it hi (-1) n;refine W.item i s _ _ hg st fun v h' tk hv st' kk=>?_
  obtain ⟨t,rfl⟩:=hv;have I1:Inv X pins σ H { s with heap:=h',toks:=tk }:=I.turned (fun b o hb e=>kk b o (by simpa using hb) e) f0 f1 f3 f4 f5;refine ⟨_,rfl,Hq (s:={ s with heap:=h',toks:=tk }) (n:="range_iterator") st' rfl rfl (by decide) ⟨.int (hi - i),H,I1,⟨t,?_⟩,⟨rfl,rfl⟩,st',fun b hb=>(hf b hb).1⟩⟩
  rw [show hi+(i:Int) * (-1)=hi - (i:Int) by omega]
 done:=by
  intro X hP hw hK hc i pins s σ H E I hf st hg;subst hP hw hK;obtain ⟨f0,f1,f2,f3,f4,f5⟩:=hf it (by simp);exact wpAny_pyNext_range_end (I.ok.hd hc) st (by have:n<=i:=hg;omega) fun h' eb=>⟨rfl,I.turned (t':=s.toks) (fun b o hb e=>eb b o hb e) f0 f1 f3 f4 f5⟩
 self:=fun _ _ _ _ _ st h=>wpAny_pyIter_rangeiter st h
def acX (ta:TA):TI:=fun σ H R=>ta σ H fun vs H1=>∃ i j:Int,vs=[.int i,.int j,.int (-1)]/\(-(2 ^ 30)<=i/\i < 2 ^ 30/\-(2 ^ 30)<=j/\j < 2 ^ 30)/\R (Itd i (i - j).toNat) H1
theorem Yu {tg a b c:Expr}{ta:TA}{p pos:Pos} (hg:Gl X "range") (hm:X.mg "range"=none) (ha:PA X [a,b,c] ta) (hs:starEach [a,b,c] X.env=[(false,eval a X.env),(false,eval b X.env),(false,eval c X.env)]) (hs2:starEach [b,c] X.env=[(false,eval b X.env),(false,eval c X.env)]) :
  PI X tg (.Call (.Name "range" p) [a,b,c] [] pos) (acX ta):=by
 intro pins s σ H R I h;refine Call_ (lE I hg hm boot_range (PyProof.Rows.callWith_type1 (thn (ha pos pins s σ H _ I h) fun us s1 ⟨vs,H1,I1,r1,q1⟩=>?_) (by rw [hs,hs2]) (by rw [hs2];rfl)));obtain ⟨i,j,e,⟨q1,q2,q3,q4⟩,q⟩:=q1;subst e;cases r1 with
 | cons r rr =>
  obtain ⟨u2,u3,rfl,r2,r3⟩:=vals2 rr;obtain ⟨t1,rfl⟩:=r;obtain ⟨t2,rfl⟩:=r2;obtain ⟨t3,rfl⟩:=r3;refine call_range_3 (by decide) ?_ (.inl (PyProof.noPylong_small (by omega)));refine wpAny_pyIter_range (IsRange.new ..) (PySem.W.small_down (by omega) (by omega) (by omega) (by omega)) ?_;have I2:Inv X pins σ H1 { s1 with heap:=s1.heap.push { cls:=.type "range",data:=.fields #[.int i t1,.int j t2,.int (-1) t3] },toks:=s1.toks }:=I1.kept fun b o e=>Heap.get?_push_of_some _ e
  refine ⟨_,[_],_,_,H1,rfl,I2.kept (t':=s1.toks) fun b o e=>Heap.get?_push_of_some _ e,Sx _ i (i - j).toNat,?_,fun b hb=>?_,q⟩
  .have e1:i+((0:Nat):Int) * (-1)=i:=by simp
   have e2:(((i - j).toNat:Nat):Int) - ((0:Nat):Int)=Builtin.Range.rangeSize i j (-1):=by rw [PySem.W.rangeSize_downNat];simp
   show IsRangeIter _ _ (i+((0:Nat):Int) * (-1)) ((((i - j).toNat:Nat):Int) - ((0:Nat):Int)) (-1)
   rw [e1,e2];exact Heap.get?_push_size _ rfl
  .rw [List.mem_singleton.mp hb];exact I2.fpOk (Nat.le_refl _) (I2.hok.fresh (Nat.le_refl _))
end
end Mi
namespace Mi
open PySem L2
open PyProof.Rows hiding St
def atV:List (D × Addr × Value)->List V->D->Option V
 | x::xs,y::ys,k=>if x.1=k then some y else atV xs ys k
 | _,_,_=>none
theorem MN {k:D}:∀ {xs:List (D × Addr × Value)}{ys:List V},Vals ys (xs.map (·.2.2))->(∃ v p,atV xs ys k=some v/\atKey xs k=some p/\RelV v p.2)\/(atV xs ys k=none/\atKey xs k=none)
 | [],[],_=>.inr ⟨rfl,rfl⟩
 | [],_::_,h=>by cases h
 | _::_,[],h=>by cases h
 | x::xs,y::ys,h=>by
  cases h with
  | cons r rs =>
   by_cases e:x.1=k
   .refine .inl ⟨y,x.2,if_pos e,?_,r⟩;unfold atKey;rw [List.find?_cons_of_pos (by simpa using e)];rfl
   .have e1:atV (x::xs) (y::ys) k=atV xs ys k:=if_neg e;have e2:atKey (x::xs) k=atKey xs k:=by
     unfold atKey;rw [List.find?_cons_of_neg (by simpa using e)]
    rw [e1,e2];exact MN rs
section
variable {X:Cx}
def WD (X:Cx):R2:=fun x y H Q=>∃ k a ks xs ys v,Rp (gOf X) H k y/\isKey k=true/\x=.ref a/\DictR X H a ks xs ys/\atV xs ys k=some v/\Q v H
theorem Yq (hu:X.A.units+100 < cLine):IxR X (WD X):=by
 intro value slice pins s σ H x y v u Q I rx ry h hs;obtain ⟨k,a,ks,xs,ys,z,r1,hk,rfl,d,hv,q⟩:=h;cases rx;obtain ⟨_,_,ds,rfl⟩:=nJ hk;rw [Rp] at r1;obtain ⟨b,zs,rfl,sq,rs⟩:=id r1;cases ry;obtain ⟨h1,h2,h3,h4⟩:=dictOf I d;have hin:X.A.in1.units=X.A.units+1:=rfl;rcases MN (k:=.tup ds) h3 with ⟨z',p,e1,e2,rp⟩ | ⟨e1,_⟩
 .rw [hv] at e1;cases e1;exact subscriptTail_builtinR (x:=p.2) h4.typeIs slot_dict_getitem.lookup
   (wpAny_getItem_heap (Q:=fun r s'=>r=p.2/\EP X pins σ Q r s') (knd:=mC X.prog X.w) (by show X.A.in1.units+10 < cLine;omega) (Ph I hk (by rw [Rp];exact ⟨b,zs,rfl,sq,rs⟩)) h4 e2 ⟨rfl,z,H,I.tok _,rp,q⟩) hs
 .rw [hv] at e1;cases e1
end
end Mi
namespace Mi
open PySem L2
open PyProof.Rows hiding St
section
variable {prog:Program}{w:World}{A:Around}{E:Value->Shared->Prop}{s:Shared}
end
section
variable {X:Cx}
end
end Mi
namespace PySem
open Builtin
theorem EY:fillsNumberSlot (.type "tuple") "mul"=pure false:=fillsNumberSlot_seq (id:="tuple.__mul__") (r:=some (.builtin "tuple.__rmul__")) F.slot_tuple_mul.lookup (by decide +kernel) F.slot_tuple_rmul.lookup (by decide +kernel)
theorem Sq:seqRepeat? (.type "tuple")=pure (some (.builtin "tuple.__mul__")):=by
 unfold seqRepeat?; rw [seqSlot_of (T:="tuple") (name:="__mul__") (id:="tuple.__mul__") F.slot_tuple_mul.lookup (by decide +kernel),seqSlot_of (T:="tuple") (name:="__rmul__") (id:="tuple.__rmul__") F.slot_tuple_rmul.lookup (by decide +kernel)]; rfl
theorem Mz (a:Int) (t:Tok) (l:Addr) (dd:Option Addr) (sl:Array (Option Value)) (items:Array Value) (n:Nat):Meets (Builtin.«int.__rmul__» ⟨[.int a t,.ref l],[]⟩) (fun _ R s=>s.heap.get? l=some ⟨.type "tuple",dd,.seq items n,sl⟩ /\ R (.ok (.ret Value.notImplemented)) s) :=
 .of_wp fun prog w A R s h=>by
  obtain ⟨hp,g,d,tk,os⟩:=s;obtain ⟨hl,h⟩:=h;have hT:(⟨hp,g,d,tk,os⟩:Shared).TypeIs (.ref l) "tuple":=⟨_,hl,rfl⟩
  wp_walk;exact ⟨_,rfl,h⟩
theorem aaR (l:Addr) (dd:Option Addr) (sl:Array (Option Value)) (items:Array Value) (n:Nat) (x:Int) (u:Tok) (h0:items.isEmpty=false) (h1:2<=x) (h2:x<=1000) (h3:items.size<=1000) :
  Meets (Builtin.«tuple.__mul__» ⟨[.ref l,.int x u],[]⟩) (fun _ R s=>s.heap.get? l=some ⟨.type "tuple",dd,.seq items n,sl⟩ /\ R (.ok (.ret (Value.ref s.heap.objs.size))) { s with heap:=s.heap.push { cls:=Value.type "tuple",data:=Data.seq (List.foldl (fun x1 x2=>x1 ++ x2) #[] (List.replicate x.toNat items)) },toks:=s.toks }) :=
 .of_wp fun prog w A R s h=>by
  obtain ⟨hp,g,d,tk,os⟩:=s;obtain ⟨hl,h⟩:=h;have hT:(⟨hp,g,d,tk,os⟩:Shared).TypeIs (.ref l) "tuple":=⟨_,hl,rfl⟩
  have c1:(decide (x < -2 ^ 63) || decide (x ≥ 2 ^ 63))=false:=by
   rw [Bool.or_eq_false_iff];exact ⟨decide_eq_false (by omega),decide_eq_false (by omega)⟩
  have c2:(items.isEmpty || x == 1)=false:=by
   rw [Bool.or_eq_false_iff];exact ⟨h0,beq_eq_false_iff_ne.mpr (by omega)⟩
  have c3:(decide (x<=0) || items.isEmpty)=false:=by
   rw [Bool.or_eq_false_iff];exact ⟨decide_eq_false (by omega),h0⟩
  wp_walk
  rw [c1,if_neg Bool.false_ne_true]
  wp_walk
  have cm:(items.size:Int) * x<=1000000:=by
   have h3':(items.size:Int)<=1000:=by omega
   exact Int.le_trans (Int.mul_le_mul h3' h2 (by omega) (by decide)) (by decide)
  have cm0:0<=(items.size:Int) * x:=Int.mul_nonneg (by omega) (by omega);have c4:¬ ((items.size:Int) * x > (2 ^ 63 - 1) / 8):=by
   have:(2 ^ 63 - 1:Int) / 8=1152921504606846975:=by decide
   omega
  have c5:Tuple.tupleTooMany ((items.size:Int) * x)=false:=by
   unfold Tuple.tupleTooMany;refine decide_eq_false ?_;have:(1000000:Nat)<=sizeLine:=by decide
   omega
  have cs:sizeOk (.seq (List.foldl (fun x1 x2=>x1++x2) #[] (List.replicate x.toNat items))):=by
   have e:∀ (k:Nat) (acc:Array Value),(List.foldl (fun x1 x2=>x1++x2) acc (List.replicate k items)).size=acc.size+k * items.size:=fun k=>by
    induction k with
    | zero=>intro acc;simp
    | succ k ih=>intro acc;rw [List.replicate_succ,List.foldl_cons,ih,Array.size_append,Nat.succ_mul];omega
   show (List.foldl (fun x1 x2=>x1++x2) #[] (List.replicate x.toNat items)).size<=sizeLine
   rw [e];have e0:(#[]:Array Value).size=0:=rfl;have e1:((x.toNat * items.size:Nat):Int)=(items.size:Int) * x:=by
    rw [Int.natCast_mul,Int.toNat_of_nonneg (by omega),Int.mul_comm]
   have:(1000000:Nat)<=sizeLine:=by decide
   omega
  rw [c2,if_neg Bool.false_ne_true];dsimp only;rw [c3,if_neg Bool.false_ne_true,if_neg c4,c5,if_neg Bool.false_ne_true]
  first
   | exact wpAny_bind (m:=Tuple.tupleExact _) (wpAny_newObj_type (wpAny_pure ⟨_,rfl,h⟩) cs)
   | exact wpAny_bind (m:=Tuple.tupleExact _) (wpAny_newObj_type (wpAny_pure (wpAny_pure ⟨_,rfl,h⟩)) cs)
   | exact wpAny_bind (m:=Tuple.tupleExact _) (wpAny_newObj_type (wpAny_bind (wpAny_pure (wpAny_pure ⟨_,rfl,h⟩))) cs)
theorem Yc (l:Addr) (dd:Option Addr) (sl:Array (Option Value)) (items:Array Value) (n:Nat) (u:Tok) :
  Meets (Builtin.«tuple.__mul__» ⟨[.ref l,.int 1 u],[]⟩) (fun _ R s=>s.heap.get? l=some ⟨.type "tuple",dd,.seq items n,sl⟩ /\ R (.ok (.ret (Value.ref l))) s) :=
 .of_wp fun prog w A R s h=>by
  obtain ⟨hp,g,d,tk,os⟩:=s;obtain ⟨hl,h⟩:=h;have hT:(⟨hp,g,d,tk,os⟩:Shared).TypeIs (.ref l) "tuple":=⟨_,hl,rfl⟩
  have c1:(decide ((1:Int) < -2 ^ 63) || decide ((1:Int) ≥ 2 ^ 63))=false:=by decide
  have c2:(items.isEmpty || (1:Int) == 1)=true:=by rw [Bool.or_eq_true];exact .inr rfl
  wp_walk
  exact ⟨_,rfl,h⟩
theorem Zu (l:Addr) (dd:Option Addr) (sl:Array (Option Value)) (items:Array Value) (n:Nat) (x:Int) (u:Tok) (hc0:¬(!Builtin.List.listFitsIndex x)=true) (hc1:¬items.size * x.toNat > (2 ^ 63 - 1) / 8) (hc2:¬Builtin.List.listTooLong (items.size * x.toNat)=true) :
  Meets (Builtin.«list.__mul__» ⟨[.ref l,.int x u],[]⟩) (fun _ R s=>s.heap.get? l=some ⟨.type "list",dd,.seq items n,sl⟩ /\ R (.ok (.ret (Value.ref s.heap.objs.size))) { s with heap:=s.heap.push { cls:=Value.type "list",data:=Data.seq (List.foldl (fun x1 x2=>x1 ++ x2) #[] (List.replicate (if items.isEmpty=true then 0 else x.toNat) items)) },toks:=s.toks }) :=
 .of_wp fun prog w A R s h=>by
  obtain ⟨hp,g,d,tk,os⟩:=s;obtain ⟨hl,h⟩:=h;have hsz:=AutoListH.joined_fits hc2
  wp_walk;refine wpAny_ite_false (decide_eq_false (Nat.not_lt.mpr hsz)) ?_;wp_walk;exact ⟨_,rfl,h⟩
theorem Ym (a:Int) (t:Tok) (l:Addr) (dd:Option Addr) (sl:Array (Option Value)) (items:Array Value) (n:Nat):Meets (Builtin.«int.__rmul__» ⟨[.int a t,.ref l],[]⟩) (fun _ R s=>s.heap.get? l=some ⟨.type "list",dd,.seq items n,sl⟩ /\ R (.ok (.ret .notImplemented)) s) :=
 .of_wp fun prog w A R s h=>by
  obtain ⟨hp,g,d,tk,os⟩:=s;obtain ⟨hl,h⟩:=h;have hT:(⟨hp,g,d,tk,os⟩:Shared).TypeIs (.ref l) "list":=⟨_,hl,rfl⟩
  wp_walk;exact ⟨_,rfl,h⟩
end PySem
namespace HT
open PySem PyProof.Rows
section
variable {prog:Program}{w:World}{A:Around}{E:Value->Shared->Prop}{s:Shared}
theorem vW {t sl:Addr}{items:Array Value}{vl vu:Value}{lo hi:Option Int}{Q:Value->Shared->Prop} (ht:IsTup s.heap t items) (hs:s.heap.IsSliceOf sl vl vu .none) (pl:IsPart vl lo) (pu:IsPart vu hi)
  (hw:sIx items.size 0 lo=0/\sIx items.size items.size hi=items.size) (h:Q (.ref t) s):wpAny (model prog w) A (getItem (.ref t) (.ref sl)) Q E s:=by
 obtain ⟨os,hos,hcs,hds⟩:=id hs;have hTs:s.TypeIs (.ref sl) "slice":=⟨os,hos,hcs⟩
 unfold getItem
 (try with_reducible refine wpAny_holding ?_);(first | refine wpAny_bind (wpAny_pure ?_) | skip)
 refine wpAny_bind (wpAny_sequenceKey ht.typeIs (by decide) (wpAny_bind (wpAny_callSpecial?_slot (name:=Str.ofString "__getitem__") ht.typeIs PyProof.Rows.slot_tuple_getitem
  (wpAny_call_entry PyProof.Rows.slot_tuple_getitem ht.typeIs entry_tuple_getitem ?_ (args_tuple_getitem _ _)))))
 show wpAny _ _ (Builtin.Tuple.tupleItemsOf (.ref t) >>= _) _ _ s
 refine wpAny_bind (tupleItemsOf_ ht (wpAny_bind (wpAny_typeOf hTs ?_)));rw [if_pos (by decide)];refine wpAny_bind (rH hs pl pu (show wpAny _ _ (if (((sIx items.size 0 lo:Nat):Int) == 0 && (1:Int) == 1 && (sIx items.size items.size hi - sIx items.size 0 lo) == items.size)=true then _ else _) _ _ s from ?_));rw [if_pos (by rw [hw.1,hw.2];simp)];refine wpAny_bind (m:=Builtin.Tuple.tupleIsExact _) (show wpAny _ _ (typeOf (.ref t) >>= fun y=>pure (y == .type "tuple")) _ _ _ from wpAny_bind (wpAny_typeOf ht.typeIs (wpAny_pure ?_)))
 rw [if_pos (by decide)];exact wpAny_bind (wpAny_rule (wpAny_pure ⟨_,rfl,wpAny_pure h⟩))
end
end HT
namespace L2
open PySem PySem.Spec PyProof.Rows
section
variable {X:Cx}
def Z8 (K:PySem.W.Frag):V->Option Int->Option Int->Hp->VK->Prop:=fun x lo hi H Q=>∃ a xs,x=.ref a/\SqT K H a xs/\(HT.sIx xs.length 0 lo=0/\HT.sIx xs.length xs.length hi=xs.length)/\Q (.ref a) H
theorem VJ:SlR X (Z8 X.K):=by
 intro pins s σ H x v vl vu lo hi sl Q I rx hs pl pu h;obtain ⟨a,xs,rfl,hx,hw,q⟩:=h;cases rx;obtain ⟨its,r,ht,hz⟩:=I.tuple hx;have hlen:its.toArray.size=xs.length:=by rw [List.size_toArray];exact r.length.symm
 exact ⟨"tuple",_,PyProof.Rows.slot_tuple_getitem.lookup,ht.typeIs,HT.vW ht hs pl pu (by rw [hlen]; exact hw) ⟨.ref a,H,I,rfl,q⟩⟩
def WQ (K:PySem.W.Frag):R2:=fun x y H Q=>∃ a k xs,x=.ref a/\y=.int k/\SqT K H a xs/\xs≠[]/\xs.length<=1000/\2<=k/\k<=1000/\∀ p,H p=none->Q (.ref p) (upd H p (.tup (List.replicate k.toNat xs).flatten))
theorem Y7:OpR X (binaryOp .Mult) (WQ X.K):=by
 intro pins s σ H x y v u Q I rx ry h;obtain ⟨a,k,xs,rfl,rfl,hx,hne,hl,h1,h2,q⟩:=h;cases rx;obtain ⟨t,rfl⟩:=ry;obtain ⟨its,r,ht,hz⟩:=I.tuple hx;obtain ⟨⟨cls,dd,data,sl⟩,e,hc,n,hd⟩:=ht;simp only at hc hd;subst hc hd;have hlen:=r.length;have hemp:its.toArray.isEmpty=false:=by
  cases its with
  | nil=>exact absurd (List.length_eq_zero_iff.mp hlen) hne
  | cons b l=>rfl
 have hnew:List.foldl (fun x1 x2=>x1++x2) #[] (List.replicate k.toNat its.toArray)=(List.replicate k.toNat its).flatten.toArray:=by
  have:=foldl_rep its k.toNat [];rw [List.nil_append] at this;exact this
 refine wpAny_binaryOp_repeat_ref (T:="tuple") (U:="int") (by decide) ⟨_,e,rfl⟩ (fun s'=>typeIs_int s' k t) EY F.fills_int_mul F.slot_int_rmul Sq F.slot_int_index.lookup
  (call_meets F.slot_int_rmul (typeIs_int s k t) F.entry_int_rmul (F.args_int_rmul_2 _ _) (Mz k t a dd sl its.toArray n)
   ⟨e,rfl,⟨_,e,rfl⟩,call_meets F.slot_tuple_mul ⟨_,e,rfl⟩ F.entry_tuple_mul (F.args_tuple_mul_2 _ _) (aaR a dd sl its.toArray n k t hemp h1 h2 (by rw [List.size_toArray];omega)) ⟨e,?_⟩⟩)
 rw [hnew];have hz2:(List.replicate k.toNat xs).flatten.length<=sizeLine:=by
  rw [len_rep];have h3:k.toNat * xs.length<=1000 * 1000:=Nat.mul_le_mul (by omega) hl;have:(1000 * 1000:Nat)<=sizeLine:=by decide
  omega
 refine ⟨.ref s.heap.objs.size,_,I.laid (t':=s.toks) (o:=.tup (List.replicate k.toNat xs).flatten) (fun b ob q=>Heap.get?_push_of_some _ q) (Nat.le_refl _) ?_,rfl,q _ (I.hok.fresh (Nat.le_refl _))⟩;exact ⟨hz2,_,r.rep k.toNat,IsTup.new _ _⟩
def Qs (K:PySem.W.Frag):R2:=fun x y H Q=>∃ a xs,x=.ref a/\y=.int 1/\SqT K H a xs/\Q (.ref a) H
theorem VF:OpR X (binaryOp .Mult) (Qs X.K):=by
 intro pins s σ H x y v u Q I rx ry h;obtain ⟨a,xs,rfl,rfl,hx,q⟩:=h;cases rx;obtain ⟨t,rfl⟩:=ry;obtain ⟨its,r,ht,hz⟩:=I.tuple hx;obtain ⟨⟨cls,dd,data,sl⟩,e,hc,n,hd⟩:=ht;simp only at hc hd;subst hc hd;exact wpAny_binaryOp_repeat_ref (T:="tuple") (U:="int") (by decide) ⟨_,e,rfl⟩ (fun s'=>typeIs_int s' 1 t) EY F.fills_int_mul F.slot_int_rmul Sq F.slot_int_index.lookup
  (call_meets F.slot_int_rmul (typeIs_int s 1 t) F.entry_int_rmul (F.args_int_rmul_2 _ _) (Mz 1 t a dd sl its.toArray n)
   ⟨e,rfl,⟨_,e,rfl⟩,call_meets F.slot_tuple_mul ⟨_,e,rfl⟩ F.entry_tuple_mul (F.args_tuple_mul_2 _ _) (Yc a dd sl its.toArray n t) ⟨e,⟨.ref a,H,I,rfl,q⟩⟩⟩)
def Wy (K:PySem.W.Frag):R2:=fun x y H Q=>∃ a k xs,x=.ref a/\y=.int k/\SqL K H a xs/\xs.length<=1000/\0<=k/\k<=1000/\∀ p,H p=none->Q (.ref p) (upd H p (.lst (List.replicate k.toNat xs).flatten))
theorem Yr:OpR X (binaryOp .Mult) (Wy X.K):=by
 intro pins s σ H x y v u Q I rx ry h;obtain ⟨a,k,xs,rfl,rfl,hx,hl1,h1,h2,q⟩:=h;cases rx;obtain ⟨t,rfl⟩:=ry;obtain ⟨its,r,pl,hz⟩:=I.list hx;obtain ⟨⟨cls,dd,data,sl⟩,e,hc,n,hd⟩:=pl.isList;simp only at hc hd;subst hc hd;have hl:=r.length;have hle:xs.length * k.toNat<=1000 * 1000:=Nat.mul_le_mul hl1 (by omega);have hz2:xs.length * k.toNat<=sizeLine:=Nat.le_trans hle (by decide);have hlen:its.toArray.size * k.toNat<=sizeLine:=by rw [List.size_toArray,<- hl];exact hz2
 have hcap:¬ its.toArray.size * k.toNat > (2 ^ 63 - 1) / 8:=by
  have:(sizeLine:Nat)<=(2 ^ 63 - 1) / 8:=by decide
  omega
 have hfit:¬ (!Builtin.List.listFitsIndex k)=true:=by
  rw [fitsIndex_both (by omega) (by omega)];exact Bool.false_ne_true
 have hlong:¬ Builtin.List.listTooLong (its.toArray.size * k.toNat)=true:=by
  rw [Ud hlen];exact Bool.false_ne_true
 have hnew:List.foldl (fun x1 x2=>x1++x2) #[] (List.replicate (if its.toArray.isEmpty=true then 0 else k.toNat) its.toArray)=(List.replicate k.toNat its).flatten.toArray:=by
  have f0:∀ m:Nat,List.foldl (fun x1 x2=>x1++x2) #[] (List.replicate m its.toArray)=(List.replicate m its).flatten.toArray:=fun m=>by
   have:=foldl_rep its m [];rw [List.nil_append] at this;exact this
  rw [f0];cases its with
  | nil=>simp
  | cons a r'=>rw [if_neg (by simp)]
 refine wpAny_binaryOp_repeat_ref (T:="list") (U:="int") (by decide) ⟨_,e,rfl⟩ (fun s'=>typeIs_int s' k t) noFill_list_mul F.fills_int_mul F.slot_int_rmul repeat_list F.slot_int_index.lookup
  (call_meets F.slot_int_rmul (typeIs_int s k t) F.entry_int_rmul (F.args_int_rmul_2 _ _) (Ym k t a dd sl its.toArray n)
   ⟨e,rfl,⟨_,e,rfl⟩,call_meets F.slot_list_mul ⟨_,e,rfl⟩ F.entry_list_mul (F.args_list_mul_2 _ _) (Zu a dd sl its.toArray n k t hfit hcap hlong) ⟨e,?_⟩⟩)
 rw [hnew];exact ⟨.ref _,_,I.lnew (t':=s.toks) (r.rep k.toNat) (by rw [len_rep,Nat.mul_comm];exact hz2),rfl,q _ I.fresh⟩
end
end L2
namespace Mi
open PySem L2
inductive M where
 | var (i:Nat) | con (d:D)
 | tup (es:List M) | lst (es:List M) | dct0
 | bin (op:BO) (a b:M) | cmp (op:CO) (a b:M) | chain (p q:CO) (a b c:M)
 | and (es:List M) | or (es:List M) | not (a:M) | neg (a:M) | ite (c a b:M)
 | ix (a b:M) | slc (a lo hi:M)
 | dget (a k d:M) | mth (f:MT) (a b:M) | fmt (s:Str) (a b:M)
 | call (f:Nat) (es:List M) | blt (f:BI) (es:List M) | isin (a:M) (t:Ty)
 | comp (elt:M) (tg:Tg) (k:IK) (src:List M) (hc:Bool) (c:M) (cap:List Bool)
noncomputable def bW:D->R Bool
 | .bl b=>.ok b
 | _=>.stuck
def aax:M->Bool
 | .comp ..=>true
 | _=>false
noncomputable def yu (c:M):D->R Bool
 | .bl b=>.ok b
 | .lst ds=>if aax c=true then .ok (!ds.isEmpty) else .stuck
 | _=>.stuck
noncomputable def mZ:D->R (Option Int)
 | .int i=>.ok (some i)
 | _=>.stuck
noncomputable def dg:M->Bool
 | .con .non=>true
 | _=>false
noncomputable def cutD (ds:List D) (lo hi:Option Int):List D:=(ds.drop (HT.sIx ds.length 0 lo)).take (HT.sIx ds.length ds.length hi - HT.sIx ds.length 0 lo)
noncomputable def slD (d:D) (lo hi:Option Int):R D:=match d with
 | .lst ds=>.ok (.lst (cutD ds lo hi))
 | .tup ds=>if HT.sIx ds.length 0 lo=0/\HT.sIx ds.length ds.length hi=ds.length then .ok (.tup ds) else .ok (.tup (cutD ds lo hi))
 | .str z=>if z.length<=lim then .ok (.str (xH z lo hi)) else .stuck
 | _=>.stuck
noncomputable def Ai:D->R D
 | .lst ds=>.ok (.int ds.length)
 | .tup ds=>.ok (.int ds.length)
 | .str z=>if z.length<=lim then .ok (.int z.length) else .stuck
 | _=>.stuck
def Lx (d:D):R D:=do
 let ds <- acE d
 if abR ds then .ok (.lst (Ww ds)) else .stuck
def jH:BI->List D->R D
 | .len,[d]=>Ai d
 | .min2,[.int a,.int b]=>.ok (.int (if b < a then b else a))
 | .max2,[.int a,.int b]=>.ok (.int (if b > a then b else a))
 | .all,[.lst ds]=>(match boolsOf ds with | some bs=>.ok (.bl (bs.all id)) | none=>.stuck)
 | .any,[.lst ds]=>(match boolsOf ds with | some bs=>.ok (.bl (bs.any id)) | none=>.stuck)
 | .sorted,[d]=>Lx d
 | .list,[.lst ds]=>.ok (.lst ds)
 | .list,[.tup ds]=>.ok (.lst ds)
 | .tuple,[.lst ds]=>.ok (.tup ds)
 | .tuple,[.tup ds]=>.ok (.tup ds)
 | .listEnum,[.tup ds]=>.ok (.lst (bT 0 ds))
 | .listRev,[.lst ds]=>.ok (.lst ds.reverse)
 | .str,[d]=>ado d
 | .int,[d]=>intD d
 | _,_=>.stuck
def W0:D->D->D->R D
 | .dct ks vs,k,z=>if keyB k then .ok ((vI ks vs k).getD z) else .stuck
 | _,_,_=>.stuck
noncomputable def fu:Tg->D->En->R En
 | .one i,d,ρ=>.ok (ρ.set i (some d))
 | .two i j,.tup [a,b],ρ=>.ok ((ρ.set i (some a)).set j (some b))
 | _,_,_=>.stuck
def dF (f:D->R (Option D)):List D->R (List D)
 | []=>.ok []
 | d::ds=>do
  let y <- f d
  let ys <- dF f ds
  .ok (match y with | some y=>y::ys | none=>ys)
noncomputable def cY (ρ:En) (i:Nat):R D:=match ρ[i]? with | some (some d)=>.ok d | _=>.stuck
mutual
def evE (cl:Nat->List D->R D):M->En->R D
 | .var i,ρ=>cY ρ i
 | .con d,_=>.ok d
 | .tup es,ρ=>do let ds <- aW cl es ρ;if ds.length<=lim then .ok (.tup ds) else .stuck
 | .lst es,ρ=>do let ds <- aW cl es ρ;if ds.length<=lim then .ok (.lst ds) else .stuck
 | .dct0,_=>.ok (.dct [] [])
 | .bin op a b,ρ=>do let x <- evE cl a ρ;let y <- evE cl b ρ;fQ op x y
 | .cmp op a b,ρ=>do let x <- evE cl a ρ;let y <- evE cl b ρ;let r <- aY op x y;.ok (.bl r)
 | .chain p q a b c,ρ=>do
  let x <- evE cl a ρ
  let y <- evE cl b ρ
  let r <- aY p x y
  if r then do let z <- evE cl c ρ;let r2 <- aY q y z;.ok (.bl r2) else .ok (.bl false)
 | .and es,ρ=>jT cl es ρ
 | .or es,ρ=>mJ cl es ρ
 | .not a,ρ=>do let x <- evE cl a ρ;let t <- bW x;.ok (.bl (!t))
 | .neg a,ρ=>do let x <- evE cl a ρ;(match x with | .int i=>.ok (.int (-i)) | _=>.stuck)
 | .ite c a b,ρ=>do let x <- evE cl c ρ;let t <- bW x;if t then evE cl a ρ else evE cl b ρ
 | .ix a b,ρ=>do let x <- evE cl a ρ;let y <- evE cl b ρ;ixD x y
 | .slc a lo hi,ρ=>do
  let x <- evE cl a ρ
  let l <- (if dg lo then .ok none else (do let d <- evE cl lo ρ;mZ d))
  let h <- (if dg hi then .ok none else (do let d <- evE cl hi ρ;mZ d))
  slD x l h
 | .dget a k d,ρ=>do let x <- evE cl a ρ;let y <- evE cl k ρ;let z <- evE cl d ρ;W0 x y z
 | .mth f a b,ρ=>do let x <- evE cl a ρ;let y <- evE cl b ρ;aag f x y
 | .fmt s a b,ρ=>do let x <- evE cl a ρ;let y <- evE cl b ρ;aas s x y
 | .call f es,ρ=>do let ds <- aW cl es ρ;cl f ds
 | .blt f es,ρ=>do let ds <- aW cl es ρ;jH f ds
 | .isin a t,ρ=>do let x <- evE cl a ρ;.ok (.bl (jc x t))
 | .comp elt tg k src hc c cap,ρ=>do
  let ss <- aW cl src ρ
  let items <- itemsOf k ss
  let ys <- dF (fun d=>do
   let ρ' <- fu tg d (aZ cap ρ)
   let t <- (if hc then (do let x <- evE cl c ρ';bW x) else .ok true)
   if t then do let y <- evE cl elt ρ';.ok (some y) else .ok none) items
  if ys.length<=lim then .ok (.lst ys) else .stuck
def aW (cl:Nat->List D->R D):List M->En->R (List D)
 | [],_=>.ok []
 | e::es,ρ=>do let d <- evE cl e ρ;let ds <- aW cl es ρ;.ok (d::ds)
def jT (cl:Nat->List D->R D):List M->En->R D
 | [],_=>.stuck
 | [e],ρ=>do let x <- evE cl e ρ;let t <- bW x;.ok (.bl t)
 | e::e'::es,ρ=>do let x <- evE cl e ρ;let t <- bW x;if t then jT cl (e'::es) ρ else .ok (.bl false)
def mJ (cl:Nat->List D->R D):List M->En->R D
 | [],_=>.stuck
 | [e],ρ=>do let x <- evE cl e ρ;let t <- bW x;.ok (.bl t)
 | e::e'::es,ρ=>do let x <- evE cl e ρ;let t <- bW x;if t then .ok (.bl true) else mJ cl (e'::es) ρ
end
inductive MS where
 | set (t:Tg) (e:M) | app (i:Nat) (e:M) | ext (i:Nat) (e:M) | put (i:Nat) (k v:M)
 | putB (i:Nat) (k v:M) | pop (i:Nat) (e:M) | callm (i f:Nat) (e:M) | retO (i:Nat) | setF (i f:Nat) (es:List M)
 | expr (e:M) | ret (e:M) | ifs (c:M) (a b:List MS) | forr (t:Tg) (k:IK) (src:List M) (b:List MS)
 | pass | brk | cnt | rai
 | setB (t:Tg) (e:M) | setC (t:Tg) (e:M)
 | chk (j:Nat) (e:M)
inductive Out where
 | nx (ρ:En) | rt (d:D) | bk (ρ:En) | ct (ρ:En) | ro (d:D)
noncomputable def bK:En->En->En
 | a::as,b::bs=>(if a.isSome then b else none)::bK as bs
 | [],bs=>bs.map fun _=>none
 | _,[]=>[]
def lQ (f:D->En->R Out) (ρ₀:En):List D->En->R Out
 | [],ρ=>.ok (.nx ρ)
 | d::ds,ρ=>do
  let o <- f d ρ
  match o with
  | .nx ρ'=>lQ f ρ₀ ds (bK ρ₀ ρ')
  | .ct ρ'=>lQ f ρ₀ ds (bK ρ₀ ρ')
  | .bk ρ'=>.ok (.nx (bK ρ₀ ρ'))
  | .rt d=>.ok (.rt d)
  | .ro d=>.ok (.ro d)
noncomputable def Ak:D->D->R D
 | .lst ds,d=>if ds.length < lim then .ok (.lst (ds++[d])) else .stuck
 | _,_=>.stuck
noncomputable def abT:D->D->R D
 | .lst ds,.lst es=>if ds.length+es.length<=lim then .ok (.lst (ds++es)) else .stuck
 | .lst ds,.tup es=>if ds.length+es.length<=lim then .ok (.lst (ds++es)) else .stuck
 | _,_=>.stuck
def putD:D->D->D->R D
 | .dct ks vs,k,v=>if isKey k/\ks.length < lim/\ks.length=vs.length then .ok (.dct (Wr ks vs k v).1 (Wr ks vs k v).2) else .stuck
 | _,_,_=>.stuck
noncomputable def abh:D->D->R D
 | .lst ds,.int i=>if ds.length<=lim then (match ixN ds.length i with | some k=>.ok (.lst (ds.eraseIdx k)) | none=>.stuck) else .stuck
 | _,_=>.stuck
mutual
noncomputable def lfD:D->Bool
 | .tup ds=>JM ds
 | .lst _=>false
 | .dct _ _=>false
 | _=>true
noncomputable def JM:List D->Bool
 | []=>true
 | d::ds=>lfD d && JM ds
end
def lfL:D->Bool
 | .lst ds=>JM ds
 | _=>false
noncomputable def lfC:D->Bool
 | .dct ks vs=>JM ks && JM vs
 | _=>false
noncomputable def adE (ρ:En):D->R Out
 | .bl true=>.ok (.nx ρ)
 | _=>.stuck
mutual
def bU (cl:Nat->List D->R D):MS->En->R Out
 | .set t e,ρ=>do let d <- evE cl e ρ;let ρ' <- fu t d ρ;.ok (.nx ρ')
 | .app i e,ρ=>do let l <- cY ρ i;let d <- evE cl e ρ;let l' <- Ak l d;.ok (.nx (ρ.set i (some l')))
 | .ext i e,ρ=>do let l <- cY ρ i;let d <- evE cl e ρ;let l' <- abT l d;.ok (.nx (ρ.set i (some l')))
 | .put i k v,ρ=>do
  let dv <- evE cl v ρ
  let l <- cY ρ i
  let dk <- evE cl k ρ
  let l' <- putD l dk dv
  .ok (.nx (ρ.set i (some l')))
 | .putB i k v,ρ=>do
  let dv <- evE cl v ρ
  let l <- cY ρ i
  let dk <- evE cl k ρ
  let l' <- putD l dk dv
  if lfD dv && lfD dk then .ok (.nx (ρ.set i (some l'))) else .stuck
 | .pop i e,ρ=>do let l <- cY ρ i;let d <- evE cl e ρ;let l' <- abh l d;.ok (.nx (ρ.set i (some l')))
 | .callm i f e,ρ=>do let d <- evE cl e ρ;let l <- cY ρ i;let l' <- cl (1000+f) [d,l];.ok (.nx (ρ.set i (some l')))
 | .retO i,ρ=>do let d <- cY ρ i;.ok (.ro d)
 | .setF i f es,ρ=>do let ds <- aW cl es ρ;let d <- cl (2000+f) ds;if lfC d then .ok (.nx (ρ.set i (some d))) else .stuck
 | .expr e,ρ=>do let _ <- evE cl e ρ;.ok (.nx ρ)
 | .ret e,ρ=>do let d <- evE cl e ρ;.ok (.rt d)
 | .ifs c a b,ρ=>do
  let x <- evE cl c ρ
  let t <- yu c x
  if t then cZ cl a ρ else cZ cl b ρ
 | .forr t k src b,ρ=>do
  let ss <- aW cl src ρ
  let items <- itemsOf k ss
  lQ (fun d ρ=>do let ρ1 <- fu t d ρ;cZ cl b ρ1) ρ items ρ
 | .pass,ρ=>.ok (.nx ρ)
 | .brk,ρ=>.ok (.bk ρ)
 | .cnt,ρ=>.ok (.ct ρ)
 | .rai,ρ=>.stuck
 | .chk _ e,ρ=>do let d <- evE cl e ρ;let r <- cl 5000 [d];adE ρ r
 | .setB t e,ρ=>do let d <- evE cl e ρ;if lfD d then (do let ρ' <- fu t d ρ;.ok (.nx ρ')) else .stuck
 | .setC t e,ρ=>do let d <- evE cl e ρ;if lfL d then (do let ρ' <- fu t d ρ;.ok (.nx ρ')) else .stuck
def cZ (cl:Nat->List D->R D):List MS->En->R Out
 | [],ρ=>.ok (.nx ρ)
 | m::ms,ρ=>do
  let o <- bU cl m ρ
  match o with
  | .nx ρ'=>cZ cl ms ρ'
  | o=>.ok o
end
mutual
noncomputable def aJ:M->List Nat
 | .var i=>[i]
 | .con _=>[]
 | .tup es=>aM es
 | .lst es=>aM es
 | .dct0=>[]
 | .bin _ a b=>aJ a++aJ b
 | .cmp _ a b=>aJ a++aJ b
 | .chain _ _ a b c=>aJ a++(aJ b++aJ c)
 | .and es=>aM es
 | .or es=>aM es
 | .not a=>aJ a
 | .neg a=>aJ a
 | .ite c a b=>aJ c++(aJ a++aJ b)
 | .ix a b=>aJ a++aJ b
 | .slc a b c=>aJ a++(aJ b++aJ c)
 | .dget a b c=>aJ a++(aJ b++aJ c)
 | .mth _ a b=>aJ a++aJ b
 | .fmt _ a b=>aJ a++aJ b
 | .call _ es=>aM es
 | .blt _ es=>aM es
 | .isin a _=>aJ a
 | .comp elt _ _ src _ c _=>aM src++(aJ c++aJ elt)
noncomputable def aM:List M->List Nat
 | []=>[]
 | e::es=>aJ e++aM es
end
def without (O U:List Nat):List Nat:=O.filter fun i=>!U.contains i
noncomputable def bD:Tg->List Nat
 | .one i=>[i]
 | .two i j=>[i,j]
noncomputable def Qn:M->Bool
 | .lst _=>true
 | .dct0=>true
 | .blt .list _=>true
 | .bin .add _ (.lst _)=>true
 | _=>false
abbrev Ow:=Option (List Nat)
noncomputable def iu:Ow->Ow->Ow
 | none,b=>b
 | a,none=>a
 | some a,some b=>some (a.filter fun i=>b.contains i)
mutual
noncomputable def tV (inv:List Nat):MS->List Nat->Option Ow
 | .set (.one i) e,O=>some (some (if Qn e then i::without (without O (aJ e)) [i] else without (without O (aJ e)) [i]))
 | .set (.two i j) e,O=>some (some (without (without O (aJ e)) [i,j]))
 | .app i e,O=>if (without O (aJ e)).contains i then some (some (without O (aJ e))) else none
 | .ext i e,O=>if (without O (aJ e)).contains i then some (some (without O (aJ e))) else none
 | .put i k v,O=>if (without O (aJ k++aJ v)).contains i then some (some (without O (aJ k++aJ v))) else none
 | .putB i k v,O=>if O.contains i then some (some O) else none
 | .pop i e,O=>if (without O (aJ e)).contains i then some (some (without O (aJ e))) else none
 | .callm i f e,O=>if (without O (aJ e)).contains i then some (some (without O (aJ e))) else none
 | .retO i,O=>if O.contains i then some none else none
 | .setF i f es,O=>some (some (i::without (without O (aM es)) [i]))
 | .expr e,O=>some (some (without O (aJ e)))
 | .ret e,O=>some none
 | .ifs c a b,O=>do
  let x <- fU inv a O
  let y <- fU inv b O
  some (iu x y)
 | .forr t k src b,O=>do
  let O1:=without (without O (aM src)) (bD t)
  let x <- fU O1 b O1
  let O2:=(iu (some O1) x).getD []
  let y <- fU O2 b O2
  match y with
  | none=>some (some O2)
  | some O3=>if O2.all (fun i=>O3.contains i) then some (some O2) else none
 | .pass,O=>some (some O)
 | .brk,O=>if inv.all (fun i=>O.contains i) then some none else none
 | .cnt,O=>if inv.all (fun i=>O.contains i) then some none else none
 | .rai,O=>some none
 | .chk _ e,O=>some (some (without O (aJ e)))
 | .setB t e,O=>some (some (without O (bD t)))
 | .setC t e,O=>some (some (without O (bD t)))
noncomputable def fU (inv:List Nat):List MS->List Nat->Option Ow
 | [],O=>some (some O)
 | m::ms,O=>do
  let x <- tV inv m O
  match x with
  | none=>some none
  | some O1=>fU inv ms O1
end
mutual
noncomputable def ZX:MS->List Nat
 | .set t _=>bD t
 | .setB t _=>bD t
 | .setC t _=>bD t
 | .setF i _ _=>[i]
 | .ifs _ a b=>Az a++Az b
 | .forr t _ _ b=>bD t++Az b
 | _=>[]
noncomputable def Az:List MS->List Nat
 | []=>[]
 | m::ms=>ZX m++Az ms
end
structure Def where
 np:Nat
 nn:Nat
 body:List MS
 nrm:Bool
noncomputable def yq (d:Def):Bool:=decide (d.np=2) && !(Az d.body).contains 1 && (match fU [] d.body [1] with | some (some O)=>O.contains 1 | _=>false)
section eqs
variable (cl:Nat->List D->R D) (ρ:En)
theorem wJ (i:Nat):evE cl (.var i) ρ=cY ρ i:=rfl
theorem wK (d:D):evE cl (.con d) ρ=.ok d:=rfl
theorem wL (es:List M):evE cl (.tup es) ρ=(do let ds <- aW cl es ρ;if ds.length<=lim then .ok (.tup ds) else .stuck):=rfl
theorem wM (es:List M):evE cl (.lst es) ρ=(do let ds <- aW cl es ρ;if ds.length<=lim then .ok (.lst ds) else .stuck):=rfl
theorem wN:evE cl .dct0 ρ=.ok (.dct [] []):=rfl
theorem wO (op:BO) (a b:M):evE cl (.bin op a b) ρ=(do let x <- evE cl a ρ;let y <- evE cl b ρ;fQ op x y):=rfl
theorem wP (op:CO) (a b:M):evE cl (.cmp op a b) ρ=(do let x <- evE cl a ρ;let y <- evE cl b ρ;let r <- aY op x y;.ok (.bl r)):=rfl
theorem qJ (p q:CO) (a b c:M):evE cl (.chain p q a b c) ρ=(do
  let x <- evE cl a ρ
  let y <- evE cl b ρ
  let r <- aY p x y
  if r then do let z <- evE cl c ρ;let r2 <- aY q y z;.ok (.bl r2) else .ok (.bl false)):=rfl
theorem wQ (es:List M):evE cl (.and es) ρ=jT cl es ρ:=rfl
theorem wl (es:List M):evE cl (.or es) ρ=mJ cl es ρ:=rfl
theorem wR (a:M):evE cl (.not a) ρ=(do let x <- evE cl a ρ;let t <- bW x;.ok (.bl (!t))):=rfl
theorem wT (c a b:M):evE cl (.ite c a b) ρ=(do let x <- evE cl c ρ;let t <- bW x;if t then evE cl a ρ else evE cl b ρ):=rfl
theorem wm (a b:M):evE cl (.ix a b) ρ=(do let x <- evE cl a ρ;let y <- evE cl b ρ;ixD x y):=rfl
theorem wU (a lo hi:M):evE cl (.slc a lo hi) ρ=(do
  let x <- evE cl a ρ
  let l <- (if dg lo then .ok none else (do let d <- evE cl lo ρ;mZ d))
  let h <- (if dg hi then .ok none else (do let d <- evE cl hi ρ;mZ d))
  slD x l h):=rfl
theorem qa (a k d:M):evE cl (.dget a k d) ρ=(do let x <- evE cl a ρ;let y <- evE cl k ρ;let z <- evE cl d ρ;W0 x y z):=rfl
theorem fL (f:MT) (a b:M):evE cl (.mth f a b) ρ=(do let x <- evE cl a ρ;let y <- evE cl b ρ;aag f x y):=rfl
theorem fD (s:Str) (a b:M):evE cl (.fmt s a b) ρ=(do let x <- evE cl a ρ;let y <- evE cl b ρ;aas s x y):=rfl
theorem qb (f:Nat) (es:List M):evE cl (.call f es) ρ=(do let ds <- aW cl es ρ;cl f ds):=rfl
theorem wV (f:BI) (es:List M):evE cl (.blt f es) ρ=(do let ds <- aW cl es ρ;jH f ds):=rfl
theorem qd (a:M) (t:Ty):evE cl (.isin a t) ρ=(do let x <- evE cl a ρ;.ok (.bl (jc x t))):=rfl
theorem qe (elt:M) (tg:Tg) (k:IK) (src:List M) (hc:Bool) (c:M) (cap:List Bool):evE cl (.comp elt tg k src hc c cap) ρ=(do
  let ss <- aW cl src ρ
  let items <- itemsOf k ss
  let ys <- dF (fun d=>do
   let ρ' <- fu tg d (aZ cap ρ)
   let t <- (if hc then (do let x <- evE cl c ρ';bW x) else .ok true)
   if t then do let y <- evE cl elt ρ';.ok (some y) else .ok none) items
  if ys.length<=lim then .ok (.lst ys) else .stuck):=rfl
theorem qf:aW cl [] ρ=.ok []:=rfl
theorem qK (e:M) (es:List M):aW cl (e::es) ρ=(do let d <- evE cl e ρ;let ds <- aW cl es ρ;.ok (d::ds)):=rfl
theorem qg (e:M):jT cl [e] ρ=(do let x <- evE cl e ρ;let t <- bW x;.ok (.bl t)):=rfl
theorem qL (e e':M) (es:List M):jT cl (e::e'::es) ρ=(do let x <- evE cl e ρ;let t <- bW x;if t then jT cl (e'::es) ρ else .ok (.bl false)):=rfl
theorem wW (e:M):mJ cl [e] ρ=(do let x <- evE cl e ρ;let t <- bW x;.ok (.bl t)):=rfl
theorem qh (e e':M) (es:List M):mJ cl (e::e'::es) ρ=(do let x <- evE cl e ρ;let t <- bW x;if t then .ok (.bl true) else mJ cl (e'::es) ρ):=rfl
theorem qy (t:Tg) (e:M):bU cl (.set t e) ρ=(do let d <- evE cl e ρ;let ρ' <- fu t d ρ;.ok (.nx ρ')):=rfl
theorem qz (i:Nat) (e:M):bU cl (.app i e) ρ=(do let l <- cY ρ i;let d <- evE cl e ρ;let l' <- Ak l d;.ok (.nx (ρ.set i (some l')))):=rfl
theorem wA (i:Nat) (e:M):bU cl (.ext i e) ρ=(do let l <- cY ρ i;let d <- evE cl e ρ;let l' <- abT l d;.ok (.nx (ρ.set i (some l')))):=rfl
theorem wB (i:Nat) (k v:M):bU cl (.put i k v) ρ=(do
  let dv <- evE cl v ρ
  let l <- cY ρ i
  let dk <- evE cl k ρ
  let l' <- putD l dk dv
  .ok (.nx (ρ.set i (some l')))):=rfl
theorem qT (i:Nat) (k v:M):bU cl (.putB i k v) ρ=(do
  let dv <- evE cl v ρ
  let l <- cY ρ i
  let dk <- evE cl k ρ
  let l' <- putD l dk dv
  if lfD dv && lfD dk then .ok (.nx (ρ.set i (some l'))) else .stuck):=rfl
theorem wC (i:Nat) (e:M):bU cl (.pop i e) ρ=(do let l <- cY ρ i;let d <- evE cl e ρ;let l' <- abh l d;.ok (.nx (ρ.set i (some l')))):=rfl
theorem qI (i f:Nat) (e:M):bU cl (.callm i f e) ρ=(do let d <- evE cl e ρ;let l <- cY ρ i;let l' <- cl (1000+f) [d,l];.ok (.nx (ρ.set i (some l')))):=rfl
theorem qU (i:Nat):bU cl (.retO i) ρ=(do let d <- cY ρ i;.ok (.ro d)):=rfl
theorem qV (i f:Nat) (es:List M):bU cl (.setF i f es) ρ=(do let ds <- aW cl es ρ;let d <- cl (2000+f) ds;if lfC d then .ok (.nx (ρ.set i (some d))) else .stuck):=rfl
theorem qW (e:M):bU cl (.expr e) ρ=(do let _ <- evE cl e ρ;.ok (.nx ρ)):=rfl
theorem wD (e:M):bU cl (.ret e) ρ=(do let d <- evE cl e ρ;.ok (.rt d)):=rfl
theorem wE (c:M) (a b:List MS):bU cl (.ifs c a b) ρ=(do
  let x <- evE cl c ρ
  let t <- yu c x
  if t then cZ cl a ρ else cZ cl b ρ):=rfl
theorem wF (t:Tg) (k:IK) (src:List M) (b:List MS):bU cl (.forr t k src b) ρ=(do
  let ss <- aW cl src ρ
  let items <- itemsOf k ss
  lQ (fun d ρ=>do let ρ1 <- fu t d ρ;cZ cl b ρ1) ρ items ρ):=rfl
theorem qX:bU cl .pass ρ=.ok (.nx ρ):=rfl
theorem wG:bU cl .brk ρ=.ok (.bk ρ):=rfl
theorem wH:bU cl .cnt ρ=.ok (.ct ρ):=rfl
theorem wI:bU cl .rai ρ=.stuck:=rfl
theorem qY (t:Tg) (e:M):bU cl (.setB t e) ρ=(do let d <- evE cl e ρ;if lfD d then (do let ρ' <- fu t d ρ;.ok (.nx ρ')) else .stuck):=rfl
theorem qZ (t:Tg) (e:M):bU cl (.setC t e) ρ=(do let d <- evE cl e ρ;if lfL d then (do let ρ' <- fu t d ρ;.ok (.nx ρ')) else .stuck):=rfl
theorem qx:cZ cl [] ρ=.ok (.nx ρ):=rfl
def yR (ms:List MS):Out->R Out
 | .nx ρ'=>cZ cl ms ρ'
 | o=>.ok o
theorem qS (m:MS) (ms:List MS):cZ cl (m::ms) ρ=(bU cl m ρ >>= yR cl ms):=rfl
theorem qD (ms:List MS):yR cl ms (.nx ρ)=cZ cl ms ρ:=rfl
theorem qE (ms:List MS) (d:D):yR cl ms (.rt d)=.ok (.rt d):=rfl
theorem qF (ms:List MS) (d:D):yR cl ms (.ro d)=.ok (.ro d):=rfl
theorem qG (ms:List MS):yR cl ms (.bk ρ)=.ok (.bk ρ):=rfl
theorem qH (ms:List MS):yR cl ms (.ct ρ)=.ok (.ct ρ):=rfl
theorem wn (d:D):cY (some d::ρ) 0=.ok d:=rfl
theorem wo (o:Option D) (i:Nat):cY (o::ρ) (i+1)=cY ρ i:=rfl
theorem qi (b:Bool):bW (.bl b)=.ok b:=rfl
theorem wX (i:Int):mZ (.int i)=.ok (some i):=rfl
theorem wY (i:Nat) (d:D):fu (.one i) d ρ=.ok (ρ.set i (some d)):=rfl
theorem wZ (i j:Nat) (a b:D):fu (.two i j) (.tup [a,b]) ρ=.ok ((ρ.set i (some a)).set j (some b)):=rfl
theorem wa (d:D) (b:Option D) (as bs:En):bK (some d::as) (b::bs)=b::bK as bs:=rfl
theorem wb (b:Option D) (as bs:En):bK (none::as) (b::bs)=none::bK as bs:=rfl
theorem wc:bK [] []=[]:=rfl
theorem wq:dg (.con .non)=true:=rfl
theorem wr (i:Int):dg (.con (.int i))=false:=rfl
theorem wt (i:Nat):dg (.var i)=false:=rfl
theorem wu (op:BO) (a b:M):dg (.bin op a b)=false:=rfl
theorem wd {α:Type} (a b:α):(if true=true then a else b)=a:=rfl
theorem we {α:Type} (a b:α):(if false=true then a else b)=b:=rfl
theorem ww {α β:Type} (f:α->β) (a:α) (l:List α):List.map f (a::l)=f a::List.map f l:=rfl
theorem wx {α β:Type} (f:α->β):List.map f []=[]:=rfl
theorem wS (i:Int):evE cl (.neg (.con (.int i))) ρ=.ok (.int (-i)):=rfl
theorem zB {α:Type} (a:α):List.replicate 0 a=[]:=rfl
theorem zC {α:Type} (n:Nat) (a:α):List.replicate (n+1) a=a::List.replicate n a:=rfl
theorem zD:(!true)=false:=rfl
theorem zE:(!false)=true:=rfl
theorem wy {α:Type} (a:α) (l m:List α):(a::l)++m=a::(l++m):=rfl
theorem wz {α:Type} (m:List α):([]:List α)++m=m:=rfl
theorem wg (bs:List Bool) (v:Option D) (vs:En):aZ (true::bs) (v::vs)=v::aZ bs vs:=rfl
theorem wj (bs:List Bool) (v:Option D) (vs:En):aZ (false::bs) (v::vs)=none::aZ bs vs:=rfl
theorem wk:aZ [] ([]:En)=[]:=rfl
theorem zR {α:Type} (a:α) (l:List α):(a::l).length=l.length+1:=rfl
theorem zS {α:Type}:([]:List α).length=0:=rfl
theorem zT {α:Type} (a:α) (l:List α):(a::l)[0]?=some a:=rfl
theorem zU {α:Type} (a:α) (l:List α) (i:Nat):(a::l)[i+1]?=l[i]?:=rfl
theorem zV {α:Type} (a b:α) (l:List α):(a::l).set 0 b=b::l:=rfl
theorem zW {α:Type} (a b:α) (l:List α) (i:Nat):(a::l).set (i+1) b=a::l.set i b:=rfl
theorem zA {α:Type} (l:List α):l++[]=l:=List.append_nil l
theorem zX:(false=true)=False:=Bool.false_eq_true
theorem Tv (f:Nat) (es:List M):aJ (.call f es)=aM es:=rfl
theorem Jc:aM []=[]:=rfl
theorem SQ (e:M) (es:List M):aM (e::es)=aJ e++aM es:=rfl
end eqs
end Mi
namespace Mi
open PySem L2
open PyProof.Rows hiding St
theorem bH {O U:List Nat}{i:Nat}:i∈without O U↔i∈O/\i ∉ U:=by
 unfold without;rw [List.mem_filter];simp
def eF (g:G) (H Hs:Hp) (a:Addr):D->Prop
 | .lst ds=>∃ xs,H a=some (.lst xs)/\Rps g Hs ds xs
 | .dct ks vs=>∃ xs ys,H a=some (.ext (DAt g a xs ys))/\ks=xs.map (·.1)/\(∀ k∈ks,isKey k=true)/\Rps g Hs ks (xs.map fun x=>V.ref x.2.1)/\Rps g Hs vs ys
 | _=>False
theorem eF.obj {g:G}{H Hs:Hp}{a:Addr}{d:D} (h:eF g H Hs a d):∃ o,H a=some o:=by
 cases d <;> simp only [eF] at h
 .obtain ⟨xs,h,_⟩:=h;exact ⟨_,h⟩
 .obtain ⟨xs,ys,h,_⟩:=h;exact ⟨_,h⟩
theorem eF.mono {g:G}{H Hs H' Hs':Hp}{a:Addr}{d:D} (h:eF g H Hs a d) (k:∀ o,H a=some o->H' a=some o) (m:Same Hs Hs'):eF g H' Hs' a d:=by
 cases d <;> simp only [eF] at h ⊢
 .obtain ⟨xs,h,r⟩:=h;exact ⟨xs,k _ h,r.mono m⟩
 .obtain ⟨xs,ys,h,e,hk,r1,r2⟩:=h;exact ⟨xs,ys,k _ h,e,hk,r1.mono m,r2.mono m⟩
theorem eF.pub {g:G}{H Hs:Hp}{a:Addr}{d:D}{o:HO} (h:eF g H Hs a d) (ho:H a=some o) (m:Same Hs (upd Hs a o)):Rp g (upd Hs a o) d (.ref a):=by
 cases d <;> simp only [eF] at h
 .obtain ⟨xs,h,r⟩:=h;rw [ho] at h;cases h;rw [Rp];exact ⟨a,xs,rfl,SqL.of aD,r.mono m⟩
 .obtain ⟨xs,ys,h,e,hk,r1,r2⟩:=h;rw [ho] at h;cases h;rw [Rp];exact ⟨a,xs,ys,rfl,aD,e,hk,r1.mono m,r2.mono m⟩
noncomputable def Sg:HO->Bool
 | .lst _=>true | .ext _=>true | _=>false
def iW (Hs Hs':Hp):Prop:=∀ b o,Hs' b=some o->Hs b=some o\/Sg o=true
theorem iW.refl (Hs:Hp):iW Hs Hs:=fun _ _ q=>.inl q
theorem iW.trans {Hs Hs1 Hs2:Hp} (a:iW Hs Hs1) (b:iW Hs1 Hs2):iW Hs Hs2:=fun c o q=>by
 rcases b c o q with z | z
 .exact a c o z
 .exact .inr z
theorem eF.onlyM {g:G}{H Hs:Hp}{a:Addr}{d:D}{o:HO} (h:eF g H Hs a d) (ho:H a=some o):iW Hs (upd Hs a o):=fun b u q=>by
 by_cases e:b=a
 .subst e;rw [aD] at q;cases q;right;cases d <;> simp only [eF] at h
  .obtain ⟨xs,h,_⟩:=h;rw [ho] at h;cases h;rfl
  .obtain ⟨xs,ys,h,_⟩:=h;rw [ho] at h;cases h;rfl
 .rw [ak e] at q;exact .inl q
structure Ent where
 hp:Hp
 pins:List (Nat × Addr)
structure FR (g:G) (E:Ent) (Es:Hp) (O:List Nat) (ρ:En) (σ:St) (H Hs:Hp):Prop where
 grow:Grow E.hp Es H Hs
 len:ρ.length=σ.length
 val:∀ (i:Nat) d,ρ[i]?=some (some d)->i ∉ O->∃ v,σ[i]?=some (some v)/\Rp g Hs d v
 own:∀ i∈O,∀ d,ρ[i]?=some (some d)->∃ a,σ[i]?=some (some (.ref a))/\E.hp a=none/\Hs a=none/\eF g H Hs a d
 apart:∀ i∈O,∀ j∈O,i≠j->∀ d e a,ρ[i]?=some (some d)->ρ[j]?=some (some e)->σ[i]?=some (some (.ref a))->σ[j]?≠some (some (.ref a))
 pin:∀ q∈E.pins,σ[q.1]?=some (some (.ref q.2))
section
variable {g:G}{E:Ent}{Es:Hp}{O O':List Nat}{ρ:En}{σ:St}{H Hs H' Hs':Hp}
theorem FR.grown (F:FR g E Es O ρ σ H Hs) (w:Grow H Hs H' Hs'):FR g E Es O ρ σ H' Hs':=by
 have m:=w.same F.grow.sub;refine ⟨F.grow.trans w,F.len,fun i d h hi=>?_,fun i hi d h=>?_,F.apart,F.pin⟩
 .obtain ⟨v,e,r⟩:=F.val i d h hi;exact ⟨v,e,r.mono m⟩
 .obtain ⟨a,e,e0,e1,o⟩:=F.own i hi d h;obtain ⟨ob,ho⟩:=o.obj;exact ⟨a,e,e0,by rw [w.old a ob ho];exact e1,o.mono (fun u q=>w.keep a u q) m⟩
theorem FR.sub (F:FR g E Es O ρ σ H Hs):Same Hs H:=F.grow.sub
theorem FR.pub1 (F:FR g E Es O ρ σ H Hs) (i:Nat):∃ Hs',FR g E Es (O.filter fun j=>j != i) ρ σ H Hs'/\Same Hs Hs'/\iW Hs Hs':=by
 have memf:∀ {j},j∈(O.filter fun j=>j != i)↔j∈O/\j≠i:=by intro j;rw [List.mem_filter];simp
 by_cases hi:i∈O
 .cases hd:ρ[i]? with
  | none =>
   refine ⟨Hs,⟨F.grow,F.len,fun j d h hj=>F.val j d h fun z=>hj (memf.mpr ⟨z,?_⟩),fun j hj d h=>F.own j (memf.mp hj).1 d h,fun j hj k hk=>F.apart j (memf.mp hj).1 k (memf.mp hk).1,F.pin⟩,fun _ _ q=>q,iW.refl _⟩;rintro rfl;rw [hd] at h;cases h
  | some x =>
   cases x with
   | none =>
    refine ⟨Hs,⟨F.grow,F.len,fun j d h hj=>F.val j d h fun z=>hj (memf.mpr ⟨z,?_⟩),fun j hj d h=>F.own j (memf.mp hj).1 d h,fun j hj k hk=>F.apart j (memf.mp hj).1 k (memf.mp hk).1,F.pin⟩,fun _ _ q=>q,iW.refl _⟩;rintro rfl;rw [hd] at h;cases h
   | some d0 =>
    obtain ⟨a,e,e0,e1,o⟩:=F.own i hi d0 hd;obtain ⟨ob,ho⟩:=o.obj;have m:Same Hs (upd Hs a ob):=fun b u q=>by
     have:b≠a:=aB q e1;rw [ak this];exact q
    refine ⟨upd Hs a ob,⟨⟨F.grow.keep,fun b u q=>?_,fun b u q=>?_⟩,F.len,fun j d h hj=>?_,fun j hj d h=>?_,fun j hj k hk=>F.apart j (memf.mp hj).1 k (memf.mp hk).1,F.pin⟩,m,o.onlyM ho⟩
    .rw [ak (aB q e0)];exact F.grow.old b u q
    .by_cases hb:b=a
     .subst hb;rw [aD] at q;cases q;exact ho
     .rw [ak hb] at q;exact F.grow.sub b u q
    .by_cases hji:j=i
     .subst hji;rw [hd] at h;cases h;exact ⟨.ref a,e,o.pub ho m⟩
     .obtain ⟨v,ev,r⟩:=F.val j d h fun z=>hj (memf.mpr ⟨z,hji⟩)
      exact ⟨v,ev,r.mono m⟩
    .obtain ⟨hjO,hji⟩:=memf.mp hj;obtain ⟨b,eb,b0,b1,ob'⟩:=F.own j hjO d h;have hba:b≠a:=fun z=>by
      subst z;exact F.apart i hi j hjO (Ne.symm hji) d0 d b hd h e eb
     exact ⟨b,eb,b0,by rw [ak hba];exact b1,ob'.mono (fun _ q=>q) m⟩
 .refine ⟨Hs,⟨F.grow,F.len,fun j d h hj=>F.val j d h fun z=>hj (memf.mpr ⟨z,fun q=>hi (q ▸ z)⟩),fun j hj d h=>F.own j (memf.mp hj).1 d h,fun j hj k hk=>F.apart j (memf.mp hj).1 k (memf.mp hk).1,F.pin⟩,fun _ _ q=>q,iW.refl _⟩
theorem FR.congrO (F:FR g E Es O ρ σ H Hs) (h:∀ i,i∈O'↔i∈O):FR g E Es O' ρ σ H Hs :=
 ⟨F.grow,F.len,fun i d q hi=>F.val i d q fun z=>hi ((h i).mpr z),fun i hi d q=>F.own i ((h i).mp hi) d q,fun i hi j hj=>F.apart i ((h i).mp hi) j ((h j).mp hj),F.pin⟩
theorem FR.pubs:∀ (U:List Nat) {Hs:Hp}{O:List Nat},FR g E Es O ρ σ H Hs->∃ Hs',FR g E Es (without O U) ρ σ H Hs'/\Same Hs Hs'/\iW Hs Hs'
 | [],Hs,O,F=>⟨Hs,F.congrO fun i=>by rw [bH];simp,fun _ _ q=>q,iW.refl _⟩
 | u::U,Hs,O,F=>by
  obtain ⟨H1,F1,m1,w1⟩:=F.pub1 u;obtain ⟨H2,F2,m2,w2⟩:=FR.pubs U F1;refine ⟨H2,F2.congrO fun i=>?_,fun a o q=>m2 a o (m1 a o q),w1.trans w2⟩;rw [bH,bH,List.mem_filter];simp;constructor
  .rintro ⟨a,b,c⟩;exact ⟨⟨a,b⟩,c⟩
  .rintro ⟨⟨a,b⟩,c⟩;exact ⟨a,b,c⟩
theorem FR.fewer (F:FR g E Es O ρ σ H Hs) (h:∀ i∈O',i∈O):∃ Hs',FR g E Es O' ρ σ H Hs'/\Same Hs Hs':=by
 obtain ⟨H1,F1,m1,_⟩:=FR.pubs (O.filter fun i=>!O'.contains i) F;refine ⟨H1,F1.congrO fun i=>?_,m1⟩;rw [bH,List.mem_filter];simp;constructor
 .intro hi;exact ⟨h i hi,fun _=>hi⟩
 .rintro ⟨a,b⟩;exact b a
theorem FR.setS {i:Nat}{d:D}{v:V} (F:FR g E Es O ρ σ H Hs) (hq:∀ q∈E.pins,q.1≠i) (r:Rp g Hs d v):FR g E Es (without O [i]) (ρ.set i (some d)) (σ.set i (some v)) H Hs:=by
 have memw:∀ {j},j∈without O [i]↔j∈O/\j≠i:=by intro j;rw [bH];simp
 refine ⟨F.grow,by rw [List.length_set,List.length_set];exact F.len,fun j e h hj=>?_,fun j hj e h=>?_,fun j hj k hk hjk e f a h1 h2 h3=>?_,fun q hp'=>by rw [List.getElem?_set_ne (Ne.symm (hq q hp'))];exact F.pin q hp'⟩
 .by_cases hji:j=i
  .subst hji;have hl:j < ρ.length:=by
    have:=(List.getElem?_eq_some_iff.mp h).1;simpa using this
   rw [List.getElem?_set_self hl] at h;cases h;exact ⟨v,by rw [List.getElem?_set_self (by rw [<- F.len];exact hl)],r⟩
  .rw [List.getElem?_set_ne (Ne.symm hji)] at h;obtain ⟨w,ew,rw'⟩:=F.val j e h fun z=>hj (memw.mpr ⟨z,hji⟩)
   exact ⟨w,by rw [List.getElem?_set_ne (Ne.symm hji)];exact ew,rw'⟩
 .obtain ⟨hjO,hji⟩:=memw.mp hj;rw [List.getElem?_set_ne (Ne.symm hji)] at h;obtain ⟨a,ea,q⟩:=F.own j hjO e h;exact ⟨a,by rw [List.getElem?_set_ne (Ne.symm hji)];exact ea,q⟩
 .obtain ⟨hjO,hji⟩:=memw.mp hj;obtain ⟨hkO,hki⟩:=memw.mp hk;rw [List.getElem?_set_ne (Ne.symm hji)] at h1 h3;rw [List.getElem?_set_ne (Ne.symm hki)] at h2;rw [List.getElem?_set_ne (Ne.symm hki)];exact F.apart j hjO k hkO hjk e f a h1 h2 h3
theorem FR.adopt {i:Nat}{d:D}{p:Addr} (F:FR g E Es O ρ σ H Hs) (hq:∀ q∈E.pins,q.1≠i) (w:Grow H Hs H' Hs') (hp:H p=none) (Hsp:Hs' p=none) (r:eF g H' Hs' p d):FR g E Es (i::without O [i]) (ρ.set i (some d)) (σ.set i (some (.ref p))) H' Hs':=by
 have memw:∀ {j},j∈without O [i]↔j∈O/\j≠i:=by intro j;rw [bH];simp
 have Ep:E.hp p=none:=by
  cases q:E.hp p with
  | none=>rfl
  | some u=>rw [F.grow.keep p u q] at hp;cases hp
 have F':=F.grown w;refine ⟨F'.grow,by rw [List.length_set,List.length_set];exact F.len,fun j e h hj=>?_,fun j hj e h=>?_,fun j hj k hk hjk e f a h1 h2 h3=>?_,fun q hp'=>by rw [List.getElem?_set_ne (Ne.symm (hq q hp'))];exact F.pin q hp'⟩
 .have hji:j≠i:=fun z=>hj (by rw [z];exact List.mem_cons_self)
  rw [List.getElem?_set_ne (Ne.symm hji)] at h;obtain ⟨w,ew,rw'⟩:=F'.val j e h fun z=>hj (List.mem_cons_of_mem _ (memw.mpr ⟨z,hji⟩))
  exact ⟨w,by rw [List.getElem?_set_ne (Ne.symm hji)];exact ew,rw'⟩
 .by_cases hji:j=i
  .subst hji;have hl:j < ρ.length:=by
    have:=(List.getElem?_eq_some_iff.mp h).1;simpa using this
   rw [List.getElem?_set_self hl] at h;cases h;exact ⟨p,by rw [List.getElem?_set_self (by rw [<- F.len];exact hl)],Ep,Hsp,r⟩
  .have hjO:j∈O:=by
    rcases List.mem_cons.mp hj with z | z
    .exact absurd z hji
    .exact (memw.mp z).1
   rw [List.getElem?_set_ne (Ne.symm hji)] at h;obtain ⟨a,ea,q⟩:=F'.own j hjO e h;exact ⟨a,by rw [List.getElem?_set_ne (Ne.symm hji)];exact ea,q⟩
 .have inO:∀ {k},k∈i::without O [i]->k≠i->k∈O:=fun {k} hk hki=>by
   rcases List.mem_cons.mp hk with z | z
   .exact absurd z hki
   .exact (memw.mp z).1
  have neP:∀ {k e a},k∈O->ρ[k]?=some (some e)->σ[k]?=some (some (.ref a))->a≠p:=fun {k e a} hk h1 h2=>by
   obtain ⟨b,eb,_,_,ob⟩:=F.own k hk e h1;rw [h2] at eb;cases eb;obtain ⟨u,hu⟩:=ob.obj;exact aB hu hp
  have setSelf:∀ {v:V},(σ.set i (some v))[i]?=some (some v)\/i ≥ σ.length:=fun {v}=>by
   by_cases hl:i < σ.length
   .left;rw [List.getElem?_set_self hl]
   .right;omega
  by_cases hji:j=i
  .subst hji;have hkj:k≠j:=Ne.symm hjk;have hlj:j < σ.length:=by
    have:=(List.getElem?_eq_some_iff.mp h3).1;simpa using this
   rw [List.getElem?_set_self hlj] at h3;cases h3;rw [List.getElem?_set_ne (Ne.symm hkj)] at h2;rw [List.getElem?_set_ne (Ne.symm hkj)];intro z;exact neP (inO hk hkj) h2 z rfl
  .rw [List.getElem?_set_ne (Ne.symm hji)] at h1 h3;by_cases hki:k=i
   .subst hki;intro z;have hlk:k < σ.length:=by
     have:=(List.getElem?_eq_some_iff.mp z).1;simpa using this
    rw [List.getElem?_set_self hlk] at z;cases z;exact neP (inO hj hji) h1 h3 rfl
   .rw [List.getElem?_set_ne (Ne.symm hki)] at h2;rw [List.getElem?_set_ne (Ne.symm hki)];exact F.apart j (inO hj hji) k (inO hk hki) hjk e f a h1 h2 h3
theorem FR.setO {i:Nat}{d:D}{p:Addr}{o:HO} (F:FR g E Es O ρ σ H Hs) (hq:∀ q∈E.pins,q.1≠i) (hp:H p=none) (r:eF g (upd H p o) Hs p d):FR g E Es (i::without O [i]) (ρ.set i (some d)) (σ.set i (some (.ref p))) (upd H p o) Hs:=by
 refine F.adopt hq (Grow.own F.sub hp) hp ?_ r;cases q:Hs p with
 | none=>rfl
 | some u=>rw [F.sub p u q] at hp;cases hp
theorem FR.mut {i:Nat}{d d':D}{a:Addr}{o:HO} (F:FR g E Es O ρ σ H Hs) (hi:i∈O) (hd:ρ[i]?=some (some d)) (ha:σ[i]?=some (some (.ref a))) (r:eF g (upd H a o) Hs a d'):FR g E Es O (ρ.set i (some d')) σ (upd H a o) Hs:=by
 obtain ⟨b,eb,b0,b1,ob⟩:=F.own i hi d hd;rw [ha] at eb;cases eb;refine ⟨⟨fun c u q=>?_,F.grow.old,fun c u q=>?_⟩,by rw [List.length_set];exact F.len,fun j e h hj=>?_,fun j hj e h=>?_,fun j hj k hk hjk e f c h1 h2 h3=>?_,F.pin⟩
 .rw [ak (aB q b0)];exact F.grow.keep c u q
 .rw [ak (aB q b1)];exact F.grow.sub c u q
 .have hji:j≠i:=fun z=>hj (z ▸ hi)
  rw [List.getElem?_set_ne (Ne.symm hji)] at h;exact F.val j e h hj
 .by_cases hji:j=i
  .subst hji;have hl:j < ρ.length:=by
    have:=(List.getElem?_eq_some_iff.mp h).1;simpa using this
   rw [List.getElem?_set_self hl] at h;cases h;exact ⟨a,ha,b0,b1,r⟩
  .rw [List.getElem?_set_ne (Ne.symm hji)] at h;obtain ⟨c,ec,c0,c1,oc⟩:=F.own j hj e h;have hca:c≠a:=fun z=>by
    subst z;exact F.apart i hi j hj (Ne.symm hji) d e c hd h ha ec
   exact ⟨c,ec,c0,c1,oc.mono (fun u q=>by rw [ak hca];exact q) fun _ _ q=>q⟩
 .have some1:∀ {k e},(ρ.set i (some d'))[k]?=some (some e)->∃ e',ρ[k]?=some (some e'):=fun {k e} h=>by
   by_cases hki:k=i
   .subst hki;exact ⟨d,hd⟩
   .rw [List.getElem?_set_ne (Ne.symm hki)] at h;exact ⟨e,h⟩
  obtain ⟨e',h1'⟩:=some1 h1;obtain ⟨f',h2'⟩:=some1 h2;exact F.apart j hj k hk hjk e' f' c h1' h2' h3
noncomputable def hole (H:Hp) (a:Addr):Hp:=fun b=>if b=a then none else H b
theorem YZ {H:Hp}{a b:Addr} (h:b≠a):hole H a b=H b:=if_neg h
theorem Lq {H:Hp}{a:Addr}:hole H a a=none:=if_pos rfl
theorem sO:∀ {a b:En}{i:Nat}{d:D},(bK a b)[i]?=some (some d)->b[i]?=some (some d)
 | [],b,i,d,h=>by
  simp only [bK,List.getElem?_map] at h;cases e:b[i]? <;> simp [e] at h
 | _::_,[],i,d,h=>by simp [bK] at h
 | x::as,y::bs,0,d,h=>by
  simp only [bK,List.getElem?_cons_zero] at h ⊢;split at h
  .exact h
  .cases h
 | x::as,y::bs,i+1,d,h=>by
  simp only [bK,List.getElem?_cons_succ] at h ⊢;exact sO h
theorem sy:∀ (a b:En),(bK a b).length=b.length
 | [],b=>by simp [bK]
 | _::_,[]=>rfl
 | _::as,_::bs=>by simp [bK,sy as bs]
theorem FR.less {ρ':En} (F:FR g E Es O ρ σ H Hs) (hl:ρ'.length=ρ.length) (h:∀ (i:Nat) d,ρ'[i]?=some (some d)->ρ[i]?=some (some d)):FR g E Es O ρ' σ H Hs :=
 ⟨F.grow,hl.trans F.len,fun i d q hi=>F.val i d (h i d q) hi,fun i hi d q=>F.own i hi d (h i d q),fun i hi j hj hij d e a q1 q2=>F.apart i hi j hj hij d e a (h i d q1) (h j e q2),F.pin⟩
theorem Wv {Hs1 H1 Hs2:Hp} (hs:Same Hs H) (hw:iW Hs Hs1) (g2:Grow H Hs1 H1 Hs2):∃ Hs3,Grow H Hs H1 Hs3/\(∀ t o,Hs2 t=some o->Sg o=false->Hs3 t=some o)/\∀ t,H t=none->Hs3 t=Hs2 t:=by
 classical
 refine ⟨fun b=>if (H b).isSome then Hs b else Hs2 b,⟨g2.keep,fun a o q=>?_,fun a o q=>?_⟩,fun t o q hm=>?_,fun t ht=>?_⟩
 .show (if (H a).isSome then Hs a else Hs2 a)=_
  rw [q];rfl
 .by_cases e:(H a).isSome=true
  .have q':Hs a=some o:=by rw [<- q];exact (if_pos e).symm
   exact g2.keep a o (hs a o q')
  .have q':Hs2 a=some o:=by rw [<- q];exact (if_neg e).symm
   exact g2.sub a o q'
 .show (if (H t).isSome then Hs t else Hs2 t)=_
  by_cases e:(H t).isSome=true
  .rw [if_pos e];obtain ⟨u,hu⟩:=Option.isSome_iff_exists.mp e;have h1:Hs1 t=some o:=by rw [<- g2.old t u hu];exact q
   rcases hw t o h1 with z | z
   .exact z
   .rw [hm] at z;cases z
  .rw [if_neg e];exact q
 .show (if (H t).isSome then Hs t else Hs2 t)=_
  rw [ht];rfl
end
end Mi
namespace Mi
open PySem L2
open PyProof.Rows hiding St
theorem aq {α β:Type}{r:R α}{f:α->R β}{b:β} (h:(r >>= f)=.ok b):∃ a,r=.ok a/\f a=.ok b:=by
 cases r with
 | ok a=>exact ⟨a,rfl,h⟩
 | exc x=>rw [Ug] at h;cases h
 | stuck=>rw [Pa] at h;cases h
theorem bR {α:Type}{c:Prop} [Decidable c] {a:R α}{b:α} (h:(if c then a else .stuck)=.ok b):c/\a=.ok b:=by
 by_cases hc:c
 .rw [if_pos hc] at h;exact ⟨hc,h⟩
 .rw [if_neg hc] at h;cases h
theorem bB {X:Cx}{e:Expr}{t t':TE} (h:PE X e t) (i:∀ σ H Q,t' σ H Q->t σ H Q):PE X e t':=fun pins s σ H Q I hq=>h pins s σ H Q I (i σ H Q hq)
theorem Cy {X:Cx}{e:Expr}{t t':TT} (h:PT X e t) (i:∀ σ H Q,t' σ H Q->t σ H Q):PT X e t':=fun pins s σ H Q I hq=>h pins s σ H Q I (i σ H Q hq)
theorem Qz {X:Cx}{e:List Expr}{t t':TA} (h:PA X e t) (i:∀ σ H Q,t' σ H Q->t σ H Q):PA X e t':=fun pos pins s σ H Q I hq=>h pos pins s σ H Q I (i σ H Q hq)
section
variable {X:Cx}{H Hs H1 Hs1:Hp}{Q:VK}{d:D}{v:V}
theorem aQ {g:G}{i:Int}{v:V}:Rp g H (.int i) v↔v=.int i:=by rw [Rp]
theorem j9 {g:G}{i:Bool}{v:V}:Rp g H (.bl i) v↔v=.bl i:=by rw [Rp]
theorem tZ {g:G}{v:V}:Rp g H .non v↔v=.non:=by rw [Rp]
theorem fY {g:G}{i:Str}{v:V}:Rp g H (.str i) v↔v=.str i:=by rw [Rp]
theorem cJ {g:G}{ds:List D}{v:V}:Rp g H (.tup ds) v↔∃ a xs,v=.ref a/\SqT g.K H a xs/\Rps g H ds xs:=by rw [Rp]
theorem cP {g:G}{ds:List D}{v:V}:Rp g H (.lst ds) v↔∃ a xs,v=.ref a/\SqL g.K H a xs/\Rps g H ds xs:=by rw [Rp]
theorem RL {g:G}{ks vs:List D}{v:V}:Rp g H (.dct ks vs) v↔∃ a xs ys,v=.ref a/\H a=some (.ext (DAt g a xs ys))/\ks=xs.map (·.1)/\(∀ k∈ks,isKey k=true)/\Rps g H ks (xs.map fun x=>V.ref x.2.1)/\Rps g H vs ys:=by rw [Rp]
def XD (X:Cx) (H Hs:Hp) (Q:VK) (d:D):Prop:=∀ v H' Hs',Grow H Hs H' Hs'->Rp (gOf X) Hs' d v->Q v H'
theorem XD.grow (h:XD X H Hs Q d) (w:Grow H Hs H1 Hs1):XD X H1 Hs1 Q d:=fun v H' Hs' g r=>h v H' Hs' (w.trans g) r
theorem XD.here (h:XD X H Hs Q d) (hs:Same Hs H) (r:Rp (gOf X) Hs d v):Q v H:=h v H Hs (Grow.refl hs) r
theorem XD.int {i:Int} (h:XD X H Hs Q (.int i)) (hs:Same Hs H):Q (.int i) H:=h.here hs (aQ.mpr rfl)
theorem XD.bl {i:Bool} (h:XD X H Hs Q (.bl i)) (hs:Same Hs H):Q (.bl i) H:=h.here hs (j9.mpr rfl)
theorem XD.non (h:XD X H Hs Q .non) (hs:Same Hs H):Q .non H:=h.here hs (tZ.mpr rfl)
theorem pJ {p:Addr}{o:HO} (hs:Same Hs H) (hp:H p=none):Same Hs (upd Hs p o):=(Grow.new (o:=o) hs hp).same hs
theorem XD.newL {ds:List D}{xs:List V} (h:XD X H Hs Q (.lst ds)) (hs:Same Hs H) (r:Rps (gOf X) Hs ds xs):∀ p,H p=none->Q (.ref p) (upd H p (.lst xs)):=fun p hp =>
 h _ _ _ (Grow.new (o:=.lst xs) hs hp) (cP.mpr ⟨p,xs,rfl,SqL.of aD,r.mono (pJ hs hp)⟩)
theorem XD.newT {ds:List D}{xs:List V} (h:XD X H Hs Q (.tup ds)) (hs:Same Hs H) (r:Rps (gOf X) Hs ds xs):∀ p,H p=none->Q (.ref p) (upd H p (.tup xs)):=fun p hp =>
 h _ _ _ (Grow.new (o:=.tup xs) hs hp) (cJ.mpr ⟨p,xs,rfl,SqT.of aD,r.mono (pJ hs hp)⟩)
def Op2 (X:Cx) (r:R2) (op:D->D->R D):Prop:=∀ x y d e z H Hs Q,Same Hs H->Rp (gOf X) Hs d x->Rp (gOf X) Hs e y->op d e=.ok z->XD X H Hs Q z->r x y H Q
theorem Mw:OpR X (binaryOp .Add) (WM X.K):=by
 intro pins s σ H x y v u Q I rx ry h;obtain ⟨l,b,xs,zs,rfl,rfl,hH,hB,hz,q⟩:=h;cases rx;cases ry;obtain ⟨its,r,pl,_⟩:=I.list hH;obtain ⟨its2,r2,pl2,_⟩:=I.list hB;obtain ⟨⟨cls,dd,data,sl⟩,ho,hc,n,hd⟩:=pl.isList;obtain ⟨⟨cls2,dd2,data2,sl2⟩,ho2,hc2,n2,hd2⟩:=pl2.isList;simp only at hc hd hc2 hd2;subst hc hd hc2 hd2;have hl:=r.length;have hl2:=r2.length;have e:its.toArray++its2.toArray=(its++its2).toArray:=by simp
 refine concat_meets ⟨_,ho,rfl⟩ ⟨_,ho2,rfl⟩ noFill_list_add seq_list_add PySem.F.slot_list_add PySem.F.entry_list_add (PySem.F.args_list_add_2 _ _) (list_addW l b its.toArray its2.toArray n n2 dd dd2 sl sl2 (by simp only [List.size_toArray];omega)) ⟨ho,ho2,?_⟩;rw [e];exact ⟨.ref _,_,I.lnew (t':=s.toks) (r.append r2) (by rw [List.length_append];omega),rfl,q _ I.fresh⟩
def ac2:R2:=fun x y H Q=>∃ i j,x=.str i/\y=.str j/\i.length+j.length<=sizeLine/\Q (.str (i++j)) H
def Py (X:Cx):R2:=fun x y H Q=>rI0 (fun i j=>.int (i+j)) x y H Q\/(S8 X.K x y H Q\/(WK X.K x y H Q\/(WM X.K x y H Q\/ac2 x y H Q)))
theorem Zc:OpR X (binaryOp .Add) (Py X):=aa4.or (VP.or (Zf.or (Mw.or Om)))
theorem Yg:Op2 X (Py X) jM:=by
 intro x y d e z H Hs Q hs rx ry h k;have hlim:=jy;cases d <;> cases e <;> simp only [jM] at h <;> try (cases h;done)
 .cases h;exact .inl ⟨_,_,aQ.mp rx,aQ.mp ry,k.int hs⟩
 .obtain ⟨hl,h⟩:=bR h;cases h;exact .inr (.inr (.inr (.inr ⟨_,_,fY.mp rx,fY.mp ry,Nat.le_trans hl hlim,k.here hs (fY.mpr rfl)⟩)))
 .obtain ⟨hl,h⟩:=bR h;cases h;obtain ⟨a,xs,rfl,s1,r1⟩:=cJ.mp rx;obtain ⟨b,ys,rfl,s2,r2⟩:=cJ.mp ry;have l1:=r1.length;have l2:=r2.length;by_cases hx:xs=[]
  .subst hx;refine .inr (.inl ⟨a,b,ys,rfl,rfl,aO hs s1,aO hs s2,k.here hs ?_⟩);rename_i as bs;have:as=[]:=by cases as with | nil=>rfl | cons _ _=>simp at l1
   subst this;exact ry
  .refine .inr (.inr (.inl ⟨a,b,xs,ys,rfl,rfl,aO hs s1,aO hs s2,hx,by omega,fun hy=>?_,fun _=>k.newT hs (r1.append r2)⟩));subst hy;rename_i as bs;have:bs=[]:=by cases bs with | nil=>rfl | cons _ _=>simp at l2
   subst this;rw [List.append_nil] at k;exact k.here hs rx
 .obtain ⟨hl,h⟩:=bR h;cases h;obtain ⟨a,xs,rfl,s1,r1⟩:=cP.mp rx;obtain ⟨b,ys,rfl,s2,r2⟩:=cP.mp ry;have l1:=r1.length;have l2:=r2.length;exact .inr (.inr (.inr (.inl ⟨a,b,xs,ys,rfl,rfl,bw hs s1,bw hs s2,by omega,k.newL hs (r1.append r2)⟩)))
noncomputable def TX:BO->Operator
 | .add=>.Add | .sub=>.Sub | .mul=>.Mult | .mod=>.Mod | .fdiv=>.FloorDiv
def aaZ (X:Cx):BO->R2
 | .add=>Py X
 | .sub=>rI0 fun i j=>.int (i - j)
 | .mul=>fun x y H Q=>rI Nr (fun i j=>.int (i * j)) x y H Q\/(WQ X.K x y H Q\/(Qs X.K x y H Q\/Wy X.K x y H Q))
 | .mod=>rI (fun _ j=>0 < j) fun i j=>.int (i % j)
 | .fdiv=>rI aaX fun i j=>.int (i / j)
theorem abv (o:BO):OpR X (binaryOp (TX o)) (aaZ X o):=by
 cases o
 .exact Zc
 .exact aap
 .exact aad.or (Y7.or (VF.or Yr))
 .exact abe
 .exact Yt
theorem CP {i:Int} (h:jj i=true):-(2 ^ 64) < i/\i < 2 ^ 64:=by
 cases i with
 | ofNat n =>
  have:=Nat.le_of_ble_eq_true h;rw [Int.ofNat_eq_natCast];exact ⟨by omega,by omega⟩
 | negSucc n =>
  have:=Nat.le_of_ble_eq_true h;exact ⟨by omega,by omega⟩
theorem Du {g:G}{H:Hp}{ds:List D}{xs:List V} (r:Rps g H ds xs):∀ k:Nat,Rps g H (List.replicate k ds).flatten (List.replicate k xs).flatten
 | 0=>Rps.nil
 | k+1=>by
  rw [List.replicate_succ,List.replicate_succ,List.flatten_cons,List.flatten_cons];exact r.append (Du r k)
theorem Xl (o:BO):Op2 X (aaZ X o) (fQ o):=by
 cases o
 .intro x y d e z H Hs Q hs rx ry h k;exact Yg x y d e z H Hs Q hs rx ry (by simpa only [fQ] using h) k
 all_goals
  intro x y d e z H Hs Q hs rx ry h k;cases d <;> cases e <;> simp only [fQ] at h <;> try (cases h;done)
 .cases h;exact ⟨_,_,aQ.mp rx,aQ.mp ry,k.int hs⟩
 .obtain ⟨c,h⟩:=bR h;cases h;refine .inl ⟨_,_,aQ.mp rx,aQ.mp ry,?_,k.int hs⟩;simp only [Bool.or_eq_true] at c;rcases c with c | c
  .exact .inl (CP c)
  .exact .inr (CP c)
 .obtain ⟨⟨c1,c2,c3,c4⟩,h⟩:=bR h;cases h;obtain ⟨a,xs,rfl,s1,r1⟩:=cJ.mp rx;have l1:=r1.length;rename_i ds kk;by_cases h1:kk=1
  .subst h1;have e1:(List.replicate (1:Int).toNat ds).flatten=ds:=by simp
   rw [e1] at k;exact .inr (.inr (.inl ⟨a,xs,rfl,aQ.mp ry,aO hs s1,k.here hs (cJ.mpr ⟨a,xs,rfl,s1,r1⟩)⟩))
  .refine .inr (.inl ⟨a,_,xs,rfl,aQ.mp ry,aO hs s1,fun z=>?_,by omega,by omega,c2,k.newT hs (Du r1 _)⟩);subst z;simp only [List.length_nil] at l1;omega
 .obtain ⟨⟨c1,c2,c3⟩,h⟩:=bR h;cases h;obtain ⟨a,xs,rfl,s1,r1⟩:=cP.mp rx;have l1:=r1.length;exact .inr (.inr (.inr ⟨a,_,xs,rfl,aQ.mp ry,bw hs s1,by omega,c1,c2,k.newL hs (Du r1 _)⟩))
 .obtain ⟨c,h⟩:=bR h;cases h;exact ⟨_,_,aQ.mp rx,aQ.mp ry,c,k.int hs⟩
 .obtain ⟨c,h⟩:=bR h;cases h;exact ⟨_,_,aQ.mp rx,aQ.mp ry,c,k.int hs⟩
noncomputable def su:CO->CmpOp
 | .eq=>.Eq | .ne=>.NotEq | .lt=>.Lt | .le=>.LtE | .gt=>.Gt | .ge=>.GtE | .in_=>.In | .notin=>.NotIn
def V2 (neg:Bool):R2:=fun x y H Q=>∃ i j,x=.str i/\y=.str j/\Q (.bl (if neg then !(!(Builtin.Str.occurrences j i 0 j.length 1).isEmpty) else !(Builtin.Str.occurrences j i 0 j.length 1).isEmpty)) H
def Pg (X:Cx):CO->R2
 | .eq=>aam X
 | .ne=>Zz X
 | .lt=>rI0 fun i j=>.bl (decide (i < j))
 | .le=>rI0 fun i j=>.bl (decide (i<=j))
 | .gt=>rI0 fun i j=>.bl (decide (j < i))
 | .ge=>rI0 fun i j=>.bl (decide (j<=i))
 | .in_=>fun x y H Q=>(Ke X false x y H Q\/Bv X false x y H Q)\/V2 false x y H Q
 | .notin=>fun x y H Q=>(Ke X true x y H Q\/Bv X true x y H Q)\/V2 true x y H Q
theorem rD (hu:X.A.units+100 < cLine) (o:CO):OpR X (compareOp (su o)) (Pg X o):=by
 cases o
 .exact aaS hu
 .exact abg hu
 .exact ac3
 .exact acz
 .exact acs
 .exact acJ
 .exact ((abM hu).or (Yw hu)).or Rn
 .exact ((R3 hu).or (Nj hu)).or Jr
theorem Ia {b neg:Bool}{x y:V}{d e:D} (hs:Same Hs H) (rx:Rp (gOf X) Hs d x) (ry:Rp (gOf X) Hs e y) (h:inD d e=.ok b) (k:Q (.bl (if neg then !b else b)) H):(Ke X neg x y H Q\/Bv X neg x y H Q)\/V2 neg x y H Q:=by
 cases e <;> simp only [inD] at h <;> try (cases h;done)
 .cases d <;> simp only at h <;> try (cases h;done)
  cases h;exact .inr ⟨_,_,fY.mp rx,fY.mp ry,k⟩
 .obtain ⟨c,h⟩:=bR h;cases h;obtain ⟨p,xs,rfl,s1,r1⟩:=cJ.mp ry;simp only [Bool.and_eq_true,decide_eq_true_eq] at c;exact .inl (.inl ⟨d,_,p,xs,rx.mono hs,rfl,.inr (aO hs s1),r1.mono hs,c.1,c.2,k⟩)
 .obtain ⟨c,h⟩:=bR h;cases h;obtain ⟨p,xs,rfl,s1,r1⟩:=cP.mp ry;simp only [Bool.and_eq_true,decide_eq_true_eq] at c;exact .inl (.inl ⟨d,_,p,xs,rx.mono hs,rfl,.inl (bw hs s1),r1.mono hs,c.1,c.2,k⟩)
 .obtain ⟨c,h⟩:=bR h;cases h;obtain ⟨a,xs,ys,rfl,ha,e1,e2,r1,r2⟩:=RL.mp ry;exact .inl (.inr ⟨d,a,_,xs,ys,rx.mono hs,c,rfl,⟨hs _ _ ha,e1,e2,r1.mono hs⟩,k⟩)
theorem yG (o:CO):Op2 X (Pg X o) (fun d e=>do let r <- aY o d e;.ok (.bl r)):=by
 intro x y d e z H Hs Q hs rx ry h0 k;obtain ⟨b,h,hz⟩:=aq h0;clear h0;cases hz;cases o
 .simp only [aY] at h;obtain ⟨c,h⟩:=bR h;cases h;exact ⟨d,e,rx.mono hs,ry.mono hs,c,k.bl hs⟩
 .simp only [aY] at h;obtain ⟨c,h⟩:=bR h;cases h;exact ⟨d,e,rx.mono hs,ry.mono hs,c,k.bl hs⟩
 .cases d <;> cases e <;> simp only [aY] at h <;> try (cases h;done)
  cases h;exact ⟨_,_,aQ.mp rx,aQ.mp ry,k.bl hs⟩
 .cases d <;> cases e <;> simp only [aY] at h <;> try (cases h;done)
  cases h;exact ⟨_,_,aQ.mp rx,aQ.mp ry,k.bl hs⟩
 .cases d <;> cases e <;> simp only [aY] at h <;> try (cases h;done)
  cases h;exact ⟨_,_,aQ.mp rx,aQ.mp ry,k.bl hs⟩
 .cases d <;> cases e <;> simp only [aY] at h <;> try (cases h;done)
  cases h;exact ⟨_,_,aQ.mp rx,aQ.mp ry,k.bl hs⟩
 .simp only [aY] at h;exact Ia hs rx ry h (k.bl hs)
 .simp only [aY] at h;obtain ⟨c,h1,h2⟩:=aq h;clear h;cases h2;exact Ia (neg:=true) hs rx ry h1 (k.bl hs)
def abS (X:Cx):R2:=fun x y H Q=>((aak X.K x y H Q\/aaV X.K x y H Q)\/WD X x y H Q)\/ZP x y H Q
theorem adt (hu:X.A.units+100 < cLine):IxR X (abS X):=((X4.or abr).or (Yq hu)).or aa7
theorem gets {g:G}{k:D}:∀ {xs:List (D × Addr × Value)}{vs:List D}{ys:List V},Rps g H vs ys->(∃ z v,vI (xs.map (·.1)) vs k=some z/\atV xs ys k=some v/\Rp g H z v)\/(vI (xs.map (·.1)) vs k=none/\atV xs ys k=none)
 | [],_,_,_=>.inr ⟨rfl,rfl⟩
 | x::xs,[],ys,r=>by
  obtain rfl:=r.nil_inv;exact .inr ⟨rfl,rfl⟩
 | x::xs,z::vs,ys,r=>by
  obtain ⟨v,ys',rfl,r0,rs⟩:=r.cons_inv;by_cases e:x.1=k
  .exact .inl ⟨z,v,if_pos e,if_pos e,r0⟩
  .have e1:vI ((x::xs).map (·.1)) (z::vs) k=vI (xs.map (·.1)) vs k:=if_neg e;have e2:atV (x::xs) (v::ys') k=atV xs ys' k:=if_neg e;rw [e1,e2];exact gets rs
theorem Q9 {ds:List D}{xs:List V}{i:Int}{z:D}{g:G} (r:Rps g Hs ds xs) (h:(match ixN ds.length i with | some k=>(match ds[k]? with | some d=>R.ok d | none=>.stuck) | none=>.stuck)=.ok z):∃ v,atI xs i=some v/\Rp g Hs z v:=by
 cases e:ixN ds.length i with
 | none=>rw [e] at h;cases h
 | some k =>
  rw [e] at h;cases e2:ds[k]? with
  | none=>simp only [e2] at h;cases h
  | some d =>
   simp only [e2] at h;cases h;obtain ⟨v,ev,rv⟩:=r.getD e2;refine ⟨v,?_,rv⟩;unfold atI;rw [<- r.length,e];exact ev
theorem aaT:Op2 X (abS X) ixD:=by
 intro x y d e z H Hs Q hs rx ry h k;cases d <;> try (cases h;done)
 .cases e <;> try (cases h;done)
  obtain ⟨hl,h⟩:=bR h;split at h <;> try (cases h;done)
  cases h;exact .inr ⟨_,_,_,fY.mp rx,aQ.mp ry,Nat.le_trans hl jy,‹_›,k.here hs (fY.mpr rfl)⟩
 .cases e <;> try (cases h;done)
  obtain ⟨a,xs,rfl,s1,r1⟩:=cJ.mp rx;obtain ⟨v,e1,r2⟩:=Q9 r1 h;exact .inl (.inl (.inr ⟨a,xs,_,v,rfl,aQ.mp ry,aO hs s1,e1,k.here hs r2⟩))
 .cases e <;> try (cases h;done)
  obtain ⟨a,xs,rfl,s1,r1⟩:=cP.mp rx;obtain ⟨v,e1,r2⟩:=Q9 r1 h;exact .inl (.inl (.inl ⟨a,xs,_,v,rfl,aQ.mp ry,bw hs s1,e1,k.here hs r2⟩))
 .rename_i ks vs;obtain ⟨hk,h⟩:=bR h;obtain ⟨a,xs,ys,rfl,ha,e1,e2,r1,r2⟩:=RL.mp rx;subst e1;rcases gets (k:=e) (xs:=xs) r2 with ⟨z',v,g1,g2,g3⟩ | ⟨g1,g2⟩
  .rw [g1] at h;cases h;exact .inl (.inr ⟨e,a,_,xs,ys,v,ry.mono hs,hk,rfl,⟨hs _ _ ha,rfl,e2,r1.mono hs⟩,g2,k.here hs g3⟩)
  .rw [g1] at h;cases h
def aae (X:Cx):V->Option Int->Option Int->Hp->VK->Prop:=fun x lo hi H Q=>aa3 X.K x lo hi H Q\/(ZS X.K x lo hi H Q\/(Z8 X.K x lo hi H Q\/abj x lo hi H Q))
theorem adu:SlR X (aae X):=Xy.or (abG.or (VJ.or aaM))
theorem Uq {x:V}{z:D}{lo hi:Option Int} (hs:Same Hs H) (rx:Rp (gOf X) Hs d x) (h:slD d lo hi=.ok z) (k:XD X H Hs Q z):aae X x lo hi H Q:=by
 cases d <;> simp only [slD] at h <;> try (cases h;done)
 .obtain ⟨hl,h⟩:=bR h;cases h;exact .inr (.inr (.inr ⟨_,fY.mp rx,Nat.le_trans hl jy,k.here hs (fY.mpr rfl)⟩))
 .split at h
  .rename_i hn;cases h;obtain ⟨a,xs,rfl,s1,r1⟩:=cJ.mp rx;have l1:=r1.length;exact .inr (.inr (.inl ⟨a,xs,rfl,aO hs s1,by rw [<- l1];exact hn,k.here hs (cJ.mpr ⟨a,xs,rfl,s1,r1⟩)⟩))
  .rename_i hn;cases h;obtain ⟨a,xs,rfl,s1,r1⟩:=cJ.mp rx;have l1:=r1.length;refine .inr (.inl ⟨a,xs,rfl,aO hs s1,by rw [<- l1];exact hn,k.newT hs ?_⟩);unfold cutD yt;rw [<- l1];exact (r1.drop _).take _
 .cases h;obtain ⟨a,xs,rfl,s1,r1⟩:=cP.mp rx;have l1:=r1.length;refine .inl ⟨a,xs,rfl,bw hs s1,k.newL hs ?_⟩;unfold cutD yt;rw [<- l1];exact (r1.drop _).take _
end
end Mi
namespace Mi
open PySem L2
open PyProof.Rows hiding St
structure Tx where
 F:List Str
 gl:List (Str × D)
noncomputable def Bm (sc:Scope) (x:Str):Bool:=match sc.names.lookup x with
 | some .local=>true | some .cell=>true | some .free=>true | _=>false
noncomputable def lU (sc:Scope) (x:Str):Bool:=match sc.names.lookup x with
 | some .local=>true | some .cell=>true | _=>false
noncomputable def cF (sc:Scope) (x:Str):Bool:=match sc.names.lookup x with
 | some .globalImplicit=>true | _=>false
noncomputable def aL (x:Str):Bool:=!(x == ("__debug__":Str)) && !(x == ("__classdict__":Str)) && !(x == ("__name__":Str))
noncomputable def boB:BO->Operator->Bool
 | .add,.Add=>true | .sub,.Sub=>true | .mul,.Mult=>true | .mod,.Mod=>true | .fdiv,.FloorDiv=>true | _,_=>false
theorem R8 {o:BO}{p:Operator} (h:boB o p=true):p=TX o:=by cases o <;> cases p <;> first | rfl | cases h
noncomputable def coB:CO->CmpOp->Bool
 | .eq,.Eq=>true | .ne,.NotEq=>true | .lt,.Lt=>true | .le,.LtE=>true | .gt,.Gt=>true | .ge,.GtE=>true | .in_,.In=>true | .notin,.NotIn=>true | _,_=>false
theorem Kr {o:CO}{p:CmpOp} (h:coB o p=true):p=su o:=by cases o <;> cases p <;> first | rfl | cases h
noncomputable def TY:D->Const->Bool
 | .int i,.int j=>decide (i=j)
 | .bl i,.bool j=>decide (i=j)
 | .non,.none=>true
 | .str x,.str y=>decide (x=y)
 | _,_=>false
noncomputable def Rw:BI->Str
 | .len=>"len" | .min2=>"min" | .max2=>"max" | .all=>"all" | .any=>"any" | .sorted=>"sorted" | .list=>"list" | .tuple=>"tuple" | .listEnum=>"list" | .listRev=>"list" | .str=>"str" | .int=>"int"
noncomputable def glB:Option D->D->Bool
 | some (.int i),.int j=>decide (i=j)
 | some (.str i),.str j=>decide (i=j)
 | _,_=>false
theorem aaG {o:Option D}{d:D} (h:glB o d=true):o=some d:=by
 unfold glB at h;split at h
 .rw [of_decide_eq_true h]
 .rw [of_decide_eq_true h]
 .cases h
noncomputable def Ty.nm:Ty->Str
 | .int=>"int" | .bool=>"bool" | .str=>"str" | .tuple=>"tuple" | .list=>"list"
noncomputable def mK:List Str:=["len","min","max","all","any","sorted","list","tuple","isinstance","int","bool","str","range","enumerate","zip","reversed"]
noncomputable def scB (around scope:Scope):Bool :=
 decide (scope.kind=.function) && decide ((scope.names.map (·.1)).Nodup) && scope.names.all fun p=>decide (p.2≠.free) || decide (around.names.lookup p.1=some .cell) || decide (around.names.lookup p.1=some .free)
def isK (k:Nat) (e:Expr):Bool:=Nat.beq e.ctorIdx k
def isS (k:Nat) (s:Stmt):Bool:=Nat.beq s.ctorIdx k
theorem iG {k:Nat}{e:Expr}{b:Bool} (h:(isK k e && b)=true):e.ctorIdx=k:=Nat.eq_of_beq_eq_true (Bool.and_eq_true_iff.mp h).1
theorem j7 {k:Nat}{s:Stmt}{b:Bool} (h:(isS k s && b)=true):s.ctorIdx=k:=Nat.eq_of_beq_eq_true (Bool.and_eq_true_iff.mp h).1
section
variable {e:Expr}{s:Stmt}{b:Bool}
theorem fM (h:(isK 23 e && b)=true):∃ x p,e=.Name x p:=Expr.Name.elim (motive_1:=fun e=>∃ x p,e=.Name x p) e (iG h) fun _ _=>⟨_,_,rfl⟩
theorem Ga (h:(isK 25 e && b)=true):∃ x k p,e=.Tuple x k p:=Expr.Tuple.elim (motive_1:=fun e=>∃ x k p,e=.Tuple x k p) e (iG h) fun _ _ _=>⟨_,_,_,rfl⟩
theorem Bg (h:(isK 24 e && b)=true):∃ x p,e=.List x p:=Expr.List.elim (motive_1:=fun e=>∃ x p,e=.List x p) e (iG h) fun _ _=>⟨_,_,rfl⟩
theorem Gm (h:(isK 2 e && b)=true):∃ x o y p,e=.BinOp x o y p:=Expr.BinOp.elim (motive_1:=fun e=>∃ x o y p,e=.BinOp x o y p) e (iG h) fun _ _ _ _=>⟨_,_,_,_,rfl⟩
theorem tH (h:(isK 15 e && b)=true):∃ x o y p,e=.Compare x o y p:=Expr.Compare.elim (motive_1:=fun e=>∃ x o y p,e=.Compare x o y p) e (iG h) fun _ _ _ _=>⟨_,_,_,_,rfl⟩
theorem Cu (h:(isK 0 e && b)=true):∃ o y p,e=.BoolOp o y p:=Expr.BoolOp.elim (motive_1:=fun e=>∃ o y p,e=.BoolOp o y p) e (iG h) fun _ _ _=>⟨_,_,_,rfl⟩
theorem tK (h:(isK 3 e && b)=true):∃ o y p,e=.UnaryOp o y p:=Expr.UnaryOp.elim (motive_1:=fun e=>∃ o y p,e=.UnaryOp o y p) e (iG h) fun _ _ _=>⟨_,_,_,rfl⟩
theorem vQ (h:(isK 21 e && b)=true):∃ x y p,e=.Subscript x y p:=Expr.Subscript.elim (motive_1:=fun e=>∃ x y p,e=.Subscript x y p) e (iG h) fun _ _ _=>⟨_,_,_,rfl⟩
theorem R4 (h:(isK 26 e && b)=true):∃ x y z p,e=.Slice x y z p:=Expr.Slice.elim (motive_1:=fun e=>∃ x y z p,e=.Slice x y z p) e (iG h) fun _ _ _ _=>⟨_,_,_,_,rfl⟩
theorem pI (h:(isK 8 e && b)=true):∃ x y z p,e=.ListComp x y z p:=Expr.ListComp.elim (motive_1:=fun e=>∃ x y z p,e=.ListComp x y z p) e (iG h) fun _ _ _ _=>⟨_,_,_,_,rfl⟩
theorem Kl (h:(isK 16 e && b)=true):∃ x y z p,e=.Call x y z p:=Expr.Call.elim (motive_1:=fun e=>∃ x y z p,e=.Call x y z p) e (iG h) fun _ _ _ _=>⟨_,_,_,_,rfl⟩
theorem vR (h:(isK 20 e && b)=true):∃ x y p,e=.Attribute x y p:=Expr.Attribute.elim (motive_1:=fun e=>∃ x y p,e=.Attribute x y p) e (iG h) fun _ _ _=>⟨_,_,_,rfl⟩
theorem uN (h:(isS 5 s && b)=true):∃ x y p,s=.Assign x y p:=Stmt.Assign.elim s (j7 h) fun _ _ _=>⟨_,_,_,rfl⟩
theorem Iv (h:(isS 24 s && b)=true):∃ x p,s=.Expr x p:=Stmt.Expr.elim s (j7 h) fun _ _=>⟨_,_,rfl⟩
theorem pB (h:(isS 3 s && b)=true):∃ x p,s=.Return x p:=Stmt.Return.elim s (j7 h) fun _ _=>⟨_,_,rfl⟩
theorem Ku (h:(isS 12 s && b)=true):∃ x y z p,s=.If x y z p:=Stmt.If.elim s (j7 h) fun _ _ _ _=>⟨_,_,_,_,rfl⟩
theorem Zm (h:(isS 9 s && b)=true):∃ x y z w p,s=.For x y z w p:=Stmt.For.elim s (j7 h) fun _ _ _ _ _=>⟨_,_,_,_,_,rfl⟩
theorem Vp (h:(isS 25 s && b)=true):∃ p,s=.Pass p:=Stmt.Pass.elim s (j7 h) fun _=>⟨_,rfl⟩
theorem QF (h:(isS 26 s && b)=true):∃ p,s=.Break p:=Stmt.Break.elim s (j7 h) fun _=>⟨_,rfl⟩
theorem JN (h:(isS 27 s && b)=true):∃ p,s=.Continue p:=Stmt.Continue.elim s (j7 h) fun _=>⟨_,rfl⟩
end
noncomputable def gJ (e:Expr) (f:Str->List Expr->Bool):Bool:=isK 16 e && match e with
 | .Call g es ks _=>isK 23 g && (match g,ks with | .Name x _,[]=>f x es | _,_=>false)
 | _=>false
theorem cC {e:Expr}{f:Str->List Expr->Bool} (h:gJ e f=true):∃ x p es q,e=.Call (.Name x p) es [] q/\f x es=true:=by
 obtain ⟨g,es,ks,q,rfl⟩:=Kl h;have h2:(isK 23 g && _)=true:=h;obtain ⟨x,p,rfl⟩:=fM h2;cases ks with
 | nil=>exact ⟨x,p,es,q,rfl,h⟩
 | cons _ _=>cases h
noncomputable def tgB (N:List Str) (sc:Scope):Tg->Expr->Bool
 | .one i,e=>isK 23 e && match e with | .Name x _=>lU sc x && decide (N[i]?=some x) | _=>false
 | .two i j,e=>isK 25 e && match e with
  | .Tuple es _ _=>(match es with
   | [a,b]=>isK 23 a && (isK 23 b && match a,b with | .Name x _,.Name y _=>lU sc x && lU sc y && decide (N[i]?=some x) && decide (N[j]?=some y) && decide (i≠j) | _,_=>false)
   | _=>false)
  | _=>false
theorem uw {N:List Str}{sc:Scope}{i:Nat}{e:Expr} (h:tgB N sc (.one i) e=true):∃ x p,e=.Name x p/\lU sc x=true/\N[i]?=some x:=by
 obtain ⟨x,p,rfl⟩:=fM h;have h2:(lU sc x && decide (N[i]?=some x))=true:=h;simp only [Bool.and_eq_true,decide_eq_true_eq] at h2;exact ⟨x,p,rfl,h2⟩
theorem ur {N:List Str}{sc:Scope}{i j:Nat}{e:Expr} (h:tgB N sc (.two i j) e=true):∃ x p y q k r,e=.Tuple [.Name x p,.Name y q] k r/\((((lU sc x=true/\lU sc y=true)/\N[i]?=some x)/\N[j]?=some y)/\i≠j):=by
 obtain ⟨es,k,r,rfl⟩:=Ga h;rcases es with _ | ⟨a,_ | ⟨b,_ | ⟨c,es⟩⟩⟩ <;> try (cases h;done)
 obtain ⟨x,p,rfl⟩:=fM (show (isK 23 a && _)=true from h);obtain ⟨y,q,rfl⟩:=fM (show (isK 23 b && _)=true from h);have h2:(lU sc x && lU sc y && decide (N[i]?=some x) && decide (N[j]?=some y) && decide (i≠j))=true:=h;simp only [Bool.and_eq_true,decide_eq_true_eq] at h2;exact ⟨x,p,y,q,k,r,rfl,h2⟩
def Ji:Expr->Bool
 | .Tuple ..=>true | _=>false
def vh:Expr->Bool
 | .Slice ..=>false | _=>true
def noStar:Expr->Bool
 | .Starred ..=>false | _=>true
def fK:Expr->Bool
 | .Set ..=>false | _=>true
def Hi:Expr->List Expr
 | .Call _ es _ _=>es
 | _=>[]
noncomputable def pL:IK->Expr->List Expr
 | .seq,e=>[e]
 | .rng,e=>Hi e
 | .enum,e=>Hi e
 | .zip,e=>Hi e
 | .rev,e=>Hi e
noncomputable def nD (sc:Scope):IK->Expr->Expr->Bool
 | .seq,_,e=>fK e
 | .rng,_,e=>gJ e fun f es=>decide (f="range") && cF sc f && (decide (es.length=1) || decide (es.length=2) || decide (es.length=3)) && es.all noStar
 | .enum,tg,e=>gJ e fun f es=>decide (f="enumerate") && cF sc f && decide (es.length=1) && es.all noStar && Ji tg
 | .zip,tg,e=>gJ e fun f es=>decide (f="zip") && cF sc f && decide (es.length=2) && es.all noStar && Ji tg
 | .rev,_,_=>false
mutual
noncomputable def okE (T:Tx) (N:List Str):M->Scope->Expr->Bool
 | .var i,sc,e=>isK 23 e && match e with | .Name x _=>aL x && Bm sc x && decide (N[i]?=some x) | _=>false
 | .con d,sc,e=>match e with
  | .Constant c _ _=>TY d c
  | .Name x _=>aL x && cF sc x && glB (T.gl.lookup x) d
  | _=>false
 | .tup ms,sc,e=>isK 25 e && match e with | .Tuple es _ _=>cB T N ms sc es && es.all noStar | _=>false
 | .lst ms,sc,e=>isK 24 e && match e with | .List es _=>cB T N ms sc es && es.all noStar | _=>false
 | .dct0,_,_=>false
 | .bin o a b,sc,e=>isK 2 e && match e with | .BinOp x p y _=>boB o p && okE T N a sc x && okE T N b sc y | _=>false
 | .cmp o a b,sc,e=>isK 15 e && match e with | .Compare x [p] [y] _=>coB o p && fK y && okE T N a sc x && okE T N b sc y | _=>false
 | .chain o o' a b c,sc,e=>isK 15 e && match e with | .Compare x [p,p'] [y,z] _=>coB o p && coB o' p' && fK y && fK z && okE T N a sc x && okE T N b sc y && okE T N c sc z | _=>false
 | .and ms,sc,e=>isK 0 e && match e with | .BoolOp .And es _=>cB T N ms sc es && !ms.isEmpty | _=>false
 | .or ms,sc,e=>isK 0 e && match e with | .BoolOp .Or es _=>cB T N ms sc es && !ms.isEmpty | _=>false
 | .not a,sc,e=>isK 3 e && match e with | .UnaryOp .Not x _=>okE T N a sc x | _=>false
 | .neg a,sc,e=>isK 3 e && match e with | .UnaryOp .USub x _=>okE T N a sc x | _=>false
 | .ite _ _ _,_,_=>false
 | .ix a b,sc,e=>isK 21 e && match e with | .Subscript x y _=>vh y && okE T N a sc x && okE T N b sc y | _=>false
 | .slc a lo hi,sc,e=>isK 21 e && match e with
  | .Subscript x s _=>isK 26 s && (match s with | .Slice l h st _=>st.isNone && (okE T N a sc x && (match l with | none=>dg lo | some y=>!dg lo && okE T N lo sc y) && (match h with | none=>dg hi | some y=>!dg hi && okE T N hi sc y)) | _=>false)
  | _=>false
 | .dget _ _ _,_,_=>false
 | .mth _ _ _,_,_=>false
 | .fmt _ _ _,_,_=>false
 | .call f ms,sc,e=>gJ e fun x es=>aL x && cF sc x && decide (T.F[f]?=some x) && cB T N ms sc es && es.all noStar
 | .blt b ms,sc,e=>gJ e fun x es=>decide (x=Rw b) && cF sc x && !es.isEmpty && es.all noStar && (match b,es with
   | .sorted,_=>false
   | .listEnum,_=>false
   | .listRev,_=>false
   | .str,_=>false
   | .max2,_=>false
   | _,_=>cB T N ms sc es)
 | .isin a t,sc,e=>gJ e fun x es=>match es with
  | [y,z']=>isK 23 z' && (match z' with | .Name z _=>decide (x="isinstance") && cF sc x && okE T N a sc y && noStar y && decide (z=t.nm) && cF sc z | _=>false)
  | _=>false
 | .comp elt tg k src hc c cap,sc,e=>isK 8 e && match e with
  | .ListComp elt' [⟨tg',iter,ifs,as⟩] scope _=>decide (as=0) && scB sc scope && tgB N scope tg tg' && nD sc k tg' iter && cB T N src sc (pL k iter) &&
   (match hc,ifs with | true,[c']=>okE T N c scope c' | false,[]=>true | _,_=>false) && okE T N elt scope elt' && decide (cap=cA N scope)
  | _=>false
noncomputable def cB (T:Tx) (N:List Str):List M->Scope->List Expr->Bool
 | [],_,es=>es.isEmpty
 | m::ms,sc,es=>match es with | e::es=>okE T N m sc e && cB T N ms sc es | []=>false
end
section
variable {T:Tx}{N:List Str}{sc:Scope}{a b c:M}{ms:List M}{x y z:Expr}{es:List Expr}{pos p2 p3:Pos}{s f:Str}{k:Nat}
theorem YX {i:Nat}:okE T N (.var i) sc (.Name s pos)=(aL s && Bm sc s && decide (N[i]?=some s)):=rfl
theorem Vu {d:D}:okE T N (.con d) sc (.Name s pos)=(aL s && cF sc s && glB (T.gl.lookup s) d):=rfl
theorem X7:okE T N (.tup ms) sc (.Tuple es k pos)=(cB T N ms sc es && es.all noStar):=rfl
theorem LQ:okE T N (.lst ms) sc (.List es pos)=(cB T N ms sc es && es.all noStar):=rfl
theorem MF {o:BO}{p:Operator}:okE T N (.bin o a b) sc (.BinOp x p y pos)=(boB o p && okE T N a sc x && okE T N b sc y):=rfl
theorem YS {o:CO}{p:CmpOp}:okE T N (.cmp o a b) sc (.Compare x [p] [y] pos)=(coB o p && fK y && okE T N a sc x && okE T N b sc y):=rfl
theorem R6 {o o':CO}{p p':CmpOp}:okE T N (.chain o o' a b c) sc (.Compare x [p,p'] [y,z] pos)=(coB o p && coB o' p' && fK y && fK z && okE T N a sc x && okE T N b sc y && okE T N c sc z):=rfl
theorem Xo:okE T N (.and ms) sc (.BoolOp .And es pos)=(cB T N ms sc es && !ms.isEmpty):=rfl
theorem abC:okE T N (.or ms) sc (.BoolOp .Or es pos)=(cB T N ms sc es && !ms.isEmpty):=rfl
theorem abA:okE T N (.ix a b) sc (.Subscript x y pos)=(vh y && okE T N a sc x && okE T N b sc y):=rfl
theorem Zi {l h:Option Expr}:okE T N (.slc a b c) sc (.Subscript x (.Slice l h none p2) pos)=(okE T N a sc x && (match l with | none=>dg b | some y=>!dg b && okE T N b sc y) && (match h with | none=>dg c | some y=>!dg c && okE T N c sc y)):=rfl
theorem HS {elt:M}{tg:Tg}{ik:IK}{hc:Bool}{cap:List Bool}{elt' tg' iter:Expr}{ifs:List Expr}{as:Int}{scope:Scope}:okE T N (.comp elt tg ik ms hc c cap) sc (.ListComp elt' [⟨tg',iter,ifs,as⟩] scope pos)=(decide (as=0) && scB sc scope && tgB N scope tg tg' && nD sc ik tg' iter && cB T N ms sc (pL ik iter) &&
   (match hc,ifs with | true,[c']=>okE T N c scope c' | false,[]=>true | _,_=>false) && okE T N elt scope elt' && decide (cap=cA N scope)):=rfl
theorem uW:cB T N [] sc es=es.isEmpty:=rfl
theorem Ml:cB T N (a::ms) sc []=false:=rfl
theorem dz:cB T N (a::ms) sc (x::es)=(okE T N a sc x && cB T N ms sc es):=rfl
end
end Mi
namespace Mi
open PySem L2
open PyProof.Rows hiding St
def Vs (g:G) (ρ:En) (σ:St) (Hs:Hp) (U:List Nat):Prop:=ρ.length=σ.length/\∀ i∈U,∀ d,ρ[i]?=some (some d)->∃ v,σ[i]?=some (some v)/\Rp g Hs d v
section
variable {g:G}{ρ:En}{σ:St}{Hs Hs':Hp}{U U':List Nat}
theorem Vs.mono (h:Vs g ρ σ Hs U) (m:Same Hs Hs'):Vs g ρ σ Hs' U:=⟨h.1,fun i hi d e=>let ⟨v,a,r⟩:=h.2 i hi d e;⟨v,a,r.mono m⟩⟩
theorem Vs.sub (h:Vs g ρ σ Hs U) (hs:∀ i∈U',i∈U):Vs g ρ σ Hs U':=⟨h.1,fun i hi d e=>h.2 i (hs i hi) d e⟩
theorem Vs.l (h:Vs g ρ σ Hs (U++U')):Vs g ρ σ Hs U:=h.sub fun _ hi=>List.mem_append_left _ hi
theorem Vs.r (h:Vs g ρ σ Hs (U++U')):Vs g ρ σ Hs U':=h.sub fun _ hi=>List.mem_append_right _ hi
end
def tM (X:Cx) (U:List Nat) (r:En->R D):TE:=fun σ H Q=>∃ ρ Hs d,Same Hs H/\Vs (gOf X) ρ σ Hs U/\r ρ=.ok d/\XD X H Hs Q d
def XDs (X:Cx) (H Hs:Hp) (Q:List V->Hp->Prop) (ds:List D):Prop:=∀ vs H' Hs',Grow H Hs H' Hs'->Rps (gOf X) Hs' ds vs->Q vs H'
def tMs (X:Cx) (U:List Nat) (r:En->R (List D)):TA:=fun σ H Q=>∃ ρ Hs ds,Same Hs H/\Vs (gOf X) ρ σ Hs U/\r ρ=.ok ds/\XDs X H Hs Q ds
def tMT (X:Cx) (U:List Nat) (r:En->R D):TT:=fun σ H Q=>∃ ρ Hs b,Same Hs H/\Vs (gOf X) ρ σ Hs U/\r ρ=.ok (.bl b)/\∀ H' Hs',Grow H Hs H' Hs'->Q b H'
section
variable {X:Cx}{σ:St}{H Hs:Hp}{Q:VK}{U Ua Ub Uc:List Nat}{r ra rb rc:En->R D}
theorem Hj {rr:R2}{op:D->D->R D} (o:Op2 X rr op):tM X (Ua++Ub) (fun ρ=>do let x <- ra ρ;let y <- rb ρ;op x y) σ H Q->tOp rr (tM X Ua ra) (tM X Ub rb) σ H Q:=by
 rintro ⟨ρ,Hs,z,hs,hv,h,k⟩;obtain ⟨x,hx,h⟩:=aq h;obtain ⟨y,hy,h⟩:=aq h;refine ⟨ρ,Hs,x,hs,hv.l,hx,fun v H1 Hs1 g1 r1=>?_⟩;refine ⟨ρ,Hs1,y,g1.sub,hv.r.mono (g1.same hs),hy,fun u H2 Hs2 g2 r2=>?_⟩;exact o v u x y z H2 Hs2 Q g2.sub (r1.mono (g2.same g1.sub)) r2 h (k.grow (g1.trans g2))
theorem DY {Q:Bool->Hp->Prop}:tMT X U r σ H Q->tM X U r σ H fun x H1=>∃ c,x=.bl c/\Q c H1:=by
 rintro ⟨ρ,Hs,b,hs,hv,h,k⟩;exact ⟨ρ,Hs,.bl b,hs,hv,h,fun v H1 Hs1 g1 r1=>⟨b,j9.mp r1,k H1 Hs1 g1⟩⟩
end
structure ScRel (sc:Scope) (X:Cx):Prop where
 glb:∀ x,cF sc x=true->Gl X x
 vis:∀ x,Bm sc x=true->Vis X.env.scope x
 cf:∀ x,sc.names.lookup x=some .cell\/sc.names.lookup x=some .free->X.env.scope.names.lookup x=some .cell\/X.env.scope.names.lookup x=some .free
 own:∀ x,lU sc x=true->L2.Loc X.env.scope x/\(X.fn x=true\/X.env.scope.names.lookup x=some .local)
def spD (g:G) (c:List D->R D) (np:Nat):Sp:=fun vs H Q _=>∃ ds Hs d,vs.length=np/\Same Hs H/\Rps g Hs ds vs/\c ds=.ok d/\∀ v H' Hs',Grow H Hs H' Hs'->Rp g Hs' d v->Q v H'
def Qf (g:G) (c:List D->R D) (np:Nat):Sp:=fun vs H Q _=>∃ d0 d d' v0 a Hs,vs=[v0,.ref a]/\vs.length=np/\Same Hs H/\Rp g Hs d0 v0/\Hs a=none/\eF g H Hs a d/\c [d0,d]=.ok d'/\∀ H' Hs',Grow (hole H a) Hs H' Hs'->Hs' a=none->eF g H' Hs' a d'->Q .non H'
def spF (g:G) (c:List D->R D) (np:Nat):Sp:=fun vs H Q _=>∃ ds Hs d,vs.length=np/\Same Hs H/\Rps g Hs ds vs/\c ds=.ok d/\∀ v H' Hs',Grow H Hs H' Hs'->Rp g Hs' d v->(∀ a,v=.ref a->H a=none)->Q v H'
def GlV:D->Option Value->Prop
 | .int i,o=>∃ t,o=some (.int i t)
 | .str z,o=>∃ t,o=some (.str z t)
 | _,_=>False
structure Cok (T:Tx) (cl:Nat->List D->R D) (X:Cx):Prop where
 calm:X.calm=true
 nd:X.N.Nodup
 un:X.A.units+100 < cLine
 blt:∀ f∈mK,X.mg f=none
 gl:∀ x d,T.gl.lookup x=some d->GlV d (X.mg x)
 fns:∀ f x,T.F[f]?=some x->∃ k a fd ps,FnOk X.prog X.w X.K X.mg X.base CX0 k a fd ps (spD (gOf X) (cl f) ps.length)/\FnOk X.prog X.w X.K X.mg X.base CX0 k a fd ps (Qf (gOf X) (cl (1000+f)) ps.length)/\Room k X.A/\X.mg x=some (.ref a)/\PySem.W.keepIn X.K (.ref a)=true/\Binds X.K fd ps []/\(∀ ds d,cl f ds=.ok d->ds.length=ps.length)/\(∀ ds d,cl (1000+f) ds=.ok d->ps.length=2)/\FnOk X.prog X.w X.K X.mg X.base CX0 k a fd ps (spF (gOf X) (cl (2000+f)) ps.length)/\∀ ds d,cl (2000+f) ds=.ok d->ds.length=ps.length
theorem Cok.blk {T:Tx}{cl:Nat->List D->R D}{X:Cx} (C:Cok T cl X) (scope:Scope) (s:Shared) (H:Hp) (fp:List Addr) (xe:Value->Shared->Prop):Cok T cl (cN X scope s H fp xe) :=
 ⟨C.calm,C.nd,C.un,C.blt,C.gl,C.fns⟩
theorem Kh {sc scope:Scope}{X:Cx} (h:scB sc scope=true) (S:ScRel sc X):ScOk X.env.scope scope:=by
 unfold scB at h;simp only [Bool.and_eq_true,decide_eq_true_eq,List.all_eq_true,Bool.or_eq_true] at h;refine ⟨h.1.1,h.1.2,fun x hx=>?_⟩;have:=h.2 (x,.free) (PySem.mem_of_lookup hx);rcases this with (q | q) | q
 .exact absurd rfl q
 .exact S.cf x (.inl q)
 .exact S.cf x (.inr q)
theorem uT {sc:Scope}{x:Str} (h:Bm sc x=true):Vis sc x:=by
 unfold Bm at h;unfold Vis;split at h <;> simp_all
theorem mH {sc:Scope}{x:Str} (h:lU sc x=true):L2.Loc sc x:=by
 unfold lU at h;unfold L2.Loc;split at h <;> simp_all
theorem uQ {sc:Scope}{x:Str} (h:cF sc x=true):sc.names.lookup x=some .globalImplicit:=by
 unfold cF at h;split at h <;> simp_all
theorem Fw {sc scope:Scope}{X:Cx}{s:Shared}{H:Hp}{fp:List Addr}{xe:Value->Shared->Prop} (S:ScRel sc X):ScRel scope (cN X scope s H fp xe):=by
 have look:∀ x,(cN X scope s H fp xe).env.scope.names.lookup x=(scope.names.lookup x).map fun k=>if (k == NameKind.free && X.env.scope.kind == .function && X.env.kindOf x == some .cell) then NameKind.cell else k:=fun x=>rK scope X.env x
 refine ⟨fun x h=>?_,fun x h=>?_,fun x h=>?_,fun x h=>?_⟩
 .show (cN X scope s H fp xe).env.scope.names.lookup x=_
  rw [look,uQ h];rfl
 .unfold Vis;rw [look];rcases uT h with e | e | e <;> rw [e]
  .exact .inl rfl
  .exact .inr (.inl rfl)
  .simp only [Option.map_some];split
   .exact .inr (.inl rfl)
   .exact .inr (.inr rfl)
 .rw [look];rcases h with e | e <;> rw [e]
  .exact .inl rfl
  .simp only [Option.map_some];split
   .exact .inl rfl
   .exact .inr rfl
 .unfold L2.Loc;rw [look];rcases mH h with e | e <;> rw [e]
  .exact ⟨.inl rfl,.inr rfl⟩
  .exact ⟨.inr rfl,.inl (by show decide (scope.names.lookup x=some .cell)=true;rw [e];rfl)⟩
theorem aG {e:Expr}{es:List Expr}{env:Env} (h:noStar e=true):starEach (e::es) env=(false,eval e env)::starEach es env:=by
 cases e <;> first | rfl | cases h
theorem eZ {env:Env}{pos:Pos}:∀ {es:List Expr},es.all noStar=true->(backTo pos (starEach es env)).any (·.1)=false
 | [],_=>rfl
 | e::es,h=>by
  simp only [List.all_cons,Bool.and_eq_true] at h;rw [aG h.1];show (false || (backTo pos (starEach es env)).any (·.1))=false
  rw [eZ h.2];rfl
section
variable {X:Cx}{σ:St}{H Hs:Hp}{Q:VK}{U Ua Ub Uc:List Nat}{r ra rb rc:En->R D}{e:Expr}{es:List Expr}{rs:En->R (List D)}
theorem XJ:PA X [] (tMs X [] fun _=>.ok []):=Qz jz fun σ H Q=>by
 rintro ⟨ρ,Hs,ds,hs,hv,h,k⟩;cases h;exact k [] H Hs (Grow.refl hs) .nil
theorem Tq (ha:PE X e (tM X Ua ra)) (hr:PA X es (tMs X Ub rs)) (hn:noStar e=true):PA X (e::es) (tMs X (Ua++Ub) fun ρ=>do let d <- ra ρ;let ds <- rs ρ;.ok (d::ds)) :=
 Qz (dw ha hr (aG hn)) fun σ H Q=>by
  rintro ⟨ρ,Hs,zs,hs,hv,h,k⟩;obtain ⟨x,hx,h⟩:=aq h;obtain ⟨ys,hy,h⟩:=aq h;cases h;refine ⟨ρ,Hs,x,hs,hv.l,hx,fun v H1 Hs1 g1 r1=>?_⟩;refine ⟨ρ,Hs1,ys,g1.sub,hv.r.mono (g1.same hs),hy,fun us H2 Hs2 g2 r2=>?_⟩;exact k (v::us) H2 Hs2 (g1.trans g2) (Rps.cons (r1.mono (g2.same g1.sub)) r2)
variable {pos:Pos}
theorem aa8 {i:Nat}{x:Str} (hN:X.N[i]?=some x) (hv:Vis X.env.scope x) (ho:aL x=true):PE X (.Name x pos) (tM X [i] fun ρ=>cY ρ i):=by
 unfold aL at ho;simp only [Bool.and_eq_true,Bool.not_eq_true'] at ho;refine bB (jY hN hv ho.1.1 ho.1.2) fun σ H Q=>?_
 rintro ⟨ρ,Hs,d,hs,hv,h,k⟩;dsimp only [cY] at h;split at h
 .cases h;rename_i e;obtain ⟨v,ev,rv⟩:=hv.2 i (List.mem_singleton.mpr rfl) d e;exact ⟨v,ev,k.here hs rv⟩
 .cases h
theorem aaP {d:D}{c:Const}{j:Nat} (h:TY d c=true):PE X (.Constant c j pos) (tM X [] fun _=>.ok d):=by
 cases d <;> cases c <;> simp only [TY] at h <;> try (cases h;done)
 .refine bB abO fun σ H Q=>?_
  rintro ⟨ρ,Hs,d,hs,hv,h,k⟩;cases h;exact k.non hs
 .simp only [decide_eq_true_eq] at h;subst h;refine bB ab7 fun σ H Q=>?_
  rintro ⟨ρ,Hs,d,hs,hv,h,k⟩;cases h;exact k.bl hs
 .simp only [decide_eq_true_eq] at h;subst h;refine bB Jz fun σ H Q=>?_
  rintro ⟨ρ,Hs,d,hs,hv,h,k⟩;cases h;exact k.int hs
 .simp only [decide_eq_true_eq] at h;subst h;refine bB Hy fun σ H Q=>?_
  rintro ⟨ρ,Hs,d,hs,hv,h,k⟩;cases h;exact k.here hs (fY.mpr rfl)
theorem W3 {T:Tx}{cl:Nat->List D->R D}{x:Str}{d:D} (C:Cok T cl X) (hg:Gl X x) (ho:aL x=true) (h:T.gl.lookup x=some d):PE X (.Name x pos) (tM X [] fun _=>.ok d):=by
 unfold aL at ho;simp only [Bool.and_eq_true,Bool.not_eq_true'] at ho;have g:=C.gl x d h;cases d <;> try exact g.elim
 .obtain ⟨t,e⟩:=g;refine bB (Em hg e (v:=.int _) ⟨t,rfl⟩ ho.1.1) fun σ H Q=>?_
  rintro ⟨ρ,Hs,d,hs,hv,h,k⟩;cases h;exact k.int hs
 .obtain ⟨t,e⟩:=g;refine bB (Em hg e (v:=.str _) ⟨t,rfl⟩ ho.1.1) fun σ H Q=>?_
  rintro ⟨ρ,Hs,d,hs,hv,h,k⟩;cases h;exact k.here hs (fY.mpr rfl)
theorem Z2 {k:Nat} (h:PA X es (tMs X U rs)):PE X (.Tuple es k pos) (tM X U fun ρ=>do let ds <- rs ρ;if ds.length<=lim then .ok (.tup ds) else .stuck) :=
 bB (abw h) fun σ H Q=>by
  rintro ⟨ρ,Hs,d,hs,hv,h,k⟩;obtain ⟨ds,hd,h⟩:=aq h;obtain ⟨hl,h⟩:=bR h;cases h;refine ⟨ρ,Hs,ds,hs,hv,hd,fun vs H1 Hs1 g1 r1=>⟨?_,(k.grow g1).newT g1.sub r1⟩⟩;rw [<- r1.length];exact Nat.le_trans hl jy
theorem abb (h:PA X es (tMs X U rs)):PE X (.List es pos) (tM X U fun ρ=>do let ds <- rs ρ;if ds.length<=lim then .ok (.lst ds) else .stuck) :=
 bB (JK h) fun σ H Q=>by
  rintro ⟨ρ,Hs,d,hs,hv,h,k⟩;obtain ⟨ds,hd,h⟩:=aq h;obtain ⟨hl,h⟩:=bR h;cases h;refine ⟨ρ,Hs,ds,hs,hv,hd,fun vs H1 Hs1 g1 r1=>⟨?_,(k.grow g1).newL g1.sub r1⟩⟩;rw [<- r1.length];exact Nat.le_trans hl jy
variable {a b c:Expr}
theorem abN (o:BO) (ha:PE X a (tM X Ua ra)) (hb:PE X b (tM X Ub rb)):PE X (.BinOp a (TX o) b pos) (tM X (Ua++Ub) fun ρ=>do let x <- ra ρ;let y <- rb ρ;fQ o x y) :=
 bB (Wl (abv o) ha hb) fun σ H Q h=>Hj (Xl o) h
theorem Bu {p:CmpOp}{b:Expr} (h:fK b=true):behindInMarks p b=false:=by cases b <;> first | rfl | cases h
theorem aaq (hu:X.A.units+100 < cLine) (o:CO) (ha:PE X a (tM X Ua ra)) (hb:PE X b (tM X Ub rb)) (hn:fK b=true) :
  PE X (.Compare a [su o] [b] pos) (tM X (Ua++Ub) fun ρ=>do let x <- ra ρ;let y <- rb ρ;let r <- aY o x y;.ok (.bl r)) :=
 bB (Lw (rD hu o) ha hb (Bu hn)) fun σ H Q h=>Hj (yG o) h
theorem aal (hu:X.A.units+100 < cLine) (o:CO) (ha:PE X a (tM X Ua ra)) (hb:PE X b (tM X Ub rb)) (hn:fK b=true) :
  PT X (.Compare a [su o] [b] pos) (tMT X (Ua++Ub) fun ρ=>do let x <- ra ρ;let y <- rb ρ;let r <- aY o x y;.ok (.bl r)) :=
 Cy (X5 (rD hu o) ha hb (Bu hn)) fun σ H Q h=>Hj (yG o) (DY h)
theorem Ju (o o':CO):tM X (Ua++(Ub++Uc)) (fun ρ=>do let x <- ra ρ;let y <- rb ρ;let r <- aY o x y;if r then do let z <- rc ρ;let r2 <- aY o' y z;.ok (.bl r2) else .ok (.bl false)) σ H Q ->
  Jy (Pg X o) (Pg X o') (tM X Ua ra) (tM X Ub rb) (tM X Uc rc) σ H Q:=by
 rintro ⟨ρ,Hs,z,hs,hv,h,k⟩;obtain ⟨x,hx,h⟩:=aq h;obtain ⟨y,hy,h⟩:=aq h;obtain ⟨t,ht,h⟩:=aq h;refine ⟨ρ,Hs,x,hs,hv.l,hx,fun v H1 Hs1 g1 r1=>?_⟩;refine ⟨ρ,Hs1,y,g1.sub,hv.r.l.mono (g1.same hs),hy,fun u H2 Hs2 g2 r2=>?_⟩;have hv2:=hv.r.r.mono ((g1.trans g2).same hs);refine yG o v u x y (.bl t) H2 Hs2 _ g2.sub (r1.mono (g2.same g1.sub)) r2 (by show (aY o x y >>= fun r=>R.ok (D.bl r))=_;rw [ht];rfl) fun w H3 Hs3 g3 r3=>⟨t,j9.mp r3,?_⟩
 have k3:=(k.grow (g1.trans g2)).grow g3;cases t with
 | false=>rw [if_neg (by decide)];rw [if_neg (by decide)] at h;cases h;exact k3.bl g3.sub
 | true =>
  rw [if_pos rfl];rw [if_pos rfl] at h;obtain ⟨zc,hc,h⟩:=aq h;refine ⟨ρ,Hs3,zc,g3.sub,hv2.mono (g3.same g2.sub),hc,fun q H4 Hs4 g4 r4=>?_⟩;exact yG o' u q y zc z H4 Hs4 Q g4.sub (r2.mono ((g3.trans g4).same g2.sub)) r4 h (k3.grow g4)
theorem Mt {p p':CmpOp} (h:fK c=true):lastMarks [p,p'] [b,c]=false:=by
 show behindInMarks p' c=false
 exact Bu h
theorem UJ (hu:X.A.units+100 < cLine) (o o':CO) (ha:PE X a (tM X Ua ra)) (hb:PE X b (tM X Ub rb)) (hc:PE X c (tM X Uc rc)) (hn:fK c=true) :
  PE X (.Compare a [su o,su o'] [b,c] pos) (tM X (Ua++(Ub++Uc)) fun ρ=>do let x <- ra ρ;let y <- rb ρ;let r <- aY o x y;if r then do let z <- rc ρ;let r2 <- aY o' y z;.ok (.bl r2) else .ok (.bl false)) :=
 bB (TV (rD hu o) (rD hu o') ha hb hc (Mt hn)) fun σ H Q h=>Ju o o' h
theorem Vx (hu:X.A.units+100 < cLine) (o o':CO) (ha:PE X a (tM X Ua ra)) (hb:PE X b (tM X Ub rb)) (hc:PE X c (tM X Uc rc)) (hn:fK c=true) :
  PT X (.Compare a [su o,su o'] [b,c] pos) (tMT X (Ua++(Ub++Uc)) fun ρ=>do let x <- ra ρ;let y <- rb ρ;let r <- aY o x y;if r then do let z <- rc ρ;let r2 <- aY o' y z;.ok (.bl r2) else .ok (.bl false)) :=
 Cy (T3 (rD hu o) (rD hu o') ha hb hc (Mt hn)) fun σ H Q h=>Ju o o' (DY h)
theorem ZV (ha:PE X a (tM X Ua ra)):PE X (.UnaryOp .Not a pos) (tM X Ua fun ρ=>do let x <- ra ρ;let t <- bW x;.ok (.bl (!t))) :=
 bB (R7 ha) fun σ H Q=>by
  rintro ⟨ρ,Hs,z,hs,hv,h,k⟩;obtain ⟨x,hx,h⟩:=aq h;obtain ⟨t,ht,h⟩:=aq h;cases h;cases x <;> simp only [bW] at ht <;> try (cases ht;done)
  cases ht;exact ⟨ρ,Hs,_,hs,hv,hx,fun v H1 Hs1 g1 r1=>⟨t,j9.mp r1,(k.grow g1).bl g1.sub⟩⟩
theorem fB {d:D}{t:Bool} (h:bW d=.ok t):d=.bl t:=by
 cases d <;> simp only [bW] at h <;> first | (cases h;rfl) | cases h
theorem abz (ha:PT X a (tMT X Ua ra)):PT X (.UnaryOp .Not a pos) (tMT X Ua fun ρ=>do let x <- ra ρ;let t <- bW x;.ok (.bl (!t))) :=
 Cy (RQ ha) fun σ H Q=>by
  rintro ⟨ρ,Hs,z,hs,hv,h,k⟩;obtain ⟨x,hx,h1⟩:=aq h;obtain ⟨t,ht,h2⟩:=aq h1;clear h h1;cases fB ht;cases h2;exact ⟨ρ,Hs,t,hs,hv,hx,k⟩
theorem Z9 (ha:PE X a (tM X Ua ra)):PE X (.UnaryOp .USub a pos) (tM X Ua fun ρ=>do let x <- ra ρ;(match x with | .int i=>.ok (.int (-i)) | _=>.stuck)) :=
 bB (acI Zt ha) fun σ H Q=>by
  rintro ⟨ρ,Hs,z,hs,hv,h,k⟩;obtain ⟨x,hx,h⟩:=aq h;cases x <;> simp only at h <;> try (cases h;done)
  cases h;exact ⟨ρ,Hs,_,hs,hv,hx,fun v H1 Hs1 g1 r1=>⟨_,aQ.mp r1,(k.grow g1).int g1.sub⟩⟩
theorem Uw (h:vh b=true):MP b:=by
 intro o i;cases b <;> first | rfl | cases h
theorem acQ (hu:X.A.units+100 < cLine) (ha:PE X a (tM X Ua ra)) (hb:PE X b (tM X Ub rb)) (hp:vh b=true):PE X (.Subscript a b pos) (tM X (Ua++Ub) fun ρ=>do let x <- ra ρ;let y <- rb ρ;ixD x y) :=
 bB (abY (adt hu) ha hb (Uw hp)) fun σ H Q h=>Hj aaT h
def tPo (X:Cx) (U:List Nat) (r:En->R (Option Int)):TO:=fun σ H Q=>∃ ρ Hs o,Same Hs H/\Vs (gOf X) ρ σ Hs U/\r ρ=.ok o/\∀ H' Hs',Grow H Hs H' Hs'->Q o H'
theorem QD {X:Cx}{e:Option Expr}{t t':TO} (h:PO X e t) (i:∀ σ H Q,t' σ H Q->t σ H Q):PO X e t':=fun pins s σ H Q I hq=>h pins s σ H Q I (i σ H Q hq)
theorem adx:PO X none (tPo X U fun _=>.ok none):=QD Zb fun σ H Q=>by
 rintro ⟨ρ,Hs,z,hs,hv,h,k⟩;cases h;exact k H Hs (Grow.refl hs)
theorem adv (ha:PE X a (tM X U ra)):PO X (some a) (tPo X U fun ρ=>do let d <- ra ρ;mZ d):=QD (Zr ha) fun σ H Q=>by
 rintro ⟨ρ,Hs,z,hs,hv,h,k⟩;obtain ⟨x,hx,h⟩:=aq h;cases x <;> simp only [mZ] at h <;> try (cases h;done)
 cases h;exact ⟨ρ,Hs,_,hs,hv,hx,fun v H1 Hs1 g1 r1=>⟨_,aQ.mp r1,k H1 Hs1 g1⟩⟩
theorem aaN {lo hi:Option Expr}{rl rh:En->R (Option Int)}{p2:Pos} (ha:PE X a (tM X Ua ra)) (hl:PO X lo (tPo X Ub rl)) (hh:PO X hi (tPo X Uc rh)) :
  PE X (.Subscript a (.Slice lo hi none p2) pos) (tM X (Ua++(Ub++Uc)) fun ρ=>do let x <- ra ρ;let l <- rl ρ;let h <- rh ρ;slD x l h) :=
 bB (V8 adu ha hl hh) fun σ H Q=>by
  rintro ⟨ρ,Hs,z,hs,hv,h,k⟩;obtain ⟨x,hx,h⟩:=aq h;obtain ⟨l,h1,h⟩:=aq h;obtain ⟨u,h2,h⟩:=aq h;refine ⟨ρ,Hs,x,hs,hv.l,hx,fun v H1 Hs1 g1 r1=>?_⟩;refine ⟨ρ,Hs1,l,g1.sub,hv.r.l.mono (g1.same hs),h1,fun H2 Hs2 g2=>?_⟩;refine ⟨ρ,Hs2,u,g2.sub,hv.r.r.mono ((g1.trans g2).same hs),h2,fun H3 Hs3 g3=>?_⟩;exact Uq g3.sub (r1.mono ((g2.trans g3).same g1.sub)) h (k.grow ((g1.trans g2).trans g3))
theorem V0 (ha:PE X a (tM X Ua ra)) (he:∀ whole,isTrue a X.env whole=(do let v <- whole;standAt a.pos;holding [v] (truthy v))):PT X a (tMT X Ua ra) :=
 Cy (Ce ha he) fun σ H Q h=>DY h
theorem Xm {T:Tx}{cl:Nat->List D->R D}{f:Nat}{x:Str}{p:Pos} (C:Cok T cl X) (hg:Gl X x) (ho:aL x=true) (hF:T.F[f]?=some x) (ha:PA X (e::es) (tMs X U rs)) (hn:(e::es).all noStar=true) :
  PE X (.Call (.Name x p) (e::es) [] pos) (tM X U fun ρ=>do let ds <- rs ρ;cl f ds):=by
 unfold aL at ho;simp only [Bool.and_eq_true,Bool.not_eq_true',List.all_cons] at ho hn;obtain ⟨k,a,fd,ps,F,_,hr,hm,hk,hb,hlen,_⟩:=C.fns f x hF;refine bB (Dq F hr hg hm hk hb .nil Ws ha ho.1.1 (aG hn.1) (eZ hn.2)) fun σ H Q=>?_
 rintro ⟨ρ,Hs,z,hs,hv,h,k⟩;obtain ⟨ds,hd,h⟩:=aq h;refine ⟨ρ,Hs,ds,hs,hv,hd,fun vs H1 Hs1 g1 r1=>?_⟩;show spD (gOf X) (cl f) ps.length (vs++[]) H1 Q E0
 rw [List.append_nil];exact ⟨ds,Hs1,z,by rw [<- r1.length];exact hlen ds z h,g1.sub,r1,h,fun v H2 Hs2 g2 r2=>k v H2 Hs2 (g1.trans g2) r2⟩
theorem Tn {T:Tx}{cl:Nat->List D->R D}{f:Nat}{x:Str}{p:Pos} (C:Cok T cl X) (hg:Gl X x) (ho:aL x=true) (hF:T.F[f]?=some x) :
  PE X (.Call (.Name x p) [] [] pos) (tM X [] fun ρ=>cl f []):=by
 unfold aL at ho;simp only [Bool.and_eq_true,Bool.not_eq_true'] at ho;obtain ⟨k,a,fd,ps,F,_,hr,hm,hk,hb,hlen,_⟩:=C.fns f x hF;refine bB (T5 F hr hg hm hk hb .nil Ws ho.1.1) fun σ H Q=>?_
 rintro ⟨ρ,Hs,z,hs,hv,h,k⟩;exact ⟨[],Hs,z,hlen [] z h,hs,Rps.nil,h,fun v H2 Hs2 g2 r2=>k v H2 Hs2 g2 r2⟩
noncomputable def Ej:BI->Bool
 | .listEnum=>false | .listRev=>false | .sorted=>false | .str=>false | .max2=>false | _=>true
def Tz (X:Cx):BI->List V->Hp->VK->Prop
 | .len=>fun xs H Q=>(∃ p ys,xs=[.ref p]/\(SqL X.K H p ys\/SqT X.K H p ys)/\Q (.int ys.length) H)\/∃ z,xs=[.str z]/\z.length<=sizeLine/\Q (.int z.length) H
 | .str=>fun _ _ _=>False
 | .int=>fun xs H Q=>(∃ z n,xs=[.str z]/\PySem.intText? z=some n/\z.length<=640/\Q (.int n) H)\/∃ b,xs=[.bl b]/\Q (.int (if b=true then 1 else 0)) H
 | .min2=>fun xs H Q=>∃ i j,xs=[.int i,.int j]/\Q (.int (if j < i then j else i)) H
 | .max2=>fun _ _ _=>False
 | .all=>aa9 X
 | .any=>abo X
 | .sorted=>fun _ _ _=>False
 | .list=>fun xs H Q=>∃ p ys,xs=[.ref p]/\(SqL X.K H p ys\/SqT X.K H p ys)/\∀ l,H l=none->Q (.ref l) (upd H l (.lst ys))
 | .tuple=>fun xs H Q=>∃ p ys,xs=[.ref p]/\((SqL X.K H p ys/\∀ l,H l=none->Q (.ref l) (upd H l (.tup ys)))\/(SqT X.K H p ys/\Q (.ref p) H))
 | .listEnum=>fun _ _ _=>False
 | .listRev=>fun _ _ _=>False
theorem Ao {g:G}{Hs:Hp}:∀ {ds:List D}{xs:List V}{bs:List Bool},Rps g Hs ds xs->boolsOf ds=some bs->xs=bs.map V.bl
 | [],xs,bs,r,h=>by
  simp only [boolsOf] at h;cases h;exact r.nil_inv
 | d::ds,xs,bs,r,h=>by
  obtain ⟨v,ws,rfl,r1,r2⟩:=r.cons_inv;cases d <;> simp only [boolsOf] at h <;> try (cases h;done)
  cases e:boolsOf ds with
  | none=>rw [e] at h;cases h
  | some cs =>
   rw [e] at h;cases h;rw [Ao r2 e,j9.mp r1];rfl
theorem Ut {es:List D} (e:boolsOf es=none):jH .all [.lst es]=.stuck:=by
 show (match boolsOf es with | some bs=>R.ok (D.bl (bs.all id)) | none=>.stuck)=_
 rw [e]
theorem Js {es:List D}{bs:List Bool} (e:boolsOf es=some bs):jH .all [.lst es]=.ok (.bl (bs.all id)):=by
 show (match boolsOf es with | some bs=>R.ok (D.bl (bs.all id)) | none=>.stuck)=_
 rw [e]
theorem Vl {es:List D} (e:boolsOf es=none):jH .any [.lst es]=.stuck:=by
 show (match boolsOf es with | some bs=>R.ok (D.bl (bs.any id)) | none=>.stuck)=_
 rw [e]
theorem HW {es:List D}{bs:List Bool} (e:boolsOf es=some bs):jH .any [.lst es]=.ok (.bl (bs.any id)):=by
 show (match boolsOf es with | some bs=>R.ok (D.bl (bs.any id)) | none=>.stuck)=_
 rw [e]
theorem V9 (b:BI) {ds:List D}{vs:List V}{z:D} (hs:Same Hs H) (r:Rps (gOf X) Hs ds vs) (h:jH b ds=.ok z) (k:XD X H Hs Q z) (hb:Ej b=true):Tz X b vs H Q:=by
 have one:∀ {d:D},Rps (gOf X) Hs [d] vs->∃ v,vs=[v]/\Rp (gOf X) Hs d v:=fun r=>by
  obtain ⟨v,ws,rfl,r1,r2⟩:=r.cons_inv;cases r2.nil_inv;exact ⟨v,rfl,r1⟩
 have two:∀ {d e:D},Rps (gOf X) Hs [d,e] vs->∃ v w,vs=[v,w]/\Rp (gOf X) Hs d v/\Rp (gOf X) Hs e w:=fun r=>by
  obtain ⟨v,ws,rfl,r1,r2⟩:=r.cons_inv;obtain ⟨w,ws,rfl,r3,r4⟩:=r2.cons_inv;cases r4.nil_inv;exact ⟨v,w,rfl,r1,r3⟩
 rcases ds with _ | ⟨d,_ | ⟨e,_ | ⟨f,fs⟩⟩⟩
 .cases b <;> cases h
 .obtain ⟨v,rfl,r1⟩:=one r;cases b
  case listEnum=>cases hb
  case listRev=>cases hb
  case max2=>cases hb
  case str=>cases hb
  case sorted=>cases hb
  all_goals dsimp only [Tz]
  case min2=>cases d <;> cases h
  case int =>
   cases d <;> try (cases h;done)
   case bl b =>
    cases h;exact .inr ⟨b,by rw [j9.mp r1],k.int hs⟩
   case str z =>
    obtain ⟨hl,h⟩:=bR h;split at h <;> try (cases h;done)
    cases h;exact .inl ⟨_,_,by rw [fY.mp r1],‹_›,hl,k.int hs⟩
  case len =>
   cases d <;> try (cases h;done)
   .obtain ⟨hl,h⟩:=bR h;cases h;exact .inr ⟨_,by rw [fY.mp r1],Nat.le_trans hl jy,k.int hs⟩
   .obtain ⟨a,xs,rfl,s1,r2⟩:=cJ.mp r1;cases h;exact .inl ⟨a,xs,rfl,.inr (aO hs s1),by rw [<- r2.length];exact k.int hs⟩
   .obtain ⟨a,xs,rfl,s1,r2⟩:=cP.mp r1;cases h;exact .inl ⟨a,xs,rfl,.inl (bw hs s1),by rw [<- r2.length];exact k.int hs⟩
  case all =>
   cases d <;> try (cases h;done)
   rename_i es;cases e:boolsOf es with
   | none=>rw [Ut e] at h;cases h
   | some bs =>
    rw [Js e] at h;cases h;obtain ⟨a,xs,rfl,s1,r2⟩:=cP.mp r1;cases Ao r2 e;exact ⟨a,bs,rfl,bw hs s1,k.bl hs⟩
  case any =>
   cases d <;> try (cases h;done)
   rename_i es;cases e:boolsOf es with
   | none=>rw [Vl e] at h;cases h
   | some bs =>
    rw [HW e] at h;cases h;obtain ⟨a,xs,rfl,s1,r2⟩:=cP.mp r1;cases Ao r2 e;exact ⟨a,bs,rfl,bw hs s1,k.bl hs⟩
  case list =>
   cases d <;> try (cases h;done)
   .cases h;obtain ⟨a,xs,rfl,s1,r2⟩:=cJ.mp r1;exact ⟨a,xs,rfl,.inr (aO hs s1),k.newL hs r2⟩
   .cases h;obtain ⟨a,xs,rfl,s1,r2⟩:=cP.mp r1;exact ⟨a,xs,rfl,.inl (bw hs s1),k.newL hs r2⟩
  case tuple =>
   cases d <;> try (cases h;done)
   .cases h;obtain ⟨a,xs,rfl,s1,r2⟩:=cJ.mp r1;exact ⟨a,xs,rfl,.inr ⟨aO hs s1,k.here hs r1⟩⟩
   .cases h;obtain ⟨a,xs,rfl,s1,r2⟩:=cP.mp r1;exact ⟨a,xs,rfl,.inl ⟨bw hs s1,k.newT hs r2⟩⟩
 .obtain ⟨v,w,rfl,r1,r2⟩:=two r;cases b
  case listEnum=>cases hb
  case listRev=>cases hb
  case min2 =>
   cases d <;> cases e <;> try (cases h;done)
   cases h;cases aQ.mp r1;cases aQ.mp r2;exact ⟨_,_,rfl,k.int hs⟩
  case max2=>cases hb
  all_goals (first | (cases h;done) | (cases d <;> cases h))
 .have e0:jH b (d::e::f::fs)=.stuck:=by cases b <;> first | rfl | (cases d <;> first | rfl | (cases e <;> rfl))
  rw [e0] at h;cases h
theorem SX:bootBuiltins "any"=some (.builtin "any"):=by decide +kernel
theorem Gn:bootBuiltins "int"=some (.type "int"):=by decide +kernel
theorem Qo:bootBuiltins "str"=some (.type "str"):=by decide +kernel
theorem Ah:bootBuiltins "tuple"=some (.type "tuple"):=by decide +kernel
theorem uY:bootBuiltins "list"=some (.type "list"):=by decide +kernel
theorem Z6 {T:Tx}{cl:Nat->List D->R D} (b:BI) {x:Str}{p:Pos} (C:Cok T cl X) (hx:x=Rw b) (hg:Gl X x) (ha:PA X (e::es) (tMs X U rs)) (hn:(e::es).all noStar=true) (hb:Ej b=true) :
  PE X (.Call (.Name x p) (e::es) [] pos) (tM X U fun ρ=>do let ds <- rs ρ;jH b ds):=by
 simp only [List.all_cons,Bool.and_eq_true] at hn;have key:PE X (.Call (.Name x p) (e::es) [] pos) (tCB (Tz X b) (tMs X U rs)):=by
  subst hx;cases b
  case listEnum=>cases hb
  case listRev=>cases hb
  case str=>cases hb
  case int=>exact sU (GX.or Ky) hg (C.blt _ (by decide +kernel)) Gn ha (by decide +kernel) (by decide +kernel) (aG hn.1) (eZ hn.2)
  case len=>exact kJ (xq.or yF) hg (C.blt _ (by decide +kernel)) PySem.boot_len ha (by decide +kernel) (by decide +kernel) (aG hn.1) (eZ hn.2)
  case min2=>exact kJ (R9 C.calm) hg (C.blt _ (by decide +kernel)) boot_min ha (by decide +kernel) (by decide +kernel) (aG hn.1) (eZ hn.2)
  case max2=>cases hb
  case all=>exact kJ (SJ C.calm) hg (C.blt _ (by decide +kernel)) boot_all ha (by decide +kernel) (by decide +kernel) (aG hn.1) (eZ hn.2)
  case any=>exact kJ (Ru C.calm) hg (C.blt _ (by decide +kernel)) SX ha (by decide +kernel) (by decide +kernel) (aG hn.1) (eZ hn.2)
  case sorted=>cases hb
  case list=>exact sU xg hg (C.blt _ (by decide +kernel)) uY ha (by decide +kernel) (by decide +kernel) (aG hn.1) (eZ hn.2)
  case tuple=>exact sU GR hg (C.blt _ (by decide +kernel)) Ah ha (by decide +kernel) (by decide +kernel) (aG hn.1) (eZ hn.2)
 refine bB key fun σ H Q=>?_
 rintro ⟨ρ,Hs,z,hs,hv,h,k⟩;obtain ⟨ds,hd,h⟩:=aq h;exact ⟨ρ,Hs,ds,hs,hv,hd,fun vs H1 Hs1 g1 r1=>V9 b g1.sub r1 h (k.grow g1) hb⟩
end
end Mi
namespace Mi
open PySem L2
open PyProof.Rows hiding St
section
variable {X:Cx}{σ:St}{H Hs:Hp}{Q:VK}{U Ua Ub Uc:List Nat}{r ra rb rc:En->R D}{e a:Expr}{es:List Expr}{rs:En->R (List D)}{pos:Pos}{T:Tx}{cl:Nat->List D->R D}
theorem yI {g:G}{d:D}{vs:List V} (r:Rps g Hs [d] vs):∃ v,vs=[v]/\Rp g Hs d v:=by
 obtain ⟨v,ws,rfl,r1,r2⟩:=r.cons_inv;cases r2.nil_inv;exact ⟨v,rfl,r1⟩
theorem yQ {g:G}{d e:D}{vs:List V} (r:Rps g Hs [d,e] vs):∃ v w,vs=[v,w]/\Rp g Hs d v/\Rp g Hs e w:=by
 obtain ⟨v,ws,rfl,r1,r2⟩:=r.cons_inv;obtain ⟨w,ws,rfl,r3,r4⟩:=r2.cons_inv;cases r4.nil_inv;exact ⟨v,w,rfl,r1,r3⟩
theorem Pk:bootBuiltins "bool"=some (.type "bool"):=by decide +kernel
theorem ac0 {p:Pos} (C:Cok T cl X) (t:Ty) (hg:Gl X t.nm):PE X (.Name t.nm p) (tC (.ty t.name)):=by
 cases t
 .exact pG hg (C.blt _ (by decide +kernel)) Gn rfl (by decide +kernel) (by decide +kernel)
 .exact pG hg (C.blt _ (by decide +kernel)) Pk rfl (by decide +kernel) (by decide +kernel)
 .exact pG hg (C.blt _ (by decide +kernel)) Qo rfl (by decide +kernel) (by decide +kernel)
 .exact pG hg (C.blt _ (by decide +kernel)) Ah rfl (by decide +kernel) (by decide +kernel)
 .exact pG hg (C.blt _ (by decide +kernel)) uY rfl (by decide +kernel) (by decide +kernel)
theorem Y9 {p p2:Pos} (C:Cok T cl X) (t:Ty) (hg:Gl X "isinstance") (hg2:Gl X t.nm) (ha:PE X a (tM X U ra)) (hn:noStar a=true) :
  PE X (.Call (.Name "isinstance" p) [a,.Name t.nm p2] [] pos) (tM X U fun ρ=>do let x <- ra ρ; .ok (.bl (jc x t))):=by
 refine bB (kJ QK hg (C.blt _ (by decide +kernel)) boot_isinstance (dw ha (dw (ac0 C t hg2) jz (aG rfl)) (aG hn)) (by decide +kernel) (by decide +kernel) (aG hn) rfl) fun σ H Q=>?_
 rintro ⟨ρ,Hs,z,hs,hv,h,k⟩;obtain ⟨x,hx,h1⟩:=aq h;clear h;cases h1;exact ⟨ρ,Hs,x,hs,hv,hx,fun v H1 Hs1 g1 r1=>⟨x,v,t,rfl,r1.mono g1.sub,(k.grow g1).bl g1.sub⟩⟩
structure Src (g:G) (J:It) (Hs:Hp) (ds:List D):Prop where
 go:∀ i H,Same Hs H->i < ds.length->J.go i H
 yld:∀ i H x H' Hs1 d,Same Hs Hs1->Same Hs1 H->ds[i]?=some d->J.yld i H x H'->∃ Hs2,Grow H Hs1 H' Hs2/\Rp g Hs2 d x
 stop:∀ H,Same Hs H->J.stop ds.length H
theorem src_list {a:Addr}{ds:List D}{zs:List V} (h:SqL X.K Hs a zs) (r:Rps (gOf X) Hs ds zs):Src (gOf X) (Itl X.K a) Hs ds where
 go:=fun i H hs hi=>⟨zs,zs[i]'(by rw [<- r.length];exact hi),bw hs h,by simp⟩
 yld:=fun i H x H' Hs1 d hs1 hs e ⟨e1,y⟩=>by
  subst e1;have e2:=y zs (bw (hs1.trans hs) h);obtain ⟨v,e3,rv⟩:=r.getD e;rw [e2] at e3;cases e3;exact ⟨Hs1,Grow.refl hs,rv.mono hs1⟩
 stop:=fun H hs=>⟨zs,bw hs h,by rw [<- r.length];exact Nat.le_refl _⟩
theorem W6 {a:Addr}{ds:List D}{zs:List V} (h:SqT X.K Hs a zs) (r:Rps (gOf X) Hs ds zs):Src (gOf X) (Itt X.K a) Hs ds where
 go:=fun i H hs hi=>⟨zs,zs[i]'(by rw [<- r.length];exact hi),aO hs h,by simp⟩
 yld:=fun i H x H' Hs1 d hs1 hs e ⟨e1,y⟩=>by
  subst e1;have e2:=y zs (aO (hs1.trans hs) h);obtain ⟨v,e3,rv⟩:=r.getD e;rw [e2] at e3;cases e3;exact ⟨Hs1,Grow.refl hs,rv.mono hs1⟩
 stop:=fun H hs=>⟨zs,aO hs h,by rw [<- r.length];exact Nat.le_refl _⟩
theorem Mg {lo:Int}{n:Nat}:Src (gOf X) (Itr lo n) Hs ((List.range n).map fun (k:Nat)=>D.int (lo+(k:Int))) where
 go:=fun i H hs hi=>by show i < n;simpa using hi
 yld:=fun i H x H' Hs1 d hs1 hs e ⟨e1,y⟩=>by
  subst e1 y;rw [List.getElem?_map] at e;cases q:(List.range n)[i]? with
  | none=>rw [q] at e;cases e
  | some j =>
   rw [q] at e;have:j=i:=by
    have:=List.getElem?_eq_some_iff.mp q;obtain ⟨_,z⟩:=this;simpa using z.symm
   subst this;cases e;exact ⟨Hs1,Grow.refl hs,aQ.mpr rfl⟩
 stop:=fun H hs=>by simp [Itr]
theorem Bf:∀ {n:Nat}{ds:List D}{i:Nat}{d:D},(bT n ds)[i]?=some d->∃ y,ds[i]?=some y/\d=.tup [.int ((n+i:Nat):Int),y]
 | n,[],i,d,h=>by simp [bT] at h
 | n,y::ds,0,d,h=>by simp [bT] at h;exact ⟨y,rfl,by rw [<- h];rfl⟩
 | n,y::ds,i+1,d,h=>by
  simp only [bT,List.getElem?_cons_succ] at h;obtain ⟨z,e1,e2⟩:=Bf h;exact ⟨z,by simpa using e1,by rw [e2,show n+1+i=n+(i+1) by omega]⟩
theorem pY:∀ (n:Nat) (ds:List D),(bT n ds).length=ds.length
 | _,[]=>rfl
 | n,d::ds=>by simp [bT,pY (n+1) ds]
theorem RT {a:Addr}{ds:List D}{zs:List V} (h:SqT X.K Hs a zs) (r:Rps (gOf X) Hs ds zs):Src (gOf X) (Qa X.K a) Hs (bT 0 ds) where
 go:=fun i H hs hi=>⟨zs,zs[i]'(by rw [<- r.length];rw [pY] at hi;exact hi),aO hs h,by simp⟩
 yld:=fun i H x H' Hs1 d hs1 hs e ⟨p,y,hp,e1,e2,y2⟩=>by
  subst e1 e2;have e3:=y2 zs (aO (hs1.trans hs) h);obtain ⟨z,e4,e5⟩:=Bf e;obtain ⟨v,e6,rv⟩:=r.getD e4;rw [e3] at e6;cases e6;subst e5;refine ⟨_,Grow.new hs hp,cJ.mpr ⟨p,_,rfl,SqT.of aD,Rps.cons (aQ.mpr (by simp)) (Rps.one (rv.mono (hs1.trans (pJ hs hp))))⟩⟩
 stop:=fun H hs=>⟨zs,aO hs h,by rw [pY,r.length]⟩
theorem QS {a:Addr}{ds:List D}{zs:List V} (h:SqL X.K Hs a zs) (r:Rps (gOf X) Hs ds zs):Src (gOf X) (P0 X.K a) Hs (bT 0 ds) where
 go:=fun i H hs hi=>⟨zs,zs[i]'(by rw [<- r.length];rw [pY] at hi;exact hi),bw hs h,by simp⟩
 yld:=fun i H x H' Hs1 d hs1 hs e ⟨p,y,hp,e1,e2,y2⟩=>by
  subst e1 e2;have e3:=y2 zs (bw (hs1.trans hs) h);obtain ⟨z,e4,e5⟩:=Bf e;obtain ⟨v,e6,rv⟩:=r.getD e4;rw [e3] at e6;cases e6;subst e5;refine ⟨_,Grow.new hs hp,cJ.mpr ⟨p,_,rfl,SqT.of aD,Rps.cons (aQ.mpr (by simp)) (Rps.one (rv.mono (hs1.trans (pJ hs hp))))⟩⟩
 stop:=fun H hs=>⟨zs,bw hs h,by rw [pY,r.length]⟩
def tI (X:Cx) (U:List Nat) (r:En->R (List D)):TI:=fun σ H R=>∃ ρ Hs ds,Same Hs H/\Vs (gOf X) ρ σ Hs U/\r ρ=.ok ds/\∀ J H' Hs',Grow H Hs H' Hs'->Src (gOf X) J Hs' ds->R J H'
variable {tg iter b:Expr}
theorem Z4 (h:PE X iter (tM X U r)):PI X tg iter (tI X U fun ρ=>do let d <- r ρ;itemsOf .seq [d]):=by
 intro pins s σ H R I hq;obtain ⟨ρ,Hs,ds,hs,hv,h1,k⟩:=hq;obtain ⟨d,hd,h2⟩:=aq h1;clear h1;cases d <;> try (cases h2;done)
 .cases h2;refine aaJ h pins s σ H R I ⟨ρ,Hs,_,hs,hv,hd,fun v H1 Hs1 g1 r1=>?_⟩;obtain ⟨a,zs,rfl,s1,r2⟩:=cJ.mp r1;exact ⟨a,rfl,⟨zs,aO g1.sub s1⟩,k _ _ _ g1 (W6 s1 r2)⟩
 .cases h2;refine Zn h pins s σ H R I ⟨ρ,Hs,_,hs,hv,hd,fun v H1 Hs1 g1 r1=>?_⟩;obtain ⟨a,zs,rfl,s1,r2⟩:=cP.mp r1;exact ⟨a,rfl,⟨zs,bw g1.sub s1⟩,k _ _ _ g1 (src_list s1 r2)⟩
theorem Nh:(lim:Int) < 2 ^ 62:=by decide
theorem Yy {p:Pos} (C:Cok T cl X) (hg:Gl X "range") (hn:noStar a=true) (ha:PA X [a] (tMs X U rs)) (hl:∀ ρ ds,rs ρ=.ok ds -> ds.length=1) :
  PI X tg (.Call (.Name "range" p) [a] [] pos) (tI X U fun ρ=>do let ds <- rs ρ; itemsOf .rng ds):=by
 intro pins s σ H R I hq;obtain ⟨ρ,Hs,ds,hs,hv,h1,k⟩:=hq;obtain ⟨d,hd,h2⟩:=aq h1;clear h1;have hlen:=hl ρ d hd;rcases d with _ | ⟨d,_ | ⟨d2,d3⟩⟩
 .simp at hlen
 .cases d <;> try (cases h2;done)
  obtain ⟨c,h3⟩:=bR h2;cases h3;refine QX hg (C.blt _ (by decide +kernel)) ha (aG hn) pins s σ H R I ⟨ρ,Hs,_,hs,hv,hd,fun vs H1 Hs1 g1 r1=>?_⟩;obtain ⟨v,rfl,r2⟩:=yI r1;cases aQ.mp r2;have:=Nh;refine ⟨_,rfl,by omega,by omega,k _ _ _ g1 ?_⟩;have e:=Mg (X:=X) (Hs:=Hs1) (lo:=0) (n:=Int.toNat ‹Int›);simpa using e
 .simp at hlen
theorem Zo {p:Pos} (C:Cok T cl X) (hg:Gl X "range") (hn:noStar a=true) (hn2:noStar b=true) (ha:PA X [a,b] (tMs X U rs)) (hl:∀ ρ ds,rs ρ=.ok ds -> ds.length=2) :
  PI X tg (.Call (.Name "range" p) [a,b] [] pos) (tI X U fun ρ=>do let ds <- rs ρ; itemsOf .rng ds):=by
 intro pins s σ H R I hq;obtain ⟨ρ,Hs,ds,hs,hv,h1,k⟩:=hq;obtain ⟨d,hd,h2⟩:=aq h1;clear h1;have hlen:=hl ρ d hd;rcases d with _ | ⟨d,_ | ⟨d2,_ | ⟨d3,d4⟩⟩⟩
 .simp at hlen
 .simp at hlen
 .cases d <;> cases d2 <;> try (cases h2;done)
  obtain ⟨c,h3⟩:=bR h2;cases h3;refine Qu hg (C.blt _ (by decide +kernel)) ha (by rw [aG hn,aG hn2];rfl) (by rw [aG hn2];rfl) pins s σ H R I ⟨ρ,Hs,_,hs,hv,hd,fun vs H1 Hs1 g1 r1=>?_⟩;obtain ⟨v,w,rfl,r2,r3⟩:=yQ r1;cases aQ.mp r2;cases aQ.mp r3;have:=Nh;exact ⟨_,_,rfl,⟨by omega,by omega,by omega,by omega⟩,k _ _ _ g1 Mg⟩
 .simp at hlen
theorem Yl {p tpos:Pos}{els:List Expr}{x1:Nat} (C:Cok T cl X) (hg:Gl X "enumerate") (hn:noStar a=true) (ha:PA X [a] (tMs X U rs)) :
  PI X (.Tuple els x1 tpos) (.Call (.Name "enumerate" p) [a] [] pos) (tI X U fun ρ=>do let ds <- rs ρ; itemsOf .enum ds):=by
 intro pins s σ H R I hq;obtain ⟨ρ,Hs,ds,hs,hv,h1,k⟩:=hq;obtain ⟨d,hd,h2⟩:=aq h1;clear h1;rcases d with _ | ⟨d,_ | ⟨d2,d3⟩⟩
 .cases h2
 .cases d <;> try (cases h2;done)
  .cases h2;refine T4 hg (C.blt _ (by decide +kernel)) ha (aG hn) pins s σ H R I ⟨ρ,Hs,_,hs,hv,hd,fun vs H1 Hs1 g1 r1=>?_⟩;obtain ⟨v,rfl,r2⟩:=yI r1;obtain ⟨a,zs,rfl,s1,r3⟩:=cJ.mp r2;exact ⟨a,zs,rfl,aO g1.sub s1,k _ _ _ g1 (RT s1 r3)⟩
  .cases h2;refine Um hg (C.blt _ (by decide +kernel)) ha (aG hn) pins s σ H R I ⟨ρ,Hs,_,hs,hv,hd,fun vs H1 Hs1 g1 r1=>?_⟩;obtain ⟨v,rfl,r2⟩:=yI r1;obtain ⟨a,zs,rfl,s1,r3⟩:=cP.mp r2;exact ⟨a,zs,rfl,bw g1.sub s1,k _ _ _ g1 (QS s1 r3)⟩
 .cases d <;> cases h2
theorem zip_get:∀ {as bs:List D}{i:Nat}{d:D},(n8 as bs)[i]?=some d->∃ x y,as[i]?=some x/\bs[i]?=some y/\d=.tup [x,y]
 | [],bs,i,d,h=>by cases bs <;> cases h
 | a::as,[],i,d,h=>by cases h
 | a::as,b::bs,0,d,h=>by cases h;exact ⟨a,b,rfl,rfl,rfl⟩
 | a::as,b::bs,i+1,d,h=>zip_get (as:=as) (bs:=bs) (i:=i) h
theorem DW:∀ (as bs:List D),(n8 as bs).length=min as.length bs.length
 | [],bs=>by cases bs <;> simp [n8]
 | a::as,[]=>by simp [n8]
 | a::as,b::bs=>by
  have:=DW as bs;simp only [n8,List.length_cons];omega
theorem Y8 {a b:Addr}{as bs:List D}{xs ys:List V} (h1:SqT X.K Hs a xs) (h2:SqT X.K Hs b ys) (r1:Rps (gOf X) Hs as xs) (r2:Rps (gOf X) Hs bs ys):Src (gOf X) (Itz X.K a b) Hs (n8 as bs) where
 go:=fun i H hs hi=>by
  rw [DW] at hi;have l1:=r1.length;have l2:=r2.length;exact ⟨xs,ys,xs[i]'(by omega),ys[i]'(by omega),aO hs h1,aO hs h2,by simp,by simp⟩
 yld:=fun i H x H' Hs1 d hs1 hs e ⟨p,u,v,hp,e1,e2,y1,y2⟩=>by
  subst e1 e2;obtain ⟨d1,d2,g1,g2,rfl⟩:=zip_get e;obtain ⟨v1,f1,q1⟩:=r1.getD g1;obtain ⟨v2,f2,q2⟩:=r2.getD g2;rw [y1 xs (aO (hs1.trans hs) h1)] at f1;cases f1;rw [y2 ys (aO (hs1.trans hs) h2)] at f2;cases f2;have m:Same Hs (upd Hs1 p (.tup [u,v])):=hs1.trans (pJ hs hp);exact ⟨_,Grow.new hs hp,cJ.mpr ⟨p,_,rfl,SqT.of aD,Rps.cons (q1.mono m) (Rps.one (q2.mono m))⟩⟩
 stop:=fun H hs=>by
  have l1:=r1.length;have l2:=r2.length;refine ⟨xs,ys,aO hs h1,aO hs h2,?_⟩;rw [DW,List.getElem?_eq_none_iff,List.getElem?_eq_none_iff];omega
theorem aav {p tpos:Pos}{els:List Expr}{x1:Nat} (C:Cok T cl X) (hg:Gl X "zip") (hn:noStar a=true) (hn2:noStar b=true) (ha:PA X [a,b] (tMs X U rs)) :
  PI X (.Tuple els x1 tpos) (.Call (.Name "zip" p) [a,b] [] pos) (tI X U fun ρ=>do let ds <- rs ρ; itemsOf .zip ds):=by
 intro pins s σ H R I hq;obtain ⟨ρ,Hs,ds,hs,hv,h1,k⟩:=hq;obtain ⟨d,hd,h2⟩:=aq h1;clear h1;rcases d with _ | ⟨d,_ | ⟨d2,_ | ⟨d3,d4⟩⟩⟩
 .cases h2
 .cases d <;> cases h2
 .cases d <;> cases d2 <;> try (cases h2;done)
  cases h2;refine Zw hg (C.blt _ (by decide +kernel)) ha (by rw [aG hn,aG hn2];rfl) (by rw [aG hn2];rfl) pins s σ H R I ⟨ρ,Hs,_,hs,hv,hd,fun vs H1 Hs1 g1 r1=>?_⟩;obtain ⟨v,w,rfl,r2,r3⟩:=yQ r1;obtain ⟨a1,xs,rfl,s1,q1⟩:=cJ.mp r2;obtain ⟨a2,ys,rfl,s2,q2⟩:=cJ.mp r3;exact ⟨a1,xs,a2,ys,rfl,aO g1.sub s1,aO g1.sub s2,k _ _ _ g1 (Y8 s1 s2 q1 q2)⟩
 .cases d <;> cases d2 <;> cases h2
theorem V1 {hi:Int}{n:Nat}:Src (gOf X) (Itd hi n) Hs ((List.range n).map fun (k:Nat)=>D.int (hi - (k:Int))) where
 go:=fun i H hs hl=>by show i < n;simpa using hl
 yld:=fun i H x H' Hs1 d hs1 hs e ⟨e1,y⟩=>by
  subst e1 y;rw [List.getElem?_map] at e;cases q:(List.range n)[i]? with
  | none=>rw [q] at e;cases e
  | some j =>
   rw [q] at e;have:j=i:=by
    obtain ⟨_,z⟩:=List.getElem?_eq_some_iff.mp q;simpa using z.symm
   subst this;cases e;exact ⟨Hs1,Grow.refl hs,aQ.mpr rfl⟩
 stop:=fun H hs=>by show n<=_;simp
theorem Xr {p:Pos}{c:Expr} (C:Cok T cl X) (hg:Gl X "range") (hn:noStar a=true) (hn2:noStar b=true) (hn3:noStar c=true) (ha:PA X [a,b,c] (tMs X U rs)) (hl:∀ ρ ds,rs ρ=.ok ds -> ds.length=3) :
  PI X tg (.Call (.Name "range" p) [a,b,c] [] pos) (tI X U fun ρ=>do let ds <- rs ρ; itemsOf .rng ds):=by
 intro pins s σ H R I hq;obtain ⟨ρ,Hs,ds,hs,hv,h1,k⟩:=hq;obtain ⟨d,hd,h2⟩:=aq h1;clear h1;have hlen:=hl ρ d hd;rcases d with _ | ⟨d,_ | ⟨d2,_ | ⟨d3,_ | ⟨d4,d5⟩⟩⟩⟩
 .simp at hlen
 .simp at hlen
 .simp at hlen
 .cases d <;> cases d2 <;> cases d3 <;> try (cases h2;done)
  obtain ⟨⟨c0,c1,c2,c3,c4⟩,h3⟩:=bR h2;cases h3;refine Yu hg (C.blt _ (by decide +kernel)) ha (by rw [aG hn,aG hn2,aG hn3];rfl) (by rw [aG hn2,aG hn3];rfl) pins s σ H R I ⟨ρ,Hs,_,hs,hv,hd,fun vs H1 Hs1 g1 r1=>?_⟩;obtain ⟨v,ws,rfl,r2,r3⟩:=r1.cons_inv;obtain ⟨w,w',rfl,r4,r5⟩:=yQ r3;cases aQ.mp r2;cases aQ.mp r4;cases aQ.mp r5;subst c0;have:=Nh;have hlim:(lim:Int)=100000:=rfl;exact ⟨_,_,rfl,⟨by omega,by omega,by omega,by omega⟩,k _ _ _ g1 V1⟩
 .simp at hlen
end
end Mi
namespace Mi
open PySem L2
open PyProof.Rows hiding St
noncomputable def putL {α:Type}:List (Option α)->List (Nat × α)->List (Option α)
 | xs,[]=>xs
 | xs,(i,a)::r=>putL (xs.set i (some a)) r
theorem uR {α:Type}:∀ (xs:List (Option α)) (l:List (Nat × α)),(putL xs l).length=xs.length
 | xs,[]=>rfl
 | xs,(i,a)::r=>by rw [putL,uR,List.length_set]
theorem Jv {α:Type}{j:Nat}:∀ {xs:List (Option α)}{l:List (Nat × α)},j ∉ l.map (·.1)->(putL xs l)[j]?=xs[j]?
 | xs,[],_=>rfl
 | xs,(i,a)::r,h=>by
  simp only [List.map_cons,List.mem_cons,not_or] at h;rw [putL,Jv h.2,List.getElem?_set_ne (Ne.symm h.1)]
theorem Il {g:G}{Hs:Hp}{j:Nat}{d:D}:∀ {l:List (Nat × D × V)}{ρ:En}{σ:St},ρ.length=σ.length->(∀ p∈l,Rp g Hs p.2.1 p.2.2) ->
  (putL ρ (l.map fun p=>(p.1,p.2.1)))[j]?=some (some d)->(∀ d,ρ[j]?=some (some d)->∃ v,σ[j]?=some (some v)/\Rp g Hs d v)\/j∈l.map (·.1)->∃ v,(putL σ (l.map fun p=>(p.1,p.2.2)))[j]?=some (some v)/\Rp g Hs d v
 | [],ρ,σ,hl,hr,h,o=>by
  rcases o with o | o
  .exact o d h
  .cases o
 | (i,e,v)::l,ρ,σ,hl,hr,h,o=>by
  simp only [List.map_cons,putL] at h ⊢;have hl2:(ρ.set i (some e)).length=(σ.set i (some v)).length:=by rw [List.length_set,List.length_set];exact hl
  refine Il hl2 (fun p hp=>hr p (List.mem_cons_of_mem _ hp)) h ?_;by_cases hj:j=i
  .subst hj;refine .inl fun d' q=>?_
   have hlt:j < ρ.length:=by
    have:=(List.getElem?_eq_some_iff.mp q).1;simpa using this
   rw [List.getElem?_set_self hlt] at q;cases q;exact ⟨v,by rw [List.getElem?_set_self (by rw [<- hl];exact hlt)],hr _ List.mem_cons_self⟩
  .rw [List.map_cons,List.mem_cons] at o;rcases o with o | o | o
   .refine .inl fun d' q=>?_
    rw [List.getElem?_set_ne (Ne.symm hj)] at q ⊢;exact o d' q
   .exact absurd o hj
   .exact .inr o
section
variable {X:Cx}{σ:St}{H Hs:Hp}{Q:VK}{U Ua Ub Uc:List Nat}{r ra rb rc:En->R D}{e a:Expr}{es:List Expr}{rs:En->R (List D)}{pos:Pos}{T:Tx}{cl:Nat->List D->R D}
def gTg (K:PySem.W.Frag):Tg->TG
 | .one i=>Bx i
 | .two i j=>aao K 2 (PL (Bx i) (PL (Bx j) aaj))
theorem kh {sc:Scope}{t:Tg}{tg:Expr} (C:Cok T cl X) (S:ScRel sc X) (h:tgB X.N sc t tg=true):PG X tg (gTg X.K t):=by
 cases t with
 | one i =>
  obtain ⟨_,_,rfl,ho,hn⟩:=uw h;obtain ⟨h1,h2⟩:=S.own _ ho;exact Ea C.nd hn h1 h2
 | two i j =>
  obtain ⟨_,_,_,_,_,_,rfl,⟨⟨⟨h1,h2⟩,h3⟩,h4⟩,h5⟩:=ur h;obtain ⟨a1,a2⟩:=S.own _ h1;obtain ⟨b1,b2⟩:=S.own _ h2;exact aat C.calm (JL (Ea C.nd h3 a1 a2) (JL (Ea C.nd h4 b1 b2) Xk (by rfl)) (by rfl)) (by rfl) (by rfl)
theorem pD {t:Tg}{d:D}{ρ ρ':En}{x:V}{K:St->Hp->Prop} (hs:Same Hs H) (h:fu t d ρ=.ok ρ') (rx:Rp (gOf X) Hs d x)
  (k:∀ l:List (Nat × D × V),l.map (·.1)=bD t->(∀ p∈l,Rp (gOf X) Hs p.2.1 p.2.2)->ρ'=putL ρ (l.map fun p=>(p.1,p.2.1))->K (putL σ (l.map fun p=>(p.1,p.2.2))) H):gTg X.K t x σ H K:=by
 cases t with
 | one i =>
  cases h;exact k [(i,d,x)] rfl (fun p hp=>by rw [List.mem_singleton.mp hp];exact rx) rfl
 | two i j =>
  cases d <;> try (cases h;done)
  rename_i ds;rcases ds with _ | ⟨a,_ | ⟨b,_ | ⟨c,cs⟩⟩⟩ <;> try (cases h;done)
  cases h;obtain ⟨p,xs,rfl,s1,r1⟩:=cJ.mp rx;obtain ⟨v,w,rfl,r2,r3⟩:=yQ r1;refine ⟨p,[v,w],rfl,aO hs s1,rfl,v,[w],rfl,w,[],rfl,rfl,?_⟩;refine k [(i,a,v),(j,b,w)] rfl (fun q hq=>?_) rfl;rcases List.mem_cons.mp hq with rfl | hq
  .exact r2
  .rw [List.mem_singleton.mp hq];exact r3
def tHc (X:Cx) (hc:Bool) (U:List Nat) (r:En->R D):TT:=if hc then tMT X U r else fun _ H Q=>Q true H
theorem Bt {N:List Str}{sc:Scope}{i:Nat}{x:Str} (h:lU sc x=true) (hi:N[i]?=some x):(cA N sc)[i]?=some false:=by
 unfold cA;rw [List.getElem?_map,hi];rcases mH h with e | e <;> simp [e]
theorem Zv {N:List Str}{sc:Scope}{t:Tg}{tg:Expr} (h:tgB N sc t tg=true):∀ i∈bD t,(cA N sc)[i]?=some false:=by
 cases t with
 | one i =>
  obtain ⟨_,_,rfl,ho,hn⟩:=uw h;intro j hj;rw [List.mem_singleton.mp hj];exact Bt ho hn
 | two i j =>
  obtain ⟨_,_,_,_,_,_,rfl,⟨⟨⟨h1,h2⟩,h3⟩,h4⟩,h5⟩:=ur h;intro q hq;rcases List.mem_cons.mp hq with rfl | hq
  .exact Bt h1 h3
  .rw [List.mem_singleton.mp hq];exact Bt h2 h4
def tMf (X:Cx) (U:List Nat) (r:En->R D):TE:=fun σ H Q=>∃ ρ Hs d,Same Hs H/\Vs (gOf X) ρ σ Hs U/\r ρ=.ok d/\∀ v H' Hs',Grow H Hs H' Hs'->Rp (gOf X) Hs' d v->(∀ a,v=.ref a->H a=none)->Q v H'
theorem ady {r:En->R D}:tM X U r σ H Q->tMf X U r σ H Q:=by
 rintro ⟨ρ,Hs,d,hs,hv,h,k⟩;exact ⟨ρ,Hs,d,hs,hv,h,fun v H' Hs' g r _=>k v H' Hs' g r⟩
theorem Et {scope:Scope}{t:Tg}{tg:Expr}{hc:Bool}{rI:En->R (List D)}{cap:List Bool}{N:List Str} (htg:tgB N scope t tg=true) (hcap:cap=cA N scope) :
  tMf X (Ua++(Uc++Ub)) (fun ρ=>do
   let items <- rI ρ
   let ys <- dF (fun d=>do
    let ρ' <- fu t d (aZ cap ρ)
    let b <- (if hc then (do let x <- rc ρ';bW x) else .ok true)
    if b then do let y <- rb ρ';.ok (some y) else .ok none) items
   if ys.length<=lim then .ok (.lst ys) else .stuck) σ H Q ->
  Cw (tI X Ua rI) (gTg X.K t) (tHc X hc Uc rc) (tM X Ub rb) (aZ (cA N scope)) σ H Q:=by
 rintro ⟨ρ,Hs,z,hs,hv,h,k⟩;obtain ⟨ds,hd,h1⟩:=aq h;obtain ⟨tot,ht,h2⟩:=aq h1;obtain ⟨hlim,h3⟩:=bR h2;clear h h1 h2;cases h3;have hll:=jy;generalize hf:(fun d=>do
    let ρ' <- fu t d (aZ cap ρ)
    let b <- (if hc then (do let x <- rc ρ';bW x) else .ok true)
    if b then do let y <- rb ρ';.ok (some y) else .ok none)=f at ht
 refine ⟨ρ,Hs,ds,hs,hv.l,hd,fun J H1 Hs1 g1 src=>?_⟩;intro A hA;refine ⟨fun i m ys H'=>m=ds.length - i/\i<=ds.length/\∃ Hs' don rest,Grow H1 Hs1 H' Hs'/\Hs' A=none/\H' A=some (.lst ys)/\Rps (gOf X) Hs' don ys/\dF f (ds.drop i)=.ok rest/\don++rest=tot,⟨ds.length,by simp,Nat.zero_le _,Hs1,[],tot,Grow.own g1.sub hA,g1.sub.free hA,aD,Rps.nil,ht,rfl⟩,?_⟩;rintro i m ys H' ⟨rfl,hi,Hs',don,rest,g2,fA,eA,rA,hrest,etot⟩;have hs':=g1.sub;by_cases hlt:i < ds.length
 .refine .inr ⟨src.go i H' ((g2.same hs').trans g2.sub) hlt,fun x H2 hy=>?_⟩;have hdi:ds[i]?=some ds[i]:=by simp [hlt]
  obtain ⟨Hs2,g3,rx⟩:=src.yld i H' x H2 Hs' ds[i] (g2.same hs') g2.sub hdi hy;have edrop:ds.drop i=ds[i]::ds.drop (i+1):=by rw [List.drop_eq_getElem_cons hlt]
  rw [edrop] at hrest;unfold dF at hrest;obtain ⟨y,hy1,hr1⟩:=aq hrest;obtain ⟨zs,hz,hr2⟩:=aq hr1;clear hrest hr1;have hy0:=hy1;rw [<- hf] at hy1;obtain ⟨ρ',hρ,hy2⟩:=aq hy1;obtain ⟨b,hb,hy3⟩:=aq hy2;clear hy1 hy2;have gA:Grow H1 Hs1 H2 Hs2:=g2.trans g3;refine pD g3.sub hρ rx fun l hl hrl eρ=>?_
  have slots:∀ j∈bD t,(cA N scope)[j]?=some false:=Zv htg;have lenm:(aZ cap ρ).length=(aZ (cA N scope) σ).length:=by rw [lW,lW];exact hv.1
  have mV:(l.map fun p=>(p.1,p.2.2)).map (·.1)=bD t:=by rw [<- hl,List.map_map];rfl
  have mD:(l.map fun p=>(p.1,p.2.1)).map (·.1)=bD t:=by rw [<- hl,List.map_map];rfl
  have ext:ZW (aZ (cA N scope) σ) (putL (aZ (cA N scope) σ) (l.map fun p=>(p.1,p.2.2))):=⟨uR _ _,fun j v q=>by
   have hj:j ∉ bD t:=fun hj=>by
    have:=(sV q).1;rw [slots j hj] at this;cases this
   rw [Jv (by rw [mV];exact hj)];exact q⟩
  have vs2:∀ {U'},(∀ j∈U',j∈Uc++Ub)->Vs (gOf X) ρ' (putL (aZ (cA N scope) σ) (l.map fun p=>(p.1,p.2.2))) Hs2 U':=fun {U'} hU=>by
   refine ⟨by rw [eρ,uR,uR];exact lenm,fun j hj d hd'=>?_⟩;rw [eρ] at hd';refine Il lenm hrl hd' (.inl fun d2 hd2=>?_);obtain ⟨c1,c2⟩:=sV hd2;obtain ⟨v,e1,r1⟩:=hv.r.2 j (hU j hj) d2 c2;exact ⟨v,Gf (by rw [<- hcap];exact c1) e1,r1.mono (((g1.trans gA).same hs))⟩
  refine ⟨ext,?_⟩;have aA2:H2 A=some (.lst ys):=g3.keep A _ eA;have step:∀ H4 Hs4,Grow H2 Hs2 H4 Hs4->(if b=true then tM X Ub rb (putL (aZ (cA N scope) σ) (l.map fun p=>(p.1,p.2.2))) H4 (fun y' H5=>H5 A=some (.lst ys)/\ys.length < sizeLine/\∃ m',m' < ds.length - i/\(m'=ds.length - (i+1)/\i+1<=ds.length/\∃ Hs' don rest,Grow H1 Hs1 (upd H5 A (.lst (ys++[y']))) Hs'/\Hs' A=none/\(upd H5 A (.lst (ys++[y']))) A=some (.lst (ys++[y']))/\Rps (gOf X) Hs' don (ys++[y'])/\dF f (ds.drop (i+1))=.ok rest/\don++rest=tot))
    else ∃ m',m' < ds.length - i/\(m'=ds.length - (i+1)/\i+1<=ds.length/\∃ Hs' don rest,Grow H1 Hs1 H4 Hs'/\Hs' A=none/\H4 A=some (.lst ys)/\Rps (gOf X) Hs' don ys/\dF f (ds.drop (i+1))=.ok rest/\don++rest=tot)):=by
   intro H4 Hs4 g4;have f4:Hs4 A=none:=by rw [(g3.trans g4).old A _ eA];exact fA
   cases b with
   | false =>
    rw [if_neg (by decide)];rw [if_neg (by decide)] at hy3;cases hy3;cases hr2;exact ⟨_,by omega,rfl,hlt,Hs4,don,zs,gA.trans g4,f4,g4.keep A _ aA2,rA.mono ((g3.trans g4).same g2.sub),hz,etot⟩
   | true =>
    rw [if_pos rfl];rw [if_pos rfl] at hy3;obtain ⟨w,hw,hy4⟩:=aq hy3;cases hy4;cases hr2;refine ⟨ρ',Hs4,w,g4.sub,(vs2 fun j hj=>List.mem_append_right _ hj).mono (g4.same g3.sub),hw,fun y' H5 Hs5 g5 r5=>?_⟩;have a5:H5 A=some (.lst ys):=(g4.trans g5).keep A _ aA2;have f5:Hs5 A=none:=by rw [((g3.trans g4).trans g5).old A _ eA];exact fA
    have rl:=rA.length;have hlen:ys.length < sizeLine:=by
     have:don.length+(w::zs).length=tot.length:=by rw [<- List.length_append,etot]
     rw [List.length_cons] at this;omega
    refine ⟨a5,hlen,_,by omega,rfl,hlt,Hs5,don++[w],zs,?_,f5,aD,?_,hz,by rw [List.append_assoc];exact etot⟩
    .have g6:=(gA.trans g4).trans g5;refine ⟨fun c o q=>by rw [ak (aB q hA)];exact g6.keep c o q,g6.old,fun c o q=>?_⟩;rw [ak (aB q f5)];exact g6.sub c o q
    .exact (rA.mono (((g3.trans g4).trans g5).same g2.sub)).append (Rps.one r5)
  cases hc with
  | false =>
   rw [if_neg (by decide)] at hb;cases hb;exact step H2 Hs2 (Grow.refl g3.sub)
  | true =>
   rw [if_pos rfl] at hb;obtain ⟨x2,hx2,hb2⟩:=aq hb;cases fB hb2;exact ⟨ρ',Hs2,b,g3.sub,vs2 fun j hj=>List.mem_append_left _ hj,hx2,fun H4 Hs4 g4=>step H4 Hs4 g4⟩
 .have e:i=ds.length:=by omega
  subst e;refine .inl ⟨src.stop H' ((g2.same hs').trans g2.sub),?_⟩;rw [List.drop_length] at hrest;cases hrest;rw [List.append_nil] at etot;subst etot;have m2:Same Hs' (upd Hs' A (.lst ys)):=fun c o q=>by rw [ak (aB q fA)];exact q
  refine k _ _ (upd Hs' A (.lst ys)) (g1.trans ⟨g2.keep,fun c o q=>by rw [ak (aB q hA)];exact g2.old c o q,fun c o q=>?_⟩) (cP.mpr ⟨A,ys,rfl,SqL.of aD,rA.mono m2⟩) (fun b e=>by cases e;exact (show Same H H1 from g1.keep).free hA);by_cases z:c=A
  .subst z;rw [aD] at q;cases q;exact eA
  .rw [ak z] at q;exact g2.sub c o q
end
end Mi
namespace Mi
open PySem L2
open PyProof.Rows hiding St
noncomputable def plainT:Expr->Bool
 | .UnaryOp .Not _ _=>false
 | .BoolOp ..=>false
 | .IfExp ..=>false
 | .Compare ..=>false
 | _=>true
theorem jm {e:Expr}{env:Env} (h:plainT e=true):∀ whole,isTrue e env whole=(do let v <- whole;standAt e.pos;holding [v] (truthy v)):=by
 intro whole;cases e <;> first | rfl | (cases h;done) | skip
 rename_i op a p;cases op <;> first | rfl | cases h
def Ry (X:Cx) (U:List Nat) (r:En->R D) (e:Expr):Prop:=PE X e (tM X U r)/\PT X e (tMT X U r)
def Good (T:Tx) (cl:Nat->List D->R D) (m:M):Prop:=∀ {X:Cx}{sc:Scope}{e:Expr},Cok T cl X->ScRel sc X->okE T X.N m sc e=true->Ry X (aJ m) (evE cl m) e
section
variable {T:Tx}{cl:Nat->List D->R D}{X:Cx}{sc:Scope}{U:List Nat}{r:En->R D}{e:Expr}
theorem bZ (h:PE X e (tM X U r)) (hp:plainT e=true):Ry X U r e:=⟨h,V0 h (jm hp)⟩
theorem jO (C:Cok T cl X) (S:ScRel sc X):∀ {ms:List M}{es:List Expr},(∀ m∈ms,Good T cl m)->cB T X.N ms sc es=true->es.all noStar=true->PA X es (tMs X (aM ms) (aW cl ms))
 | [],es,G,h,hn=>by
  rw [uW,List.isEmpty_iff] at h;subst h;have e:aW cl []=fun _=>.ok []:=funext fun _=>by simp only [aW]
  rw [e];simp only [aM];exact XJ
 | m::ms,[],G,h,hn=>by cases h
 | m::ms,x::es,G,h,hn=>by
  simp only [dz,Bool.and_eq_true] at h;simp only [List.all_cons,Bool.and_eq_true] at hn;have e:aW cl (m::ms)=(fun ρ=>(do let d <- evE cl m ρ;let ds <- aW cl ms ρ;.ok (d::ds))):=funext fun _=>by simp only [aW]
  rw [e];simp only [aM];exact Tq (G m List.mem_cons_self C S h.1).1 (jO C S (fun q hq=>G q (List.mem_cons_of_mem _ hq)) h.2 hn.2) hn.1
theorem u9:∀ {ms:List M}{ρ:En}{ds:List D},aW cl ms ρ=.ok ds->ds.length=ms.length
 | [],ρ,ds,h=>by simp only [aW] at h;cases h;rfl
 | m::ms,ρ,ds,h=>by
  simp only [aW] at h;obtain ⟨x,hx,h1⟩:=aq h;obtain ⟨xs,hxs,h2⟩:=aq h1;have:=u9 hxs;cases h2;simp [this]
theorem Aq:∀ {ms:List M}{es:List Expr},cB T X.N ms sc es=true->es.length=ms.length
 | [],es,h=>by
  rw [uW,List.isEmpty_iff] at h;rw [h];rfl
 | m::ms,[],h=>by cases h
 | m::ms,e::es,h=>by
  simp only [dz,Bool.and_eq_true] at h;simp [Aq h.2]
theorem Ls (C:Cok T cl X) (S:ScRel sc X) {pos:Pos}:∀ {ms:List M}{es:List Expr},(∀ m∈ms,Good T cl m)->cB T X.N ms sc es=true->ms.isEmpty=false->PE X (.BoolOp .And es pos) (tM X (aM ms) (jT cl ms))/\PW X (.BoolOp .And es pos) (tMT X (aM ms) (jT cl ms))
 | [],es,G,h,hn=>by cases hn
 | m::ms,[],G,h,hn=>by cases h
 | [m],[x],G,h,hn=>by
  simp only [dz,Bool.and_eq_true] at h;obtain ⟨g1,g2⟩:=G m List.mem_cons_self C S h.1;constructor
  .refine bB (Rq g1) fun σ H Q=>?_
   rintro ⟨ρ,Hs,z,hs,hv,h,k⟩;simp only [jT] at h;obtain ⟨d,hd,h1⟩:=aq h;obtain ⟨t,ht,h2⟩:=aq h1;clear h h1;cases fB ht;cases h2;simp only [aM] at hv;exact ⟨ρ,Hs,_,hs,hv.l,hd,k⟩
  .have:=X8 (pos:=pos) g2;intro wh pins s σ H Q I hq;refine this wh pins s σ H Q I ?_;obtain ⟨ρ,Hs,z,hs,hv,h,k⟩:=hq;simp only [jT] at h;obtain ⟨d,hd,h1⟩:=aq h;obtain ⟨t,ht,h2⟩:=aq h1;clear h h1;cases fB ht;cases h2;simp only [aM] at hv;exact ⟨ρ,Hs,_,hs,hv.l,hd,k⟩
 | [m],x::y::es,G,h,hn=>by rw [dz,uW] at h;simp at h
 | m::m'::ms,[x],G,h,hn=>by rw [dz,Ml] at h;simp at h
 | m::m'::ms,x::y::es,G,h,hn=>by
  have h':=h;simp only [dz,Bool.and_eq_true] at h;obtain ⟨g1,g2⟩:=G m List.mem_cons_self C S h.1;obtain ⟨i1,i2⟩:=Ls C S (pos:=pos) (ms:=m'::ms) (es:=y::es) (fun q hq=>G q (List.mem_cons_of_mem _ hq)) (by simp only [dz,Bool.and_eq_true];exact h.2) rfl;constructor
  .refine bB (abF g1 i1) fun σ H Q=>?_
   rintro ⟨ρ,Hs,z,hs,hv,h,k⟩;simp only [jT] at h;obtain ⟨d,hd,h1⟩:=aq h;obtain ⟨t,ht,h2⟩:=aq h1;clear h h1;cases fB ht;rw [aM] at hv;refine ⟨ρ,Hs,_,hs,hv.l,hd,fun v H1 Hs1 g1 r1=>⟨t,j9.mp r1,?_⟩⟩;cases t with
   | false=>rw [if_neg (by decide)];rw [if_neg (by decide)] at h2;cases h2;exact (k.grow g1).bl g1.sub
   | true=>rw [if_pos rfl];rw [if_pos rfl] at h2;exact ⟨ρ,Hs1,z,g1.sub,hv.r.mono (g1.same hs),h2,k.grow g1⟩
  .have:=ZG (pos:=pos) g2 i2;intro wh pins s σ H Q I hq;refine this wh pins s σ H Q I ?_;obtain ⟨ρ,Hs,z,hs,hv,h,k⟩:=hq;simp only [jT] at h;obtain ⟨d,hd,h1⟩:=aq h;obtain ⟨t,ht,h2⟩:=aq h1;clear h h1;cases fB ht;rw [aM] at hv;refine ⟨ρ,Hs,t,hs,hv.l,hd,fun H1 Hs1 g1=>?_⟩;cases t with
   | false=>rw [if_neg (by decide)];rw [if_neg (by decide)] at h2;cases h2;exact k H1 Hs1 g1
   | true=>rw [if_pos rfl];rw [if_pos rfl] at h2;exact ⟨ρ,Hs1,z,g1.sub,hv.r.mono (g1.same hs),h2,fun H' Hs' g=>k H' Hs' (g1.trans g)⟩
theorem QV (C:Cok T cl X) (S:ScRel sc X) {pos:Pos}:∀ {ms:List M}{es:List Expr},(∀ m∈ms,Good T cl m)->cB T X.N ms sc es=true->ms.isEmpty=false->PE X (.BoolOp .Or es pos) (tM X (aM ms) (mJ cl ms))/\PW X (.BoolOp .Or es pos) (tMT X (aM ms) (mJ cl ms))
 | [],es,G,h,hn=>by cases hn
 | m::ms,[],G,h,hn=>by cases h
 | [m],[x],G,h,hn=>by
  simp only [dz,Bool.and_eq_true] at h;obtain ⟨g1,g2⟩:=G m List.mem_cons_self C S h.1;constructor
  .refine bB (Rq g1) fun σ H Q=>?_
   rintro ⟨ρ,Hs,z,hs,hv,h,k⟩;simp only [mJ] at h;obtain ⟨d,hd,h1⟩:=aq h;obtain ⟨t,ht,h2⟩:=aq h1;clear h h1;cases fB ht;cases h2;simp only [aM] at hv;exact ⟨ρ,Hs,_,hs,hv.l,hd,k⟩
  .have:=abI (pos:=pos) g2;intro wh pins s σ H Q I hq;refine this wh pins s σ H Q I ?_;obtain ⟨ρ,Hs,z,hs,hv,h,k⟩:=hq;simp only [mJ] at h;obtain ⟨d,hd,h1⟩:=aq h;obtain ⟨t,ht,h2⟩:=aq h1;clear h h1;cases fB ht;cases h2;simp only [aM] at hv;exact ⟨ρ,Hs,_,hs,hv.l,hd,k⟩
 | [m],x::y::es,G,h,hn=>by rw [dz,uW] at h;simp at h
 | m::m'::ms,[x],G,h,hn=>by rw [dz,Ml] at h;simp at h
 | m::m'::ms,x::y::es,G,h,hn=>by
  simp only [dz,Bool.and_eq_true] at h;obtain ⟨g1,g2⟩:=G m List.mem_cons_self C S h.1;obtain ⟨i1,i2⟩:=QV C S (pos:=pos) (ms:=m'::ms) (es:=y::es) (fun q hq=>G q (List.mem_cons_of_mem _ hq)) (by simp only [dz,Bool.and_eq_true];exact h.2) rfl;constructor
  .refine bB (ab3 g1 i1) fun σ H Q=>?_
   rintro ⟨ρ,Hs,z,hs,hv,h,k⟩;simp only [mJ] at h;obtain ⟨d,hd,h1⟩:=aq h;obtain ⟨t,ht,h2⟩:=aq h1;clear h h1;cases fB ht;rw [aM] at hv;refine ⟨ρ,Hs,_,hs,hv.l,hd,fun v H1 Hs1 g1 r1=>⟨t,j9.mp r1,?_⟩⟩;cases t with
   | true=>rw [if_pos rfl];rw [if_pos rfl] at h2;cases h2;exact (k.grow g1).bl g1.sub
   | false=>rw [if_neg (by decide)];rw [if_neg (by decide)] at h2;exact ⟨ρ,Hs1,z,g1.sub,hv.r.mono (g1.same hs),h2,k.grow g1⟩
  .have:=ace (pos:=pos) g2 i2;intro wh pins s σ H Q I hq;refine this wh pins s σ H Q I ?_;obtain ⟨ρ,Hs,z,hs,hv,h,k⟩:=hq;simp only [mJ] at h;obtain ⟨d,hd,h1⟩:=aq h;obtain ⟨t,ht,h2⟩:=aq h1;clear h h1;cases fB ht;rw [aM] at hv;refine ⟨ρ,Hs,t,hs,hv.l,hd,fun H1 Hs1 g1=>?_⟩;cases t with
   | true=>rw [if_pos rfl];rw [if_pos rfl] at h2;cases h2;exact k H1 Hs1 g1
   | false=>rw [if_neg (by decide)];rw [if_neg (by decide)] at h2;exact ⟨ρ,Hs1,z,g1.sub,hv.r.mono (g1.same hs),h2,fun H' Hs' g=>k H' Hs' (g1.trans g)⟩
theorem uG (C:Cok T cl X) (S:ScRel sc X) {k:IK}{src:List M}{tg iter:Expr} (G:∀ m∈src,Good T cl m) (h1:nD sc k tg iter=true) (h2:cB T X.N src sc (pL k iter)=true) :
  PI X tg iter (tI X (aM src) fun ρ=>do let ss <- aW cl src ρ;itemsOf k ss):=by
 cases k with
 | seq =>
  rcases src with _ | ⟨m,_ | ⟨m',ms⟩⟩
  .cases h2
  .replace h2:(okE T X.N m sc iter && cB T X.N [] sc [])=true:=h2;simp only [Bool.and_eq_true] at h2;have g:=(G m List.mem_cons_self C S h2.1).1;intro pins s σ H R I hq;refine Z4 g pins s σ H R I ?_;obtain ⟨ρ,Hs,ds,hs,hv,h,k⟩:=hq;simp only [qK,qf] at h;simp only [SQ,Jc] at hv;obtain ⟨ss,hss,h3⟩:=aq h;obtain ⟨d,hd,h4⟩:=aq hss;simp only [qR] at h4;cases h4;exact ⟨ρ,Hs,ds,hs,hv.l,by simp only [hd,qR];exact h3,k⟩
  ·(replace h2:(okE T X.N m sc iter && false)=true:=h2;simp at h2)
 | rng =>
  .obtain ⟨f,p,es,q,rfl,h3⟩:=cC h1;simp only [Bool.and_eq_true,decide_eq_true_eq,Bool.or_eq_true] at h3;obtain ⟨⟨⟨rfl,hg⟩,hl⟩,hn⟩:=h3;have gg:=S.glb _ hg;replace h2:cB T X.N src sc es=true:=h2;have pa:=jO C S G h2 hn;have len:=Aq h2;rcases es with _ | ⟨x,_ | ⟨y,_ | ⟨z,zs⟩⟩⟩
   .simp at hl
   .simp only [List.all_cons,List.all_nil,Bool.and_eq_true] at hn;exact Yy C gg hn.1 pa fun ρ ds h=>by rw [u9 h,<- len];rfl
   .simp only [List.all_cons,List.all_nil,Bool.and_eq_true] at hn;exact Zo C gg hn.1 hn.2.1 pa fun ρ ds h=>by rw [u9 h,<- len];rfl
   .rcases zs with _ | ⟨z2,zs⟩
    .simp only [List.all_cons,List.all_nil,Bool.and_eq_true] at hn;exact Xr C gg hn.1 hn.2.1 hn.2.2.1 pa fun ρ ds h=>by rw [u9 h,<- len];rfl
    .simp at hl
 | enum =>
  .obtain ⟨f,p,es,q,rfl,h3⟩:=cC h1;simp only [Bool.and_eq_true,decide_eq_true_eq] at h3;obtain ⟨⟨⟨⟨rfl,hg⟩,hl⟩,hn⟩,ht⟩:=h3;have gg:=S.glb _ hg;replace h2:cB T X.N src sc es=true:=h2;have pa:=jO C S G h2 hn;rcases es with _ | ⟨x,_ | ⟨y,ys⟩⟩
   .simp at hl
   .simp only [List.all_cons,List.all_nil,Bool.and_eq_true] at hn;cases tg <;> try (cases ht;done)
    exact Yl C gg hn.1 pa
   .simp at hl
 | zip =>
  .obtain ⟨f,p,es,q,rfl,h3⟩:=cC h1;simp only [Bool.and_eq_true,decide_eq_true_eq] at h3;obtain ⟨⟨⟨⟨rfl,hg⟩,hl⟩,hn⟩,ht⟩:=h3;have gg:=S.glb _ hg;replace h2:cB T X.N src sc es=true:=h2;have pa:=jO C S G h2 hn;rcases es with _ | ⟨x,_ | ⟨y,_ | ⟨z,ys⟩⟩⟩
   .simp at hl
   .simp at hl
   .simp only [List.all_cons,List.all_nil,Bool.and_eq_true] at hn;cases tg <;> try (cases ht;done)
    exact aav C gg hn.1 hn.2.1 pa
   .simp at hl
 | rev=>cases h1
end
end Mi
namespace Mi
open PySem L2
open PyProof.Rows hiding St
section
variable {T:Tx}{cl:Nat->List D->R D}
theorem Vm {i:Nat}:Good T cl (.var i):=by
 intro X sc e C S h;have ee:evE cl (.var i)=fun ρ=>cY ρ i:=rfl
 rw [ee];obtain ⟨_,_,rfl⟩:=fM h;rw [YX] at h;simp only [Bool.and_eq_true,decide_eq_true_eq] at h;exact bZ (aa8 h.2 (S.vis _ h.1.2) h.1.1) rfl
theorem Ti {d:D}:Good T cl (.con d):=by
 intro X sc e C S h;have ee:evE cl (.con d)=fun _=>.ok d:=rfl
 rw [ee];cases e <;> try (cases h;done)
 .exact bZ (aaP h) rfl
 .rw [Vu] at h;simp only [Bool.and_eq_true] at h;exact bZ (W3 C (S.glb _ h.1.2) h.1.1 (aaG h.2)) rfl
theorem TJ {ms:List M} (G:∀ m∈ms,Good T cl m):Good T cl (.tup ms):=by
 intro X sc e C S h;have ee:evE cl (.tup ms)=fun ρ=>(do let ds <- aW cl ms ρ;if ds.length<=lim then .ok (.tup ds) else .stuck):=rfl
 rw [ee];obtain ⟨_,_,_,rfl⟩:=Ga h;rw [X7] at h;simp only [Bool.and_eq_true] at h;exact bZ (Z2 (jO C S G h.1 h.2)) rfl
theorem UL {ms:List M} (G:∀ m∈ms,Good T cl m):Good T cl (.lst ms):=by
 intro X sc e C S h;have ee:evE cl (.lst ms)=fun ρ=>(do let ds <- aW cl ms ρ;if ds.length<=lim then .ok (.lst ds) else .stuck):=rfl
 rw [ee];obtain ⟨_,_,rfl⟩:=Bg h;rw [LQ] at h;simp only [Bool.and_eq_true] at h;exact bZ (abb (jO C S G h.1 h.2)) rfl
theorem Tp {o:BO}{a b:M} (ga:Good T cl a) (gb:Good T cl b):Good T cl (.bin o a b):=by
 intro X sc e C S h;have ee:evE cl (.bin o a b)=fun ρ=>(do let x <- evE cl a ρ;let y <- evE cl b ρ;fQ o x y):=rfl
 rw [ee];obtain ⟨_,_,_,_,rfl⟩:=Gm h;rw [MF] at h;simp only [Bool.and_eq_true] at h;cases R8 h.1.1;exact bZ (abN o (ga C S h.1.2).1 (gb C S h.2).1) rfl
theorem V4 {o:CO}{a b:M} (ga:Good T cl a) (gb:Good T cl b):Good T cl (.cmp o a b):=by
 intro X sc e C S h;have ee:evE cl (.cmp o a b)=fun ρ=>(do let x <- evE cl a ρ;let y <- evE cl b ρ;let r <- aY o x y;.ok (.bl r)):=rfl
 rw [ee];obtain ⟨x,ops,cs,p,rfl⟩:=tH h;rcases ops with _ | ⟨op,_ | ⟨op2,ops⟩⟩ <;> rcases cs with _ | ⟨y,_ | ⟨y2,cs⟩⟩ <;> try (cases h;done)
 rw [YS] at h;simp only [Bool.and_eq_true] at h;cases Kr h.1.1.1;exact ⟨aaq C.un o (ga C S h.1.2).1 (gb C S h.2).1 h.1.1.2,aal C.un o (ga C S h.1.2).1 (gb C S h.2).1 h.1.1.2⟩
theorem Od {o o':CO}{a b c:M} (ga:Good T cl a) (gb:Good T cl b) (gc:Good T cl c):Good T cl (.chain o o' a b c):=by
 intro X sc e C S h;have ee:evE cl (.chain o o' a b c)=fun ρ=>(do let x <- evE cl a ρ;let y <- evE cl b ρ;let r <- aY o x y;if r then do let z <- evE cl c ρ;let r2 <- aY o' y z;.ok (.bl r2) else .ok (.bl false)):=rfl
 rw [ee];obtain ⟨x,ops,cs,p,rfl⟩:=tH h;rcases ops with _ | ⟨op,_ | ⟨op2,_ | ⟨op3,ops⟩⟩⟩ <;> rcases cs with _ | ⟨y,_ | ⟨y2,_ | ⟨y3,cs⟩⟩⟩ <;> try (cases h;done)
 rw [R6] at h;simp only [Bool.and_eq_true] at h;obtain ⟨⟨⟨⟨⟨⟨h1,h2⟩,h3⟩,h4⟩,h5⟩,h6⟩,h7⟩:=h;cases Kr h1;cases Kr h2;exact ⟨UJ C.un o o' (ga C S h5).1 (gb C S h6).1 (gc C S h7).1 h4,Vx C.un o o' (ga C S h5).1 (gb C S h6).1 (gc C S h7).1 h4⟩
theorem Tf {ms:List M} (G:∀ m∈ms,Good T cl m):Good T cl (.and ms):=by
 intro X sc e C S h;have ee:evE cl (.and ms)=jT cl ms:=rfl;rw [ee];obtain ⟨op,es,p,rfl⟩:=Cu h;cases op <;> try (cases h;done)
 rw [Xo] at h;simp only [Bool.and_eq_true,Bool.not_eq_true'] at h;obtain ⟨h1,h2⟩:=Ls C S (pos:=p) G h.1 h.2;exact ⟨h1,h2.pt⟩
theorem Za {ms:List M} (G:∀ m∈ms,Good T cl m):Good T cl (.or ms):=by
 intro X sc e C S h;have ee:evE cl (.or ms)=mJ cl ms:=rfl;rw [ee];obtain ⟨op,es,p,rfl⟩:=Cu h;cases op <;> try (cases h;done)
 rw [abC] at h;simp only [Bool.and_eq_true,Bool.not_eq_true'] at h;obtain ⟨h1,h2⟩:=QV C S (pos:=p) G h.1 h.2;exact ⟨h1,h2.pt⟩
theorem U8 {a:M} (ga:Good T cl a):Good T cl (.not a):=by
 intro X sc e C S h;have ee:evE cl (.not a)=fun ρ=>(do let x <- evE cl a ρ;let t <- bW x;.ok (.bl (!t))):=rfl
 rw [ee];obtain ⟨op,x,p,rfl⟩:=tK h;cases op <;> try (cases h;done)
 exact ⟨ZV (ga C S h).1,abz (ga C S h).2⟩
theorem TF {a:M} (ga:Good T cl a):Good T cl (.neg a):=by
 intro X sc e C S h;have ee:evE cl (.neg a)=fun ρ=>(do let x <- evE cl a ρ;(match x with | .int i=>.ok (.int (-i)) | _=>.stuck)):=rfl
 rw [ee];obtain ⟨op,x,p,rfl⟩:=tK h;cases op <;> try (cases h;done)
 exact bZ (Z9 (ga C S h).1) rfl
theorem X3 {a b:M} (ga:Good T cl a) (gb:Good T cl b):Good T cl (.ix a b):=by
 intro X sc e C S h;have ee:evE cl (.ix a b)=fun ρ=>(do let x <- evE cl a ρ;let y <- evE cl b ρ;ixD x y):=rfl
 rw [ee];obtain ⟨_,_,_,rfl⟩:=vQ h;rw [abA] at h;simp only [Bool.and_eq_true] at h;exact bZ (acQ C.un (ga C S h.1.2).1 (gb C S h.2).1 h.1.1) rfl
theorem Mj {X:Cx}{sc:Scope}{lo:M}{l:Option Expr} (C:Cok T cl X) (S:ScRel sc X) (g:Good T cl lo) (h:(match l with | none=>dg lo | some y=>!dg lo && okE T X.N lo sc y)=true) :
  PO X l (tPo X (aJ lo) fun ρ=>if dg lo then .ok none else (do let d <- evE cl lo ρ;mZ d)):=by
 cases l with
 | none =>
  simp only at h;simp only [h,if_true];exact adx
 | some y =>
  simp only [Bool.and_eq_true,Bool.not_eq_true'] at h;simp only [h.1];exact adv (g C S h.2).1
theorem Uh {a lo hi:M} (ga:Good T cl a) (gl:Good T cl lo) (gh:Good T cl hi):Good T cl (.slc a lo hi):=by
 intro X sc e C S h;have ee:evE cl (.slc a lo hi)=fun ρ=>(do
  let x <- evE cl a ρ
  let l <- (if dg lo then .ok none else (do let d <- evE cl lo ρ;mZ d))
  let h <- (if dg hi then .ok none else (do let d <- evE cl hi ρ;mZ d))
  slD x l h):=rfl
 rw [ee];obtain ⟨x,sl,p,rfl⟩:=vQ h;obtain ⟨l,u,st,p2,rfl⟩:=R4 (show (isK 26 sl && _)=true from h);cases st <;> try (cases h;done)
 rw [Zi] at h;simp only [Bool.and_eq_true] at h;exact bZ (aaN (ga C S h.1.1).1 (Mj C S gl h.1.2) (Mj C S gh h.2)) rfl
theorem Qx {f:Nat}{ms:List M} (G:∀ m∈ms,Good T cl m):Good T cl (.call f ms):=by
 intro X sc e C S h;have ee:evE cl (.call f ms)=fun ρ=>(do let ds <- aW cl ms ρ;cl f ds):=rfl
 rw [ee];obtain ⟨_,_,es,p,rfl,h9⟩:=cC h;replace h:=h9;clear h9;simp only [Bool.and_eq_true,decide_eq_true_eq] at h;obtain ⟨⟨⟨⟨h1,h2⟩,h3⟩,h4⟩,h5⟩:=h;cases es with
 | nil =>
  have:=Aq h4;cases ms with
  | nil =>
   simp only [Tv,Jc,qf];exact bZ (Tn C (S.glb _ h2) h1 h3) rfl
  | cons _ _=>simp at this
 | cons x xs=>exact bZ (Xm C (S.glb _ h2) h1 h3 (jO C S G h4 h5) h5) rfl
theorem Vd {b:BI}{ms:List M} (G:∀ m∈ms,Good T cl m):Good T cl (.blt b ms):=by
 intro X sc e C S h;have ee:evE cl (.blt b ms)=fun ρ=>(do let ds <- aW cl ms ρ;jH b ds):=rfl
 rw [ee];obtain ⟨_,_,es,p,rfl,h9⟩:=cC h;replace h:=h9;clear h9;simp only [Bool.and_eq_true,decide_eq_true_eq,Bool.not_eq_true'] at h;obtain ⟨⟨⟨⟨h1,h2⟩,h3⟩,h4⟩,h5⟩:=h;cases es with
 | nil=>cases h3
 | cons x xs =>
  by_cases hb:b=.listEnum
  .subst hb;cases h5
  .by_cases hb2:b=.listRev
   .subst hb2;cases h5
   have hp:Ej b=true:=by
    cases b <;> first | rfl | exact absurd rfl hb | exact absurd rfl hb2 | cases h5
   have h6:cB T X.N ms sc (x::xs)=true:=by
    cases b <;> first | exact absurd rfl hb | exact h5 | cases hp
   exact bZ (Z6 b C h1 (S.glb _ h2) (jO C S G h6 h4) h4 hp) rfl
theorem QC {a:M}{t:Ty} (ga:Good T cl a):Good T cl (.isin a t):=by
 intro X sc e C S h;have ee:evE cl (.isin a t)=fun ρ=>(do let x <- evE cl a ρ;.ok (.bl (jc x t))):=rfl
 rw [ee];obtain ⟨_,_,es,p,rfl,h9⟩:=cC h;replace h:=h9;clear h9;rcases es with _ | ⟨y,_ | ⟨z,_ | ⟨z2,zs⟩⟩⟩ <;> try (cases h;done)
 obtain ⟨_,_,rfl⟩:=fM (show (isK 23 z && _)=true from h);replace h:(decide (_=("isinstance":Str)) && cF sc _ && okE T X.N a sc y && noStar y && decide (_=t.nm) && cF sc _)=true:=h
 simp only [Bool.and_eq_true,decide_eq_true_eq] at h;obtain ⟨⟨⟨⟨⟨h1,h2⟩,h3⟩,h4⟩,h5⟩,h6⟩:=h;subst h1 h5;exact bZ (Y9 C t (S.glb _ h2) (S.glb _ h6) (ga C S h3).1 h4) rfl
theorem uq {iter:Expr}{env:Env} (h:fK iter=true):∀ x,foldedSetIterable iter env x=pure x:=by
 intro x;cases iter <;> first | rfl | cases h
theorem pX {sc:Scope}{k:IK}{tg iter:Expr} (h:nD sc k tg iter=true):fK iter=true:=by
 cases k
 .exact h
 .obtain ⟨_,_,_,_,rfl,_⟩:=cC h;rfl
 .obtain ⟨_,_,_,_,rfl,_⟩:=cC h;rfl
 .obtain ⟨_,_,_,_,rfl,_⟩:=cC h;rfl
 .cases h
theorem Mr {elt c:M}{tg:Tg}{k:IK}{src:List M}{hc:Bool}{cap:List Bool}:evE cl (.comp elt tg k src hc c cap)=fun ρ=>(do
   let items <- (do let ss <- aW cl src ρ;itemsOf k ss)
   let ys <- dF (fun d=>do
    let ρ' <- fu tg d (aZ cap ρ)
    let b <- (if hc then (do let x <- evE cl c ρ';bW x) else .ok true)
    if b then do let y <- evE cl elt ρ';.ok (some y) else .ok none) items
   if ys.length<=lim then .ok (.lst ys) else .stuck):=funext fun ρ=>by
  simp only [qe];cases aW cl src ρ <;> simp
theorem Qk {elt c:M}{tg:Tg}{k:IK}{src:List M}{hc:Bool}{cap:List Bool} (ge:Good T cl elt) (gc:Good T cl c) (G:∀ m∈src,Good T cl m):Good T cl (.comp elt tg k src hc c cap):=by
 intro X sc e C S h;rw [Mr];obtain ⟨elt',gens,scope,p,rfl⟩:=pI h;rcases gens with _ | ⟨⟨tg',iter,ifs,as⟩,_ | ⟨g2,gs⟩⟩ <;> try (cases h;done)
 rw [HS] at h;simp only [Bool.and_eq_true,decide_eq_true_eq] at h;obtain ⟨⟨⟨⟨⟨⟨⟨h1,h2⟩,h3⟩,h4⟩,h5⟩,h6⟩,h7⟩,h8⟩:=h;subst h1;refine bZ ?_ rfl;refine bB (zx C.calm (uG C S G h4 h5) (Kh h2 S) (g:=gTg X.K tg) (tt:=tHc X hc (aJ c) (evE cl c)) (te:=tM X (aJ elt) (evE cl elt)) (fun s₃ H₃ fp xe=>?_) (uq (pX h4))) fun σ H Q hq=>?_
 .have S':ScRel scope (cN X scope s₃ H₃ fp xe):=Fw S;have C':=C.blk scope s₃ H₃ fp xe;refine ⟨kh C' S' h3,?_,(ge C' S' h7).1⟩;cases hc with
  | true =>
   rcases ifs with _ | ⟨i1,_ | ⟨i2,is⟩⟩ <;> try (cases h6;done)
   exact Mp (gc C' S' h6).2
  | false =>
   rcases ifs with _ | ⟨i1,is⟩ <;> try (cases h6;done)
   exact M4
 .exact Et h3 h8 (ady hq)
theorem good:∀ m:M,Good T cl m
 | .var i=>Vm
 | .con d=>Ti
 | .tup ms=>TJ fun m hm=>good m
 | .lst ms=>UL fun m hm=>good m
 | .dct0=>fun C S h=>(by cases h)
 | .bin o a b=>Tp (good a) (good b)
 | .cmp o a b=>V4 (good a) (good b)
 | .chain o o' a b c=>Od (good a) (good b) (good c)
 | .and ms=>Tf fun m hm=>good m
 | .or ms=>Za fun m hm=>good m
 | .not a=>U8 (good a)
 | .neg a=>TF (good a)
 | .ite c a b=>fun C S h=>(by cases h)
 | .ix a b=>X3 (good a) (good b)
 | .slc a l h=>Uh (good a) (good l) (good h)
 | .dget a k d=>fun C S h=>(by cases h)
 | .mth f a b=>fun C S h=>(by cases h)
 | .fmt s a b=>fun C S h=>(by cases h)
 | .call f ms=>Qx fun m hm=>good m
 | .blt b ms=>Vd fun m hm=>good m
 | .isin a t=>QC (good a)
 | .comp elt tg k src hc c cap=>Qk (good elt) (good c) fun m hm=>good m
termination_by m=>sizeOf m
decreasing_by
 all_goals simp_wf
 all_goals first | omega | (have:=List.sizeOf_lt_of_mem hm;omega)
end
end Mi
namespace Mi
open PySem L2
open PyProof.Rows hiding St
noncomputable def jZ:Expr->Bool
 | .ListComp ..=>false | .SetComp ..=>false | .DictComp ..=>false | _=>true
def Dv:M->Bool
 | .comp ..=>true | _=>false
noncomputable def WL (st:Stmt) (f:Str->Str->Expr->Bool->Bool):Bool:=isS 24 st && match st with
 | .Expr e _=>isK 16 e && (match e with
  | .Call g es ks cp=>isK 20 g && (match g with
   | .Attribute o m ap=>isK 23 o && (match o,es,ks with | .Name x _,[v],[]=>f x m v (ap.endLine == cp.line) | _,_,_=>false)
   | _=>false)
  | _=>false)
 | _=>false
theorem Tj {st:Stmt}{f:Str->Str->Expr->Bool->Bool} (h:WL st f=true):∃ x p m ap v cp q,st=.Expr (.Call (.Attribute (.Name x p) m ap) [v] [] cp) q/\f x m v (ap.endLine == cp.line)=true:=by
 obtain ⟨e,q,rfl⟩:=Iv h;obtain ⟨g,es,ks,cp,rfl⟩:=Kl (show (isK 16 e && _)=true from h);obtain ⟨o,m,ap,rfl⟩:=vR (show (isK 20 g && _)=true from h);obtain ⟨x,p,rfl⟩:=fM (show (isK 23 o && _)=true from h);rcases es with _ | ⟨v,_ | ⟨v2,es⟩⟩ <;> try (cases h;done)
 rcases ks with _ | ⟨k,ks⟩ <;> try (cases h;done)
 exact ⟨x,p,m,ap,v,cp,q,rfl,h⟩
noncomputable def adH (st:Stmt) (f:Str->Expr->Expr->Bool):Bool:=isS 5 st && match st with
 | .Assign ts v _=>(match ts with
  | [tg]=>isK 21 tg && (match tg with | .Subscript o k _=>isK 23 o && (match o with | .Name x _=>f x k v | _=>false) | _=>false)
  | _=>false)
 | _=>false
noncomputable def lB:Tg->Expr->Bool
 | .one _,_=>true
 | _,v=>!Ji v
mutual
noncomputable def okS (T:Tx) (N:List Str) (sc:Scope):MS->Stmt->Bool
 | .set t e,st=>isS 5 st && match st with | .Assign [tg] v _=>tgB N sc t tg && okE T N e sc v && (jZ v || Dv e) && lB t v | _=>false
 | .app i e,st=>WL st fun x m v b=>Bm sc x && aL x && decide (N[i]?=some x) && decide (m="append") && okE T N e sc v && noStar v && b
 | .ext _ _,_=>false
 | .put _ _ _,_=>false
 | .putB _ _ _,_=>false
 | .pop _ _,_=>false
 | .retO _,_=>false
 | .setF _ _ _,_=>false
 | .callm _ _ _,_=>false
 | .expr _,_=>false
 | .ret e,st=>isS 3 st && match st with
  | .Return (some v) _=>okE T N e sc v
  | .Return none _=>dg e
  | _=>false
 | .ifs c a b,st=>isS 12 st && match st with | .If c' a' b' _=>okE T N c sc c' && okB T N sc a a' && okB T N sc b b' | _=>false
 | .forr t k src b,st=>isS 9 st && match st with | .For tg iter body els _=>els.isEmpty && (tgB N sc t tg && nD sc k tg iter && cB T N src sc (pL k iter) && okB T N sc b body) | _=>false
 | .pass,st=>isS 25 st && match st with | .Pass _=>true | _=>false
 | .brk,st=>isS 26 st && match st with | .Break _=>true | _=>false
 | .cnt,st=>isS 27 st && match st with | .Continue _=>true | _=>false
 | .rai,st=>match st with | .Raise ..=>true | _=>false
 | .chk _ _,_=>false
 | .setB _ _,_=>false
 | .setC _ _,_=>false
noncomputable def okB (T:Tx) (N:List Str) (sc:Scope):List MS->List Stmt->Bool
 | [],sts=>sts.isEmpty
 | m::ms,sts=>match sts with | st::sts=>okS T N sc m st && okB T N sc ms sts | []=>false
end
section
variable {T:Tx}{N:List Str}{sc:Scope}{st:Stmt}{i:Nat}{e k v c:M}{t:Tg}{a b:List MS}{src:List M}{ik:IK}{sts:List Stmt}{m:MS}
theorem YD {tg w:Expr}{pos:Pos}:okS T N sc (.set t e) (.Assign [tg] w pos)=(tgB N sc t tg && okE T N e sc w && (jZ w || Dv e) && lB t w):=rfl
theorem Yk {c':Expr}{a' b':List Stmt}{pos:Pos}:okS T N sc (.ifs c a b) (.If c' a' b' pos)=(okE T N c sc c' && okB T N sc a a' && okB T N sc b b'):=rfl
theorem XR:okB T N sc [] sts=sts.isEmpty:=rfl
theorem Ul:okB T N sc (m::a) (st::sts)=(okS T N sc m st && okB T N sc a sts):=rfl
end
section
variable {inv O:List Nat}{i j:Nat}{e k v c:M}{a b:List MS}{t:Tg}{ik:IK}{src:List M}{m:MS}
theorem U4:tV inv (.app i e) O=(if (without O (aJ e)).contains i then some (some (without O (aJ e))) else none):=rfl
theorem Tt:tV inv (.ifs c a b) O=(do
  let x <- fU inv a O
  let y <- fU inv b O
  some (iu x y)):=rfl
theorem VR:tV inv (.forr t ik src b) O=(do
  let O1:=without (without O (aM src)) (bD t)
  let x <- fU O1 b O1
  let O2:=(iu (some O1) x).getD []
  let y <- fU O2 b O2
  match y with
  | none=>some (some O2)
  | some O3=>if O2.all (fun i=>O3.contains i) then some (some O2) else none):=rfl
theorem Wj:tV inv .brk O=(if inv.all (fun i=>O.contains i) then some none else none):=rfl
theorem Vb:tV inv .cnt O=(if inv.all (fun i=>O.contains i) then some none else none):=rfl
theorem Q8:fU inv (m::a) O=(do
  let x <- tV inv m O
  match x with
  | none=>some none
  | some O1=>fU inv a O1):=rfl
end
def jt (g:G) (E:Ent) (Es Hs:Hp) (O':Ow) (inv:List Nat) (D:Ends):Out->Prop
 | .nx ρ'=>∀ O1,O'=some O1->∀ σ' H' Hs',FR g E Es O1 ρ' σ' H' Hs'->Same Hs Hs'->D.nx σ' H'
 | .rt d=>∀ v H' Hs',Grow E.hp Es H' Hs'->Rp g Hs' d v->D.rt v H'
 | .ro d=>∀ v H' Hs',Grow E.hp Es H' Hs'->Rp g Hs' d v->(∀ a,v=.ref a->E.hp a=none)->D.rt v H'
 | .bk ρ'=>∀ σ' H' Hs',FR g E Es inv ρ' σ' H' Hs'->Same Hs Hs'->D.bk σ' H'
 | .ct ρ'=>∀ σ' H' Hs',FR g E Es inv ρ' σ' H' Hs'->Same Hs Hs'->D.ct σ' H'
theorem jt.mono {g:G}{E:Ent}{Es Hs Hs1:Hp}{O':Ow}{inv:List Nat}{D:Ends}{o:Out} (h:jt g E Es Hs O' inv D o) (m:Same Hs Hs1):jt g E Es Hs1 O' inv D o:=by
 cases o with
 | nx ρ=>exact fun O1 e σ' H' Hs' F s=>h O1 e σ' H' Hs' F (m.trans s)
 | rt d=>exact h
 | ro d=>exact h
 | bk ρ=>exact fun σ' H' Hs' F s=>h σ' H' Hs' F (m.trans s)
 | ct ρ=>exact fun σ' H' Hs' F s=>h σ' H' Hs' F (m.trans s)
def tMS (X:Cx) (E:Ent) (Es:Hp) (O:List Nat) (O':Ow) (inv:List Nat) (run:En->R Out):TS:=fun D σ H=>∃ ρ Hs o,FR (gOf X) E Es O ρ σ H Hs/\run ρ=.ok o/\jt (gOf X) E Es Hs O' inv D o
theorem bJ {X:Cx}{st:Stmt}{t t':TS} (h:PS X st t) (i:∀ D σ H,t' D σ H->t D σ H):PS X st t':=fun pins s σ H D I hq=>h pins s σ H D I (i D σ H hq)
theorem jQ {X:Cx}{st:List Stmt}{t t':TS} (h:PSs X st t) (i:∀ D σ H,t' D σ H->t D σ H):PSs X st t':=fun pins s σ H D I hq=>h pins s σ H D I (i D σ H hq)
section
variable {g:G}{E:Ent}{Es:Hp}{O O':List Nat}{ρ:En}{σ:St}{H Hs H' Hs':Hp}
theorem FR.vs (F:FR g E Es O ρ σ H Hs) {U:List Nat} (h:∀ i∈U,i ∉ O):Vs g ρ σ Hs U:=⟨F.len,fun i hi d e=>F.val i d e (h i hi)⟩
theorem FR.pubU (F:FR g E Es O ρ σ H Hs) (U:List Nat):∃ Hs',FR g E Es (without O U) ρ σ H Hs'/\Same Hs Hs'/\Vs g ρ σ Hs' U:=by
 obtain ⟨Hs',F',m,_⟩:=FR.pubs U F;exact ⟨Hs',F',m,F'.vs fun i hi hm=>(bH.mp hm).2 hi⟩
theorem FR.pubW (F:FR g E Es O ρ σ H Hs) (U:List Nat):∃ Hs',FR g E Es (without O U) ρ σ H Hs'/\Same Hs Hs'/\Vs g ρ σ Hs' U/\iW Hs Hs':=by
 obtain ⟨Hs',F',m,w⟩:=FR.pubs U F;exact ⟨Hs',F',m,F'.vs fun i hi hm=>(bH.mp hm).2 hi,w⟩
theorem FR.putL:∀ {l:List (Nat × D × V)}{O:List Nat}{ρ:En}{σ:St},FR g E Es O ρ σ H Hs->(∀ q∈E.pins,q.1 ∉ l.map (·.1))->(∀ p∈l,Rp g Hs p.2.1 p.2.2)->FR g E Es (without O (l.map (·.1))) (putL ρ (l.map fun p=>(p.1,p.2.1))) (putL σ (l.map fun p=>(p.1,p.2.2))) H Hs
 | [],O,ρ,σ,F,hq,h=>F.congrO fun i=>by rw [bH];simp
 | (i,d,v)::l,O,ρ,σ,F,hq,h=>by
  have F1:=F.setS (i:=i) (fun q hm e=>hq q hm (by rw [List.map_cons,e];exact List.mem_cons_self)) (h _ List.mem_cons_self);have F2:=FR.putL F1 (fun q hm e=>hq q hm (List.mem_cons_of_mem _ e)) fun p hp=>h p (List.mem_cons_of_mem _ hp)
  simp only [List.map_cons,Mi.putL];refine F2.congrO fun j=>?_
  rw [bH,bH,bH];simp;constructor
  .rintro ⟨a,b,c⟩;exact ⟨⟨a,b⟩,c⟩
  .rintro ⟨⟨a,b⟩,c⟩;exact ⟨a,b,c⟩
end
theorem jF {v:Expr}{t:Option Expr}{l:Nat}{env:Env} (h:jZ v=true):swapsWith v t l env=pure false:=by
 cases v <;> first | rfl | cases h
theorem iI {tg v:Expr}{env:Env}{N:List Str}{sc:Scope}{t:Tg} (h:lB t v=true) (h1:tgB N sc t tg=true):swappedStores [tg] v env=pure none:=by
 cases t with
 | one i =>
  obtain ⟨_,_,rfl,_⟩:=uw h1;cases v <;> rfl
 | two i j =>
  obtain ⟨_,_,_,_,_,_,rfl,_⟩:=ur h1;cases v <;> first | (cases h;done) | rfl
theorem assign1 {tg:Expr}{env:Env}{N:List Str}{sc:Scope}{t:Tg} (h:tgB N sc t tg=true):(assignEach [tg] env).map (·.2)=[assign tg env]:=by
 cases t with
 | one i =>
  obtain ⟨_,_,rfl,_⟩:=uw h;rfl
 | two i j =>
  obtain ⟨_,_,_,_,_,_,rfl,_⟩:=ur h;rfl
section
variable {T:Tx}{cl:Nat->List D->R D}{X:Cx}{sc:Scope}{E:Ent}{Es:Hp}{O:List Nat}{inv:List Nat}{pos:Pos}
theorem Sv {t:Tg}{e:M}{tg v:Expr} (C:Cok T cl X) (S:ScRel sc X) (hq:∀ q∈E.pins,q.1 ∉ bD t) (h1:tgB X.N sc t tg=true) (h2:okE T X.N e sc v=true) (h3:jZ v=true) (h4:lB t v=true) :
  PS X (.Assign [tg] v pos) (tMS X E Es O (some (without (without O (aJ e)) (bD t))) inv (bU cl (.set t e))):=by
 refine bJ (nF (good e C S h2).1 (kh C S h1) (jF (t:=some tg) (l:=pos.line) (env:=X.env) h3) (iI h4 h1) (assign1 h1)) fun D σ H=>?_
 rintro ⟨ρ,Hs,o,F,h,k⟩;simp only [qy,qz,wA,wB,qW,wD,wE,wF,qX,wG,wH,wI,qY,qZ] at h;obtain ⟨d,hd,hb⟩:=aq h;obtain ⟨ρ',hρ,hb2⟩:=aq hb;clear h hb;cases hb2;obtain ⟨Hs1,F1,m1,vs⟩:=F.pubU (aJ e);refine ⟨ρ,Hs1,d,F1.sub,vs,hd,fun x H1 Hs2 g2 r2=>?_⟩;have F2:=F1.grown g2;refine pD (X:=X) g2.sub hρ r2 fun l hl hrl eρ=>?_
 have F3:=F2.putL (by rw [hl];exact hq) hrl;rw [hl,<- eρ] at F3;exact k _ rfl _ _ _ F3 (m1.trans (g2.same F1.sub))
noncomputable def swB (sc:Scope) (x:Str) (l1 l2:Nat) (scope:Scope):Bool:=(sc.names.lookup x == some .local) && l1 == l2 && !(scope.names.any fun (n,k)=>n == x && (k == .local || k == .cell))
theorem Kg {elt:Expr}{gs:List Comprehension}{scope:Scope}{p p':Pos}{x:Str}{l:Nat}{env:Env} (hk:env.scope.kind=.function):swapsWith (.ListComp elt gs scope p) (some (.Name x p')) l env=pure (swB env.scope x p'.line p.line scope):=by
 show (pure (env.blockKind == .function && env.kindOf x == some .local && p'.line == p.line && !(scope.names.any fun (n,k)=>n == x && (k == .local || k == .cell))):Sem Bool)=_
 have hb:env.blockKind=.function:=by unfold Env.blockKind;rw [hk];rfl
 rw [hb];rfl
theorem Vw {t:Tg}{elt c:M}{tg':Tg}{k:IK}{src:List M}{hc:Bool}{cap:List Bool}{tg v:Expr}{TSx:TS} (C:Cok T cl X) (S:ScRel sc X) (h1:tgB X.N sc t tg=true) (h2:okE T X.N (.comp elt tg' k src hc c cap) sc v=true) (h4:lB t v=true)
  (read:∀ D σ H,TSx D σ H->T6 (tMf X (aJ (.comp elt tg' k src hc c cap)) (evE cl (.comp elt tg' k src hc c cap))) (gTg X.K t) D σ H):PS X (.Assign [tg] v pos) TSx:=by
 have h2':=h2;obtain ⟨elt',gens,scope,p,rfl⟩:=pI h2';rcases gens with _ | ⟨⟨tgx,iter,ifs,as⟩,_ | ⟨g2,gs⟩⟩ <;> try (cases h2';done)
 rw [HS] at h2';simp only [Bool.and_eq_true,decide_eq_true_eq] at h2';obtain ⟨⟨⟨⟨⟨⟨⟨q1,q2⟩,q3⟩,q4⟩,q5⟩,q6⟩,q7⟩,q8⟩:=h2';subst q1;have blk:∀ s₃ H₃ fp xe,PG (cN X scope s₃ H₃ fp xe) tgx (gTg X.K tg')/\PTs (cN X scope s₃ H₃ fp xe) ifs (tHc X hc (aJ c) (evE cl c))/\PE (cN X scope s₃ H₃ fp xe) elt' (tM X (aJ elt) (evE cl elt)):=fun s₃ H₃ fp xe=>by
  have S':ScRel scope (cN X scope s₃ H₃ fp xe):=Fw S;have C':=C.blk scope s₃ H₃ fp xe;refine ⟨kh C' S' q3,?_,(good elt C' S' q7).1⟩;cases hc with
  | true =>
   rcases ifs with _ | ⟨i1,_ | ⟨i2,is⟩⟩ <;> try (cases q6;done)
   exact Mp (good c C' S' q6).2
  | false =>
   rcases ifs with _ | ⟨i1,is⟩ <;> try (cases q6;done)
   exact M4
 have rd:∀ σ H (Q:VK),tMf X (aJ (.comp elt tg' k src hc c cap)) (evE cl (.comp elt tg' k src hc c cap)) σ H Q->Cw (tI X (aM src) fun ρ=>do let ss <- aW cl src ρ;itemsOf k ss) (gTg X.K tg') (tHc X hc (aJ c) (evE cl c)) (tM X (aJ elt) (evE cl elt)) (aZ (cA X.N scope)) σ H Q:=fun σ H Q h=>by
  rw [Mr] at h;exact Et q3 q8 h
 have hE:PE X (.ListComp elt' [⟨tgx,iter,ifs,0⟩] scope p) (tMf X (aJ (.comp elt tg' k src hc c cap)) (evE cl (.comp elt tg' k src hc c cap))) :=
  bB (zx C.calm (uG C S (fun m _=>good m) q4 q5) (Kh q2 S) blk (uq (pX q4))) rd
 cases t with
 | two i j =>
  have hno:∀ l env,swapsWith (.ListComp elt' [⟨tgx,iter,ifs,0⟩] scope p) (some tg) l env=pure false:=fun l env=>by
   obtain ⟨_,_,_,_,_,_,rfl,_⟩:=ur h1;rfl
  exact bJ (nF hE (kh C S h1) (hno pos.line X.env) (iI h4 h1) (assign1 h1)) read
 | one i =>
  have h1':=h1;clear h1;obtain ⟨x,p',rfl,h1⟩:=uw h1';obtain ⟨l1,l2⟩:=S.own _ h1.1;cases hsw:swB X.env.scope x p'.line p.line scope with
  | false =>
   intro pins s σ H D I h;have e0:swapsWithSole [.Name x p'] (.ListComp elt' [⟨tgx,iter,ifs,0⟩] scope p) pos.line X.env=pure (swB X.env.scope x p'.line p.line scope):=Kg (l:=pos.line) I.ok.kind;exact nF hE (kh C S h1') (by rw [e0,hsw]) (iI h4 h1') (assign1 h1') pins s σ H D I (read D σ H h)
  | true =>
   exact bJ (NZ C.nd h1.2 l1 l2 (fun hk=>by rw [Kg hk,hsw]) C.calm (uG C S (fun m _=>good m) q4 q5) (Kh q2 S) blk (uq (pX q4))) fun D σ H h=>rd _ _ _ (read D σ H h)
theorem M8 {t:Tg}{elt c:M}{tg':Tg}{k:IK}{src:List M}{hc:Bool}{cap:List Bool}{tg v:Expr} (C:Cok T cl X) (S:ScRel sc X) (hq:∀ q∈E.pins,q.1 ∉ bD t) (h1:tgB X.N sc t tg=true) (h2:okE T X.N (.comp elt tg' k src hc c cap) sc v=true) (h4:lB t v=true) :
  PS X (.Assign [tg] v pos) (tMS X E Es O (some (without (without O (aJ (.comp elt tg' k src hc c cap))) (bD t))) inv (bU cl (.set t (.comp elt tg' k src hc c cap)))):=by
 refine Vw C S h1 h2 h4 fun D σ H=>?_
 rintro ⟨ρ,Hs,o,F,h,kk⟩;simp only [qy,qz,wA,wB,qW,wD,wE,wF,qX,wG,wH,wI,qY,qZ] at h;obtain ⟨d,hd,hb⟩:=aq h;obtain ⟨ρ',hρ,hb2⟩:=aq hb;clear h hb;cases hb2;obtain ⟨Hs1,F1,m1,vs⟩:=F.pubU (aJ (.comp elt tg' k src hc c cap));refine ⟨ρ,Hs1,d,F1.sub,vs,hd,fun x H1 Hs2 g2 r2 _=>?_⟩;have F2:=F1.grown g2;refine pD (X:=X) g2.sub hρ r2 fun l hl hrl eρ=>?_
 have F3:=F2.putL (by rw [hl];exact hq) hrl;rw [hl,<- eρ] at F3;exact kk _ rfl _ _ _ F3 (m1.trans (g2.same F1.sub))
theorem Xi {i:Nat}{ms:List M}{tg v:Expr} (C:Cok T cl X) (S:ScRel sc X) (hq:∀ q∈E.pins,q.1≠i) (h1:tgB X.N sc (.one i) tg=true) (h2:okE T X.N (.lst ms) sc v=true) (h3:jZ v=true) (h4:lB (.one i) v=true) :
  PS X (.Assign [tg] v pos) (tMS X E Es O (some (i::without (without O (aJ (.lst ms))) [i])) inv (bU cl (.set (.one i) (.lst ms)))):=by
 obtain ⟨_,_,rfl⟩:=Bg h2;rw [LQ] at h2;simp only [Bool.and_eq_true] at h2;refine bJ (nF (JK (jO C S (fun m _=>good m) h2.1 h2.2)) (kh C S h1) (jF (t:=some tg) (l:=pos.line) (env:=X.env) h3) (iI h4 h1) (assign1 h1)) fun D σ H=>?_
 rintro ⟨ρ,Hs,o,F,h,k⟩;simp only [qy,wM,wN,wL] at h;obtain ⟨d,hd,hb⟩:=aq h;obtain ⟨ρ',hρ,hb2⟩:=aq hb;clear h hb;obtain ⟨ds,hds,hd2⟩:=aq hd;clear hd;obtain ⟨hlim,hd3⟩:=bR hd2;clear hd2;cases hd3;cases hρ;cases hb2;obtain ⟨Hs1,F1,m1,vs⟩:=F.pubU (aM ms);refine ⟨ρ,Hs1,ds,F1.sub,vs,hds,fun xs H1 Hs2 g2 r2=>⟨by rw [<- r2.length];exact Nat.le_trans hlim jy,fun p hp=>?_⟩⟩;have F2:=F1.grown g2;have F3:=F2.setO (i:=i) (d:=.lst ds) (o:=.lst xs) hq hp ⟨xs,aD,r2⟩;exact k _ rfl _ _ _ F3 (m1.trans (g2.same F1.sub))
theorem W9 {i:Nat}{ma:M}{ms:List M}{tg v:Expr} (C:Cok T cl X) (S:ScRel sc X) (hq:∀ q∈E.pins,q.1≠i) (h1:tgB X.N sc (.one i) tg=true) (h2:okE T X.N (.bin .add ma (.lst ms)) sc v=true) (h3:jZ v=true) (h4:lB (.one i) v=true) :
  PS X (.Assign [tg] v pos) (tMS X E Es O (some (i::without (without O (aJ (.bin .add ma (.lst ms)))) [i])) inv (bU cl (.set (.one i) (.bin .add ma (.lst ms))))):=by
 obtain ⟨x,p,y,pp,rfl⟩:=Gm h2;rw [MF] at h2;simp only [Bool.and_eq_true] at h2;obtain ⟨⟨hb,ha⟩,hc⟩:=h2;have hop:=R8 hb;subst hop;refine bJ (nF (Wl (Mw (X:=X)) (good ma C S ha).1 (good (.lst ms) C S hc).1) (kh C S h1) (jF (t:=some tg) (l:=pos.line) (env:=X.env) h3) (iI h4 h1) (assign1 h1)) fun D σ H=>?_
 rintro ⟨ρ,Hs,o,F,h,k⟩;simp only [qy,wO] at h;obtain ⟨d,hd,hb1⟩:=aq h;obtain ⟨ρ',hρ,hb2⟩:=aq hb1;clear h hb1;cases hρ;cases hb2;obtain ⟨d1,hd1,hd'⟩:=aq hd;obtain ⟨d2,hd2,hd3⟩:=aq hd';clear hd hd';have hl2:∃ ds2,d2=.lst ds2:=by
  rw [wM] at hd2;obtain ⟨ds,_,q⟩:=aq hd2;obtain ⟨_,q2⟩:=bR q;cases q2;exact ⟨ds,rfl⟩
 obtain ⟨ds2,rfl⟩:=hl2;replace hd3:jM d1 (.lst ds2)=.ok d:=hd3;cases d1 <;> try (cases hd3;done)
 rename_i ds1;replace hd3:(if ds1.length+ds2.length<=lim then R.ok (Mi.D.lst (ds1++ds2)) else .stuck)=.ok d:=hd3;obtain ⟨hlim,hd4⟩:=bR hd3;cases hd4;obtain ⟨Hs1,F1,m1,vs⟩:=F.pubU (aJ (.bin .add ma (.lst ms)));refine ⟨ρ,Hs1,.lst ds1,F1.sub,vs.l,hd1,fun x1 H1 Hs2 g2 r2=>?_⟩;refine ⟨ρ,Hs2,.lst ds2,g2.sub,vs.r.mono (g2.same F1.sub),hd2,fun x2 H2 Hs3 g3 r3=>?_⟩;have g4:=g2.trans g3;have F2:=F1.grown g4;obtain ⟨a1,xs,rfl,s1,rx⟩:=cP.mp (r2.mono (g3.same g2.sub));obtain ⟨a2,zs,rfl,s2,rz⟩:=cP.mp r3;have l1:=rx.length;have l2:=rz.length;refine ⟨a1,a2,xs,zs,rfl,rfl,bw F2.sub s1,bw F2.sub s2,by have:=jy;omega,fun p hp=>?_⟩;have F3:=F2.setO (i:=i) (d:=.lst (ds1++ds2)) (o:=.lst (xs++zs)) hq hp ⟨xs++zs,aD,rx.append rz⟩;exact k _ rfl _ _ _ F3 (m1.trans (g4.same F1.sub))
theorem Uy {i:Nat}{ms:List M}{tg v:Expr} (C:Cok T cl X) (S:ScRel sc X) (hq:∀ q∈E.pins,q.1≠i) (h1:tgB X.N sc (.one i) tg=true) (h2:okE T X.N (.blt .list ms) sc v=true) (h4:lB (.one i) v=true) :
  PS X (.Assign [tg] v pos) (tMS X E Es O (some (i::without (without O (aJ (.blt .list ms))) [i])) inv (bU cl (.set (.one i) (.blt .list ms)))):=by
 obtain ⟨x,p,es,q,rfl,h9⟩:=cC h2;simp only [Bool.and_eq_true,decide_eq_true_eq,Bool.not_eq_true'] at h9;obtain ⟨⟨⟨⟨a1,a2⟩,a3⟩,a4⟩,a5⟩:=h9;subst a1;rcases es with _ | ⟨y,ys⟩
 .cases a3
 have a6:cB T X.N ms sc (y::ys)=true:=a5;have pa:=jO C S (fun m _=>good m) a6 a4;have a7:=a4;simp only [List.all_cons,Bool.and_eq_true] at a7;refine bJ (nF (sU xg (S.glb _ a2) (C.blt _ (by decide +kernel)) uY pa (by decide +kernel) (by decide +kernel) (aG a7.1) (eZ a7.2)) (kh C S h1) rfl (iI h4 h1) (assign1 h1)) fun D σ H=>?_
 rintro ⟨ρ,Hs,o,F,h,k⟩;simp only [qy,wV] at h;obtain ⟨d,hd,hb⟩:=aq h;obtain ⟨ρ',hρ,hb2⟩:=aq hb;clear h hb;obtain ⟨ds,hds,hd2⟩:=aq hd;clear hd;cases hρ;cases hb2;obtain ⟨Hs1,F1,m1,vs⟩:=F.pubU (aM ms);refine ⟨ρ,Hs1,ds,F1.sub,vs,hds,fun xs H1 Hs2 g2 r2=>?_⟩;have F2:=F1.grown g2;rcases ds with _ | ⟨d0,_ | ⟨d1,ds⟩⟩
 .cases hd2
 .obtain ⟨v,rfl,r3⟩:=yI r2;cases d0 <;> try (cases hd2;done)
  .cases hd2;obtain ⟨a,zs,rfl,s1,r4⟩:=cJ.mp r3;refine ⟨a,zs,rfl,.inr (aO g2.sub s1),fun p hp=>?_⟩;exact k _ rfl _ _ _ (F2.setO (i:=i) (o:=.lst zs) hq hp ⟨zs,aD,r4⟩) (m1.trans (g2.same F1.sub))
  .cases hd2;obtain ⟨a,zs,rfl,s1,r4⟩:=cP.mp r3;refine ⟨a,zs,rfl,.inl (bw g2.sub s1),fun p hp=>?_⟩;exact k _ rfl _ _ _ (F2.setO (i:=i) (o:=.lst zs) hq hp ⟨zs,aD,r4⟩) (m1.trans (g2.same F1.sub))
 .cases d0 <;> cases hd2
theorem Mv {ρ:En}{i:Nat}{d:D} (h:cY ρ i=.ok d):ρ[i]?=some (some d):=by
 unfold cY at h;split at h
 .cases h;assumption
 .cases h
theorem ZD {i:Nat}{e:M}{x:Str}{v:Expr}{p ap cp:Pos} (C:Cok T cl X) (S:ScRel sc X) (hv:Bm sc x=true) (ho:aL x=true) (hN:X.N[i]?=some x) (h2:okE T X.N e sc v=true) (hn:noStar v=true) (hl:(ap.endLine == cp.line)=true)
  (hi:i ∈ without O (aJ e)):PS X (.Expr (.Call (.Attribute (.Name x p) "append" ap) [v] [] cp) pos) (tMS X E Es O (some (without O (aJ e))) inv (bU cl (.app i e))):=by
 unfold aL at ho;simp only [Bool.and_eq_true,Bool.not_eq_true'] at ho;refine bJ (yJ (acq PySem.F.plainAttrs_list PySem.F.slot_list_append PySem.F.type_list_append Fq (jY hN (S.vis _ hv) ho.1.1 ho.1.2) (dw (good e C S h2).1 jz (aG hn)) rfl (by rw [aG hn];rfl) hl (aG hn) rfl) rfl) fun D σ H=>?_
 rintro ⟨ρ,Hs,o,F,h,k⟩;simp only [qy,qz,wA,wB,qW,wD,wE,wF,qX,wG,wH,wI,qY,qZ] at h;obtain ⟨l,hl1,hb⟩:=aq h;obtain ⟨d,hd,hb1⟩:=aq hb;obtain ⟨l',hl',hb2⟩:=aq hb1;clear h hb hb1;cases hb2;obtain ⟨Hs1,F1,m1,vs⟩:=F.pubU (aJ e);have hρ:=Mv hl1;obtain ⟨a,ea,a0,a1,ow⟩:=F1.own i hi l hρ;cases l <;> try (cases hl';done)
 rename_i ds;simp only [Ak] at hl';obtain ⟨hlt,hl2⟩:=bR hl';clear hl';cases hl2;obtain ⟨xs,hxs,rxs⟩:=ow;refine ⟨.ref a,ea,.inl ⟨rfl,xs,SqL.of hxs⟩,ρ,Hs1,d,F1.sub,vs,hd,fun y H1 Hs2 g2 r2=>?_⟩;have F2:=F1.grown g2;have hl:=rxs.length;have hlim:=jy;refine ⟨a,xs,y,rfl,rfl,g2.keep a _ hxs,by omega,?_⟩;have F3:=F2.mut (o:=.lst (xs++[y])) (d':=.lst (ds++[d])) hi hρ ea ⟨_,aD,(rxs.mono (g2.same F1.sub)).append (Rps.one r2)⟩;exact k _ rfl _ _ _ F3 (m1.trans (g2.same F1.sub))
theorem Z0 {e:M}{v:Expr} (C:Cok T cl X) (S:ScRel sc X) (h2:okE T X.N e sc v=true):PS X (.Return (some v) pos) (tMS X E Es O none inv (bU cl (.ret e))):=by
 refine bJ (CT (good e C S h2).1) fun D σ H=>?_
 rintro ⟨ρ,Hs,o,F,h,k⟩;simp only [qy,qz,wA,wB,qW,wD,wE,wF,qX,wG,wH,wI,qY,qZ] at h;obtain ⟨d,hd,hb⟩:=aq h;clear h;cases hb;obtain ⟨Hs1,F1,m1,vs⟩:=F.pubU (aJ e);exact ⟨ρ,Hs1,d,F1.sub,vs,hd,fun y H1 Hs2 g2 r2=>k y H1 Hs2 (F1.grow.trans g2) r2⟩
theorem Yn {e:M} (h2:dg e=true):PS X (.Return none pos) (tMS X E Es O none inv (bU cl (.ret e))):=by
 refine bJ Yv fun D σ H=>?_
 rintro ⟨ρ,Hs,o,F,h,k⟩;cases e <;> try (cases h2;done)
 rename_i d;cases d <;> try (cases h2;done)
 simp only [qy,qz,wA,wB,qW,wD,wE,wF,qX,wG,wH,wI,qY,qZ,wM,wN,wK,wL,qR] at h;cases h;exact k .non H Hs F.grow (tZ.mpr rfl)
end
end Mi
namespace Mi
open PySem L2
open PyProof.Rows hiding St
section
variable {T:Tx}{cl:Nat->List D->R D}{X:Cx}{sc:Scope}{E:Ent}{Es:Hp}{O:List Nat}{inv:List Nat}{pos:Pos}
theorem jt.meetL {g:G}{Hs:Hp}{x y:Ow}{D:Ends}{o:Out} (h:jt g E Es Hs (iu x y) inv D o):jt g E Es Hs x inv D o:=by
 cases o with
 | rt d=>exact h
 | ro d=>exact h
 | bk ρ=>exact h
 | ct ρ=>exact h
 | nx ρ =>
  intro O1 e σ' H' Hs' F s;subst e;cases y with
  | none=>exact h O1 rfl σ' H' Hs' F s
  | some b =>
   obtain ⟨Hs2,F2,m⟩:=F.fewer (O':=O1.filter fun i=>b.contains i) fun i hi=>(List.mem_filter.mp hi).1
   exact h _ rfl σ' H' Hs2 F2 (s.trans m)
theorem jt.meetR {g:G}{Hs:Hp}{x y:Ow}{D:Ends}{o:Out} (h:jt g E Es Hs (iu x y) inv D o):jt g E Es Hs y inv D o:=by
 cases o with
 | rt d=>exact h
 | ro d=>exact h
 | bk ρ=>exact h
 | ct ρ=>exact h
 | nx ρ =>
  intro O1 e σ' H' Hs' F s;subst e;cases x with
  | none=>exact h O1 rfl σ' H' Hs' F s
  | some b =>
   obtain ⟨Hs2,F2,m⟩:=F.fewer (O':=b.filter fun i=>O1.contains i) fun i hi=>by
    have:=(List.mem_filter.mp hi).2;simpa using this
   exact h _ rfl σ' H' Hs2 F2 (s.trans m)
theorem Zk {c:M}{c':Expr} (C:Cok T cl X) (S:ScRel sc X) (h1:okE T X.N c sc c'=true) :
  PT X c' (fun σ H Q=>∃ ρ Hs d b,Same Hs H/\Vs (gOf X) ρ σ Hs (aJ c)/\evE cl c ρ=.ok d/\yu c d=.ok b/\∀ H' Hs',Grow H Hs H' Hs'->Q b H'):=by
 intro pins s σ H Q I;rintro ⟨ρ,Hs,d,b,hs,hv,hd,ht,k⟩;cases d <;> try (cases ht;done)
 .cases ht;exact (good c C S h1).2 pins s σ H Q I ⟨ρ,Hs,_,hs,hv,hd,k⟩
 .rename_i ds;cases c <;> try (cases ht;done)
  cases ht;obtain ⟨x,y,z,p,rfl⟩:=pI h1;refine Uj (good _ C S h1).1 (jm rfl) pins s σ H Q I ⟨ρ,Hs,_,hs,hv,hd,fun v H1 Hs1 g1 r1=>?_⟩;obtain ⟨a,xs,rfl,hx,hr⟩:=cP.mp r1;refine ⟨_,.inl ⟨xs,bw g1.sub hx,rfl⟩,?_⟩;have e:(!xs.isEmpty)=!ds.isEmpty:=by
   have:=hr.length;cases xs <;> cases ds <;> first | rfl | (simp at this)
  rw [e];exact k _ _ g1
theorem acN {c:M}{a b:List MS}{c':Expr}{a' b':List Stmt}{x y:Ow} (C:Cok T cl X) (S:ScRel sc X) (h1:okE T X.N c sc c'=true) (ha:PSs X a' (tMS X E Es O x inv (cZ cl a))) (hb:PSs X b' (tMS X E Es O y inv (cZ cl b))) :
  PS X (.If c' a' b' pos) (tMS X E Es O (iu x y) inv (bU cl (.ifs c a b))):=by
 refine bJ (Cv (Zk C S h1) ha hb) fun D σ H=>?_
 rintro ⟨ρ,Hs,o,F,h,k⟩;simp only [qy,qz,wA,wB,qW,wD,wE,wF,qX,wG,wH,wI,qY,qZ] at h;obtain ⟨d,hd,hb⟩:=aq h;obtain ⟨t,ht,hb2⟩:=aq hb;clear h hb;obtain ⟨Hs1,F1,m1,vs,w1⟩:=F.pubW (aJ c);refine ⟨ρ,Hs1,d,t,F1.sub,vs,hd,ht,fun H1 Hs2 g2=>?_⟩;obtain ⟨Hs3,g3,_,_⟩:=Wv F.sub w1 g2;have m2:=g3.same F.sub;cases t with
 | true=>(try dsimp only);rw [if_pos rfl];rw [if_pos rfl] at hb2;exact ⟨ρ,Hs3,o,F.grown g3,hb2,k.meetL.mono m2⟩
 | false=>(try dsimp only);rw [if_neg (by decide)];rw [if_neg (by decide)] at hb2;exact ⟨ρ,Hs3,o,F.grown g3,hb2,k.meetR.mono m2⟩
theorem Mf {g:G}{J:It}{Hs0:Hp}{ds:List D}{gt:TG}{tb:TS}{D:Ends}{σ:St}{H:Hp} (src:Src g J Hs0 ds) (Pv:Nat->St->Hp->Prop) (h0:Pv 0 σ H) (hsame:∀ i σ H,Pv i σ H->Same Hs0 H)
  (step:∀ i d x σ H H',ds[i]?=some d->Pv i σ H->J.yld i H x H'->gt x σ H' fun σ2 H2=>tb { D with nx:=Pv (i+1),ct:=Pv (i+1),bk:=D.nx } σ2 H2) (hd:∀ σ H,Pv ds.length σ H->D.nx σ H) :
  ∃ W:Nat->Nat->St->Hp->Prop,(∃ m,W 0 m σ H)/\∀ i m σ H,W i m σ H ->
   (J.stop i H/\D.nx σ H)\/(J.go i H/\∃ N:St->Hp->Prop,(∀ σ' H',N σ' H'->∃ m',m' < m/\W (i+1) m' σ' H')/\∀ x H',J.yld i H x H'->gt x σ H' fun σ2 H2=>tb { D with nx:=N,ct:=N,bk:=D.nx } σ2 H2):=by
 refine ⟨fun i m σ H=>m=ds.length - i/\i<=ds.length/\Pv i σ H,⟨ds.length,by simp,Nat.zero_le _,h0⟩,?_⟩;rintro i m σ H ⟨rfl,hi,p⟩;by_cases hlt:i < ds.length
 .refine .inr ⟨src.go i H (hsame i σ H p) hlt,Pv (i+1),fun σ' H' p'=>⟨ds.length - (i+1),by omega,rfl,hlt,p'⟩,fun x H' y=>?_⟩;exact step i ds[i] x σ H H' (by simp [hlt]) p y
 .have e:i=ds.length:=by omega
  subst e;exact .inl ⟨src.stop H (hsame _ σ H p),hd σ H p⟩
theorem aaA {t:Tg}{k:IK}{src:List M}{b:List MS}{tg iter:Expr}{body:List Stmt}{O2:List Nat}{y:Ow} (C:Cok T cl X) (S:ScRel sc X) (hp:PassesOwn (model X.prog X.w) X.A X.env X.xe) (hq:∀ q∈E.pins,q.1 ∉ bD t)
  (h1:tgB X.N sc t tg=true) (h2:nD sc k tg iter=true) (h3:cB T X.N src sc (pL k iter)=true) (hsub:∀ i∈O2,i∈without (without O (aM src)) (bD t)) (hy:∀ O3,y=some O3->∀ i∈O2,i∈O3)
  (hb:PSs X body (tMS X E Es O2 y O2 (cZ cl b))):PS X (.For tg iter body [] pos) (tMS X E Es O (some O2) inv (bU cl (.forr t k src b))):=by
 refine bJ (RG hp C.calm (uG C S (fun m _=>good m) h2 h3) (kh C S h1) hb (uq (pX h2))) fun D σ H=>?_
 rintro ⟨ρ,Hs,o,F,h,kk⟩;simp only [qy,qz,wA,wB,qW,wD,wE,wF,qX,wG,wH,wI,qY,qZ] at h;obtain ⟨ss,hss,hb1⟩:=aq h;obtain ⟨ds,hds,hrun⟩:=aq hb1;clear h hb1;obtain ⟨Hs1,F1,m1,vs⟩:=F.pubU (aM src);refine ⟨ρ,Hs1,ds,F1.sub,vs,by simp only [hss,qR];exact hds,fun J H1 Hs2 g2 sr=>?_⟩;have F2:=F1.grown g2;obtain ⟨Hs3,F3,m3⟩:=F2.fewer (O':=O2) fun i hi=>(bH.mp (hsub i hi)).1
 have mm:Same Hs Hs3:=(m1.trans (g2.same F1.sub)).trans m3;refine Mf sr (fun i σ H=>∃ ρ1 Hs',FR (gOf X) E Es O2 ρ1 σ H Hs'/\Same Hs3 Hs'/\lQ (fun d ρ=>do let ρ1 <- fu t d ρ;cZ cl b ρ1) ρ (ds.drop i) ρ1=.ok o) ⟨ρ,Hs3,F3,Same.refl _,hrun⟩ (fun i σ H ⟨ρ1,Hs',F',s',_⟩=>(m3.trans s').trans F'.sub) ?_ ?_
 .rintro i d x σ1 H1' H2' hdi ⟨ρ1,Hs',F',s',hgo⟩ hy';obtain ⟨hlt,ed⟩:=List.getElem?_eq_some_iff.mp hdi;rw [List.drop_eq_getElem_cons hlt,ed] at hgo;unfold lQ at hgo;obtain ⟨o1,ho1,hgo2⟩:=aq hgo;clear hgo;obtain ⟨ρ2,hρ2,hrb⟩:=aq ho1;clear ho1;obtain ⟨Hs4,g4,rx⟩:=sr.yld i H1' x H2' Hs' d (m3.trans s') F'.sub hdi hy';have F4:=F'.grown g4;have s4:Same Hs3 Hs4:=s'.trans (g4.same F'.sub);refine pD (X:=X) g4.sub hρ2 rx fun l hl hrl eρ=>?_
  have F5:=F4.putL (by rw [hl];exact hq) hrl;rw [hl,<- eρ] at F5;obtain ⟨Hs6,F6,m6⟩:=F5.fewer (O':=O2) fun j hj=>bH.mpr ⟨hj,(bH.mp (hsub j hj)).2⟩
  refine ⟨ρ2,Hs6,o1,F6,hrb,?_⟩;have s6:Same Hs3 Hs6:=s4.trans m6;cases o1 with
  | nx ρ3 =>
   intro O3 e3 σ' H' Hs7 F7 s7;obtain ⟨Hs8,F8,m8⟩:=F7.fewer (hy O3 e3);exact ⟨bK ρ ρ3,Hs8,F8.less (sy _ _) fun j d' q=>sO q,(s6.trans s7).trans m8,hgo2⟩
  | ct ρ3 =>
   intro σ' H' Hs7 F7 s7;exact ⟨bK ρ ρ3,Hs7,F7.less (sy _ _) fun j d' q=>sO q,s6.trans s7,hgo2⟩
  | bk ρ3 =>
   intro σ' H' Hs7 F7 s7;cases hgo2;exact kk O2 rfl σ' H' Hs7 (F7.less (sy _ _) fun j d' q=>sO q) ((mm.trans s6).trans s7)
  | rt d3 =>
   intro v H' Hs7 g7 r7;cases hgo2;exact kk v H' Hs7 g7 r7
  | ro d3 =>
   intro v H' Hs7 g7 r7 f7;cases hgo2;exact kk v H' Hs7 g7 r7 f7
 .rintro σ1 H1' ⟨ρ1,Hs',F',s',hgo⟩;rw [List.drop_length] at hgo;cases hgo;exact kk O2 rfl _ _ _ F' (mm.trans s')
def Wt (T:Tx) (cl:Nat->List D->R D) (m:MS):Prop:=∀ (X:Cx) (sc:Scope) (st:Stmt) (inv O:List Nat) (O':Ow) (E:Ent) (Es:Hp),(∀ q∈E.pins,q.1 ∉ ZX m)->Cok T cl X->ScRel sc X->PassesOwn (model X.prog X.w) X.A X.env X.xe->okS T X.N sc m st=true->tV inv m O=some O'->PS X st (tMS X E Es O O' inv (bU cl m))
theorem vH {T:Tx}{cl:Nat->List D->R D}:∀ {ms:List MS},(∀ m∈ms,Wt T cl m)->∀ {X:Cx}{sc:Scope}{sts:List Stmt}{inv O:List Nat}{O':Ow}{E:Ent}{Es:Hp},(∀ q∈E.pins,q.1 ∉ Az ms)->Cok T cl X->ScRel sc X->PassesOwn (model X.prog X.w) X.A X.env X.xe->okB T X.N sc ms sts=true->fU inv ms O=some O'->PSs X sts (tMS X E Es O O' inv (cZ cl ms))
 | [],G,X,sc,sts,inv,O,O',E,Es,hq,C,S,hp,h,hc=>by
  rw [XR,List.isEmpty_iff] at h;subst h;cases hc;refine jQ uc fun D σ H=>?_
  rintro ⟨ρ,Hs,o,F,h,k⟩;simp only [qx,qS] at h;cases h;exact k O rfl σ H Hs F (Same.refl _)
 | m::ms,G,X,sc,[],inv,O,O',E,Es,hq,C,S,hp,h,hc=>by cases h
 | m::ms,G,X,sc,st::sts,inv,O,O',E,Es,hq,C,S,hp,h,hc=>by
  simp only [Ul,Bool.and_eq_true] at h;rw [Q8] at hc;cases e1:tV inv m O with
  | none=>rw [e1] at hc;cases hc
  | some x =>
   rw [e1] at hc;have h1:=G m List.mem_cons_self X sc st inv O _ E Es (fun q hm z=>hq q hm (List.mem_append_left _ z)) C S hp h.1 e1;cases x with
   | none =>
    have hc':O'=none:=by
     have:some (none:Ow)=some O':=hc;cases this;rfl
    subst hc';refine jQ (jK h1 (nR (sts:=sts))) fun D σ H=>?_
    rintro ⟨ρ,Hs,o,F,h,k⟩;simp only [qx,qS] at h;obtain ⟨o1,ho1,h2⟩:=aq h;clear h;refine ⟨ρ,Hs,o1,F,ho1,?_⟩;cases o1 with
    | nx ρ'=>intro O1 e;cases e
    | rt d=>cases h2;exact k
    | ro d=>cases h2;exact k
    | bk ρ'=>cases h2;exact k
    | ct ρ'=>cases h2;exact k
   | some O1 =>
    have h2:=vH (fun q hq=>G q (List.mem_cons_of_mem _ hq)) (E:=E) (Es:=Es) (fun q hm z=>hq q hm (List.mem_append_right _ z)) C S hp h.2 (show fU inv ms O1=some O' from hc);refine jQ (jK h1 h2) fun D σ H=>?_
    rintro ⟨ρ,Hs,o,F,h,k⟩;simp only [qx,qS] at h;obtain ⟨o1,ho1,h2⟩:=aq h;clear h;refine ⟨ρ,Hs,o1,F,ho1,?_⟩;cases o1 with
    | nx ρ' =>
     intro O2 e σ' H' Hs' F' s';cases e;exact ⟨ρ',Hs',o,F',h2,k.mono s'⟩
    | rt d=>cases h2;exact k
    | ro d=>cases h2;exact k
    | bk ρ'=>cases h2;exact k
    | ct ρ'=>cases h2;exact k
theorem uK {T:Tx}{cl:Nat->List D->R D}:∀ m:MS,Wt T cl m
 | .set t e=>fun X sc st inv O O' E Es hq C S hp h hc=>by
  obtain ⟨tgs,v,p,rfl⟩:=uN h;rcases tgs with _ | ⟨tg,_ | ⟨tg2,tgs⟩⟩ <;> try (cases h;done)
  rw [YD] at h;simp only [Bool.and_eq_true,Bool.not_eq_true'] at h;obtain ⟨⟨⟨h1,h2⟩,h3'⟩,h4⟩:=h;by_cases hcm:Dv e=true
  .cases e <;> try (cases hcm;done)
   cases t with
   | two i j =>
    skip
    cases hc;exact M8 C S hq h1 h2 h4
   | one i =>
    cases hc;exact M8 C S hq h1 h2 h4
  have h3:jZ v=true:=by
   simp only [Bool.or_eq_true] at h3';rcases h3' with z | z
   .exact z
   .exact absurd z hcm
  cases t with
  | two i j =>
   skip
   cases hc;exact Sv C S hq h1 h2 h3 h4
  | one i =>
   skip
   cases hc;by_cases hf:Qn e=true
   .rw [if_pos hf];cases e <;> try (cases hf;done)
    .exact Xi C S (fun q hm z=>hq q hm (by rw [z];exact List.mem_singleton.mpr rfl)) h1 h2 h3 h4
    .cases h2
    .rename_i o a b;cases o <;> try (cases hf;done)
     cases b <;> try (cases hf;done)
     exact W9 C S (fun q hm z=>hq q hm (by rw [z];exact List.mem_singleton.mpr rfl)) h1 h2 h3 h4
    .rename_i b ms;cases b <;> try (cases hf;done)
     exact Uy C S (fun q hm z=>hq q hm (by rw [z];exact List.mem_singleton.mpr rfl)) h1 h2 h4
   .rw [if_neg hf];exact Sv C S hq h1 h2 h3 h4
 | .app i e=>fun X sc st inv O O' E Es hq C S hp h hc=>by
  .obtain ⟨_,_,_,_,_,_,_,rfl,h9⟩:=Tj h;replace h:=h9;clear h9;simp only [Bool.and_eq_true,decide_eq_true_eq] at h;obtain ⟨⟨⟨⟨⟨⟨h1,h2⟩,h3⟩,h4⟩,h5⟩,h6⟩,h7⟩:=h;subst h4;rw [U4] at hc;split at hc
   .rename_i hi;cases hc;exact ZD C S h1 h2 h3 h5 h6 h7 (by simpa using hi)
   .cases hc
 | .ext i e=>fun X sc st inv O O' E Es hq C S hp h hc=>by cases h
 | .put i k v=>fun X sc st inv O O' E Es hq C S hp h hc=>by cases h
 | .putB i k v=>fun X sc st inv O O' E Es hq C S hp h hc=>by cases h
 | .pop i e=>fun X sc st inv O O' E Es hq C S hp h hc=>by cases h
 | .retO i=>fun X sc st inv O O' E Es hq C S hp h hc=>by cases h
 | .setF i f es=>fun X sc st inv O O' E Es hq C S hp h hc=>by cases h
 | .callm i f e=>fun X sc st inv O O' E Es hq C S hp h hc=>by cases h
 | .expr e=>fun X sc st inv O O' E Es hq C S hp h hc=>by cases h
 | .ret e=>fun X sc st inv O O' E Es hq C S hp h hc=>by
  obtain ⟨v,p,rfl⟩:=pB h;cases hc;cases v with
  | none=>exact Yn h
  | some v=>exact Z0 C S h
 | .ifs c a b=>fun X sc st inv O O' E Es hq C S hp h hc=>by
  obtain ⟨_,_,_,_,rfl⟩:=Ku h;rw [Yk] at h;simp only [Bool.and_eq_true] at h;obtain ⟨⟨h1,h2⟩,h3⟩:=h;rw [Tt] at hc;cases e1:fU inv a O with
  | none=>rw [e1] at hc;cases hc
  | some x =>
   rw [e1] at hc;cases e2:fU inv b O with
   | none=>rw [e2] at hc;cases hc
   | some y =>
    rw [e2] at hc;cases (show some (iu x y)=some O' from hc);exact acN C S h1 (vH (fun m _=>uK m) (fun q hm z=>hq q hm (List.mem_append_left _ z)) C S hp h2 e1) (vH (fun m _=>uK m) (fun q hm z=>hq q hm (List.mem_append_right _ z)) C S hp h3 e2)
 | .forr t k src b=>fun X sc st inv O O' E Es hq C S hp h hc=>by
  .obtain ⟨tg,iter,body,els,p,rfl⟩:=Zm h;cases els <;> try (cases h;done)
   replace h:(tgB X.N sc t tg && nD sc k tg iter && cB T X.N src sc (pL k iter) && okB T X.N sc b body)=true:=h;simp only [Bool.and_eq_true] at h;obtain ⟨⟨⟨h1,h2⟩,h3⟩,h4⟩:=h;rw [VR] at hc;dsimp only at hc;cases e1:fU (without (without O (aM src)) (bD t)) b (without (without O (aM src)) (bD t)) with
   | none=>rw [e1] at hc;cases hc
   | some x =>
    rw [e1] at hc;simp only [Option.bind_eq_bind,Option.bind_some] at hc;generalize hO2:(iu (some (without (without O (aM src)) (bD t))) x).getD []=O2 at hc;cases e2:fU O2 b O2 with
    | none=>rw [e2] at hc;cases hc
    | some y =>
     rw [e2] at hc;simp only [Option.bind_some] at hc;have hsub:∀ i∈O2,i∈without (without O (aM src)) (bD t):=by
      rw [<- hO2];cases x with
      | none=>exact fun i hi=>hi
      | some b'=>exact fun i hi=>(List.mem_filter.mp hi).1
     have hOy:O'=some O2/\∀ O3,y=some O3->∀ i∈O2,i∈O3:=by
      cases y with
      | none=>simp only at hc;cases hc;exact ⟨rfl,fun O3 e=>by cases e⟩
      | some O3 =>
       simp only at hc;split at hc
       .rename_i ha;cases hc;refine ⟨rfl,fun O4 e i hi=>?_⟩;cases e;have:=List.all_eq_true.mp ha i hi;simpa using this
       .cases hc
     obtain ⟨rfl,hy⟩:=hOy;exact aaA C S hp (fun q hm z=>hq q hm (List.mem_append_left _ z)) h1 h2 h3 hsub hy (vH (fun m _=>uK m) (fun q hm z=>hq q hm (List.mem_append_right _ z)) C S hp h4 e2)
 | .pass=>fun X sc st inv O O' E Es hq C S hp h hc=>by
  obtain ⟨_,rfl⟩:=Vp h;cases hc;refine bJ W4 fun D σ H=>?_
  rintro ⟨ρ,Hs,o,F,h,k⟩;simp only [qy,qz,wA,wB,qW,wD,wE,wF,qX,wG,wH,wI,qY,qZ] at h;cases h;exact k O rfl σ H Hs F (Same.refl _)
 | .brk=>fun X sc st inv O O' E Es hq C S hp h hc=>by
  obtain ⟨_,rfl⟩:=QF h;rw [Wj] at hc;split at hc
  .rename_i ha;cases hc;refine bJ Vg fun D σ H=>?_
   rintro ⟨ρ,Hs,o,F,h,k⟩;simp only [qy,qz,wA,wB,qW,wD,wE,wF,qX,wG,wH,wI,qY,qZ] at h;cases h;obtain ⟨Hs1,F1,m1⟩:=F.fewer (O':=inv) fun i hi=>by
    have:=List.all_eq_true.mp ha i hi;simpa using this
   exact k σ H Hs1 F1 m1
  .cases hc
 | .cnt=>fun X sc st inv O O' E Es hq C S hp h hc=>by
  obtain ⟨_,rfl⟩:=JN h;rw [Vb] at hc;split at hc
  .rename_i ha;cases hc;refine bJ KQ fun D σ H=>?_
   rintro ⟨ρ,Hs,o,F,h,k⟩;simp only [qy,qz,wA,wB,qW,wD,wE,wF,qX,wG,wH,wI,qY,qZ] at h;cases h;obtain ⟨Hs1,F1,m1⟩:=F.fewer (O':=inv) fun i hi=>by
    have:=List.all_eq_true.mp ha i hi;simpa using this
   exact k σ H Hs1 F1 m1
  .cases hc
 | .chk j e=>fun X sc st inv O O' E Es hq C S hp h hc=>by cases h
 | .rai=>fun X sc st inv O O' E Es hq C S hp h hc=>by
  refine bJ Kc fun D σ H=>?_
  rintro ⟨ρ,Hs,o,F,h,k⟩;simp only [qy,qz,wA,wB,qW,wD,wE,wF,qX,wG,wH,wI,qY,qZ] at h;cases h
 | .setB t e=>fun X sc st inv O O' E Es hq C S hp h hc=>by cases h
 | .setC t e=>fun X sc st inv O O' E Es hq C S hp h hc=>by cases h
termination_by m=>sizeOf m
decreasing_by
 all_goals simp_wf
 all_goals (have:=List.sizeOf_lt_of_mem ‹_∈_›;omega)
end
end Mi
namespace Mi
open PySem L2
open PyProof.Rows hiding St
noncomputable def Dd (N ps:List Str) (sc:Scope):Bool :=
 decide (sc.kind=.function) && !sc.isCoroutine && !sc.isGenerator && decide N.Nodup && decide (N.take ps.length=ps) && (ps.all fun x=>lU sc x) && sc.names.all fun y=>decide (y.2≠.free)
theorem jD {N ps:List Str}{sc:Scope} (h:Dd N ps sc=true):FnScope N ps sc:=by
 unfold Dd at h;simp only [Bool.and_eq_true,decide_eq_true_eq,Bool.not_eq_true',List.all_eq_true] at h;obtain ⟨⟨⟨⟨⟨⟨h1,h2⟩,h3⟩,h4⟩,h5⟩,h6⟩,h7⟩:=h;exact ⟨h1,h2,h3,h4,h5,fun x hx=>mH (h6 x hx),fun y hy=>h7 y hy⟩
noncomputable def cX (T:Tx) (d:Def) (N ps:List Str) (st:Stmt):Bool :=
 Dd N ps (aH st) && decide (d.np=ps.length) && decide (d.nn=N.length) && okB T N (aH st) d.body (bC st) && (!d.nrm || (fU [] d.body []).isSome)
theorem Bs {g:G}{H Hs:Hp}{ds:List D}{vs:List V}{m k:Nat} (hs:Same Hs H) (r:Rps g Hs ds vs) (e:m=k):FR g ⟨H,[]⟩ Hs [] (ds.map some++List.replicate m none) (vs.map some++List.replicate k none) H Hs:=by
 subst e;refine ⟨Grow.refl hs,by simp [r.length],fun i d h _=>?_,fun i hi=>(by cases hi),fun i hi=>(by cases hi),fun q hq=>by cases hq⟩;by_cases hi:i < ds.length
 .rw [List.getElem?_append_left (by simpa using hi),List.getElem?_map] at h;cases q:ds[i]? with
  | none=>rw [q] at h;cases h
  | some d' =>
   rw [q] at h;cases h;obtain ⟨v,ev,rv⟩:=r.getD q;refine ⟨v,?_,rv⟩;rw [List.getElem?_append_left (by rw [List.length_map,<- r.length];exact hi),List.getElem?_map,ev];rfl
 .rw [List.getElem?_append_right (by simpa using hi),List.getElem?_replicate] at h;split at h <;> cases h
theorem Ui {g:G}{H Hs:Hp}{d0 d:D}{v0:V}{a:Addr}{m k:Nat} (hs:Same Hs H) (r:Rp g Hs d0 v0) (hn:Hs a=none) (ow:eF g H Hs a d) (e:m=k) :
  FR g ⟨hole H a,[(1,a)]⟩ Hs [1] ([d0,d].map some++List.replicate m none) ([v0,.ref a].map some++List.replicate k none) H Hs:=by
 subst e;have rest:∀ (i:Nat) (x:D),([d0,d].map some++List.replicate m none)[i+2]?≠some (some x):=fun i x h=>by
  rw [List.getElem?_append_right (by simp)] at h;rw [List.getElem?_replicate] at h;split at h <;> cases h
 refine ⟨⟨fun b o q=>?_,fun _ _ _=>rfl,hs⟩,by simp,fun i x h hi=>?_,fun i hi x h=>?_,fun i hi j hj hij=>?_,fun q hq=>?_⟩
 .by_cases hb:b=a
  .subst hb;have q':hole H b b=some o:=q;rw [Lq] at q';cases q'
  .have q':hole H a b=some o:=q;rw [YZ hb] at q';exact q'
 .match i,h,hi with
  | 0,h,_=>cases h;exact ⟨v0,rfl,r⟩
  | 1,_,hi=>exact absurd (List.mem_singleton.mpr rfl) hi
  | i+2,h,_=>exact absurd h (rest i x)
 .have e:=List.mem_singleton.mp hi;subst e;cases h;exact ⟨a,rfl,Lq,hn,ow⟩
 .exact absurd ((List.mem_singleton.mp hi).trans (List.mem_singleton.mp hj).symm) hij
 .rw [List.mem_singleton.mp hq];rfl
section
variable {T:Tx}{tab:List Def}{P:Program}{w:World}{K:PySem.W.Frag}{mg:Str->Option Value}{base:Heap}{n:Nat}{f:Nat}{x:Str}{d:Def}{N ps:List Str}{st:Stmt}{a:Addr}{fd:FuncData}
end
theorem Kp {g:G}{H:Hp}:∀ (ns:List Int),Rps g H (ns.map D.int) (ns.map V.int)
 | []=>Rps.nil
 | n::ns=>Rps.cons (aQ.mpr rfl) (Kp ns)
structure FF (K:PySem.W.Frag) (x:Str) (st:Stmt):Prop where
 ex:∃ a fd,PySem.W.nsIn K mainGlobals x=some (some (.ref a))/\Fun K x x st a fd
theorem aV {K:PySem.W.Frag}{x:Str}{st:Stmt}{f:Addr}{oc:Value}{od an:Option Addr}{osl:Array (Option Value)}{kV doc pm cdv ct:Value} (a:PySem.W.nsIn K mainGlobals x=some (some (.ref f)))
  (l:K.lookup f=some ⟨oc,od,.func (PySem.W.fnOf x x (bQ st) (bC st) (aH st) .none kV doc pm an cdv ct),osl⟩) (c:PySem.W.codeIn K cdv x=true) (k:PySem.W.keepIn K (.ref f)=true):FF K x st :=
 ⟨⟨f,_,a,R5 l c k⟩⟩
structure GF (K:PySem.W.Frag) (x:Str) (d:D):Prop where
 ex:∃ v,PySem.W.nsIn K mainGlobals x=some (some v)/\GlV d (some v)
theorem rZ {K:PySem.W.Frag}{x:Str}{i:Int}{t:Tok} (a:PySem.W.nsIn K mainGlobals x=some (some (.int i t))):GF K x (.int i):=⟨⟨_,a,t,rfl⟩⟩
theorem us1 {α:Type}{p:List α->Prop} (h:∀ a,p [a]):∀ us:List α,us.length=1->p us
 | [_],_=>h _
theorem us2 {α:Type}{p:List α->Prop} (h:∀ a b,p [a,b]):∀ us:List α,us.length=2->p us
 | [_,_],_=>h _ _
theorem us3 {α:Type}{p:List α->Prop} (h:∀ a b c,p [a,b,c]):∀ us:List α,us.length=3->p us
 | [_,_,_],_=>h _ _ _
theorem us4 {α:Type}{p:List α->Prop} (h:∀ a b c d,p [a,b,c,d]):∀ us:List α,us.length=4->p us
 | [_,_,_,_],_=>h _ _ _ _
end Mi
namespace Mi
open PySem L2
theorem eV {α:Type}{f:D->R (Option D)}{enc e:α->D}{p:α->Bool}:∀ (l:List α),(∀ a∈l,f (enc a)=.ok (if p a then some (e a) else none))->dF f (l.map enc)=.ok ((l.filter p).map e)
 | [],_=>rfl
 | a::l,h=>by
  have h1:=h a List.mem_cons_self;have h2:=eV l fun b hb=>h b (List.mem_cons_of_mem _ hb)
  simp only [List.map_cons,dF,h1,h2,qR,List.filter_cons];cases p a <;> simp
theorem gq {α:Type}{f:D->R (Option D)}{enc e:α->D} (l:List α) (h:∀ a∈l,f (enc a)=.ok (some (e a))):dF f (l.map enc)=.ok (l.map e):=by
 have:=eV (f:=f) (enc:=enc) (e:=e) (p:=fun _=>true) l (by simpa using h);rw [List.filter_eq_self.mpr (fun _ _=>rfl)] at this;exact this
theorem lN {α β:Type}{f:D->En->R Out}{ρ₀:En} (enc:β->D) (S:α->En) (step:α->β->α) (P:α->List β->Prop)
  (h:∀ a x xs,P a (x::xs)->P (step a x) xs/\∃ ρ',f (enc x) (S a)=.ok (.nx ρ')/\bK ρ₀ ρ'=S (step a x)):∀ (xs:List β) (a:α),P a xs->lQ f ρ₀ (xs.map enc) (S a)=.ok (.nx (S (xs.foldl step a)))
 | [],a,_=>rfl
 | x::xs,a,p=>by
  obtain ⟨p2,ρ',h1,h2⟩:=h a x xs p;simp only [List.map_cons,lQ,h1,qR,h2,List.foldl_cons];exact lN enc S step P h xs (step a x) p2
theorem Fb {α β:Type} (g:β->List α):∀ (xs:List β) (a:List α),xs.foldl (fun acc x=>acc++g x) a=a++xs.flatMap g
 | [],a=>by simp
 | x::xs,a=>by simp [Fb g xs]
theorem lH {α β:Type}{f:D->En->R Out}{ρ₀:En} (enc:β->D) (S:List α->En) (g:β->List α) (B:Nat) (xs:List β)
  (h:∀ (acc:List α),∀ x∈xs,acc.length+(g x).length<=B->∃ ρ',f (enc x) (S acc)=.ok (.nx ρ')/\bK ρ₀ ρ'=S (acc++g x)) (a:List α) (hB:a.length+(xs.flatMap g).length<=B):lQ f ρ₀ (xs.map enc) (S a)=.ok (.nx (S (a++xs.flatMap g))):=by
 rw [<- Fb];refine lN enc S _ (fun acc ys=>acc.length+(ys.flatMap g).length<=B/\∀ y∈ys,y∈xs) (fun acc x ys p=>?_) xs a ⟨hB,fun y hy=>hy⟩;obtain ⟨p,q⟩:=p;simp only [List.flatMap_cons,List.length_append] at p;exact ⟨⟨by simp only [List.length_append];omega,fun y hy=>q y (List.mem_cons_of_mem _ hy)⟩,h acc x (q x List.mem_cons_self) (by omega)⟩
theorem K3 {α β:Type}{f:D->En->R Out}{ρ₀:En} (enc:β->D) (S:α->En) (step:α->β->α) (P:α->Prop) (xs:List β)
  (h:∀ a,∀ x∈xs,P a->P (step a x)/\∃ ρ',f (enc x) (S a)=.ok (.nx ρ')/\bK ρ₀ ρ'=S (step a x)) (a:α) (hP:P a):lQ f ρ₀ (xs.map enc) (S a)=.ok (.nx (S (xs.foldl step a))):=by
 refine lN enc S step (fun a ys=>P a/\∀ y∈ys,y∈xs) (fun a x ys p=>?_) xs a ⟨hP,fun y hy=>hy⟩;obtain ⟨h1,h2⟩:=h a x (p.2 x List.mem_cons_self) p.1;exact ⟨⟨h1,fun y hy=>p.2 y (List.mem_cons_of_mem _ hy)⟩,h2⟩
abbrev eN (n:Nat):D:=.int n
def aC (r:List Nat):D:=.tup (r.map eN)
noncomputable def eP (p:Nat × Nat):D:=.tup [eN p.1,eN p.2]
abbrev Meet:=List (Nat × Nat)
def eM (m:Meet):D:=.tup (m.map eP)
noncomputable def eB (lv:List Nat) (bs:List Meet):D:=.tup [aC lv,.tup (bs.map eM)]
structure Enc {α:Type} (enc:α->D):Prop where
 inj:∀ a b,enc a=enc b->a=b
 key:∀ a,keyOk (enc a)=true
 dp:∀ a,dep (enc a)<=4
theorem lV {α:Type}{enc:α->D} (h:∀ a,keyOk (enc a)=true):∀ l:List α,dY (l.map enc)=true
 | []=>rfl
 | a::l=>by simp [dY,h a,lV h l]
theorem rG {α:Type}{enc:α->D}{n:Nat} (h:∀ a,dep (enc a)<=n):∀ l:List α,deps (l.map enc)<=n
 | []=>Nat.zero_le _
 | a::l=>by
  simp only [List.map_cons,deps];have:=h a;have:=rG h l;omega
theorem Dh:Enc eN:=⟨fun a b h=>by injection h with h;exact Int.ofNat.inj h,fun _=>rfl,fun _=>Nat.zero_le _⟩
theorem Ei:Enc aC:=by
 refine ⟨fun a b h=>?_,fun a=>?_,fun a=>?_⟩
 .unfold aC at h;injection h with h;exact (List.map_inj_right Dh.inj).mp h
 .simp only [aC,keyOk];exact lV Dh.key a
 .simp only [aC,dep];have:=rG (n:=0) (fun a=>Nat.le_refl (dep (eN a))) a;omega
theorem Qc:Enc eP:=by
 refine ⟨fun a b h=>?_,fun a=>rfl,fun a=>by simp [eP,dep,deps,eN]⟩;unfold eP at h;injection h with h;injection h with h1 h2;injection h2 with h2 _;exact Prod.ext (Dh.inj _ _ h1) (Dh.inj _ _ h2)
theorem acU (p:Nat × Nat):dep (eP p)=1:=by simp [eP,dep,deps,eN]
theorem acp:Enc eM:=by
 refine ⟨fun a b h=>?_,fun a=>?_,fun a=>?_⟩
 .unfold eM at h;injection h with h;exact (List.map_inj_right Qc.inj).mp h
 .simp only [eM,keyOk];exact lV Qc.key a
 .simp only [eM,dep];have:=rG (n:=1) (fun p=>Nat.le_of_eq (acU p)) a;omega
section
variable {α:Type}{enc:α->D} [DecidableEq α]
theorem Enc.eq1 (E:Enc enc) (a b:α):ao (enc a) (enc b)=decide (a=b):=by
 rw [Ay (E.key a) (E.key b)];by_cases h:a=b
 .subst h;simp
 .rw [decide_eq_false h,decide_eq_false fun z=>h (E.inj _ _ z)]
theorem Enc.eqs (E:Enc enc) (l l':List α):fj (l.map enc) (l'.map enc)=decide (l=l'):=by
 rw [xW (lV E.key l) (lV E.key l')];by_cases h:l=l'
 .subst h;simp
 .rw [decide_eq_false h,decide_eq_false fun z=>h ((List.map_inj_right E.inj).mp z)]
theorem Enc.flat (E:Enc enc) (l l':List α):bx (.lst (l.map enc)) (.lst (l'.map enc))=true:=by
 have h1:=rG E.dp l;have h2:=rG E.dp l';have e:∀ l:List α,dep (.lst (l.map enc))=deps (l.map enc)+1:=fun l=>by rw [dep]
 unfold bx;rw [e,e,Bool.and_eq_true];exact ⟨decide_eq_true (by omega),decide_eq_true (by omega)⟩
theorem Enc.cmpEq (E:Enc enc) (l l':List α):aY .eq (.lst (l.map enc)) (.lst (l'.map enc))=.ok (decide (l=l')):=by
 simp only [aY,E.flat,if_true,ao,E.eqs]
theorem Enc.cmpNe (E:Enc enc) (l l':List α):aY .ne (.lst (l.map enc)) (.lst (l'.map enc))=.ok (!decide (l=l')):=by
 simp only [aY,E.flat,if_true,ao,E.eqs]
theorem Enc.cmpEq0 (E:Enc enc) (l:List α):aY .eq (.lst (l.map enc)) (.lst [])=.ok l.isEmpty:=by
 have:=E.cmpEq l [];rw [List.map_nil] at this;rw [this];cases l <;> simp
theorem Enc.cmpNe0 (E:Enc enc) (l:List α):aY .ne (.lst (l.map enc)) (.lst [])=.ok (!l.isEmpty):=by
 have:=E.cmpNe l [];rw [List.map_nil] at this;rw [this];cases l <;> simp
theorem Enc.inL (E:Enc enc) (a:α) (l:List α):inD (enc a) (.lst (l.map enc))=.ok (decide (a∈l)):=by
 have h0:=E.dp a;have h1:(l.map enc).all (fun d=>bx d (enc a))=true:=by
  rw [List.all_eq_true];intro d hd;obtain ⟨b,_,rfl⟩:=List.mem_map.mp hd;have:=E.dp b;simp only [bx,Bool.and_eq_true,decide_eq_true_eq];omega
 have h2:(l.map enc).any (fun d=>ao d (enc a))=decide (a∈l):=by
  rw [List.any_map];induction l with
  | nil=>simp
  | cons b l ih =>
   simp only [List.any_cons,Function.comp,E.eq1] at ih ⊢;have ih:=ih (by
    rw [List.all_eq_true] at h1 ⊢;intro d hd;exact h1 d (List.mem_cons_of_mem _ hd))
   rw [ih];by_cases h:b=a
   .subst h;simp
   .have:a≠b:=fun z=>h z.symm
    simp [h,this]
 simp only [inD,h1,h2,Bool.true_and,decide_eq_true_eq];rw [if_pos (by omega)]
end
def cu (rs:List (List Nat)) (l:Nat):List (List Nat):=rs.flatMap fun r=>(List.range l).map fun s=>r++[s]
def rows (lv:List Nat):List (List Nat):=lv.foldl cu [[]]
def nu:List Nat->List Nat->Prop
 | [],[]=>True
 | l::ls,x::xs=>x < l/\nu ls xs
 | _,_=>False
theorem Gd:∀ {lv:List Nat}{rs:List (List Nat)}{r:List Nat},r∈lv.foldl cu rs↔∃ a∈rs,∃ t,r=a++t/\nu lv t
 | [],rs,r=>by
  simp only [List.foldl_nil];constructor
  .intro h;exact ⟨r,h,[],by simp,trivial⟩
  .rintro ⟨a,ha,t,rfl,ht⟩;cases t with
   | nil=>simpa using ha
   | cons _ _=>exact ht.elim
 | l::lv,rs,r=>by
  rw [List.foldl_cons,Gd];constructor
  .rintro ⟨a,ha,t,rfl,ht⟩;unfold cu at ha;rw [List.mem_flatMap] at ha;obtain ⟨b,hb,ha⟩:=ha;obtain ⟨s,hs,rfl⟩:=List.mem_map.mp ha;exact ⟨b,hb,s::t,by simp,List.mem_range.mp hs,ht⟩
  .rintro ⟨a,ha,t,rfl,ht⟩;cases t with
   | nil=>exact ht.elim
   | cons s t =>
    refine ⟨a++[s],?_,t,by simp,ht.2⟩;unfold cu;rw [List.mem_flatMap];exact ⟨a,ha,List.mem_map.mpr ⟨s,List.mem_range.mpr ht.1,rfl⟩⟩
theorem Aj {lv r:List Nat}:r∈rows lv↔nu lv r:=by
 unfold rows;rw [Gd];constructor
 .rintro ⟨a,ha,t,rfl,ht⟩;rw [List.mem_singleton.mp ha];exact ht
 .intro h;exact ⟨[],by simp,r,by simp,h⟩
theorem nu.len:∀ {lv r:List Nat},nu lv r->r.length=lv.length
 | [],[],_=>rfl
 | _::_,_::_,h=>by simp [nu.len h.2]
 | [],_::_,h=>h.elim
 | _::_,[],h=>h.elim
def prod (lv:List Nat):Nat:=lv.foldl (· * ·) 1
theorem FQ {α:Type} (k:Nat):∀ (l:List α),(l.map fun _=>k).sum=l.length * k
 | []=>by simp
 | a::l=>by simp [FQ k l,Nat.succ_mul,Nat.add_comm]
theorem xJ (rs:List (List Nat)) (l:Nat):(cu rs l).length=rs.length * l:=by
 unfold cu;rw [List.length_flatMap];simp only [List.length_map,List.length_range];exact FQ l rs
theorem Gi:∀ (lv:List Nat) (rs:List (List Nat)) (k:Nat),rs.length=k->(lv.foldl cu rs).length=lv.foldl (· * ·) k
 | [],rs,k,h=>h
 | l::lv,rs,k,h=>by
  rw [List.foldl_cons,List.foldl_cons];exact Gi lv _ _ (by rw [xJ,h])
theorem Ar (lv:List Nat):(rows lv).length=prod lv:=Gi lv [[]] 1 rfl
noncomputable def pN:Nat->List Nat->List (Nat × Nat)
 | _,[]=>[]
 | n,l::ls=>(List.range l).map (fun s=>(n,s))++pN (n+1) ls
noncomputable def behind (m:Meet) (p:Nat × Nat):Bool:=match m.getLast? with | none=>true | some q=>decide (q.1 < p.1)
noncomputable def among (ps:List (Nat × Nat)):Nat->List Meet
 | 0=>[[]]
 | k+1=>(among ps k).flatMap fun m=>(ps.filter (behind m)).map fun p=>m++[p]
abbrev Pn (m:Meet):Prop:=m.Pairwise fun p q=>p.1 < q.1
def kE (r:List Nat) (m:Meet):Bool:=m.all fun p=>decide (r[p.1]?=some p.2)
def JD (lv:List Nat) (m:Meet):Prop:=Pn m/\∀ p∈m,∃ l,lv[p.1]?=some l/\p.2 < l
structure WB (lv:List Nat) (bs:List Meet):Prop where
 one:1<=lv.length
 four:lv.length<=4
 lv1:∀ (i l:Nat),lv[i]?=some l->1<=l/\l<=3
 lv2:∀ (i l:Nat),lv[i]?=some l->2<=i->l<=2
 nb:bs.length<=3
 ban:∀ b∈bs,JD lv b/\1<=b.length/\b.length<=3
noncomputable def rR (bs:List Meet) (r:List Nat):Bool:=!(bs.any fun b=>kE r b)
def tests (lv:List Nat) (bs:List Meet):List (List Nat):=(rows lv).filter (rR bs)
def allM (lv:List Nat) (k:Nat):List Meet:=among (pN 0 lv) k
end Mi
namespace Mi
open PySem L2
theorem bind_eq {α β:Type}{r:R α}{a:α} (h:r=.ok a) {f:α->R β}:(r >>= f)=f a:=by rw [h];rfl
def eBs (bs:List Meet):D:=.tup (bs.map eM)
theorem qB (r:List Nat):itemsOf .seq [aC r]=.ok (r.map eN):=rfl
theorem qv (m:Meet):itemsOf .seq [eM m]=.ok (m.map eP):=rfl
theorem qP (bs:List Meet):itemsOf .seq [eBs bs]=.ok (bs.map eM):=rfl
theorem lu (k:Nat) (h:k<=lim):itemsOf .rng [.int k]=.ok ((List.range k).map eN):=by
 show (if _ then _ else _)=_
 rw [if_pos ⟨by omega,by omega⟩];simp
theorem qw (r:List Nat):Ai (aC r)=.ok (.int r.length):=congrArg (fun n:Nat=>R.ok (D.int n)) (List.length_map eN)
theorem zF {α:Type} (enc:α->D) (l:List α):Ai (.lst (l.map enc))=.ok (.int l.length):=by simp [Ai]
theorem U3 {r:List Nat}{s:Nat} (h:r.length < lim):jM (aC r) (.tup [eN s])=.ok (aC (r++[s])):=by
 simp only [jM,aC,List.length_map,List.length_singleton];rw [if_pos (by omega)];simp
theorem acM {α:Type}{enc:α->D}{l l':List α} (h:l.length+l'.length<=lim):jM (.lst (l.map enc)) (.lst (l'.map enc))=.ok (.lst ((l++l').map enc)):=by
 simp only [jM,List.length_map];rw [if_pos h];simp
theorem yS {α:Type}{enc:α->D}{l:List α}{a:α} (h:l.length < lim):Ak (.lst (l.map enc)) (enc a)=.ok (.lst ((l++[a]).map enc)):=by
 simp only [Ak,List.length_map];rw [if_pos h];simp
theorem zG (p:Nat × Nat):ixD (eP p) (.int 0)=.ok (eN p.1):=rfl
theorem zH (p:Nat × Nat):ixD (eP p) (.int 1)=.ok (eN p.2):=rfl
theorem zI (lv:List Nat) (bs:List Meet):ixD (eB lv bs) (.int 0)=.ok (aC lv):=rfl
theorem zJ (lv:List Nat) (bs:List Meet):ixD (eB lv bs) (.int 1)=.ok (eBs bs):=rfl
theorem J1 {r:List Nat}{i x:Nat} (h:r[i]?=some x):ixD (aC r) (.int (i:Int))=.ok (eN x):=by
 have hl:i < r.length:=(List.getElem?_eq_some_iff.mp h).1;simp only [aC,ixD,ixN,List.length_map];rw [if_pos (by omega),if_pos (by omega)];simp [h]
theorem JT {α:Type}{enc:α->D}{l:List α}{i:Nat}{x:α} (h:l[i]?=some x):ixD (.lst (l.map enc)) (.int (i:Int))=.ok (enc x):=by
 have hl:i < l.length:=(List.getElem?_eq_some_iff.mp h).1;simp only [ixD,ixN,List.length_map];rw [if_pos (by omega),if_pos (by omega)];simp [h]
theorem zO (a b:Int):aY .eq (.int a) (.int b)=.ok (decide (a=b)):=by
 have e:aY .eq (.int a) (.int b)=(if bx (.int a) (.int b)=true then R.ok (ao (.int a) (.int b)) else .stuck):=rfl;rw [e,if_pos (by simp [bx,dep])];congr 1
theorem zP (a b:Int):aY .ne (.int a) (.int b)=.ok (!decide (a=b)):=by
 have e:aY .ne (.int a) (.int b)=(if bx (.int a) (.int b)=true then R.ok (!ao (.int a) (.int b)) else .stuck):=rfl;rw [e,if_pos (by simp [bx,dep])];congr 2
theorem Bb (a b:Nat):decide ((a:Int)=(b:Int))=decide (a=b):=by
 by_cases h:a=b
 .subst h;simp
 .rw [decide_eq_false h,decide_eq_false (by omega)]
theorem xR {α:Type} (p:α->Bool):∀ l:List α,boolsOf (l.map fun a=>D.bl (p a))=some (l.map p)
 | []=>rfl
 | a::l=>by simp [boolsOf,xR p l]
theorem Hr {α:Type} (p:α->Bool) (l:List α):jH .all [.lst (l.map fun a=>D.bl (p a))]=.ok (.bl (l.all p)):=by
 rw [Js (xR p l)];simp [List.all_map]
theorem ach {α:Type} (p:α->Bool) (l:List α):jH .any [.lst (l.map fun a=>D.bl (p a))]=.ok (.bl (l.any p)):=by
 rw [HW (xR p l)];simp [List.any_map]
noncomputable def Nv:List (List Nat):=[1,2,3].flatMap fun a=>[a]::[1,2,3].flatMap fun b=>[a,b]::[1,2].flatMap fun c=>[a,b,c]::[1,2].map fun d=>[a,b,c,d]
theorem WB.mem {lv:List Nat}{bs:List Meet} (h:WB lv bs):lv∈Nv:=by
 have h1:=h.lv1;have h2:=h.lv2;have h3:=h.four;have h4:=h.one;have in3:∀ {x:Nat},1<=x/\x<=3->x∈[1,2,3]:=fun {x} hx=>by simp;omega
 have in2:∀ {x:Nat},1<=x->x<=2->x∈[1,2]:=fun {x} hx hy=>by simp;omega
 unfold Nv;rcases lv with _ | ⟨a,_ | ⟨b,_ | ⟨c,_ | ⟨d,_ | ⟨e,es⟩⟩⟩⟩⟩
 .simp at h4
 .exact List.mem_flatMap.mpr ⟨a,in3 (h1 0 a rfl),List.mem_cons_self⟩
 .exact List.mem_flatMap.mpr ⟨a,in3 (h1 0 a rfl),List.mem_cons_of_mem _ (List.mem_flatMap.mpr ⟨b,in3 (h1 1 b rfl),List.mem_cons_self⟩)⟩
 .exact List.mem_flatMap.mpr ⟨a,in3 (h1 0 a rfl),List.mem_cons_of_mem _ (List.mem_flatMap.mpr ⟨b,in3 (h1 1 b rfl),List.mem_cons_of_mem _ (List.mem_flatMap.mpr ⟨c,in2 (h1 2 c rfl).1 (h2 2 c rfl (by omega)),List.mem_cons_self⟩)⟩)⟩
 .exact List.mem_flatMap.mpr ⟨a,in3 (h1 0 a rfl),List.mem_cons_of_mem _ (List.mem_flatMap.mpr ⟨b,in3 (h1 1 b rfl),List.mem_cons_of_mem _ (List.mem_flatMap.mpr ⟨c,in2 (h1 2 c rfl).1 (h2 2 c rfl (by omega)),List.mem_cons_of_mem _ (List.mem_map.mpr ⟨d,in2 (h1 3 d rfl).1 (h2 3 d rfl (by omega)),rfl⟩)⟩)⟩)⟩
 .simp at h3
theorem vm:∀ lv∈Nv,prod lv<=36/\(pN 0 lv).length<=10/\(allM lv 1).length < 64/\(allM lv 2).length < 64/\(allM lv 3).length < 64:=by decide +kernel
end Mi
namespace Mi
open PySem L2
theorem qQ {α β γ:Type} (x:R α) (f:α->R β) (g:β->R γ):((x >>= f) >>= g)=(x >>= fun a=>f a >>= g):=by cases x <;> rfl
theorem zK (a b:Int):aY .lt (.int a) (.int b)=.ok (decide (a < b)):=rfl
theorem zL (a b:Int):aY .le (.int a) (.int b)=.ok (decide (a<=b)):=rfl
theorem zM (a b:Int):aY .gt (.int a) (.int b)=.ok (decide (b < a)):=rfl
theorem zN (a b:Int):aY .ge (.int a) (.int b)=.ok (decide (b<=a)):=rfl
theorem qM (c:M) (b:Bool):yu c (.bl b)=.ok b:=rfl
theorem qN (e:M) (t:Tg) (k:IK) (s:List M) (h:Bool) (c:M) (p:List Bool) (ds:List D):yu (.comp e t k s h c p) (.lst ds)=.ok (!ds.isEmpty):=rfl
theorem zQ (a b:D):aY .in_ a b=inD a b:=rfl
theorem qj (a b:D):aY .notin a b=(do let r <- inD a b;.ok (!r)):=rfl
theorem qk (a b:D):fQ .add a b=jM a b:=rfl
theorem wf (a b:Int):jM (.int a) (.int b)=.ok (.int (a+b)):=rfl
theorem wv (a b:Int):fQ .sub (.int a) (.int b)=.ok (.int (a - b)):=rfl
theorem Cg {a b:Int} (h:jj a=true\/jj b=true):fQ .mul (.int a) (.int b)=.ok (.int (a * b)):=by
 show (if (jj a || jj b)=true then _ else _)=_
 rw [if_pos (by simpa using h)]
theorem sJ {a b:Int} (h:0 < b):fQ .mod (.int a) (.int b)=.ok (.int (a % b)):=by
 show (if 0 < b then _ else _)=_
 rw [if_pos h]
theorem ql (d:D):jH .len [d]=Ai d:=rfl
theorem qm (a b:Int):jH .min2 [.int a,.int b]=.ok (.int (if b < a then b else a)):=rfl
theorem qA (d:D):jH .sorted [d]=Lx d:=rfl
theorem qO (l:List D):jH .tuple [.lst l]=.ok (.tup l):=rfl
theorem qp (x:Int):jc (.int x) .int=true:=rfl
theorem qq (x:Int):jc (.int x) .bool=false:=rfl
theorem qr (x:List D):jc (.tup x) .tuple=true:=rfl
theorem qu (x:List D):jc (.lst x) .list=true:=rfl
theorem qC (ds:List D):itemsOf .seq [.lst ds]=.ok ds:=rfl
theorem gC {α β:Type} (f:α->β):∀ l:List α,l.flatMap (fun k=>[f k])=l.map f
 | []=>rfl
 | a::l=>by simp [gC f l]
theorem vp {α:Type} (p:α->Bool):∀ l:List α,l.flatMap (fun a=>if p a then [a] else [])=l.filter p
 | []=>rfl
 | a::l=>by
  rw [List.flatMap_cons,vp p l,List.filter_cons];cases p a <;> simp
end Mi
namespace Mi
open PySem L2
theorem zip_map:∀ (a b:List Nat),n8 (a.map eN) (b.map eN)=(a.zip b).map eP
 | [],b=>by cases b <;> rfl
 | x::a,[]=>rfl
 | x::a,y::b=>by simp only [List.map_cons,n8,List.zip_cons_cons,zip_map a b];rfl
theorem Rz (a b:List Nat):itemsOf .zip [aC a,aC b]=.ok ((a.zip b).map eP):=by
 rw [<- zip_map];rfl
theorem Z5 (ds:List D) (i:Nat) (h:i<=ds.length):cutD ds none (some (i:Int))=ds.take i:=by
 unfold cutD HT.sIx;have:¬ ((i:Int) < 0):=by omega
 simp [this,Nat.min_eq_left h]
theorem Rb (ds:List D) (i:Nat) (h:i<=ds.length):cutD ds (some (i:Int)) none=ds.drop i:=by
 unfold cutD HT.sIx;have:¬ ((i:Int) < 0):=by omega
 simp only [this,if_false,Int.toNat_natCast,Nat.min_eq_left h];exact List.take_of_length_le (by simp)
end Mi
set_option maxHeartbeats 1000000
namespace L2
open PySem PySem.Spec PyProof.Rows
noncomputable def drop (H:Hp) (c:Addr):Hp:=fun b=>if b=c then none else H b
theorem cT {H:Hp}{c:Addr}:drop H c c=none:=if_pos rfl
theorem aX {H:Hp}{b c:Addr} (h:b≠c):drop H c b=H b:=if_neg h
abbrev bM:HO:=.ext fun _=>True
section
variable {P:Program}{w:World}{H H1:Hp}{h h1:Heap}{c:Addr}{o:Obj}{u:HO}{fs:List Addr}
theorem yU (e:h.get? c=some o):bY P w H h c (.frz o bM):=⟨e,trivial,⟨o,e⟩,fun _ _ _ _=>trivial⟩
theorem HOk.lend (ok:HOk P w H h) (hn:H c=none) (e:h.get? c=some o):HOk P w (upd H c (.frz o bM)) h:=fun b u q=>by
 by_cases hb:b=c
 .subst hb;rw [aD] at q;cases q;exact yU e
 .rw [ak hb] at q;exact (ok b u q).stay (fun _ _ _ z=>z) (fun d z=>by rw [ak (aB z hn)];exact z) (fun d xs z=>by rw [ak (aB z hn)];exact z) (fun d _ z _=>by rw [ak (aB z hn)];exact z)
theorem HOk.drop (ok:HOk P w H h) (hf:H c=some (.frz o u)) (hl:¬ lamO o):HOk P w (drop H c) h:=fun b v q=>by
 have hb:b≠c:=fun z=>by subst z;rw [cT] at q;cases q
 rw [aX hb] at q;have ne:∀ d y,H d=some y->y≠.frz o u->d≠c:=fun d y z n y'=>by subst y';rw [hf] at z;cases z;exact n rfl
 exact (ok b v q).stay (fun _ _ _ z=>z) (fun d z=>by rw [aX (ne d _ z fun y=>nomatch y)];exact z) (fun d xs z=>by rw [aX (ne d _ z fun y=>nomatch y)];exact z) (fun d od z g=>by
  rw [aX (ne d _ z fun y=>by cases y;exact hl g)];exact z)
theorem Ln (hn:H c=none) (e:h.get? c=some o) (hl:¬ lamO o) (hfs:c ∉ fs) (x:Un fs [] (upd H c (.frz o bM)) H1 h h1) (ok:HOk P w H1 h1):Un fs [] H (drop H1 c) h h1/\HOk P w (drop H1 c) h1:=by
 have f1:H1 c=some (.frz o bM):=x.frzs c o bM aD;have e1:h1.get? c=some o:=(ok c _ f1).1;have st:∀ b u,H b=some u->b≠c:=fun b u q z=>by subst z;rw [hn] at q;cases q
 refine ⟨⟨fun b ob q n hb hx=>?_,fun b ob q n hb hx=>?_,fun b ob q n hx=>?_,fun b ob q hx=>x.there b ob q hx,fun b xs q=>?_,fun b ob xs q=>?_,fun b ps q=>?_⟩,ok.drop f1 hl⟩
 .by_cases hbc:b=c
  .subst hbc;rw [e] at q;cases q;exact e1
  .exact x.keep b ob q (by rw [ak hbc];exact n) hb hx
 .have hbc:b≠c:=fun z=>hfs (z ▸ hb)
  exact x.slot b ob q (by rw [ak hbc];exact n) hb hx
 .by_cases hbc:b=c
  .subst hbc;exact cT
  .rw [aX hbc];exact x.free b ob q (by rw [ak hbc];exact n) hx
 .rw [aX (st b _ q)];exact x.tups b xs (by rw [ak (st b _ q)];exact q)
 .rw [aX (st b _ q)];exact x.frzs b ob xs (by rw [ak (st b _ q)];exact q)
 .rw [aX (st b _ q)];exact x.tbls b ps (by rw [ak (st b _ q)];exact q)
theorem T7 (hf:H c=some (.frz o bM)) (e:h.get? c=some o) (hfs:c ∉ fs) (x:Un fs [] (drop H c) H1 h h1) (ok:HOk P w H1 h1):Un fs [] H (upd H1 c (.frz o bM)) h h1/\HOk P w (upd H1 c (.frz o bM)) h1:=by
 have n1:H1 c=none:=x.free c o e cT (by simp);have e1:h1.get? c=some o:=x.keep c o e cT hfs (by simp);refine ⟨⟨fun b ob q n hb hx=>?_,fun b ob q n hb hx=>?_,fun b ob q n hx=>?_,fun b ob q hx=>x.there b ob q hx,fun b xs q=>?_,fun b ob xs q=>?_,fun b ps q=>?_⟩,ok.lend n1 e1⟩
 .have hbc:b≠c:=fun z=>by subst z;rw [hf] at n;cases n
  exact x.keep b ob q (by rw [aX hbc];exact n) hb hx
 .have hbc:b≠c:=fun z=>hfs (z ▸ hb)
  exact x.slot b ob q (by rw [aX hbc];exact n) hb hx
 .have hbc:b≠c:=fun z=>by subst z;rw [hf] at n;cases n
  rw [ak hbc];exact x.free b ob q (by rw [aX hbc];exact n) hx
 .have hbc:b≠c:=fun z=>by subst z;rw [hf] at q;cases q
  rw [ak hbc];exact x.tups b xs (by rw [aX hbc];exact q)
 .by_cases hbc:b=c
  .subst hbc;rw [aD];rw [hf] at q;exact q
  .rw [ak hbc];exact x.frzs b ob xs (by rw [aX hbc];exact q)
 .have hbc:b≠c:=fun z=>by subst z;rw [hf] at q;cases q
  obtain ⟨m,z⟩:=x.tbls b ps (by rw [aX hbc];exact q);exact ⟨m,by rw [ak hbc];exact z⟩
end
theorem G9 {p0 p:Pos}{c v:Value}{l:List Value} (h:TriplesOk l) (e:codeAmong p0 (l++[rawInt p.line,rawInt p.col,c])=some v):codeAmong p0 l=some v\/v=c:=by
 fun_induction TriplesOk l with
 | case1 =>
  right;simp only [List.nil_append,rawInt,codeAmong] at e;split at e
  .cases e;rfl
  .cases e
 | case2 a t b u x rest ih =>
  simp only [List.cons_append,codeAmong] at e ⊢;split at e
  .rename_i hc;rw [if_pos hc];exact .inl e
  .rename_i hc;rw [if_neg hc];exact ih h e
 | case3=>exact h.elim
section
variable {X:Cx}{pins:List (Addr × Obj)}{σ:St}{H H':Hp}{s:Shared}
theorem Inv.grew {h2:Heap}{tk:Nat}{Pt:Addr}{q:Array Value} (I:Inv X pins σ H s) (hP:H Pt=some (.tbl q)) (hx:Heap.ExtBut Pt s.heap h2) (mono:∀ b o,H b=some o->H' b=some o) (new:∀ b,H' b≠none->H b=none->s.heap.objs.size<=b) (ok:HOk X.prog X.w H' h2) :
  Inv X pins σ H' { s with heap:=h2,toks:=tk }:=by
 have neP:∀ b,H b=none->b≠Pt:=fun b n z=>by subst z;rw [n] at hP;cases hP
 refine I.step (g':=s.gens) (d':=s.drawn) (ch:=[]) (fun _ z=>nomatch z) (fun b o _ _ _ e n=>hx b o (neP b n) e) (fun b o _ _ _ e n=>⟨o.slots,hx b o (neP b n) e⟩) (fun b o _ e n=>?_) (fun b o _ e=>?_) (fun b xs e=>mono _ _ e) (fun b o u e=>mono _ _ e) (fun b ps e=>⟨#[],by rw [mono _ _ e];simp⟩) (fun m hm=>hm.extBut hx (neP _ I.free)) ok I.bare
 .cases z:H' b with
  | none=>rfl
  | some u=>exact absurd (Nat.lt_of_lt_of_le (Heap.lt_size e) (new b (by rw [z];simp) n)) (Nat.lt_irrefl _)
 .by_cases hb:b=Pt
  .subst hb;obtain ⟨ps,e2,_⟩:=ok b _ (mono _ _ hP);exact ⟨_,e2⟩
  .exact ⟨o,hx b o hb e⟩
theorem V5 {params:Arguments}{body:Expr}{scope:Scope}{pos:Pos}{E:Value->Shared->Prop}{Q:Value->Shared->Prop}{cc Pt:Addr}{q:Array Value}{clos:List (Str × Addr)}
  (I:Inv X pins σ H s) (hcl:closureFor scope X.env=pure clos) (hcode:X.env.code=.ref cc) (C:PySem.W.CodeHd s.heap cc Pt) (hP:H Pt=some (.tbl q)) (hdef:defaultsOf params X.env=([],[])) (hqn:X.env.qual ++ "<lambda>"=dX)
  (h:∀ f c' oc pm ctv h' tk H',Inv X pins σ H' { s with heap:=h',toks:=tk } -> (∀ b o,H b=some o -> H' b=some o) -> (∀ b,H' b ≠ none -> H b=none -> s.heap.objs.size <= b) -> H f=none -> H' f=some (.frz (PySem.W.kla_obj "<lambda>" dX params body scope clos pm c' ctv) bM) ->
   H' c'=some (.frz oc bM)->lamO oc->(∀ b o,b≠Pt->s.heap.get? b=some o->h'.get? b=some o)->Q (.ref f) { s with heap:=h',toks:=tk }) :
  wpAny (model X.prog X.w) X.A (eval (.Lambda params body scope pos) X.env) Q E s:=by
 obtain ⟨ps,hPs,tr,good⟩:=I.hok Pt _ hP;obtain ⟨bm,ob,b1,b2,b3,b4,b5,b6,b7⟩:=I.mod.bm;have hg:s.heap.Ns mainGlobals X.mg:=I.mod.glob.keeps I.bk;have hgP:mainGlobals≠Pt:=fun z=>by
  obtain ⟨o,es,ep,e,_⟩:=I.mod.glob;have:=(I.bs _ _ e).2;rw [z,hP] at this;cases this
 have hbP:bm≠Pt:=fun z=>by
  have:=(I.bs _ _ b4).2;rw [z,hP] at this;cases this
 have hB:s.heap.BuiltinsAt X.mg Pt:=⟨bm,ob,b1,b2,b3,hbP,I.bk _ _ b4,b5,b6,b7⟩;refine PySem.W.kla_eval hdef ?_;rw [hqn];cases hca:codeAmong pos ps.toList with
 | none =>
  refine PySem.W.kla_makeFunction (mg:=X.mg) (ps:=ps) hcl I.ok.glob hg hcode C hPs tr hca hgP hB fun c' ctv h' tk hx hge hlt hrec htb=>?_
  obtain ⟨c₂,oc,vs,t,e2,hoc,hd,hv⟩:=hrec;cases e2;have nc:H c'=none:=I.hok.fresh hge;have szle:s.heap.objs.size<=h'.objs.size:=Nat.le_trans hge (Nat.le_of_lt hlt);have nf:H h'.objs.size=none:=I.hok.fresh szle;have hfc:h'.objs.size≠c':=Nat.ne_of_gt hlt;have hx2:Heap.ExtBut Pt s.heap (h'.push (PySem.W.kla_obj "<lambda>" dX params body scope clos ((X.mg "__name__").getD .none) c' ctv)):=fun b o hb e=>Heap.get?_push_of_some _ (hx b o hb e)
  have mono:∀ b o,H b=some o -> upd (upd H c' (.frz oc bM)) h'.objs.size (.frz (PySem.W.kla_obj "<lambda>" dX params body scope clos ((X.mg "__name__").getD .none) c' ctv) bM) b=some o:=fun b o e=>by
   rw [ak (aB e nf),ak (aB e nc)];exact e
  have newb:∀ b,upd (upd H c' (.frz oc bM)) h'.objs.size (.frz (PySem.W.kla_obj "<lambda>" dX params body scope clos ((X.mg "__name__").getD .none) c' ctv) bM) b ≠ none -> H b=none -> s.heap.objs.size <= b:=fun b n1 n2=>by
   by_cases z:b=h'.objs.size
   .rw [z];exact szle
   .rw [ak z] at n1;by_cases z2:b=c'
    .rw [z2];exact hge
    .rw [ak z2] at n1;exact absurd n2 n1
  have cH:upd (upd H c' (.frz oc bM)) h'.objs.size (.frz (PySem.W.kla_obj "<lambda>" dX params body scope clos ((X.mg "__name__").getD .none) c' ctv) bM) c'=some (.frz oc bM):=by rw [ak (Ne.symm hfc),aD]
  have okk:HOk X.prog X.w (upd (upd H c' (.frz oc bM)) h'.objs.size (.frz (PySem.W.kla_obj "<lambda>" dX params body scope clos ((X.mg "__name__").getD .none) c' ctv) bM)) (h'.push (PySem.W.kla_obj "<lambda>" dX params body scope clos ((X.mg "__name__").getD .none) c' ctv)):=fun b u e=>by
   by_cases z:b=h'.objs.size
   .subst z;rw [aD] at e;cases e;exact yU (Heap.get?_push_size _ rfl)
   .by_cases z2:b=c'
    .subst z2;rw [cH] at e;cases e;exact yU (Heap.get?_push_of_some _ hoc)
    .have e':=e;rw [ak z,ak z2] at e';by_cases z3:b=Pt
     .subst z3;rw [hP] at e';cases e';refine ⟨_,Heap.get?_push_of_some _ htb,?_,fun p0 v hv0=>?_⟩
      .rw [Array.toList_append];exact TriplesOk_snoc _ _ _ _ tr
      .rw [Array.toList_append] at hv0;rcases G9 tr hv0 with q1 | q1
       .obtain ⟨d,od,e1,g1,g2⟩:=good p0 v q1;exact ⟨d,od,e1,mono _ _ g1,g2⟩
       .exact ⟨c',oc,q1,cH,vs,t,hd,hv⟩
     .refine (I.hok b u e').stay (fun b2 o2 hb2 q2=>hx2 b2 o2 ?_ q2) (fun d z=>mono _ _ z) (fun d xs z=>mono _ _ z) (fun d od z _=>mono _ _ z);rcases hb2 with rfl | hb2
      .exact z3
      .rintro rfl;rw [hP] at hb2;cases hb2
  exact h h'.objs.size c' oc _ ctv _ tk _ (I.grew hP hx2 mono newb okk) mono newb nf aD cH ⟨vs,t,hd,hv⟩ (fun b o hb e=>hx2 b o hb e)
 | some v =>
  obtain ⟨c',oc,rfl,g1,g2⟩:=good pos v hca;refine PySem.W.kla_makeFunctionHit (mg:=X.mg) (ps:=ps) hcl I.ok.glob hg hcode C hPs tr hca hB fun ctv h' tk hk hsz=>?_
  have nf:H h'.objs.size=none:=I.hok.fresh hsz;have hk2:∀ b o,s.heap.get? b=some o -> (h'.push (PySem.W.kla_obj "<lambda>" dX params body scope clos ((X.mg "__name__").getD .none) c' ctv)).get? b=some o:=fun b o e=>Heap.get?_push_of_some _ (hk b o e)
  have mono:∀ b o,H b=some o -> upd H h'.objs.size (.frz (PySem.W.kla_obj "<lambda>" dX params body scope clos ((X.mg "__name__").getD .none) c' ctv) bM) b=some o:=fun b o e=>by rw [ak (aB e nf)]; exact e
  have newb:∀ b,upd H h'.objs.size (.frz (PySem.W.kla_obj "<lambda>" dX params body scope clos ((X.mg "__name__").getD .none) c' ctv) bM) b ≠ none -> H b=none -> s.heap.objs.size <= b:=fun b n1 n2=>by
   by_cases z:b=h'.objs.size
   .rw [z];exact hsz
   .rw [ak z] at n1;exact absurd n2 n1
  exact h h'.objs.size c' oc _ ctv _ tk _ (I.laid hk2 hsz (yU (Heap.get?_push_size _ rfl))) mono newb nf aD (mono _ _ g1) g2 (fun b o _ e=>hk2 b o e)
end
structure LamScope (scope:Scope) (xb xt:Str):Prop where
 kind:scope.kind=.function
 co:scope.isCoroutine=false
 gen:scope.isGenerator=false
 nocell:∀ x∈scope.names,x.2≠.cell
 par:scope.names.lookup xt=some .local
 cap:scope.names.lookup xb=some .free
 only:∀ y,scope.names.lookup y=some .free->y=xb
 ne:xb≠xt
noncomputable def rP (P:Program) (w:World) (K:PySem.W.Frag) (mg:Str->Option Value) (base:Heap) (xb xt:Str) (scope:Scope) (f c:Addr) (cdv:Value) (A:Around) (outer:List Env) (s:Shared) (H:Hp):Cx where
 prog:=P
 w:=w
 K:=K
 mg:=mg
 base:=base
 A:=A.deeper (PySem.W.envX dX scope s.heap.objs.size f cdv [(xb,c)])
 N:=[xb,xt]
 s₀:=s
 H₀:=drop H c
 env:=PySem.W.envX dX scope s.heap.objs.size f cdv [(xb,c)]
 outer:=outer
 stack:=PySem.W.envX dX scope s.heap.objs.size f cdv [(xb,c)]::outer
 ex:=[]
 calm:=true
 fn:=fun _=>false
 pn:=[]
 xe:=fun _ _=>False
section
variable {P:Program}{w:World}{K:PySem.W.Frag}{mg:Str->Option Value}{base:Heap}{A:Around}{outer:List Env}{s:Shared}{H:Hp}{f c c':Addr}{params:Arguments}{body:Expr}{scope:Scope}{pm ctv:Value}{oc ocell:Obj}{xb xt:Str}{ub u:Value}{vb vt:V}
theorem YF {Q:VK}{E:XK}{t:TE} (e0:Env0 P w K mg base A outer s H) (hdp:A.depth < recursionLimit) (hh:A.handled=none) (L:LamScope scope xb xt) (hf:H f=some (.frz (PySem.W.kla_obj "<lambda>" dX params body scope [(xb,c)] pm c' ctv) bM)) (hc':H c'=some (.frz oc bM)) (hlo:lamO oc)
  (hc:H c=some (.frz ocell bM)) (hcell:ocell.data=.cell (some ub)) (hbind:bindArgs (PySem.W.kla_fn "<lambda>" dX params body scope [(xb,c)] pm (.ref c') ctv) ⟨[u],[]⟩=pure [(xt,u)]) (rb:RelV vb ub) (rt:RelV vt u)
  (hbody:PE (rP P w K mg base xb xt scope f c (.ref c') A outer s H) body t) (ht:t [some vb,some vt] (drop H c) fun v H1=>H1 c=none->Q v (upd H1 c (.frz ocell bM))) :
  codeAny (model P w) A (.call (.ref f) ⟨[u],[]⟩) (CR CX0 outer P w H s Q E) s:=by
 have ef:=(e0.hok f _ hf).1;have ec':=(e0.hok c' _ hc').1;have ec:=(e0.hok c _ hc).1;have hnl:¬ lamO ocell:=fun ⟨vs,t,z,_⟩=>by rw [hcell] at z;cases z
 have cfr:c ∉ frs outer:=fun z=>by rw [e0.frf c z] at hc;cases hc
 have hcd:s.heap.CodeRec (.ref c') dX:=by
  obtain ⟨vs,t,h1,h2⟩:=hlo;exact ⟨c',oc,vs,t,rfl,ec',h1,h2⟩
 have lim:s.heap.NoLimit:=e0.mod.nolimit.keeps fun b o e=>(e0.bs b o e).1
 refine PySem.W.kla_callFunE hdp ef rfl L.co L.gen rfl hcd ?_;rw [hbind];refine wpAny_pure (wpAny_newFunctionEnv L.nocell (fun y hy=>by cases List.mem_singleton.mp hy;exact L.par) (fun h₁ hns hsb=>⟨lim.fresh _ hsb,?_⟩) L.kind);show codeAny _ _ (.expr body (PySem.W.envX dX scope s.heap.objs.size f (.ref c') [(xb,c)])) _ _
 have hk₁:∀ b o,s.heap.get? b=some o->h₁.get? b=some o:=fun b o e=>hsb.extBut b o (Nat.ne_of_lt (Heap.lt_size e)) (Heap.get?_push_of_some _ e)
 have I:Inv (rP P w K mg base xb xt scope f c (.ref c') A outer s H) [] [some vb,some vt] (drop H c) { s with heap:=h₁,toks:=s.toks+1 }:=by
  have noA:∀ b:Addr,b ∉ (rP P w K mg base xb xt scope f c (.ref c') A outer s H).ex:=fun b z=>absurd (show b∈([]:List Addr) from z) (by simp)
  have look:∀ y d,(rP P w K mg base xb xt scope f c (.ref c') A outer s H).env.cells.lookup y=some d->y=xb/\d=c:=fun y d h=>by
   have h':(match y == xb with | true=>some c | false=>none)=some d:=h;split at h'
   .rename_i e;cases h';exact ⟨beq_iff_eq.mp e,rfl⟩
   .cases h'
  have lookc:(rP P w K mg base xb xt scope f c (.ref c') A outer s H).env.cells.lookup xb=some c:=by
   show (match xb == xb with | true=>some c | false=>none)=some c
   rw [beq_self_eq_true]
  have dn:∀ b,H b=none->drop H c b=none:=fun b n=>by
   by_cases z:b=c
   .rw [z];exact cT
   .rw [aX z];exact n
  refine ⟨⟨e0.mod,L.kind,rfl,rfl,Nat.le_refl _,fun y z d h1 h2=>(look y d h1).1.trans (look z d h2).1.symm,fun y hy=>?_,fun y d z _=>(by cases z),fun _=>hh,Around.frames_deeper e0.frames,.inr ⟨rfl,rfl⟩,fun b z=>absurd z (noA b),fun b o e=>⟨(e0.bs b o e).1,dn b (e0.bs b o e).2⟩,e0.bsz,fun b _ _=>noA b,fun b z=>absurd z (noA b),e0.funs,fun b hb=>dn b (e0.frf b hb),?_⟩,
   rfl,e0.bare,Un.kept hk₁,⟨_,hns,fun i y v h1 h2 h3=>?_⟩,fun y d h=>?_,(e0.hok.drop hc hnl).fresh (Nat.le_refl _),fun y d h=>?_,fun p hp=>absurd (show p∈([]:List (Addr × Obj)) from hp) (by simp),(e0.hok.drop hc hnl).kept hk₁,rfl⟩
  .have hy:scope.names.lookup y=some .cell\/scope.names.lookup y=some .free:=hy;rcases hy with hy | hy
   .exact absurd rfl (L.nocell _ (PySem.mem_of_lookup hy))
   .exact ⟨c,by rw [L.only y hy];exact lookc⟩
  .intro a o fd d oc2 vs p e1 e2 e3 e4 e5 e6 e7;obtain ⟨q,e⟩:=e0.tab a o fd d oc2 vs p e1 e2 e3 e4 e5 e6 e7;refine ⟨q,?_⟩;show drop H c p=_
   rw [aX (fun z=>by rw [z,hc] at e;cases e)];exact e
  .match i,h1,h2 with
   | 0,h1,h2 =>
    cases h1;cases h2;exact ⟨ub,rb,.inr ⟨.inr L.cap,c,lookc,ocell,hk₁ _ _ ec,hcell⟩⟩
   | 1,h1,h2 =>
    cases h1;cases h2;refine ⟨u,rt,.inl ⟨L.par,?_⟩⟩;show (match xt == xt with | true=>some u | false=>none)=some u
    rw [beq_self_eq_true]
   | i+2,h1,h2=>cases h1
  .obtain ⟨_,rfl⟩:=look y d h;exact ⟨some ub,ocell,hk₁ _ _ ec,hcell⟩
  .obtain ⟨_,rfl⟩:=look y d h;exact cT
 refine PySem.W.kla_codeExpr (wpAny_mono (hbody [] _ _ _ _ I ht) (fun v s' hq=>?_) fun _ _ z=>False.elim z);obtain ⟨v',H1,J,rv,q⟩:=hq;obtain ⟨un,ok⟩:=T7 hc ec cfr J.base J.hok;exact ⟨v',_,J.os,J.bare,un,ok,rv,q (J.base.free c ocell ec cT (show c ∉ ([]:List Addr) by simp))⟩
end
structure RunAt (P:Program) (w:World) (K:PySem.W.Frag) (mg:Str->Option Value) (base:Heap) (A:Around) (outer:List Env) (f:Addr) (fd:FuncData) (ps:List Str) (sp:Sp):Prop where
 len:∀ vs H Q E,sp vs H Q E->vs.length=ps.length
 run:∀ (s:Shared) (H:Hp) (args:Args) (us:List Value) (vs:List V) (Q:VK) (E:XK),Env0 P w K mg base A outer s H->BindsTo s fd args (ps.zip us)->Vals vs us->sp vs H Q E->codeAny (model P w) A (.call (.ref f) args) (CR CX0 outer P w H s Q E) s
theorem aaI {P:Program}{w:World}{K:PySem.W.Frag}{mg:Str->Option Value}{base:Heap}{A:Around}{outer:List Env}{f:Addr}{name qual:Str}{params:Arguments}{body:List Stmt}{scope:Scope}{dV kV doc pm cdv ct oc:Value}{an od:Option Addr}
  {osl:Array (Option Value)}{N ps:List Str}{sp:Sp} (lk:K.lookup f=some ⟨oc,od,.func (PySem.W.fnOf name qual params body scope dV kV doc pm an cdv ct),osl⟩) (hcd:PySem.W.codeIn K cdv qual=true) (S:FnScope N ps scope) (hdp:A.depth < recursionLimit) (hh:A.handled=none)
  (len:∀ vs H Q E,sp vs H Q E->vs.length=ps.length)
  (hbody:∀ (s:Shared) (H:Hp) (vs:List V) (Q:VK) (E:XK),sp vs H Q E ->
   ∃ t,PSs (bV CX0 P w K mg base N qual scope f cdv A outer s H E) body t/\t { nx:=fun _ H'=>Q .non H',rt:=Q } (start N vs) H) :
  RunAt P w K mg base A outer f (PySem.W.fnOf name qual params body scope dV kV doc pm an cdv ct) ps sp:=by
 refine ⟨len,fun s H args us vs Q E e0 hb r hsp=>?_⟩;have hl:=len _ _ _ _ hsp;have KX:K.In s.heap:=e0.mod.kin.keeps fun b o e=>(e0.bs b o e).1
 have lim:s.heap.NoLimit:=e0.mod.nolimit.keeps fun b o e=>(e0.bs b o e).1
 have hkind:∀ y∈ps.zip us,scope.names.lookup y.1=some .local\/(scope.names.lookup y.1=some .cell/\((cellsFrom (s.heap.objs.size+1) scope.names []).lookup y.1).isSome=true):=fun ⟨n,v⟩ hy=>by
  rcases S.par n (List.of_mem_zip hy).1 with q | q
  .exact .inl q
  .exact .inr ⟨q,PySem.W.cellsFrom_some _ _ _ (.inl q)⟩
 refine codeAny_call_function hdp (KX _ _ lk) rfl S.co S.gen rfl (PySem.W.codeRec_of KX hcd) (hb _ _ _ _ ?_);refine wpAny_newFunctionEnv_cells S.kind hkind fun env he s1 x=>?_
 subst he;refine ⟨lim.keeps x.toInCall.keep,codeAny_func ?_⟩;obtain ⟨t,ht,hq⟩:=hbody s H vs Q E hsp;have I:Inv (bV CX0 P w K mg base N qual scope f cdv A outer s H E) [] (start N vs) H s1:=yx S hh e0 hl r x;refine wpAny_mono (ht [] s1 (start N vs) H _ I hq) (fun fl s' hs=>?_) fun e s' hs=>hs
 have fin:∀ {σ':St}{H':Hp}{v:V}{u:Value},Inv (bV CX0 P w K mg base N qual scope f cdv A outer s H E) [] σ' H' s'->RelV v u->Q v H'->CE outer P w H s Q u s' :=
  fun {σ' H' v u} J rv q=>⟨v,H',J.os,J.bare,J.base,J.hok,rv,q⟩
 cases fl with
 | ret u =>
  obtain ⟨v,σ',H',J,rv,q⟩:=hs;exact fin J rv q
 | next =>
  obtain ⟨σ',H',J,q⟩:=hs;exact fin (v:=V.non) (u:=Value.none) J rfl q
 | brk =>
  obtain ⟨_,_,_,q⟩:=hs;exact False.elim q
 | cont =>
  obtain ⟨_,_,_,q⟩:=hs;exact False.elim q
section
variable {X:Cx}{pins:List (Addr × Obj)}{σ:St}{H:Hp}{s:Shared}{k:Nat}{fa c:Addr}{fd:FuncData}{ps:List Str}{sp:Sp}{xb:Str}{ocell:Obj}{ub:Value}
def adb (X:Cx) (xb:Str) (params:Arguments) (body:Expr) (scope:Scope):TE:=fun σ H Q=>∀ f c' oc pm ctv c H',X.env.cells.lookup xb=some c -> (∀ b o,H b=some o -> H' b=some o) -> H f=none -> H c=none -> H' c=none -> H' f=some (.frz (PySem.W.kla_obj "<lambda>" dX params body scope [(xb,c)] pm c' ctv) bM) ->
 H' c'=some (.frz oc bM)->lamO oc->Q (.ref f) H'
theorem ZQ {params:Arguments}{body:Expr}{scope:Scope}{pos:Pos}{cc Pt:Addr} (hsc:X.env.scope.names.lookup xb=some .cell) (hclo:∀ c,X.env.cells.lookup xb=some c->closureFor scope X.env=pure [(xb,c)]) (hcode:X.env.code=.ref cc)
  (C:∀ h:Heap,X.K.In h -> PySem.W.CodeHd h cc Pt) (hPt:∀ H,sH X.K X.mg H -> ∃ q,H Pt=some (.tbl q)) (hdef:defaultsOf params X.env=([],[])) (hqn:X.env.qual ++ "<lambda>"=dX) :
  PE X (.Lambda params body scope pos) (adb X xb params body scope):=by
 intro pins s σ H Q I h;obtain ⟨c,hc⟩:=I.ok.has xb (.inl hsc);obtain ⟨q,hP⟩:=hPt H I.env0.tab;have hn:H c=none:=I.freeC xb c hc;refine V5 I (hclo c hc) hcode (C _ I.kIn) hP hdef hqn fun f c' oc pm ctv h' tk H' J mono newb nf hf hc' hlo _=>?_
 exact ⟨.ref f,H',J,rfl,h f c' oc pm ctv c H' hc mono nf hn (J.freeC xb c hc) hf hc' hlo⟩
theorem Wd {x:Str}{j:Nat}{e:Expr}{ta:TE}{p pos:Pos}{W:Addr -> V -> Hp -> VK -> Prop} (hN:X.N[j]?=some x) (hv:Vis X.env.scope x) (hd1:(x == ("__debug__":Str))=false) (hd2:(x == ("__classdict__":Str))=false) (ha:PE X e ta) (hs:starEach [e] X.env=(false,eval e X.env)::starEach [] X.env)
  (hW:∀ f pins s σ H v u Q,Inv X pins σ H s->RelV v u->W f v H Q->PySem.W.FnAt f s.heap/\wpAny (model X.prog X.w) X.A (call (.ref f) [u]) (EP X pins σ Q) X.xe s) (hF:∀ f s H,HOk X.prog X.w H s->(∃ ob,H f=some (.frz ob bM)/\∃ oc od fd sl,ob=⟨oc,od,.func fd,sl⟩)->PySem.W.FnAt f s) :
  PE X (.Call (.Name x p) [e] [] pos) (fun σ H Q=>∃ f,σ[j]?=some (some (.ref f))/\(∃ ob,H f=some (.frz ob bM)/\∃ oc od fd sl,ob=⟨oc,od,.func fd,sl⟩)/\ta σ H fun v H1=>W f v H1 Q):=by
 intro pins s σ H Q I h;obtain ⟨f,ef,hf,ht⟩:=h;refine wpAny_Call_Name_kw (thn (jY (pos:=p) hN hv hd1 hd2 pins s σ H (fun v H1=>v=.ref f/\H1=H) I ⟨.ref f,ef,rfl,rfl⟩) fun fv s0 ⟨v0,H0,I0,r0,e0,eH⟩=>?_);subst e0 eH;obtain rfl:fv=Value.ref f:=r0;refine PySem.W.callWith_F (hF f _ _ I0.hok hf) (thn ((dw ha jz hs) pos pins s0 σ H0 (fun vs H1=>match vs with | [v]=>W f v H1 Q | _=>False) I0 ht) fun us s1 ⟨vs,H1,I1,r,hw⟩=>?_) hs rfl;rcases vs with _ | ⟨v,_ | ⟨v2,vs⟩⟩
 .exact hw.elim
 .obtain ⟨u,rfl,ru⟩:=vals1 r;exact hW f pins s1 σ H1 v u Q I1 ru hw
 .exact hw.elim
end
end L2
set_option maxHeartbeats 1000000
namespace Mi
open PySem L2
open PyProof.Rows hiding St
noncomputable def Er (p:Pos):Arguments:={ posonlyargs:=[],args:=[{ arg:="test",annotation:=none,pos:=p }],vararg:=none,kwonlyargs:=[],kw_defaults:=[],kwarg:=none,defaults:=[] }
noncomputable def yV (p1 p2 p3 p4:Pos):Expr:=.Call (.Name "is_test" p1) [.Name "book" p2,.Name "test" p3] [] p4
noncomputable def dj:Scope:={ kind:=.function,names:=[(Str.ofString "test",.local),(Str.ofString "book",.free),(Str.ofString "is_test",.globalImplicit)],isGenerator:=false,isCoroutine:=false,more:=[] }
theorem Gh:LamScope dj "book" "test":=by
 refine ⟨rfl,rfl,rfl,by decide +kernel,by decide +kernel,by decide +kernel,fun y h=>?_,by decide +kernel⟩;have h2:=PySem.mem_of_lookup h;simp only [dj,List.mem_cons,List.not_mem_nil,or_false] at h2;rcases h2 with h2 | h2 | h2
 .cases h2
 .cases h2;rfl
 .cases h2
noncomputable abbrev aco (p0 p1 p2 p3 p4:Pos) (c:Addr) (pm:Value) (c':Addr) (ctv:Value):Obj:=PySem.W.kla_obj "<lambda>" dX (Er p0) (yV p1 p2 p3 p4) dj [("book",c)] pm c' ctv
structure CloAt (g:G) (H Hs:Hp) (f:Addr) (b:D):Prop where
 ex:∃ p0 p1 p2 p3 p4 c c' oc ocell ub vb pm ctv,H f=some (.frz (aco p0 p1 p2 p3 p4 c pm c' ctv) bM)/\H c'=some (.frz oc bM)/\lamO oc/\H c=some (.frz ocell bM)/\ocell.data=.cell (some ub)/\RelV vb ub/\Hs c=none/\Rp g Hs b vb
theorem CloAt.grow {g:G}{H Hs H' Hs':Hp}{f:Addr}{b:D} (x:CloAt g H Hs f b) (hs:Same Hs H) (w:Grow H Hs H' Hs'):CloAt g H' Hs' f b:=by
 obtain ⟨p0,p1,p2,p3,p4,c,c',oc,ocell,ub,vb,pm,ctv,h1,h2,h3,h4,h5,h6,h7,h8⟩:=x.ex;exact ⟨p0,p1,p2,p3,p4,c,c',oc,ocell,ub,vb,pm,ctv,w.keep _ _ h1,w.keep _ _ h2,h3,w.keep _ _ h4,h5,h6,(w.old _ _ h4).trans h7,h8.mono (w.same hs)⟩
structure FnsP (T:Tx) (cl:Nat->List D->R D) (P:Program) (w:World) (K:PySem.W.Frag) (mg:Str->Option Value) (base:Heap) (n:Nat):Prop where
 blt:∀ f∈mK,mg f=none
 gl:∀ x d,T.gl.lookup x=some d->GlV d (mg x)
 fns:∀ f x,T.F[f]?=some x->∃ a fd ps,FnOk P w K mg base CX0 n a fd ps (spD ⟨P,w,K⟩ (cl f) ps.length)/\FnOk P w K mg base CX0 n a fd ps (Qf ⟨P,w,K⟩ (cl (1000+f)) ps.length)/\mg x=some (.ref a)/\PySem.W.keepIn K (.ref a)=true/\Binds K fd ps []/\(∀ ds d,cl f ds=.ok d->ds.length=ps.length)/\(∀ ds d,cl (1000+f) ds=.ok d->ps.length=2)/\FnOk P w K mg base CX0 n a fd ps (spF ⟨P,w,K⟩ (cl (2000+f)) ps.length)/\∀ ds d,cl (2000+f) ds=.ok d->ds.length=ps.length
section
variable {T:Tx}{cl:Nat->List D->R D}{P:Program}{w:World}{K:PySem.W.Frag}{mg:Str->Option Value}{base:Heap}{n:Nat}
theorem FnsP.cok {X:Cx} (F:FnsP T cl X.prog X.w X.K X.mg X.base n) (hc:X.calm=true) (hnd:X.N.Nodup) (hr:Room n X.A):Cok T cl X:=by
 refine ⟨hc,hnd,by have:=hr.un;omega,F.blt,F.gl,fun f x hF=>?_⟩;obtain ⟨a,fd,ps,q1,q2,q3,q4,q5,q6,q7,q8⟩:=F.fns f x hF;exact ⟨n,a,fd,ps,q1,q2,hr,q3,q4,q5,q6,q7,q8⟩
variable {A:Around}{outer:List Env}{s:Shared}{H:Hp}
theorem QM {f c:Addr}{cdv:Value}:ScRel dj (rP P w K mg base "book" "test" dj f c cdv A outer s H) :=
 ⟨fun y h=>uQ h,fun y h=>uT h,fun y h=>h,fun y h=>by
  have h1:=mH h;refine ⟨h1,?_⟩;rcases h1 with e | e
  .exact .inr e
  .exact absurd rfl (Gh.nocell _ (PySem.mem_of_lookup e))⟩
theorem Wb {X:Cx}{g:Nat}{Q:VK}{fa:Addr}{pins:List (Addr × Obj)}{σ:St}{v:V}{u:Value}{Hs:Hp}{b d z:D} (F:FnsP T cl X.prog X.w X.K X.mg X.base n) (hT:T.F[g]?=some (Str.ofString "is_test")) (hr:∀ env,Room n (X.A.deeper env)) (hdp:X.A.depth < recursionLimit) (hh:X.A.handled=none)
  (I:Inv X pins σ H s) (ru:RelV v u) (hs:Same Hs H) (hc:CloAt (gOf X) H Hs fa b) (rd:Rp (gOf X) Hs d v) (hz:cl g [b,d]=.ok z) (k:XD X H Hs Q z) :
  PySem.W.FnAt fa s.heap/\wpAny (model X.prog X.w) X.A (call (.ref fa) [u]) (EP X pins σ Q) X.xe s:=by
 obtain ⟨p0,p1,p2,p3,p4,c,c',oc,ocell,ub,vb,pm,ctv,h1,h2,h3,h4,h5,h6,h7,h8⟩:=hc.ex;have ef:=(I.hok fa _ h1).1;refine ⟨⟨_,_,_,_,ef⟩,?_⟩;have ok:okE T ["book","test"] (.call g [.var 0,.var 1]) dj (yV p1 p2 p3 p4)=true:=by
  show (aL "is_test" && cF dj "is_test" && decide (T.F[g]?=some (Str.ofString "is_test")) && cB T ["book","test"] [.var 0,.var 1] dj [.Name "book" p2,.Name "test" p3] && [Expr.Name "book" p2,.Name "test" p3].all noStar)=true
  rw [decide_eq_true hT];rfl
 have C:Cok T cl (rP X.prog X.w X.K X.mg X.base "book" "test" dj fa c (.ref c') X.A X.stack s H):=FnsP.cok (X:=rP X.prog X.w X.K X.mg X.base "book" "test" dj fa c (.ref c') X.A X.stack s H) F rfl (show ([("book":Str),"test"]:List Str).Nodup by decide +kernel) (hr _)
 have hb:=(good (T:=T) (cl:=cl) (.call g [.var 0,.var 1]) C QM ok).1;have dropS:Same Hs (drop H c):=fun b o e=>by
  rw [aX (fun z=>by rw [z,h7] at e;cases e)];exact hs b o e
 refine wpAny_call (codeAny_mono (YF (E:=E0) (vb:=vb) (vt:=v) (Q:=Q) I.env0 hdp hh Gh h1 h2 h3 h4 h5 ?_ h6 ru hb ?_) fun r s' hq=>?_)
 .rfl
 .refine ⟨[some b,some d],Hs,z,dropS,⟨rfl,fun i hi e he=>?_⟩,?_,fun v' H' Hs' g' r' n'=>?_⟩
  .match i,he with
   | 0,he=>cases he;exact ⟨vb,rfl,h8⟩
   | 1,he=>cases he;exact ⟨v,rfl,rd⟩
   | i+2,he=>cases he
  .show (do let ds <- aW cl [.var 0,.var 1] [some b,some d];cl g ds)=_
   exact hz
  .have hs'c:Hs' c=none:=g'.sub.free n';refine k v' _ Hs' ⟨fun a o e=>?_,fun a o e=>?_,fun a o e=>?_⟩ r'
   .by_cases za:a=c
    .subst za;rw [aD];rw [h4] at e;exact e
    .rw [ak za];exact g'.keep a o (by rw [aX za];exact e)
   .by_cases za:a=c
    .subst za;rw [hs'c,h7]
    .exact g'.old a o (by rw [aX za];exact e)
   .rw [ak (fun za=>by rw [za,hs'c] at e;cases e)];exact g'.sub a o e
 .cases r with
  | error e=>exact False.elim hq
  | ok fl =>
   cases fl with
   | ret u=>exact I.after hq
   | next=>exact False.elim hq
   | brk=>exact False.elim hq
   | cont=>exact False.elim hq
noncomputable def clN:List Str:=["things","is_right","place","thing"]
noncomputable def bF:Scope:={ kind:=.function,names:=[(Str.ofString "things",.local),(Str.ofString "is_right",.local),(Str.ofString "place",.local),(Str.ofString "thing",.local),(Str.ofString "isinstance",.globalImplicit),(Str.ofString "list",.globalImplicit),(Str.ofString "BadTests",.globalImplicit),(Str.ofString "enumerate",.globalImplicit)],isGenerator:=false,isCoroutine:=false,more:=[] }
noncomputable def RX (p1 p2 p3 p4 p5:Pos) (r:List Stmt):Stmt:=.If (.UnaryOp .Not (.Call (.Name "is_right" p1) [.Name "thing" p2] [] p3) p4) r [] p5
noncomputable def yh (p1 p2 p3 p4 p5 p6:Pos) (e1 c1:Option Expr) (q1 q2 q3 q4 q5 q6 q7 q8 q9 q10 q11 q12 q13:Pos) (j:Nat) (r2:List Stmt):List Stmt :=
 [.If (.UnaryOp .Not (.Call (.Name "isinstance" p1) [.Name "things" p2,.Name "list" p3] [] p4) p5) [.Raise e1 c1 q13] [] p6,
  .For (.Tuple [.Name "place" q1,.Name "thing" q2] j q3) (.Call (.Name "enumerate" q4) [.Name "things" q5] [] q6) [RX q7 q8 q9 q10 q11 r2] [] q12]
noncomputable def clB (cl:Nat->List D->R D) (g:Nat) (b:D):Nat->List D->R D:=fun k ds=>if k=5000 then (match ds with | [t]=>cl g [b,t] | _=>.stuck) else cl k ds
section
variable {cl:Nat->List D->R D}{X:Cx}{n g:Nat}{T:Tx}{b:D}{E:Ent}{Es:Hp}{fa:Addr}{O inv:List Nat}
end
theorem ac5 {cl':Nat->List D->R D} (F:FnsP T cl P w K mg base n):FnsP ⟨[],[]⟩ cl' P w K mg base n:=⟨F.blt,fun x d h=>(by cases h),fun f x h=>(by simp at h)⟩
theorem acZ {A:Around} (r:Room (n+1) A) (e1 e2 e3:Env):Room n (((A.deeper e1).deeper e2).deeper e3) :=
 ⟨r.hd,by have:=r.dp;show A.depth+1+1+1+3 * n+5 < _;omega,by have:=r.un;show A.units+3+3+3+16 * n+200 < _;omega⟩
theorem ab8 {A:Around} (r:Room (n+1) A) (e1 e2:Env):Room n ((A.deeper e1).deeper e2) :=
 ⟨r.hd,by have:=r.dp;show A.depth+1+1+3 * n+5 < _;omega,by have:=r.un;show A.units+3+3+16 * n+200 < _;omega⟩
noncomputable def ctN:List Str:=["book","tests"]
noncomputable def iz:Scope:={ kind:=.function,names:=[(Str.ofString "book",.cell),(Str.ofString "tests",.local),(Str.ofString "check_list",.globalImplicit)],isGenerator:=false,isCoroutine:=false,more:=[] }
noncomputable def CG (p1 p2 p3 p4 p5 p6 p7 p8 p9 p10:Pos):List Stmt:=[.Expr (.Call (.Name "check_list" p1) [.Name "tests" p2,.Lambda (Er p3) (yV p4 p5 p6 p7) dj p8] [] p9) p10]
theorem Yi {env:Env}{c:Addr} (h:env.cells.lookup (Str.ofString "book")=some c):closureFor dj env=pure [(Str.ofString "book",c)]:=by
 unfold closureFor;simp [dj,cellOf,h]
end
end Mi
namespace L2
open PySem PySem.Spec PyProof.Rows
def Hh (f:Obj->Obj):Prop:=∀ o:Obj,(f o).dict=o.dict/\(o.isFreed=false->(f o).isFreed=false)
def Pd {α:Type}:Sem α->Prop
 | .pure _=>True
 | .raise _=>True
 | .unsupported _=>True
 | .finish _=>True
 | .rule _ k=>Pd (k ())
 | .at _ k=>Pd (k ())
 | .load _ _ k=>∀ o,Pd (k o)
 | .update _ _ f k=>Hh f/\Pd (k ())
 | .alloc _ k=>∀ a,Pd (k a)
 | .loadIfAlive _ k=>∀ o,Pd (k o)
 | .point _ k=>Pd (k ())
 | .fresh k=>∀ t,Pd (k t)
 | .ask k=>∀ t,Pd (k t)
 | .stack k=>∀ l,Pd (k l)
 | _=>False
def DS (h h':Heap):Prop:=∀ b o,h.get? b=some o->∃ o',h'.get? b=some o'/\o'.dict=o.dict
theorem DS.refl (h:Heap):DS h h:=fun b o e=>⟨o,e,rfl⟩
theorem DS.trans {h h1 h2:Heap} (a:DS h h1) (b:DS h1 h2):DS h h2:=fun c o e=>by
 obtain ⟨o1,e1,d1⟩:=a c o e;obtain ⟨o2,e2,d2⟩:=b c o1 e1;exact ⟨o2,e2,d2.trans d1⟩
theorem Sy {h:Heap}{a:Addr}{f:Obj->Obj} (k:Hh f):DS h (h.update a f):=fun b o e=>by
 by_cases hb:b=a
 .subst hb;have hf:=(Heap.get?_some_iff.mp e).2;exact ⟨f o,Heap.get?_update_self _ e ((k o).2 hf),(k o).1⟩
 .exact ⟨o,(Heap.get?_update_other _ _ (Ne.symm hb)).trans e,rfl⟩
theorem abX {α:Type}{M:Model}{Γ:PySem.Ctx}{Q:α->Pos->Shared->Prop}{E:Value->Pos->Shared->Prop} (t:Sem α):∀ {p:Pos}{s:Shared},Pd t->Sem.wp M Γ t Q E p s->Sem.wp M Γ t (fun a p' s'=>Q a p' s'/\DS s.heap s'.heap) (fun e p' s'=>E e p' s'/\DS s.heap s'.heap) p s:=by
 have mono:∀ {t:Sem α}{p:Pos}{s s1:Shared},DS s1.heap s.heap->Sem.wp M Γ t (fun a p' s'=>Q a p' s'/\DS s.heap s'.heap) (fun e p' s'=>E e p' s'/\DS s.heap s'.heap) p s->Sem.wp M Γ t (fun a p' s'=>Q a p' s'/\DS s1.heap s'.heap) (fun e p' s'=>E e p' s'/\DS s1.heap s'.heap) p s :=
  fun {t p s s1} d h=>Sem.wp_mono M Γ t (fun a p s' ⟨q,z⟩=>⟨q,d.trans z⟩) (fun e p s' ⟨q,z⟩=>⟨q,d.trans z⟩) _ _ h
 induction t with
 | pure a=>intro p s _ h;exact ⟨h,DS.refl _⟩
 | raise e=>intro p s _ h;exact ⟨h,DS.refl _⟩
 | unsupported w=>intro p s _ h;exact h
 | finish e=>intro p s _ h;exact h
 | rule t k ih=>intro p s d h;exact ih () d h
 | «at» q k ih=>intro p s d h;exact ih () d h
 | load a w k ih=>intro p s d ⟨o,e,h⟩;exact ⟨o,e,ih o (d o) h⟩
 | update a w f k ih=>intro p s d ⟨e,h⟩;exact ⟨e,mono (Sy d.1) (ih () d.2 h)⟩
 | alloc o k ih =>
  intro p s d h;exact mono (s:={ s with heap:=s.heap.push o }) (s1:=s) (fun b o e=>⟨o,Heap.get?_push_of_some _ e,rfl⟩) (ih _ (d _) h)
 | loadIfAlive a k ih=>intro p s d h;exact ih _ (d _) h
 | point l k ih=>intro p s d h;exact ih () d h
 | fresh k ih=>intro p s d h;exact ih _ (d _) h
 | ask k ih=>intro p s d h;exact ih _ (d _) h
 | stack k ih=>intro p s d h;exact ih _ (d _) h
 | _=>intro p s d;cases d
theorem rM {α:Type}{M:Model}{A:Around}{Q:α->Shared->Prop}{E:Value->Shared->Prop}{t:Sem α}{s:Shared} (d:Pd t) (h:wpAny M A t Q E s):wpAny M A t (fun a s'=>Q a s'/\DS s.heap s'.heap) (fun e s'=>E e s'/\DS s.heap s'.heap) s :=
 fun Γ p hΓ=>abX t d (h Γ p hΓ)
theorem bI {α β:Type}{t:Sem α}{k:α->Sem β} (a:Pd t) (b:∀ x,Pd (k x)):Pd (t >>= k):=by
 show Pd (Sem.bind t k)
 induction t with
 | pure x=>exact b x
 | raise e=>trivial
 | unsupported w=>trivial
 | finish e=>trivial
 | rule t k ih=>exact ih () a
 | «at» q k ih=>exact ih () a
 | load c w k ih=>exact fun o=>ih o (a o)
 | update c w f k ih=>exact ⟨a.1,ih () a.2⟩
 | alloc o k ih=>exact fun o=>ih o (a o)
 | loadIfAlive c k ih=>exact fun o=>ih o (a o)
 | point l k ih=>exact ih () a
 | fresh k ih=>exact fun o=>ih o (a o)
 | ask k ih=>exact fun o=>ih o (a o)
 | stack k ih=>exact fun o=>ih o (a o)
 | _=>cases a
theorem nM {α:Type}{c:Prop} [Decidable c] {a b:Sem α} (h1:Pd a) (h2:Pd b):Pd (if c then a else b):=by
 split <;> assumption
theorem Kz (v:Value):Pd (fieldsOf v):=by
 unfold fieldsOf
 repeat (first | trivial | split | (refine bI ?_ fun _=>?_) | exact fun _=>trivial)
theorem uU (v:Value) (i:Nat):Pd (field v i):=by
 unfold field;refine bI (Kz v) fun x=>?_
 split <;> trivial
theorem Ld (f:Array Value->Array Value):Hh (Obj.mapFields f):=fun o=>by
 obtain ⟨c,d,dt,sl⟩:=o;cases dt <;> exact ⟨rfl,fun h=>h⟩
theorem M6 (a:Addr):Pd (load a):=fun _=>trivial
theorem Gg {a:Addr}{f:Obj->Obj} (k:Hh f):Pd (update a f):=⟨k,trivial⟩
theorem tL (v:Value) (i:Nat) (x:Value):Pd (setField v i x):=by
 unfold setField;split
 .unfold updateField;refine bI (M6 _) fun o=>?_
  split
  .exact nM (Gg (Ld _)) trivial
  .trivial
 .trivial
theorem pO (e:Value) (o:Option Addr):Pd (setFlight e o):=by
 unfold setFlight;exact bI (uU _ _) fun tb=>nM (tL _ _ _) trivial
theorem Bq:Pd stack:=fun _=>trivial
theorem QJ (env:Env) (l:List Env):Pd (behindIsImport env l):=by
 unfold behindIsImport;exact nM trivial (nM trivial (bI (uU _ _) fun _=>trivial))
theorem Yo (env:Env) (b:Bool):∀ l:List Env,Pd (keptBack env b l)
 | []=>by
  unfold keptBack;refine nM trivial (bI ?_ fun _=>trivial);unfold underTheClaimsCaller;exact bI Bq fun _=>trivial
 | c::l=>trivial
theorem J3:∀ l:List Env,Pd (readyFrames l)
 | []=>trivial
 | env::outer=>by
  unfold readyFrames;cases hf:env.frame with
  | none=>trivial
  | some f =>
   refine bI (M6 _) fun o=>nM trivial (bI (QJ _ _) fun b=>bI (Yo _ _ _) fun v=>bI (Gg fun o=>⟨rfl,by obtain ⟨c,d,dt,sl⟩:=o;cases dt <;> exact fun h=>h⟩) fun _=>J3 outer)
theorem Ov (env:Env):Pd (PySem.frameOf env):=by
 unfold PySem.frameOf frameEnvs;refine bI (bI Bq fun _=>trivial) fun l=>bI ?_ fun x=>by split <;> trivial
 generalize List.dropWhile _ l=l';cases l' with
 | nil=>trivial
 | cons e l=>exact bI (J3 _) fun _=>trivial
theorem TQ (f:Addr) (b:Bool):Pd (entryPlaceOf f b):=by
 unfold entryPlaceOf;refine bI Bq fun l=>?_
 split <;> trivial
theorem Uu (a b c d e:Value) (l:List Value):Pd (EntryCells.newEntry a b c d e l):=by
 unfold EntryCells.newEntry newFields newObj
 repeat (first | trivial | exact fun _=>trivial | split | refine bI ?_ fun _=>?_)
theorem LC (e:Value) (env:Env):Pd (noteFrame e env):=by
 unfold noteFrame;cases hf:env.frame with
 | none=>trivial
 | some f =>
  refine bI (uU _ _) fun h=>?_
  have tail:Pd (do setField e 1 (<- EntryCells.newEntry h (<- PySem.frameOf env) .none (rawInt f) .none (<- entryPlaceOf f (h != .none)))):=bI (Ov _) fun _=>bI (TQ _ _) fun _=>bI (Uu _ _ _ _ _ _) fun _=>tL _ _ _
  exact nM (bI (uU _ _) fun x=>nM trivial (bI (tL _ _ _) fun _=>tail)) tail
theorem CJ (env:Env) (e:Value):Pd (leaving env e):=bI (LC _ _) fun _=>pO _ _
end L2
namespace L2
open PySem PySem.Spec PyProof.Rows
theorem bY.there {P:Program}{w:World}{H:Hp}{h:Heap}{a:Addr}{o:HO} (x:bY P w H h a o):∃ u,h.get? a=some u:=by
 cases o with
 | lst xs=>obtain ⟨_,_,_,_,e⟩:=x;exact ⟨_,e⟩
 | tup xs=>obtain ⟨_,_,_,_,e,_⟩:=x;exact ⟨_,e⟩
 | dK kvs=>obtain ⟨_,_,_,_,o,_,_,e,_⟩:=x;exact ⟨_,e⟩
 | dT kvs=>obtain ⟨_,_,_,_,o,_,_,e,_⟩:=x;exact ⟨_,e⟩
 | set S n=>obtain ⟨o,_,_,_,e,_⟩:=x;exact ⟨_,e⟩
 | ins C dx fs=>obtain ⟨_,_,_,e,_⟩:=x;exact ⟨_,e⟩
 | own y=>obtain ⟨_,e⟩:=x;exact ⟨_,e⟩
 | xd fs=>obtain ⟨_,⟨_,_,_,e,_⟩,_⟩:=x;exact ⟨_,e⟩
 | rng lo hi=>obtain ⟨_,_,_,e⟩:=x;exact ⟨_,e⟩
 | frz ob u=>obtain ⟨e,_⟩:=x;exact ⟨_,e⟩
 | tbl ps=>obtain ⟨_,e,_⟩:=x;exact ⟨_,e⟩
 | met f y=>exact ⟨_,(show h.get? a=some _ from x)⟩
 | ext φ=>obtain ⟨_,⟨_,e⟩,_⟩:=x;exact ⟨_,e⟩
def StB (fs:List Addr) (h:Heap) (H':Hp) (h1 B:Heap):Prop:=∀ b o,h1.get? b=some o->((∃ u,h.get? b=some u)\/H' b≠none)->b ∉ fs->B.get? b=some o
theorem uE {P:Program}{w:World}{fs:List Addr}{H H':Hp}{h h1 h2 B:Heap} (u:Un fs [] H H' h h1) (hok:HOk P w H' h1) (ffr:∀ b∈fs,H' b=none) (ff:∀ b∈fs,∀ o,h1.get? b=some o->∀ vs,o.data≠.fields vs)
  (hB:StB fs h H' h1 B) (st:B.StaysIn h2) (up:h1.UpToSlots h2):Un fs [] H H' h h2/\HOk P w H' h2/\StB fs h H' h2 B:=by
 have trk:∀ b o,h1.get? b=some o->H' b≠none->B.get? b=some o:=fun b o e n=>hB b o e (.inr n) fun z=>n (ffr b z)
 refine ⟨⟨fun b o e n hb hx=>st b o (hB b o (u.keep b o e n hb hx) (.inl ⟨o,e⟩) hb),fun b o e n hb hx=>?_,u.free,fun b o e hx=>?_,u.tups,u.frzs,u.tbls⟩,fun a o e=>?_,fun b o e hh hb=>?_⟩
 .obtain ⟨sl,e1⟩:=u.slot b o e n hb hx;obtain ⟨sl',e2⟩:=up b _ e1 (ff b hb _ e1);exact ⟨sl',e2⟩
 .obtain ⟨o',e1⟩:=u.there b o e hx;by_cases hb:b∈fs
  .obtain ⟨sl,e2⟩:=up b o' e1 (ff b hb o' e1);exact ⟨_,e2⟩
  .exact ⟨o',st b o' (hB b o' e1 (.inl ⟨o,e⟩) hb)⟩
 .refine (hok a o e).stay (fun b v hc q=>st b v (trk b v q ?_)) (fun _ q=>q) fun _ _ q=>q
  rcases hc with rfl | hc
  .rw [e];exact fun z=>nomatch z
  .rw [hc];exact fun z=>nomatch z
 .obtain ⟨o',e'⟩:∃ o',h1.get? b=some o':=by
   rcases hh with ⟨v,e0⟩ | n
   .exact u.there b v e0 (by simp)
   .cases q:H' b with
    | none=>exact absurd q n
    | some ob=>exact (hok b ob q).there
  have e2:=hB b o' e' hh hb;have e3:=st b o' e2;rw [e] at e3;cases e3;exact e2
def DictAt (h:Heap) (e:Addr) (dd:Option Addr):Prop:=∀ d,dd=some d->∃ o,h.get? e=some o/\o.dict=some d
theorem DictAt.ds {h h':Heap}{e:Addr}{dd:Option Addr} (x:DictAt h e dd) (k:DS h h'):DictAt h' e dd:=fun d hd=>by
 obtain ⟨o,e1,e2⟩:=x d hd;obtain ⟨o',e3,e4⟩:=k e o e1;exact ⟨o',e3,e4.trans e2⟩
def CX1 (P:Program) (w:World):CXT:=fun outer H s E ev s'=>∃ (e C:Addr) (a0:Value) (dd:Option Addr) (H':Hp) (B:Heap),ev=.ref e/\s'.os=s.os/\AllBare s'.gens/\Un (frs outer) [] H H' s.heap s'.heap/\HOk P w H' s'.heap /\
 Heap.FlyingW B outer e (.ref C) a0 s'.heap/\StB (frs outer) s.heap H' s'.heap B/\DictAt s'.heap e dd/\E (.ref C) dd H'
section
variable {X:Cx}{pins:List (Addr × Obj)}{σ:St}{H H':Hp}{s s':Shared}{E:XK}{e C:Addr}{h'':Heap}{args:List Value}{E2:Value->Shared->Prop}
theorem rQ (hst:X.stack=X.env::X.outer) (hf:X.env.frame=some X.env.locals):frs X.stack=X.env.locals::X.fs:=by
 rw [hst];unfold frs;rw [List.filterMap_cons,hf];rfl
theorem Inv.notLoc (I:Inv X pins σ H' s') {b:Addr} (h:(∃ u,X.s₀.heap.get? b=some u)\/H' b≠none):b≠X.env.locals:=by
 rcases h with ⟨u,e⟩ | n
 .exact Nat.ne_of_lt (Nat.lt_of_lt_of_le (Heap.lt_size e) I.ok.above)
 .rintro rfl;exact n I.free
theorem Inv.fsData (I:Inv X pins σ H' s'):∀ b∈X.fs,∀ o,s'.heap.get? b=some o->∀ vs,o.data≠.fields vs:=fun b hb o e vs=>by
 obtain ⟨_,o',e',d⟩:=I.funs.mem hb;rw [e] at e';cases e';exact d vs
theorem Inv.fsFree (I:Inv X pins σ H' s'):∀ b∈X.fs,H' b=none:=fun b hb=>by
 obtain ⟨_,o,ho,_⟩:=I.ok.funs.mem hb;exact I.base.free b o ho (I.ok.frf b hb) fun z=>I.ok.exfs b z hb
theorem ZJ (hex:X.ex=[]) (hst:X.stack=X.env::X.outer) (hf:X.env.frame=some X.env.locals) (I:Inv X pins σ H' s') (hx:Heap.MadeExcOf s'.heap h'' e (.ref C) args) (hE:E (.ref C) none H') :
  wpAny (model X.prog X.w) X.A (leaving X.env (.ref e)) (fun _ s''=>CX1 X.prog X.w X.outer X.H₀ X.s₀ E (.ref e) s'') E2 { s' with heap:=h'' }:=by
 have I2:Inv X pins σ H' { s' with heap:=h'' }:=I.kept (t':=s'.toks) hx.keeps;have fr:=I.stack;have hin:∀ env∈X.stack,∀ b,env.frame=some b->b∈frs X.stack:=fun env he b hb=>List.mem_filterMap.mpr ⟨env,he,hb⟩
 have fh:=PySem.W.funFrames_hide (h:=s'.heap) fr hin;rw [hst] at fh;refine wpAny_leaves_madeW (base:=PySem.W.hideAll s'.heap (frs (X.env::X.outer))) (h:=s'.heap) (L:=X.env.locals) (by rw [I.ok.frames,hst]) hf (fun b o q=>PySem.W.of_hideAll _ q) fh hx fun h4 t fl _ _ up=>?_
 have hB:StB X.fs X.s₀.heap H' h'' (PySem.W.hideAll s'.heap (frs (X.env::X.outer))):=fun b o eb hh hb=>by
  obtain ⟨o',e'⟩:∃ o',s'.heap.get? b=some o':=by
   rcases hh with ⟨v,e0⟩ | n
   .exact I.base.there b v e0 (by rw [hex];simp)
   .cases q:H' b with
    | none=>exact absurd q n
    | some ob=>exact (I.hok b ob q).there
  have e2:=hx.keeps b o' e';rw [eb] at e2;cases e2;refine PySem.W.hideAll_get _ e' ?_;rw [<- hst,rQ hst hf];intro z;rcases List.mem_cons.mp z with z | z
  .exact I.notLoc hh z
  .exact hb z
 have u:=I2.base;rw [hex] at u;obtain ⟨u1,u2,u3⟩:=uE u I2.hok I2.fsFree I2.fsData hB fl.1 up;exact ⟨e,C,_,none,H',_,rfl,I.os,I.bare,u1,u2,fl,u3,fun d hd=>(by cases hd),hE⟩
theorem Vo (hex:X.ex=[]) (hst:X.stack=X.env::X.outer) (hf:X.env.frame=some X.env.locals) {ev:Value} (I:Inv X pins σ H s) (hc:CX1 X.prog X.w X.stack H s E ev s') :
  wpAny (model X.prog X.w) X.A (leaving X.env ev) (fun _ s''=>CX1 X.prog X.w X.outer X.H₀ X.s₀ E ev s'') E2 s':=by
 obtain ⟨e,C,a0,dd,H',B,rfl,ho,hg,u,hok,fl,hB,hD,hE⟩:=hc;have I':Inv X pins σ H' s':=I.call' (ch:=[]) ho u hok hg fun b hb=>nomatch hb
 rw [hst] at fl;refine wpAny_mono (rM (CJ _ _) (wpAny_leaves_onW (Q:=fun _ s''=>∃ h4,s''={ s' with heap:=h4 }/\Heap.FlyingW B X.outer e (.ref C) a0 h4/\s'.heap.UpToSlots h4) (L:=X.env.locals) (by rw [I.ok.frames,hst]) hf fl fun h4 fl4 up=>⟨h4,rfl,fl4,up⟩)) (fun _ s'' ⟨⟨h4,es,fl4,up⟩,ds⟩=>?_) fun _ _ z=>z.1
 subst es;have hB':StB X.fs X.s₀.heap H' s'.heap B:=fun b o eb hh hb=>by
  refine hB b o eb ?_ ?_
  .rcases hh with ⟨v,e0⟩ | n
   .exact .inl (I.base.there b v e0 (by rw [hex];simp))
   .exact .inr n
  .rw [rQ hst hf];intro z;rcases List.mem_cons.mp z with z | z
   .exact I'.notLoc hh z
   .exact hb z
 have u':=I'.base;rw [hex] at u';obtain ⟨u1,u2,u3⟩:=uE u' I'.hok I'.fsFree I'.fsData hB' fl4.1 up;exact ⟨e,C,a0,dd,H',B,rfl,I'.os,I'.bare,u1,u2,fl4,u3,hD.ds ds,hE⟩
end
structure XOk (X:Cx) (E:XK):Prop where
 rz:∀ (pins:List (Addr × Obj)) (σ:St) (H':Hp) (s':Shared) (e C:Addr) (h'':Heap) (args:List Value),Inv X pins σ H' s'->Heap.MadeExcOf s'.heap h'' e (.ref C) args->E (.ref C) none H'->X.xe (.ref e) { s' with heap:=h'' }
 pass:Passes (CX1 X.prog X.w) X E
theorem Ij {P:Program}{w:World}{K:PySem.W.Frag}{mg:Str->Option Value}{base:Heap}{N:List Str}{qual:Str}{scope:Scope}{f:Addr}{cd:Value}{A:Around}{outer:List Env}{s:Shared}{H:Hp}{E:XK} :
  XOk (bV (CX1 P w) P w K mg base N qual scope f cd A outer s H E) E :=
 ⟨fun pins σ H' s' e C h'' args I hx hE=>ZJ (X:=bV (CX1 P w) P w K mg base N qual scope f cd A outer s H E) rfl rfl rfl I hx hE,fun pins σ H1 s1 ev s' I hc=>Vo (X:=bV (CX1 P w) P w K mg base N qual scope f cd A outer s H E) rfl rfl rfl I hc⟩
section
variable {P:Program}{w:World}{K:PySem.W.Frag}{mg:Str->Option Value}{base:Heap}{k:Nat}{f:Addr}{fd:FuncData}{ps:List Str}{sp spx:Sp}
theorem FnOk.calmed (F:FnOk P w K mg base (CX1 P w) k f fd ps spx) (h:∀ vs H Q E,sp vs H Q E->spx vs H Q E0):FnOk P w K mg base CX0 k f fd ps sp :=
 ⟨fun vs H Q E q=>F.len _ _ _ _ (h vs H Q E q),fun A outer s H args us vs Q E hr he hb hv hs=>codeAny_mono (F.run A outer s H args us vs Q E0 hr he hb hv (h vs H Q E hs)) fun r s' hq=>by
  cases r with
  | error e=>obtain ⟨_,_,_,_,_,_,_,_,_,_,_,_,_,_,z⟩:=hq;exact z.elim
  | ok fl=>cases fl <;> exact hq⟩
theorem FnOk.lifted (F:FnOk P w K mg base CX0 k f fd ps sp):FnOk P w K mg base (CX1 P w) k f fd ps sp :=
 ⟨F.len,fun A outer s H args us vs Q E hr he hb hv hs=>codeAny_mono (F.run A outer s H args us vs Q E hr he hb hv hs) fun r s' hq=>by
  cases r with
  | error e=>exact False.elim hq
  | ok fl=>cases fl <;> exact hq⟩
end
abbrev rY:List Value:=[.type "ValueError",.type "Exception",.type "BaseException",.type "object"]
section
variable {X:Cx}{E:XK}{x:Str}{C:Addr}{np cpos pos tp:Pos}{tx:Str}{k:Nat}
theorem Uk (XO:XOk X E) (hc:X.calm=true) (hg:Gl X x) (hm:X.mg x=some (.ref C)) (hq:PySem.W.excIn X.K C rY "ValueError.__new__"=true) (hd:(x == ("__debug__":Str))=false) :
  PS X (.Raise (some (.Call (.Name x np) [.Constant (.str tx) k tp] [] cpos)) none pos) (fun _ _ H=>E (.ref C) none H):=by
 intro pins s σ H D I hE;unfold PySem.W.excIn at hq;split at hq
 .rename_i dd cd sl ho;split at hq
  .rename_i C' bm k0 k1 k2 k3 n k5 hm' hs;simp only [Bool.and_eq_true,beq_iff_eq,Bool.not_eq_true'] at hq;obtain ⟨⟨⟨⟨⟨rfl,rfl⟩,hdel⟩,ht⟩,hok⟩,hni⟩:=hq;obtain ⟨nm,bs,mro,ns,qn,hdc,sn,sub,ab,col,del⟩:=cd;dsimp only at hm' hdel hok hni;subst hm' hdel;have hsl:sl=#[k0,k1,k2,k3,some (.builtin "ValueError.__new__"),k5]:=by
    obtain ⟨l⟩:=sl;simp only at hs;rw [hs]
   subst hsl;have T0:=PySem.W.tail_of_in (bmB:=rY) I.kIn ht;refine wpAny_Raise_call_subT (C:=C') (nm:=nm) (q:=qn) (N:=ns) (bs:=bs) (bm:=bm) (hdct:=hdc) (sn:=sn) (sub:=sub) (ab:=ab) (col:=col) (dd:=dd) (k0:=k0) (k1:=k1) (k2:=k2) (k3:=k3) (k5:=k5) (mN:=X.base.nsMap ns) PySem.F.excBase_ValueError (T0.hasType PySem.F.excBase_ValueError.hasBase) (I.ok.hd hc) rfl (PySem.W.nsMap_none_of_in I.mod.kin hok hni) (kZ I hg hm ⟨rfl,?_⟩ hd);have hpa:=(dw (Hy (X:=X)) jz:PA X [.Constant (.str tx) k tp] _) cpos pins s σ H (fun vs H1=>H1=H/\vs.length=1) I ⟨rfl,rfl⟩;refine Calls.evalArgs_plain (thn hpa fun us s1 ⟨vs,H1,I1,r1,e1,e2⟩=>?_);subst e1;refine ⟨rfl,by rw [<- r1.length,e2];decide,I1.kIn _ _ ho,(Heap.Ns.of_isNs (PySem.W.isNs_of_in I.mod.kin hok)).keeps I1.bk,PySem.W.tail_of_in I1.kIn ht,fun h' e hmd=>?_⟩;exact XO.rz pins σ H1 s1 e _ h' _ I1 hmd hE
  .cases hq
 .cases hq
end
end L2
namespace PySem.W
open PySem PySem.Spec PySem.Calls PyProof.Rows Builtin Builtin.Getset_descriptor
open Builtin.ObjectAttr in
section
variable {prog:Program}{w:World}{A:Around}{E:Value->Shared->Prop}{s:Shared}{K:Frag}{x C:Addr}
structure XcK (K:Frag) (C:Addr):Prop where
 cls:(clsIn K C).isSome=true
 get:findIn K (.ref C) "__class__"=some (some (.builtin "object.__class__"))
 spec:specialIn K (.builtin "object.__class__") "__get__"=some (some (.builtin "getset_descriptor.__get__"))
 take:takesIn K (.builtin "object.__class__")=some true
 obj:mroIn K C (.type "object")=some true
 ga:findIn K (.ref C) "__getattribute__"=some (some (.builtin "BaseException.__getattribute__"))
 no:findIn K (.ref C) "__getattr__"=some none
 sub:subIn K (.ref C) (.type "BaseException")=some true
 hd:hasDictIn K C=true
 nat:findIn K (.ref C) "at"=some none
def yD (x C:Addr) (h:Heap):Prop:=∃ o,h.get? x=some o/\o.cls=.ref C
theorem yD.ty {M:Model}{h:Heap} (I:yD x C h):Looks M h (typeOf (.ref x)) (.ref C):=by
 obtain ⟨o,h1,h2⟩:=I;exact h2 ▸ (Looks.ld h1).andThen .now
variable (Z:XcK K C)
include Z
theorem Yd {M:Model}{h:Heap} (X:K.In h):Looks M h (find (.ref x) (.ref C) "__class__") (.bind (.builtin "getset_descriptor.__get__") (.builtin "object.__class__")) :=
 (looks_findIn (M:=M) X Z.get).andThen ((show Looks M h (getOf (some (.builtin "object.__class__"))) _ from looks_specialIn X Z.spec).andThen
  ((show Looks M h (dataDescriptor? (some (.builtin "object.__class__")) (some (.builtin "getset_descriptor.__get__"))) (some (.builtin "getset_descriptor.__get__",.builtin "object.__class__")) from (looks_takesIn (M:=M) X Z.take).andThen .now).andThen (Looks.tag .now)))
theorem ZK {tp:Value}{R:Result -> Shared -> Prop} (X:K.In s.heap) (I:yD x C s.heap) (hR:R (.ok (.ret (.ref C))) s):codeAny (model prog w) A (.call (.builtin "getset_descriptor.__get__") ⟨[.builtin "object.__class__",.ref x,tp],[]⟩) R s:=by
 obtain ⟨hh,g,dr,t,os⟩:=s;have L0:=I.ty (M:=model prog w);have L1:=looks_mroIn (M:=model prog w) X Z.obj;refine codeAny_call_builtin KF.slot_gs.plain KF.entry_gs (KF.slot_gs.check _ _ _ _ _ _ _ _ KF.type_class (KF.args_gs _ _ _) (show wpAny _ _ (Builtin.«getset_descriptor.__get__» _) _ _ _ from ?_));unfold Builtin.«getset_descriptor.__get__» descrGet;rw [dga_obj];refine wpAny_bind (wpAny_pure ?_);unfold descrGetter descrCheckInstance descrNameAndClass isInstance;simp only [KF.owner_class]
 repeat lk
 refine ⟨Code.quiet_builtin _ (by decide +kernel),codeAny_builtin KF.entry_class (show wpAny _ _ (Builtin.«object.__class__» _) _ _ _ from ?_)⟩;unfold Builtin.«object.__class__» shownTypeOf;repeat lk
 exact hR
theorem Wf {tk:Tok}{Q:Fin->Shared->Prop} (X:K.In s.heap) (I:yD x C s.heap) (hq:Q (.done (.ret (.ref C))) s) :
  wpAny (model prog w) A (Builtin.«object.__getattribute__» ⟨[.ref x,.str "__class__" tk],[]⟩) Q E s:=by
 obtain ⟨hh,gg,d,t,os⟩:=s;have L0:=I.ty (M:=model prog w);have L1:=Yd (x:=x) (M:=model prog w) Z X;unfold Builtin.«object.__getattribute__»
 repeat (first | refine wpAny_call (ZK Z X I ?_) | lk)
 exact hq
theorem JX {M:Model}{nameV:Value}{Q:Unit -> Shared -> Prop} (X:K.In s.heap) (I:yD x C s.heap) (hq:Q () s):wpAny M A (checkBuiltinCall "BaseException.__getattribute__" ⟨[.ref x,nameV],[]⟩) Q E s:=by
 obtain ⟨hh,gg,d,t,os⟩:=s;have L0:=I.ty (M:=M);have L1:=looks_subIn (M:=M) X Z.sub;have ek:builtinKind "BaseException.__getattribute__"=some .slot:=by decide +kernel
 have es:splitId "BaseException.__getattribute__"=some ("BaseException","__getattribute__"):=by decide +kernel
 have ea:=F.args_bexc_ga (.ref x) nameV;simp only [checkBuiltinCall,ek,es];unfold isInstance
 repeat (first | assumption | lk | wp_step)
theorem YB {Q:Option Value -> Shared -> Prop} (X:K.In s.heap) (I:yD x C s.heap) (hq:Q (some (.ref C)) { s with toks:=s.toks+1 }):wpAny (model prog w) A (getAttr? (.ref x) "__class__") Q E s:=by
 obtain ⟨hh,g,d,t,os⟩:=s;have L0:=I.ty (M:=model prog w);have L1:=looks_findIn (M:=model prog w) X Z.ga;have L2:=looks_findIn (M:=model prog w) X Z.no;have f3:=F.attr_ValueError.ga.bind (.ref x);have y2:(Value.builtin "BaseException.__getattribute__" == Value.builtin "object.__getattribute__")=false:=by decide +kernel
 have y1:(onTheHeap (Value.ref C) && Value.builtin "BaseException.__getattribute__" == Value.builtin "object.__getattribute__")=false:=by rw [y2]; rfl
 unfold getAttr? getAttrBy? getAttrBy;refine wpAny_bind (wpAny_mkText (wpAny_bind (wpAny_attempt (wpAny_holding (wpAny_bind (L0.at (wpAny_bind (L1.at (show wpAny _ _ _ _ _ _ from ?_)))))))));dsimp only;rw [y1,if_neg Bool.false_ne_true];show wpAny _ _ (getAttrByItsOwn _ _ _ _ _ _) _ _ _
 repeat (any_goals (first | assumption | with_reducible refine L2.at ?_ | wp_step))
 refine codeAny_call_builtin F.attr_ValueError.ga.plain F.entry_bexc_ga (JX Z X I (Wf Z X I ?_))
 repeat (any_goals (first | assumption | wp_step))
theorem Vf:KitX K (.ref x) (.ref C) (yD x C) where
 ty:=fun _ _ _ I=>I.ty
 it:=fun _ _ X _=>by
  obtain ⟨cz,hz⟩:=Option.isSome_iff_exists.mp Z.cls;unfold clsIn at hz;split at hz
  .rename_i c1 d1 cd1 sl1 h1;intro A2 Q2 E2 s2 k2 q2;unfold isType loadHead;exact wpAny_bind (wpAny_loadPart (k2 _ _ (X _ _ h1)) (wpAny_pure q2))
  .cases hz
 ne:=fun h tp dd its n sl X htp=>by
  obtain ⟨cz,hz⟩:=Option.isSome_iff_exists.mp Z.cls;refine Bool.eq_false_iff.mpr fun q=>?_
  cases Value.ref.inj (beq_iff_eq.mp q);unfold clsIn at hz;split at hz
  .rename_i c1 d1 cd1 sl1 h1;exact absurd ((X _ _ h1).symm.trans htp) (fun z=>by cases z)
  .cases hz
 ca:=fun X I k=>YB Z X I k
end
end PySem.W
namespace L2
open PySem PySem.Spec PyProof.Rows
noncomputable def Vc:Value->V
 | .ref a=>.ref a
 | .type n=>.ty n
 | _=>.non
def pZ (X:Cx) (k:Str) (c:Value):Prop:=(∃ a,c=.ref a /\ X.mg k=some (.ref a)) \/ (∃ n,c=.type n /\ X.mg k=none /\ bootBuiltins k=some (.type n) /\ k ≠ "__name__")
section
variable {X:Cx}{e C:Addr}{oe:Obj}{n k:Str}{c:Value}{p1 p2 p3 p4:Pos}{i:Nat}
theorem aaU (hg:Gl X k) (h:pZ X k c) (hd:(k == ("__debug__":Str))=false):PE X (.Name k p1) (tC (Vc c)):=by
 rcases h with ⟨a,rfl,hm⟩ | ⟨n,rfl,hm,hb,hn⟩
 .exact Em hg hm rfl hd
 .exact pG hg hm hb rfl hn hd
theorem Vq (h:pZ X k c) {u:Value} (r:RelV (Vc c) u):u=c:=by
 rcases h with ⟨a,rfl,_⟩ | ⟨n,rfl,_⟩ <;> exact r
def adg (X:Cx) (e C:Addr):List V->Hp->VK->Prop:=fun xs H Q=>∃ k c b,pZ X k c/\xs=[.ref e,Vc c]/\PySem.W.kitOne X.K (.ref C) c=some b/\Q (.bl b) H
theorem Ur (hpn:(e,oe) ∈ X.pn) (hc:oe.cls=.ref C) (Z:PySem.W.XcK X.K C):gn X (.builtin "isinstance") (adg X e C):=by
 intro pins s σ H xs us Q I r h;obtain ⟨k,c,b,hk,rfl,hkit,q⟩:=h;obtain ⟨u,w',rfl,ru,rw'⟩:=vals2 r;cases ru;have hw:=Vq hk rw';subst hw;have hp:=I.pin (e,oe) (List.mem_append_left _ hpn);refine PySem.W.kia_one (PySem.W.Vf Z) I.kIn ⟨oe,hp.1,hc⟩ hkit (fun z=>nomatch z) fun tk=>⟨.bl b,H,I.tok _,rfl,q⟩
inductive IsxAll (X:Cx) (n:Str) (C:Addr):List Expr->List Bool->Prop
 | nil:IsxAll X n C [] []
 | cons {p1 p2 p3 p4:Pos}{k:Str}{c:Value}{b:Bool}{es:List Expr}{bs:List Bool}:Gl X k -> (k == ("__debug__":Str))=false -> pZ X k c -> PySem.W.kitOne X.K (.ref C) c=some b -> IsxAll X n C es bs ->
   IsxAll X n C (.Call (.Name "isinstance" p1) [.Name n p2,.Name k p3] [] p4::es) (b::bs)
theorem Ve:bootBuiltins "isinstance"=some (.builtin "isinstance"):=boot_isinstance
end
end L2
namespace L2
open PySem PySem.Spec PyProof.Rows
section
variable {X:Cx}{pins pins':List (Addr × Obj)}{σ:St}{H H':Hp}{s s':Shared}{h':Heap}{D:Ends}
theorem Inv.lost {m':Str->Option Value}{t:Nat} (I:Inv X pins σ H s) (hn:h'.Ns X.env.locals m') (hs:Heap.SameBut X.env.locals s.heap h'):Inv X pins (List.replicate X.N.length none) H { s with heap:=h',toks:=t }:=by
 have ne:∀ b o,X.s₀.heap.get? b=some o->b≠X.env.locals:=fun b o e=>Nat.ne_of_lt (Nat.lt_of_lt_of_le (Heap.lt_size e) I.ok.above)
 refine ⟨I.ok,I.os,I.bare,⟨fun b o e n hb hx=>(hs.2 b (ne b o e)).trans (I.base.keep b o e n hb hx),fun b o e n hb hx=>?_,I.base.free,fun b o e hx=>?_,I.base.tups,I.base.frzs,I.base.tbls⟩,⟨m',hn,fun i x v e1 e2=>?_⟩,fun y c e=>?_,I.free,I.freeC,fun p hp=>?_,fun b ob e=>?_,by simp⟩
 .obtain ⟨sl,e1⟩:=I.base.slot b o e n hb hx;exact ⟨sl,(hs.2 b (ne b o e)).trans e1⟩
 .obtain ⟨o',e1⟩:=I.base.there b o e hx;exact ⟨o',(hs.2 b (ne b o e)).trans e1⟩
 .rw [List.getElem?_replicate] at e2;split at e2 <;> cases e2
 .obtain ⟨w',z⟩:=I.cell y c e;exact ⟨w',z.sameBut hs (I.cne y c e)⟩
 .obtain ⟨e,n,ne',nf,d⟩:=I.pin p hp;exact ⟨(hs.2 p.1 ne').trans e,n,ne',nf,d⟩
 .refine (I.hok b ob e).stay (fun c v hc q=>(hs.2 c ?_).trans q) (fun _ q=>q) fun _ _ q=>q
  rintro rfl;rcases hc with rfl | hc
  .rw [I.free] at e;cases e
  .rw [I.free] at hc;cases hc
theorem Qi {M:Model}{A:Around}{E:Value->Shared->Prop}{s:Shared}{base:Heap}{env:Env}{outer:List Env}{L e:Addr}{cls a0:Value}{Q:Unit->Shared->Prop} (hfr:A.frames=some (env::outer)) (hf:env.frame=some L) (hfl:Heap.FlyingW base (env::outer) e cls a0 s.heap)
  (hQ:∀ h',Heap.HeldW base (env::outer) e cls a0 L h'->s.heap.UpToSlots h'->DS s.heap h'->Q () { s with heap:=h' }):wpAny M A (noteFrame (.ref e) env) Q E s :=
 wpAny_mono (rM (LC _ _) (wpAny_looks_onW (Q:=fun _ s''=>∃ h',s''={ s with heap:=h' }/\Heap.HeldW base (env::outer) e cls a0 L h'/\s.heap.UpToSlots h') hfr hf hfl fun h' a b=>⟨h',rfl,a,b⟩)) (fun _ s'' ⟨⟨h',es,a,b⟩,d⟩=>by subst es;exact hQ h' a b d) fun _ _ z=>z.1
theorem aan {M:Model}{A:Around}{E:Value->Shared->Prop}{s:Shared}{base:Heap}{l:List Env}{e L:Addr}{cls a0:Value}{Q:Unit->Shared->Prop} (hh:Heap.HeldW base l e cls a0 L s.heap)
  (hQ:∀ h',Heap.FlyingW base l e cls a0 h'->s.heap.UpToSlots h'->DS s.heap h'->Q () { s with heap:=h' }):wpAny M A (setFlight (.ref e) none) Q E s :=
 wpAny_mono (rM (pO _ _) (wpAny_landsW (Q:=fun _ s''=>∃ h',s''={ s with heap:=h' }/\Heap.FlyingW base l e cls a0 h'/\s.heap.UpToSlots h') hh fun h' a b=>⟨h',rfl,a,b⟩)) (fun _ s'' ⟨⟨h',es,a,b⟩,d⟩=>by subst es;exact hQ h' a b d) fun _ _ z=>z.1
theorem Jd {M:Model}{A:Around}{E:Value->Shared->Prop}{s:Shared}{base:Heap}{l:List Env}{e:Addr}{cls a0:Value}{Q:Unit->Shared->Prop} (hh:Heap.FlyingW base l e cls a0 s.heap)
  (hQ:∀ h',Heap.FlyingW base l e cls a0 h'->s.heap.UpToSlots h'->DS s.heap h'->Q () { s with heap:=h' }):wpAny M A (setFlight (.ref e) none) Q E s :=
 wpAny_mono (rM (pO _ _) (lands_againW (Q:=fun _ s''=>∃ h',s''={ s with heap:=h' }/\Heap.FlyingW base l e cls a0 h'/\s.heap.UpToSlots h') hh fun h' a b=>⟨h',rfl,a,b⟩)) (fun _ s'' ⟨⟨h',es,a,b⟩,d⟩=>by subst es;exact hQ h' a b d) fun _ _ z=>z.1
def Ou (X:Cx) (pins:List (Addr × Obj)) (D:Ends) (hs:List ExceptHandler):Value->Shared->Prop:=fun ev s1=>wpAny (model X.prog X.w) X.A (noteFrame ev X.env) (fun _ s2=>wpAny (model X.prog X.w) X.A (setFlight ev none) (fun _ s3=>wpAny (model X.prog X.w) X.A (handleBy ev X.env hs) (SP X pins D) X.xe s3) X.xe s2) X.xe s1
noncomputable abbrev mY (X:Cx) (pins:List (Addr × Obj)) (D:Ends) (hs:List ExceptHandler):Cx:={ X with pn:=X.pn++pins,xe:=Ou X pins D hs }
theorem Cx.Ok.re (ok:X.Ok) (pn:List (Addr × Obj)) (E:Value->Shared->Prop):({ X with pn:=pn,xe:=E }:Cx).Ok :=
 ⟨ok.mod,ok.kind,ok.glob,ok.blt,ok.above,ok.inj,ok.has,ok.cab,ok.hd,ok.frames,ok.stk,ok.exf,ok.bs,ok.bsz,ok.noex,ok.exfs,ok.funs,ok.frf,ok.tab⟩
theorem Cx.Ok.unre {pn:List (Addr × Obj)}{E:Value->Shared->Prop} (ok:({ X with pn:=pn,xe:=E }:Cx).Ok):X.Ok :=
 ⟨ok.mod,ok.kind,ok.glob,ok.blt,ok.above,ok.inj,ok.has,ok.cab,ok.hd,ok.frames,ok.stk,ok.exf,ok.bs,ok.bsz,ok.noex,ok.exfs,ok.funs,ok.frf,ok.tab⟩
theorem Inv.toTry {hs:List ExceptHandler} (I:Inv X pins σ H s):Inv (mY X pins D hs) [] σ H s :=
 ⟨I.ok.re _ _,I.os,I.bare,I.base,I.loc,I.cell,I.free,I.freeC,fun p hp=>I.pin p (by rw [List.append_nil] at hp;exact hp),I.hok,I.len⟩
theorem Inv.ofTry {hs:List ExceptHandler} (I:Inv (mY X pins D hs) pins' σ H s):Inv X pins σ H s :=
 ⟨I.ok.unre,I.os,I.bare,I.base,I.loc,I.cell,I.free,I.freeC,fun p hp=>I.pin p (List.mem_append_left _ hp),I.hok,I.len⟩
theorem SP.ofTry {hs:List ExceptHandler}{f:Flow} (h:SP (mY X pins D hs) pins' D f s):SP X pins D f s:=by
 cases f with
 | next=>obtain ⟨σ',H',I,q⟩:=h;exact ⟨σ',H',I.ofTry,q⟩
 | brk=>obtain ⟨σ',H',I,q⟩:=h;exact ⟨σ',H',I.ofTry,q⟩
 | cont=>obtain ⟨σ',H',I,q⟩:=h;exact ⟨σ',H',I.ofTry,q⟩
 | ret u=>obtain ⟨v,σ',H',I,r,q⟩:=h;exact ⟨v,σ',H',I.ofTry,r,q⟩
theorem YW {body:List Stmt}{h₀:ExceptHandler}{pos:Pos}{tb:TS} (I:Inv X pins σ H s) (hb:PSs (mY X pins D [h₀]) body tb) (ht:tb D σ H) :
  wpAny (model X.prog X.w) X.A (exec (.Try body [h₀] [] [] pos) X.env) (SP X pins D) X.xe s:=by
 refine wpAny_Try_except (wpAny_mono (hb [] s σ H D I.toTry ht) (fun f s1 q=>?_) fun e s1 q=>q);have q':=SP.ofTry q;cases f with
 | next=>exact wpAny_pure q'
 | brk=>exact q'
 | cont=>exact q'
 | ret u=>exact q'
noncomputable abbrev hCx (X:Cx) (pn:List (Addr × Obj)) (e:Addr):Cx:={ X with A:=X.A.mark (some (.ref e)),calm:=false,pn:=pn,xe:=fun _ _=>False }
theorem Cx.Ok.toH (ok:X.Ok) (pn:List (Addr × Obj)) (e:Addr):(hCx X pn e).Ok :=
 ⟨ok.mod,ok.kind,ok.glob,ok.blt,ok.above,ok.inj,ok.has,ok.cab,(fun z=>nomatch z),ok.frames,ok.stk,ok.exf,ok.bs,ok.bsz,ok.noex,ok.exfs,ok.funs,ok.frf,ok.tab⟩
theorem Inv.toH (I:Inv X pins σ H s) (e:Addr) {oe:Obj} (h1:s.heap.get? e=some oe) (h2:H e=none) (h3:e≠X.env.locals) (h4:e ∉ X.fs) (h5:∀ v,oe.data≠.cell v):Inv (hCx X ((e,oe)::(X.pn++pins)) e) [] σ H s :=
 ⟨I.ok.toH _ _,I.os,I.bare,I.base,I.loc,I.cell,I.free,I.freeC,fun p hp=>by
  rw [List.append_nil] at hp;rcases List.mem_cons.mp hp with rfl | hp
  .exact ⟨h1,h2,h3,h4,h5⟩
  .exact I.pin p hp,I.hok,I.len⟩
theorem Inv.ofH {e:Addr}{oe:Obj} (ok:X.Ok) (I:Inv (hCx X ((e,oe)::(X.pn++pins)) e) pins' σ H s):Inv X pins σ H s :=
 ⟨ok,I.os,I.bare,I.base,I.loc,I.cell,I.free,I.freeC,fun p hp=>I.pin p (List.mem_append_left _ (List.mem_cons_of_mem _ hp)),I.hok,I.len⟩
def HSu (X:Cx) (i:Nat) (C:Addr) (dd:Option Addr) (body:List Stmt) (H':Hp) (D:Ends):Prop:=∃ t:TS,(∀ pn e oe,(e,oe)∈pn->oe.cls=.ref C->(∀ d,dd=some d->oe.dict=some d)->PySem.W.notCls oe=true->PSs (hCx X pn e) body (fun D σ H=>σ[i]?=some (some (.ref e))/\t D σ H))/\∀ σ,σ.length=X.N.length->t { nx:=fun σ' H''=>D.nx (σ'.set i none) H'',rt:=D.rt } σ H'
theorem Inv.gone {m:Str->Option Value}{v:Option Value}{t i:Nat}{n:Str} (I:Inv X pins σ H s) (hN:X.N.Nodup) (hi:X.N[i]?=some n) (hn0:∀ (i:Nat) (x:Str) (v:V),X.N[i]?=some x->σ[i]?=some (some v)->Vis X.env.scope x->∃ u,RelV v u/\Look X.env s.heap m x u)
  (hn:h'.Ns X.env.locals (fun x=>if x=n then v else m x)) (hs:Heap.SameBut X.env.locals s.heap h'):Inv X pins (σ.set i none) H { s with heap:=h',toks:=t }:=by
 have I1:=I.lost (t:=t) hn hs;refine ⟨I1.ok,I1.os,I1.bare,I1.base,⟨_,hn,fun j x w e1 e2 e3=>?_⟩,I1.cell,I1.free,I1.freeC,I1.pin,I1.hok,by rw [List.length_set];exact I.len⟩;have hji:j≠i:=fun z=>by
  subst z;by_cases hl:j < σ.length
  .rw [List.getElem?_set_self hl] at e2;cases e2
  .rw [List.getElem?_eq_none (by rw [List.length_set];omega)] at e2;cases e2
 rw [List.getElem?_set_ne (Ne.symm hji)] at e2;have hxn:x≠n:=fun z=>hji (by
  subst z;obtain ⟨a1,a2⟩:=List.getElem?_eq_some_iff.mp e1;obtain ⟨b1,b2⟩:=List.getElem?_eq_some_iff.mp hi;exact (List.getElem_inj hN).mp (a2.trans b2.symm))
 obtain ⟨u,r,lk⟩:=hn0 j x w e1 e2 e3;refine ⟨u,r,?_⟩;rcases lk with ⟨a,b⟩ | ⟨a,c,b,d⟩
 .exact .inl ⟨a,by show (if x=n then v else m x)=some u;rw [if_neg hxn];exact b⟩
 .exact .inr ⟨a,c,b,d.sameBut hs (I.cne x c b)⟩
def abP (X:Cx) (D:Ends) (i:Nat) (Ch:Addr) (body:List Stmt):XK:=fun c dd H'=>∃ C,c=.ref C/\PySem.W.XcK X.K C/\PySem.W.exmOne X.K (.ref C) (.ref Ch)=some true/\HSu X i C dd body H' D
section
variable {i:Nat}{n:Str}{C:Addr}{H₁:Hp}{Q:VK} (Z:PySem.W.XcK X.K C) (hi:X.N[i]?=some n) (hloc:X.env.scope.names.lookup n=some .local) (hd1:(n == ("__debug__":Str))=false) (hd2:(n == ("__classdict__":Str))=false) (hgi:Gl X "isinstance") (hmi:X.mg "isinstance"=none)
include Z hi hloc hd1 hd2 hgi hmi
end
theorem caught {i:Nat}{hx n:Str}{st:Stmt}{body:List Stmt}{np hp:Pos}{Ch:Addr}{ev:Value} (hst:X.stack=X.env::X.outer) (hf:X.env.frame=some X.env.locals) (hN:X.N.Nodup) (hi:X.N[i]?=some n) (hloc:X.env.scope.names.lookup n=some .local)
  (hgx:Gl X hx) (hmx:X.mg hx=some (.ref Ch)) (hdx:(hx == ("__debug__":Str))=false)
  (I:Inv X pins σ H s) (hc:CX1 X.prog X.w X.stack H s (abP X D i Ch (st::body)) ev s') :
  Ou X pins D [.ExceptHandler (some (.Name hx np)) (some n) (st::body) hp] ev s':=by
 obtain ⟨e,C,a0,dd,H',B,rfl,ho,hg,u,hok,fl,hB,hD,hE⟩:=hc;have I':Inv X pins σ H' s':=I.call' (ch:=[]) ho u hok hg fun b hb=>nomatch hb
 have ffr:=I'.stkFree;have ffd:∀ b∈frs X.stack,∀ o,s'.heap.get? b=some o->∀ vs,o.data≠.fields vs:=fun b hb o e vs=>by
  obtain ⟨_,o',e',d⟩:=I'.stack.mem hb;rw [e] at e';cases e';exact d vs
 obtain ⟨C',hCe,Z,hmatch,tr,hpe,htr⟩:=hE;cases hCe;show wpAny _ _ (noteFrame (.ref e) X.env) _ _ _
 have fl0:=fl;rw [hst] at fl0;refine Qi (L:=X.env.locals) (by rw [I.ok.frames,hst]) hf fl0 fun h4 hd4 up4 ds4=>?_
 refine aan hd4 fun h5 fl5 up5 ds5=>?_
 obtain ⟨u5,hok5,hB5⟩:=uE u hok ffr ffd hB fl5.1 (up4.trans up5);have I5:Inv X pins σ H' { s' with heap:=h5 }:=I.call' (s':={ s' with heap:=h5 }) (ch:=[]) ho u5 hok5 hg fun b hb=>nomatch hb
 have own:∀ {h:Heap}{σ0:St},Heap.FlyingW B (X.env::X.outer) e (.ref C) a0 h->StB (frs X.stack) s.heap H' h B->Inv X pins σ0 H' { s' with heap:=h }->∃ oe,h.get? e=some oe/\oe.cls=.ref C/\H' e=none/\e≠X.env.locals/\e ∉ X.fs/\(∀ v,oe.data≠.cell v)/\PySem.W.notCls oe=true:=fun {h σ0} fy hb J=>by
  obtain ⟨oe,vs,he,hcl,hdt,_⟩:=fy.first;have hne:e ∉ frs X.stack:=fun z=>by
   obtain ⟨_,o',e',d⟩:=J.stack.mem z;have e'':h.get? e=some o':=e';rw [he] at e'';cases e'';exact d vs hdt
  have hne2:=hne;rw [rQ hst hf] at hne2;refine ⟨oe,he,hcl,?_,fun z=>hne2 (by rw [z];exact List.mem_cons_self),fun z=>hne2 (List.mem_cons_of_mem _ z),(fun v z=>by rw [hdt] at z;cases z),by unfold PySem.W.notCls;rw [hdt]⟩;cases q:H' e with
  | none=>rfl
  | some ob =>
   have:=hB;have z:=hb e oe he (.inr (by rw [q];exact fun z=>nomatch z)) hne;rw [fy.2.1] at z;cases z
 obtain ⟨oe,he,hcl,hHe,hel,hefs,hcell,_⟩:=own fl5 hB5 I5;have J5:=I5.toH e he hHe hel hefs hcell;refine wpAny_handleBy_cons (codeAny_handlers_test ?_) (by intro q;cases q);refine kZ (X:=hCx X ((e,oe)::(X.pn++pins)) e) J5 hgx hmx ?_ hdx;have LT:PySem.W.Looks (model X.prog X.w) h5 (typeOf (.ref e)) (.ref C):=hcl ▸ (PySem.W.Looks.ld he).andThen .now;refine (PySem.W.exm_one (M:=model X.prog X.w) (h:=h5) I5.kIn LT hmatch).here ?_;show codeAny _ _ _ _ _
 refine codeAny_handlers_suite_as ?_;refine Jd fl5 fun h6 fl6 up6 ds6=>?_
 obtain ⟨u6,hok6,hB6⟩:=uE u hok ffr ffd hB fl6.1 ((up4.trans up5).trans up6);have I6:Inv X pins σ H' { s' with heap:=h6 }:=I.call' (s':={ s' with heap:=h6 }) (ch:=[]) ho u6 hok6 hg fun b hb=>nomatch hb
 obtain ⟨oe6,he6,hcl6,hHe6,hel6,hefs6,hcell6,hnc6⟩:=own fl6 hB6 I6;have J6:=I6.toH e he6 hHe6 hel6 hefs6 hcell6;have hset:(σ.set i (some (V.ref e)))[i]?=some (some (.ref e)):=by
  rw [List.getElem?_set_self];have:=I.len;rw [this];exact (List.getElem?_eq_some_iff.mp hi).1
 refine Kd (X:=hCx X ((e,oe6)::(X.pn++pins)) e) J6 hN hi (.inl hloc) (show RelV (.ref e) (.ref e) from rfl) (fun s7 J7=>?_) (.inr hloc);have hD6:∀ d,dd=some d->oe6.dict=some d:=fun d hd=>by
  obtain ⟨o,e1,e2⟩:=((hD.ds ds4).ds (ds5.trans ds6)) d hd;rw [show h6.get? e=some oe6 from he6] at e1;cases e1;exact e2
 refine wpAny_mono (hpe _ _ _ List.mem_cons_self hcl6 hD6 hnc6 [] s7 _ H' { nx:=fun σ' H''=>D.nx (σ'.set i none) H'',rt:=D.rt } J7 ⟨hset,htr _ (by rw [List.length_set];exact I.len)⟩) (fun f s8 q=>?_) fun _ _ z=>z.elim
 cases f with
 | next =>
  obtain ⟨σ8,H8,J8,q8⟩:=q;obtain ⟨m8,hn8,hl8⟩:=J8.loc;have I8:Inv X pins σ8 _ s8:=J8.ofH I.ok;refine wpAny_nameGoes_keeps hloc hn8 (by rw [I.ok.kind];rfl) fun h9 v9 hn9 hs9=>?_
  exact ⟨_,_,I8.gone hN hi hl8 hn9 hs9,q8⟩
 | brk=>obtain ⟨_,_,_,z⟩:=q;exact z.elim
 | cont=>obtain ⟨_,_,_,z⟩:=q;exact z.elim
 | ret uu =>
  obtain ⟨v,σ8,H8,J8,rv,q8⟩:=q;obtain ⟨m8,hn8,_⟩:=J8.loc;have I8:Inv X pins σ8 _ s8:=J8.ofH I.ok;refine wpAny_nameGoes hloc hn8 (by rw [I.ok.kind];rfl) fun h9 m9 hn9 hs9=>?_
  exact ⟨v,_,_,I8.lost hn9 hs9,rv,q8⟩
end
end L2
namespace PySem.W
open PySem PySem.Spec PySem.Calls PyProof.Rows Builtin Builtin.Getset_descriptor
open Builtin.ObjectAttr in
section
variable {prog:Program}{w:World}{A:Around}{E:Value->Shared->Prop}{s:Shared}{K:Frag}{x C:Addr}{ox od:Obj}{name:Str}{v:Value}
theorem Y6 {expr:Bool}{Q:Value->Shared->Prop} (Z:XcK K C) (X:K.In s.heap) (I:InstAt s.heap x ox C (some od)) (hf:findObj K C (some od) name=some (.value v)) (hv:handedIn v=true) (hq:Q v { s with toks:=s.toks+1 }):wpAny (model prog w) A (getAttr (.ref x) name expr) Q E s:=by
 obtain ⟨hh,g,d,t,os⟩:=s;have J:yD x C hh:=⟨ox,I.at_,I.cls⟩;have L0:=I.type (M:=model prog w);have L1:=looks_findIn (M:=model prog w) X Z.ga;have L2:=looks_findIn (M:=model prog w) X Z.no;have L3:=looks_find (M:=model prog w) X I hf;have f3:=F.attr_ValueError.ga.bind (.ref x);have y2:(Value.builtin "BaseException.__getattribute__" == Value.builtin "object.__getattribute__")=false:=by decide +kernel
 have y1:(onTheHeap (Value.ref C) && Value.builtin "BaseException.__getattribute__" == Value.builtin "object.__getattribute__")=false:=by rw [y2]; rfl
 unfold getAttr getAttrBy;refine wpAny_bind (wpAny_mkText (wpAny_holding (wpAny_bind (L0.at (wpAny_bind (L1.at (show wpAny _ _ _ _ _ _ from ?_)))))));dsimp only;rw [y1,if_neg Bool.false_ne_true];show wpAny _ _ (getAttrByItsOwn _ _ _ _ _ _) _ _ _
 unfold getAttrByItsOwn callGetattribute;have y3:(expr && onTheHeap (Value.builtin "BaseException.__getattribute__"))=false:=Bool.and_false _
 rw [y3]
 repeat (any_goals (first | assumption | with_reducible refine L2.at ?_ | wp_step))
 refine codeAny_call_builtin F.attr_ValueError.ga.plain F.entry_bexc_ga (JX Z X J ?_);unfold Builtin.«object.__getattribute__»
 repeat lk
 show wpAny _ _ (handedOut v) _ _ _
 rw [handedOut_of hv];exact wpAny_pure hq
end
end PySem.W
namespace L2
open PySem PySem.Spec PyProof.Rows
section
variable {X:Cx}{e C d:Addr}{oe:Obj}{n:Str}{i:Nat}{p q:Pos}
theorem ab5 (hpn:(e,oe) ∈ X.pn) (hc:oe.cls=.ref C) (Z:PySem.W.XcK X.K C) (hdt:oe.dict=some d) (hno:PySem.W.notCls oe=true) (hdi:PySem.W.hasDictIn X.K C=true) (hat:PySem.W.findIn X.K (.ref C) "at"=some none) (hi:X.N[i]?=some n) (hv:Vis X.env.scope n) (hd1:(n == ("__debug__":Str))=false) (hd2:(n == ("__classdict__":Str))=false)
  (hb:attributeBase (.Name n p) "at" X.env (eval (.Name n p) X.env)=eval (.Name n p) X.env):PE X (.Attribute (.Name n p) "at" q) (fun σ H Q=>σ[i]?=some (some (.ref e)) /\ ∃ m:Int,H d=some (.xd [("at",.int m)]) /\ Q (.int m) H):=by
 intro pins s σ H Q I h;obtain ⟨h1,m,h2,h3⟩:=h;refine YT hb (thn (jY hi hv hd1 hd2 pins s σ H (fun v H1=>v=.ref e/\H1=H) I ⟨.ref e,h1,rfl,rfl⟩) fun u s1 ⟨x,H1,I1,rx,ex,eH⟩=>?_);subst ex eH;obtain rfl:u=Value.ref e:=rx;have hp:=I1.pin (e,oe) (List.mem_append_left _ hpn);obtain ⟨mA,n1,r⟩:=I1.hok d _ h2;obtain ⟨od,ho,hl⟩:=Ge n1;have J:PySem.W.InstAt s1.heap e oe C (some od):=⟨hp.1,hc,hno,by rw [hdt];exact ho⟩;have rm:=r "at"
 have e1:(List.lookup (Str.ofString "at") [((Str.ofString "at"),V.int m)])=some (.int m):=by rw [List.lookup_cons]; simp
 rw [show (List.lookup ("at":Str) [(("at":Str),V.int m)])=some (.int m) from e1] at rm
 cases hm:mA "at" with
 | none=>rw [hm] at rm;exact rm.elim
 | some u =>
  rw [hm] at rm;obtain ⟨t,rfl⟩:=(show ∃ t,u=Value.int m t from rm);exact PySem.W.Y6 Z I1.kIn J (PySem.W.findObj_own hdi hat rfl (by rw [hl,hm])) rfl ⟨.int m,H1,I1.tok _,⟨t,rfl⟩,h3⟩
end
end L2
namespace Mi
open PySem L2
open PyProof.Rows hiding St
noncomputable def iJ (k:D->R Out):R D->R Out
 | .ok d=>k d
 | .exc x=>.exc x
 | .stuck=>.stuck
theorem iK (k:D->R Out) (d:D):iJ k (.ok d)=k d:=rfl
theorem fO (k:D->R Out) (x:Xc):iJ k (.exc x)=.exc x:=rfl
noncomputable def pP (T:Tx) (N:List Str) (sc:Scope) (f:Nat) (es:List M) (e:Expr):Bool:=gJ e fun x as=>aL x && cF sc x && decide (T.F[f]?=some x) && cB T N es sc as && as.all noStar && !as.isEmpty
def AtD (H:Hp) (dd:Option Addr):D->Prop
 | .int n=>∃ d,dd=some d /\ H d=some (.xd [("at",.int n)])
 | _=>True
def XEnd (g:G) (E:Ent) (Es Hs:Hp) (O':Ow) (D:Ends) (Ez:Xc->Option Addr->Hp->Prop):R Out->Prop
 | .ok o=>jt g E Es Hs O' [] D o
 | .exc x=>∀ H' Hs' dd,Grow E.hp Es H' Hs'->AtD H' dd x.val->Ez x dd H'
 | .stuck=>False
theorem XEnd.mono {g:G}{E:Ent}{Es Hs Hs1:Hp}{O':Ow}{D:Ends}{Ez:Xc->Option Addr->Hp->Prop}{r:R Out} (h:XEnd g E Es Hs O' D Ez r) (m:Same Hs Hs1):XEnd g E Es Hs1 O' D Ez r:=by
 cases r with
 | ok o=>exact jt.mono h m
 | exc x=>exact h
 | stuck=>exact h
def tMX (X:Cx) (E:Ent) (Es:Hp) (O:List Nat) (O':Ow) (Ez:Xc->Option Addr->Hp->Prop) (run:En->R Out):TS:=fun D σ H=>∃ ρ Hs,FR (gOf X) E Es O ρ σ H Hs/\XEnd (gOf X) E Es Hs O' D Ez (run ρ)
def Jl (g:G) (mg:Str->Option Value) (H Hs:Hp) (Q:VK) (E:XK):R D->Prop
 | .ok d=>∀ v H' Hs',Grow H Hs H' Hs'->Rp g Hs' d v->Q v H'
 | .exc x=>∀ H' Hs' C dd,mg x.cls=some (.ref C)->Grow H Hs H' Hs'->AtD H' dd x.val->E (.ref C) dd H'
 | .stuck=>False
def spX (g:G) (mg:Str->Option Value) (c:List D->R D) (np:Nat):Sp:=fun vs H Q E=>∃ ds Hs,vs.length=np/\Same Hs H/\Rps g Hs ds vs/\Jl g mg H Hs Q E (c ds)
section
variable {T:Tx}{sc:Scope}
theorem Dp {N:List Str}{f:Nat}{es:List M}{e:Expr} (h:pP T N sc f es e=true):∃ x p y ys q,e=.Call (.Name x p) (y::ys) [] q/\aL x=true/\cF sc x=true/\T.F[f]?=some x/\cB T N es sc (y::ys)=true/\(y::ys).all noStar=true:=by
 obtain ⟨x,p,as,q,rfl,h2⟩:=cC h;simp only [Bool.and_eq_true,decide_eq_true_eq,Bool.not_eq_true'] at h2;obtain ⟨⟨⟨⟨⟨h1,h3⟩,h4⟩,h5⟩,h6⟩,h7⟩:=h2;rcases as with _ | ⟨y,ys⟩
 .cases h7
 exact ⟨x,p,y,ys,q,rfl,h1,h3,h4,h5,h6⟩
end
end Mi
namespace L2
open PySem PySem.Spec PyProof.Rows
section
variable {M:Model}{A:Around}{E:Value->Shared->Prop}{s:Shared}
end
section
variable {X:Cx}{E:XK}{pins:List (Addr × Obj)}{σ:St}{H3:Hp}{s3:Shared}{fp:List Addr}{scope:Scope}{use:Option (Value->Sem Unit)}{Qv:Value->Shared->Prop}{acc:Value}
end
end L2
namespace Mi
open PySem L2
open PyProof.Rows hiding St
section
variable {X:Cx}{U:List Nat}{Ek:XK}{r:En->R D}
def tIx (X:Cx) (Ek:XK) (U:List Nat) (r:En->R D):TI:=fun σ H R=>∃ ρ Hs,Same Hs H/\Vs (gOf X) ρ σ Hs U/\match r ρ with
 | .ok (.lst ds)=>∀ J H' Hs',Grow H Hs H' Hs'->Src (gOf X) J Hs' ds->R J H'
 | .exc x=>∀ H' Hs' C dd,X.mg x.cls=some (.ref C)->Grow H Hs H' Hs'->AtD H' dd x.val->Ek (.ref C) dd H'
 | _=>False
def aa6 (f:D->R D):List D->R (List D)
 | []=>.ok []
 | d::ds=>do
  let y <- f d
  let ys <- aa6 f ds
  .ok (y::ys)
noncomputable def acY:D->R (List D)
 | .lst ds=>if ds.length<=lim then .ok ds else .stuck
 | _=>.stuck
def acS (rr:R (List D)):R D:=do
 let ys <- rr
 if ys.length<=lim then .ok (.lst ys) else .stuck
end
inductive XE where
 | m (e:M)
 | call (f:Nat) (es:List M)
 | comp (elt:XE) (tg:Tg) (src:XE) (cap:List Bool)
 | tupl (e:XE)
def noX:R D->R D
 | .ok d=>.ok d
 | _=>.stuck
def acO (cl:List D->R D):R (List D)->R D
 | .ok ds=>cl ds
 | _=>.stuck
noncomputable def ab4:D->R D
 | .lst ds=>.ok (.tup ds)
 | _=>.stuck
def Ba (cl:Nat->List D->R D):XE->En->R D
 | .m e,ρ=>noX (evE cl e ρ)
 | .call f es,ρ=>acO (cl f) (aW cl es ρ)
 | .comp elt t src cap,ρ=>do
  let s <- Ba cl src ρ
  let ds <- acY s
  acS (aa6 (fun d=>do let ρ' <- fu t d (aZ cap ρ);Ba cl elt ρ') ds)
 | .tupl e,ρ=>do
  let d <- Ba cl e ρ
  ab4 d
noncomputable def Hg:XE->List Nat
 | .m e=>aJ e
 | .call _ es=>aM es
 | .comp elt _ src _=>Hg src++Hg elt
 | .tupl e=>Hg e
section
variable {T:Tx}{cl:Nat->List D->R D}{Ek:XK}
end
end Mi
namespace Mi
open PySem L2
open PyProof.Rows hiding St
section
variable {T:Tx}{cl:Nat->List D->R D}{Ek:XK}
variable {X:Cx}{sc:Scope}{E:Ent}{Es:Hp}{O:List Nat}{pos:Pos}{Ez:Xc->Option Addr->Hp->Prop}
end
end Mi
namespace Mi
open PySem L2
open PyProof.Rows hiding St
noncomputable def c7 (x k:Str):Bool:=decide (x=k) || decide (k=("TestError":Str)) || decide (k=("ValueError":Str))
inductive HR where
 | one (i:Nat) (k:Str) | con (b:Bool)
inductive HE where
 | isx (k:Str) | nisx (k:Str) | att | str (s:Str)
inductive HB where
 | ret (es:List HE) | ifx (k:Str) (a b:List HE)
inductive XS where
 | n (m:MS) | rai (c:Str) | ce (f:Nat) (es:List M) | cr (f:Nat) (es:List M) | cs (i f:Nat) (es:List M)
 | cn (i f g:Nat) (es:List M)
 | xr (e:XE) | xs (i:Nat) (e:XE)
 | ifs (c:M) (a b:List XS) | tr (b:List XS) (i:Nat) (hc:Str) (ks xs:List Str) | tc (b:List XS) (hc:Str) (h:HR) (xs:List Str) | any | lam (g:Nat)
 | rl (g:Nat) (es:List M)
 | th (b:List XS) (i:Nat) (hc:Str) (h:HB) (xs:List Str)
 | ts (b:List XS) (i v:Nat) (hc:Str) (kss:List (List Str)) (xs:List Str)
def NP:R Out->R Out
 | .ok o=>.ok o
 | _=>.stuck
noncomputable def nA (cl:Nat->List D->R D) (f:Nat) (k:D->R Out):R (List D)->R Out
 | .ok ds=>iJ k (cl f ds)
 | _=>.stuck
noncomputable def El (hc:Str) (ks xs:List Str):R Out->R Out
 | .exc x=>if xs.contains x.cls && c7 x.cls hc && decide (ks.length<=lim) then .ok (.rt (.lst (ks.map fun k=>.bl (c7 x.cls k)))) else .stuck
 | r=>r
noncomputable def hrD (x:Str):HR->Bool
 | .one _ k=>c7 x k
 | .con b=>b
noncomputable def Eo (hc:Str) (h:HR) (xs:List Str):R Out->R Out
 | .exc x=>if xs.contains x.cls && c7 x.cls hc then .ok (.rt (.bl (hrD x.cls h))) else .stuck
 | r=>r
noncomputable def nestD:R D->R Out
 | .exc x=>.exc x
 | _=>.stuck
noncomputable def yP (cl:Nat->List D->R D) (g:Nat):R (List D)->R Out
 | .ok ds=>nestD (cl g ds)
 | _=>.stuck
noncomputable def yH (a b:R Out):R D->R Out
 | .ok (.bl true)=>a
 | .ok (.bl false)=>b
 | _=>.stuck
def oW:Str:="no test of the book at place "
noncomputable def nC (k:Nat):Bool:=decide ((k:Int).natAbs.log2 < 1920) && decide ((Str.empty++oW++Str.ofString (toString (k:Int))).length<=sizeLine)
noncomputable def fJ (k:Nat):R D:=if nC k=true then .exc ⟨"BadTests",.int k⟩ else .stuck
noncomputable def gk (f:D->R D):Nat->List D->R D
 | _,[]=>.ok .non
 | k,t::ts=>match f t with
  | .ok (.bl true)=>gk f (k+1) ts
  | .ok (.bl false)=>fJ k
  | _=>.stuck
noncomputable def jk (f:D->R D):D->R D
 | .lst ts=>gk f 0 ts
 | _=>fJ 0
noncomputable def adB (cl:Nat->List D->R D) (g:Nat) (ρ:En):R Out:=match cY ρ 0,cY ρ 1 with
 | .ok b,.ok d=>iJ (fun _=>.ok (.nx ρ)) (jk (fun t=>cl g [b,t]) d)
 | _,_=>.stuck
noncomputable def Dn (n v:Nat) (hc:Str) (ks xs:List Str):R Out->R Out
 | .exc x=>if xs.contains x.cls && c7 x.cls hc && decide (ks.length<=lim) then .ok (.nx ((List.replicate n none).set v (some (.lst (ks.map fun k=>.bl (c7 x.cls k)))))) else .stuck
 | r=>r
noncomputable def heD (x:Xc):HE->R D
 | .isx k=>.ok (.bl (c7 x.cls k))
 | .nisx k=>.ok (.bl (!c7 x.cls k))
 | .str s=>.ok (.str s)
 | .att=>match x.val with | .int n=>.ok (.int n) | _=>.stuck
def jr (x:Xc):List HE->R (List D)
 | []=>.ok []
 | e::es=>do
  let d <- heD x e
  let ds <- jr x es
  .ok (d::ds)
noncomputable def CN (x:Xc):HB->List HE
 | .ret es=>es
 | .ifx k a b=>if c7 x.cls k=true then a else b
def hbD (x:Xc) (h:HB):R D:=do
 let ds <- jr x (CN x h)
 if ds.length<=lim then .ok (.lst ds) else .stuck
def uD (hc:Str) (h:HB) (xs:List Str):R Out->R Out
 | .exc x=>if (xs.contains x.cls && c7 x.cls hc)=true then iJ (fun d=>.ok (.rt d)) (hbD x h) else .stuck
 | r=>r
mutual
def dB (cl:Nat->List D->R D):XS->En->R Out
 | .n m,ρ=>NP (bU cl m ρ)
 | .rai c,_=>.exc ⟨c,.non⟩
 | .ce f es,ρ=>nA cl f (fun _=>.ok (.nx ρ)) (aW cl es ρ)
 | .cr f es,ρ=>nA cl f (fun d=>.ok (.rt d)) (aW cl es ρ)
 | .cs i f es,ρ=>nA cl f (fun d=>.ok (.nx (ρ.set i (some d)))) (aW cl es ρ)
 | .cn _ _ g es,ρ=>yP cl g (aW cl es ρ)
 | .xr e,ρ=>iJ (fun d=>.ok (.rt d)) (Ba cl e ρ)
 | .xs i e,ρ=>iJ (fun d=>.ok (.nx (ρ.set i (some d)))) (Ba cl e ρ)
 | .ifs c a b,ρ=>yH (aR cl a ρ) (aR cl b ρ) (evE cl c ρ)
 | .tr b _ hc ks xs,ρ=>El hc ks xs (aR cl b ρ)
 | .tc b hc h xs,ρ=>Eo hc h xs (aR cl b ρ)
 | .any,_=>.stuck
 | .lam g,ρ=>adB cl g ρ
 | .rl g es,ρ=>yP cl g (aW cl es ρ)
 | .th b _ hc h xs,ρ=>uD hc h xs (aR cl b ρ)
 | .ts b _ v hc kss xs,ρ=>Dn ρ.length v hc kss.flatten xs (aR cl b ρ)
def aR (cl:Nat->List D->R D):List XS->En->R Out
 | [],ρ=>.ok (.nx ρ)
 | m::ms,ρ=>(match dB cl m ρ with
   | .ok (.nx ρ')=>aR cl ms ρ'
   | r=>r)
end
section
variable (cl:Nat->List D->R D) (ρ:En)
theorem jX (m:MS):dB cl (.n m) ρ=NP (bU cl m ρ):=rfl
theorem fG (c:Str):dB cl (.rai c) ρ=.exc ⟨c,.non⟩:=rfl
theorem fZ (f:Nat) (es:List M):dB cl (.ce f es) ρ=nA cl f (fun _=>.ok (.nx ρ)) (aW cl es ρ):=rfl
theorem gj (f:Nat) (es:List M):dB cl (.cr f es) ρ=nA cl f (fun d=>.ok (.rt d)) (aW cl es ρ):=rfl
theorem gP (i f:Nat) (es:List M):dB cl (.cs i f es) ρ=nA cl f (fun d=>.ok (.nx (ρ.set i (some d)))) (aW cl es ρ):=rfl
theorem ac1 (i f g:Nat) (es:List M):dB cl (.cn i f g es) ρ=yP cl g (aW cl es ρ):=rfl
theorem iQ (e:XE):dB cl (.xr e) ρ=iJ (fun d=>.ok (.rt d)) (Ba cl e ρ):=rfl
theorem iT (i:Nat) (e:XE):dB cl (.xs i e) ρ=iJ (fun d=>.ok (.nx (ρ.set i (some d)))) (Ba cl e ρ):=rfl
theorem Wz (g:Nat) (ds:List D):yP cl g (.ok ds)=nestD (cl g ds):=rfl
theorem dh (c:M) (a b:List XS):dB cl (.ifs c a b) ρ=yH (aR cl a ρ) (aR cl b ρ) (evE cl c ρ):=rfl
theorem iM (b:List XS) (i:Nat) (hc:Str) (ks xs:List Str):dB cl (.tr b i hc ks xs) ρ=El hc ks xs (aR cl b ρ):=rfl
theorem iV (b:List XS) (hc:Str) (h:HR) (xs:List Str):dB cl (.tc b hc h xs) ρ=Eo hc h xs (aR cl b ρ):=rfl
theorem iR (hc:Str) (h:HR) (xs:List Str) (o:Out):Eo hc h xs (.ok o)=.ok o:=rfl
theorem iw (g:Nat) (es:List M):dB cl (.rl g es) ρ=yP cl g (aW cl es ρ):=rfl
theorem iy (b:List XS) (i:Nat) (hc:Str) (h:HB) (xs:List Str):dB cl (.th b i hc h xs) ρ=uD hc h xs (aR cl b ρ):=rfl
theorem je (hc:Str) (h:HB) (xs:List Str) (o:Out):uD hc h xs (.ok o)=.ok o:=rfl
theorem iZ (b:List XS) (i v:Nat) (hc:Str) (kss:List (List Str)) (xs:List Str):dB cl (.ts b i v hc kss xs) ρ=Dn ρ.length v hc kss.flatten xs (aR cl b ρ):=rfl
theorem iY (n v:Nat) (hc:Str) (ks xs:List Str) (o:Out):Dn n v hc ks xs (.ok o)=.ok o:=rfl
theorem fH:dB cl .any ρ=.stuck:=rfl
def yO (ms:List XS):R Out->R Out
 | .ok (.nx ρ')=>aR cl ms ρ'
 | r=>r
theorem dG:aR cl [] ρ=.ok (.nx ρ):=rfl
theorem aU (m:XS) (ms:List XS):aR cl (m::ms) ρ=yO cl ms (dB cl m ρ):=rfl
theorem ji (ms:List XS):yO cl ms (.ok (.nx ρ))=aR cl ms ρ:=rfl
theorem jd (ms:List XS) (d:D):yO cl ms (.ok (.rt d))=.ok (.rt d):=rfl
theorem fC (ms:List XS) (x:Xc):yO cl ms (.exc x)=.exc x:=rfl
theorem dM (o:Out):NP (.ok o)=.ok o:=rfl
theorem eU (f:Nat) (k:D->R Out) (ds:List D):nA cl f k (.ok ds)=iJ k (cl f ds):=rfl
theorem jJ (a b:R Out):yH a b (.ok (.bl true))=a:=rfl
theorem jA (a b:R Out):yH a b (.ok (.bl false))=b:=rfl
theorem iU (hc:Str) (ks xs:List Str) (o:Out):El hc ks xs (.ok o)=.ok o:=rfl
end
structure XT where
 xs:List Str
 hs:List Str
 kx:List Str
noncomputable def Vz (sc:Scope) (st:Stmt) (c:Str):Bool:=isS 16 st && match st with
 | .Raise (some e) none _=>gJ e fun x es=>(match es with
  | [a]=>isK 19 a && (match a with | .Constant (.str _) _ _=>decide (x=c) && aL x && cF sc x | _=>false)
  | _=>false)
 | _=>false
theorem Ro {s:Stmt}{b:Bool} (h:(isS 16 s && b)=true):∃ x y p,s=.Raise x y p:=Stmt.Raise.elim s (j7 h) fun _ _ _=>⟨_,_,_,rfl⟩
theorem Xz {s:Stmt}{b:Bool} (h:(isS 17 s && b)=true):∃ x y z w p,s=.Try x y z w p:=Stmt.Try.elim s (j7 h) fun _ _ _ _ _=>⟨_,_,_,_,_,rfl⟩
theorem xU {e:Expr}{b:Bool} (h:(isK 19 e && b)=true):∃ x y p,e=.Constant x y p:=Expr.Constant.elim (motive_1:=fun e=>∃ x y p,e=.Constant x y p) e (iG h) fun _ _ _=>⟨_,_,_,rfl⟩
theorem Ye {sc:Scope}{st:Stmt}{c:Str} (h:Vz sc st c=true):∃ np tx k tp cp pos,st=.Raise (some (.Call (.Name c np) [.Constant (.str tx) k tp] [] cp)) none pos/\aL c=true/\cF sc c=true:=by
 obtain ⟨x,y,p,rfl⟩:=Ro h;cases x with
 | none=>cases h
 | some e =>
  cases y with
  | some _=>cases h
  | none =>
   obtain ⟨x,np,es,q,rfl,h2⟩:=cC (show gJ e _=true from h);rcases es with _ | ⟨a,_ | ⟨a2,es⟩⟩ <;> try (cases h2;done)
   obtain ⟨c',k,tp,rfl⟩:=xU (show (isK 19 a && _)=true from h2);cases c' <;> try (cases h2;done)
   replace h2:(decide (x=c) && aL x && cF sc x)=true:=h2;simp only [Bool.and_eq_true,decide_eq_true_eq] at h2;obtain ⟨⟨rfl,h3⟩,h4⟩:=h2;exact ⟨np,_,k,tp,q,p,rfl,h3,h4⟩
noncomputable def Nm (T:Tx) (N:List Str) (sc:Scope) (f g:Nat) (es:List M) (e:Expr):Bool:=gJ e fun x as=>match as with
 | a::rest=>aL x && cF sc x && decide (T.F[f]?=some x) && pP T N sc g es a && noStar a && rest.all noStar
 | []=>false
noncomputable def rlB (T:Tx) (N:List Str) (sc:Scope) (g:Nat) (es:List M) (e:Expr):Bool:=isK 15 e && (match e with
 | .Compare a [.Eq] [.Constant (.int _) _ _] _=>gJ a fun x as=>(match as with | [b]=>decide (x="len") && cF sc x && pP T N sc g es b && noStar b | _=>false)
 | _=>false)
noncomputable def oM (sc:Scope) (n:Str):List Expr->List Str->Bool
 | [],[]=>true
 | e::es,k::ks=>(gJ e fun x as=>match as with
  | [a,b]=>isK 23 a && (isK 23 b && (match a,b with | .Name y _,.Name z _=>decide (x="isinstance") && decide (y=n) && decide (z=k) && cF sc z && aL z | _,_=>false))
  | _=>false) && oM sc n es ks
 | _,_=>false
noncomputable def Al (sc:Scope) (x:Str):Bool:=match sc.names.lookup x with
 | some .local=>true | _=>false
noncomputable def adI (xt:XT) (N:List Str) (sc:Scope) (i:Nat) (hc:Str) (ks xs:List Str):List ExceptHandler->Bool
 | [.ExceptHandler (some h) (some n) [r] _]=>isK 23 h && (isS 3 r && (match h,r with
  | .Name x _,.Return (some l) _=>isK 24 l && (match l with
   | .List es _=>decide (x=hc) && cF sc x && aL x && decide (N[i]?=some n) && Al sc n && aL n && cF sc "isinstance" && oM sc n es ks && xt.hs.contains hc && (ks.all fun k=>xt.kx.contains k) && (xs.all fun x=>xt.xs.contains x)
   | _=>false)
  | _,_=>false))
 | _=>false
noncomputable def hsB (sc:Scope) (n v:Str):Bool->List Stmt->List (List Str)->Bool
 | _,[],[]=>true
 | fst,st::sts,ks::kss=>isS 5 st && (match st with
  | .Assign [tg] e _=>isK 23 tg && (match tg with
   | .Name y _=>decide (y=v) && (if fst then isK 24 e && (match e with | .List es _=>oM sc n es ks | _=>false)
    else isK 2 e && (match e with | .BinOp a .Add b _=>isK 23 a && (isK 24 b && (match a,b with | .Name z _,.List es _=>decide (z=v) && oM sc n es ks | _,_=>false)) | _=>false))
   | _=>false)
  | _=>false) && hsB sc n v false sts kss
 | _,_,_=>false
noncomputable def hasB (xt:XT) (N:List Str) (sc:Scope) (i v:Nat) (hc:Str) (kss:List (List Str)) (xs:List Str):List ExceptHandler->Bool
 | [.ExceptHandler (some h) (some n) (s0::sts) _]=>isK 23 h && (match h with
  | .Name x _=>decide (x=hc) && cF sc x && aL x && decide (N[i]?=some n) && Al sc n && aL n && cF sc "isinstance" && (match N[v]? with | some y=>aL y && Al sc y && hsB sc n y true (s0::sts) kss | none=>false) && decide (i ≠ v) && xt.hs.contains hc && (kss.flatten.all fun k=>xt.kx.contains k) && (xs.all fun x=>xt.xs.contains x)
  | _=>false)
 | _=>false
noncomputable def heB (sc:Scope) (n:Str):HE->Expr->Bool
 | .isx k,e=>oM sc n [e] [k]
 | .nisx k,e=>isK 3 e && (match e with | .UnaryOp .Not a _=>oM sc n [a] [k] | _=>false)
 | .att,e=>isK 20 e && (match e with | .Attribute a m _=>isK 23 a && (match a with | .Name y _=>decide (y=n) && decide (m="at") | _=>false) | _=>false)
 | .str s,e=>isK 19 e && (match e with | .Constant (.str t) _ _=>decide (t=s) | _=>false)
noncomputable def Jp (sc:Scope) (n:Str):List HE->List Expr->Bool
 | [],es=>es.isEmpty
 | h::hs,es=>match es with | e::es=>heB sc n h e && noStar e && Jp sc n hs es | []=>false
noncomputable def Ax (sc:Scope) (n:Str) (hs:List HE) (st:Stmt):Bool:=isS 3 st && (match st with | .Return (some l) _=>isK 24 l && (match l with | .List es _=>Jp sc n hs es | _=>false) | _=>false)
noncomputable def hbB (sc:Scope) (n:Str):HB->List Stmt->Bool
 | .ret es,[r]=>Ax sc n es r
 | .ifx k a b,[s1,s2]=>isS 12 s1 && (match s1 with | .If c [r] [] _=>oM sc n [c] [k] && Ax sc n a r | _=>false) && Ax sc n b s2
 | _,_=>false
noncomputable def heK:HE->List Str
 | .isx k=>[k]
 | .nisx k=>[k]
 | _=>[]
noncomputable def hbK:HB->List Str
 | .ret es=>es.flatMap heK
 | .ifx k a b=>k::(a.flatMap heK++b.flatMap heK)
noncomputable def Wh (xt:XT) (N:List Str) (sc:Scope) (i:Nat) (hc:Str) (h:HB) (xs:List Str):List ExceptHandler->Bool
 | [.ExceptHandler (some t) (some n) (s0::sts) _]=>isK 23 t && (match t with
  | .Name x _=>decide (x=hc) && cF sc x && aL x && decide (N[i]?=some n) && Al sc n && aL n && cF sc "isinstance" && hbB sc n h (s0::sts) && xt.hs.contains hc && ((hbK h).all fun k=>xt.kx.contains k) && (xs.all fun x=>xt.xs.contains x)
  | _=>false)
 | _=>false
mutual
noncomputable def okX (T:Tx) (xt:XT) (N:List Str) (sc:Scope) (ra:Bool):XS->Stmt->Bool
 | .n m,st=>okS T N sc m st
 | .rai c,st=>ra && xt.xs.contains c && Vz sc st c && decide (c ≠ "BadTests")
 | .ce f es,st=>isS 24 st && match st with | .Expr v _=>pP T N sc f es v | _=>false
 | .cr f es,st=>isS 3 st && match st with | .Return (some v) _=>pP T N sc f es v | _=>false
 | .cs i f es,st=>isS 5 st && match st with | .Assign [tg] v _=>tgB N sc (.one i) tg && pP T N sc f es v | _=>false
 | .cn i f g es,st=>isS 5 st && match st with | .Assign [tg] v _=>tgB N sc (.one i) tg && Nm T N sc f g es v | _=>false
 | .xr _,_=>false
 | .xs _ _,_=>false
 | .ifs c a b,st=>isS 12 st && match st with | .If c' a' b' _=>okE T N c sc c' && tW T xt N sc ra a a' && tW T xt N sc ra b b' | _=>false
 | .tr _ _ _ _ _,_=>false
 | .tc _ _ _ _,_=>false
 | .any,_=>true
 | .lam _,_=>false
 | .rl g es,st=>isS 3 st && match st with | .Return (some v) _=>rlB T N sc g es v | _=>false
 | .th b i hc h xs,st=>isS 17 st && match st with | .Try body hs [] [] _=>tW T xt N sc false b body && Wh xt N sc i hc h xs hs | _=>false
 | .ts _ _ _ _ _ _,_=>false
noncomputable def tW (T:Tx) (xt:XT) (N:List Str) (sc:Scope) (ra:Bool):List XS->List Stmt->Bool
 | [],sts=>sts.isEmpty
 | m::ms,sts=>match sts with | st::sts=>okX T xt N sc ra m st && tW T xt N sc ra ms sts | []=>false
end
mutual
noncomputable def N7:XS->List Nat->Option Ow
 | .n m,O=>tV [] m O
 | .rai _,O=>some none
 | .ce _ es,O=>some (some (without O (aM es)))
 | .cr _ es,O=>some none
 | .cs i _ es,O=>some (some (without (without O (aM es)) [i]))
 | .cn _ _ _ _,O=>some none
 | .xr _,O=>some none
 | .xs i e,O=>some (some (without (without O (Hg e)) [i]))
 | .ifs c a b,O=>do
  let x <- jh a O
  let y <- jh b O
  some (iu x y)
 | .tr b _ _ _ _,O=>jh b O
 | .tc b _ _ _,O=>jh b O
 | .any,O=>some none
 | .lam _,O=>some (some O)
 | .rl _ _,O=>some none
 | .th b _ _ _ _,O=>jh b O
 | .ts b _ _ _ _ _,O=>do
  let _ <- jh b []
  some (some [])
noncomputable def jh:List XS->List Nat->Option Ow
 | [],O=>some (some O)
 | m::ms,O=>do
  let x <- N7 m O
  match x with
  | none=>some none
  | some O1=>jh ms O1
end
structure XF (xt:XT) (K:PySem.W.Frag) (mg:Str->Option Value):Prop where
 cls:∀ x ∈ xt.xs,∃ C,mg x=some (.ref C) /\ PySem.W.XcK K C /\ (x ≠ "BadTests" -> PySem.W.excIn K C L2.rY "ValueError.__new__"=true)
 mat:∀ x∈xt.xs,∀ h∈xt.hs,∃ C Ch,mg x=some (.ref C)/\mg h=some (.ref Ch)/\PySem.W.exmOne K (.ref C) (.ref Ch)=some (c7 x h)
 kit:∀ x ∈ xt.xs,∀ k ∈ xt.kx,∃ C c,mg x=some (.ref C) /\ ((∃ a,c=.ref a /\ mg k=some (.ref a)) \/ (∃ n,c=.type n /\ mg k=none /\ bootBuiltins k=some (.type n) /\ k ≠ "__name__")) /\ PySem.W.kitOne K (.ref C) c=some (c7 x k)
structure XCok (T:Tx) (xt:XT) (cl:Nat->List D->R D) (X:Cx) (Ek:XK) (Ez:Xc->Option Addr->Hp->Prop) (ra:Bool):Prop where
 pass:Passes (CX1 X.prog X.w) X Ek
 rz:ra=true->XOk X Ek
 ez:∀ x C dd H',X.mg x.cls=some (.ref C)->Ez x dd H'->Ek (.ref C) dd H'
 facts:XF xt X.K X.mg
 fns:∀ f x,T.F[f]?=some x->∃ k a fd ps,FnOk X.prog X.w X.K X.mg X.base (CX1 X.prog X.w) k a fd ps (spX (gOf X) X.mg (cl f) ps.length)/\Room k X.A/\X.mg x=some (.ref a)/\PySem.W.keepIn X.K (.ref a)=true/\Binds X.K fd ps []/\(∀ ds,cl f ds≠.stuck->ds.length=ps.length)
 hst:X.stack=X.env::X.outer
 hfr:X.env.frame=some X.env.locals
section
variable {T:Tx}{xt:XT}{cl:Nat->List D->R D}{X:Cx}{sc:Scope}{E:Ent}{Es:Hp}{O:List Nat}{pos:Pos}{Ek:XK}{Ez:Xc->Option Addr->Hp->Prop}{ra:Bool}
theorem Cj {f:Nat}{ms:List M}{e:Expr} (C:Cok T cl X) (S:ScRel sc X) (XC:XCok T xt cl X Ek Ez ra) (h:pP T X.N sc f ms e=true) :
  PE X e (fun σ H Q=>∃ ρ Hs ds,Same Hs H/\Vs (gOf X) ρ σ Hs (aM ms)/\aW cl ms ρ=.ok ds/\Jl (gOf X) X.mg H Hs Q Ek (cl f ds)):=by
 obtain ⟨x,p,y,ys,q,rfl,ho,hg,hF,h2,hn⟩:=Dp h;unfold aL at ho;simp only [Bool.and_eq_true,Bool.not_eq_true'] at ho;obtain ⟨k,a,fd,ps,FX,hr,hm,hk,hb,hlen⟩:=XC.fns f x hF;have pa:=jO C S (fun m _=>good m) h2 hn;simp only [List.all_cons,Bool.and_eq_true] at hn;refine bB (Dq FX hr (S.glb _ hg) hm hk hb .nil XC.pass pa ho.1.1 (aG hn.1) (eZ hn.2)) fun σ H Q=>?_
 rintro ⟨ρ,Hs,ds,hs,hv,hev,hk⟩;refine ⟨ρ,Hs,ds,hs,hv,hev,fun vs H1 Hs1 g1 r1=>?_⟩;show spX (gOf X) X.mg (cl f) ps.length (vs++[]) H1 Q Ek
 rw [List.append_nil];have hne:cl f ds≠.stuck:=fun z=>by rw [z] at hk;exact hk
 refine ⟨ds,Hs1,by rw [<- r1.length];exact hlen ds hne,g1.sub,r1,?_⟩;cases hcl:cl f ds with
 | ok d=>rw [hcl] at hk;exact fun v H' Hs' g r=>hk v H' Hs' (g1.trans g) r
 | exc x=>rw [hcl] at hk;exact fun H' Hs' C dd hC g hd=>hk H' Hs' C dd hC (g1.trans g) hd
 | stuck=>exact absurd hcl hne
theorem vD {f:Nat}{k:D->R Out}{re:R (List D)}{g:G}{Hs:Hp}{O':Ow}{D:Ends} (h:XEnd g E Es Hs O' D Ez (nA cl f k re)):∃ ds,re=.ok ds/\XEnd g E Es Hs O' D Ez (iJ k (cl f ds)):=by
 cases re with
 | ok ds=>exact ⟨ds,rfl,h⟩
 | exc x=>exact h.elim
 | stuck=>exact h.elim
theorem acL {f:Nat}{ms:List M}{e:Expr} (C:Cok T cl X) (S:ScRel sc X) (XC:XCok T xt cl X Ek Ez ra) (h:pP T X.N sc f ms e=true):PS X (.Expr e pos) (tMX X E Es O (some (without O (aM ms))) Ez (dB cl (.ce f ms))):=by
 have hnc:jZ e=true:=by obtain ⟨x,p,y,ys,q,rfl,_⟩:=Dp h;rfl
 refine bJ (yJ (Cj C S XC h) (jF hnc)) fun D σ H=>?_
 rintro ⟨ρ,Hs,F,k⟩;obtain ⟨ds,hds,k⟩:=vD k;obtain ⟨Hs1,F1,m1,vs⟩:=F.pubU (aM ms);refine ⟨ρ,Hs1,ds,F1.sub,vs,hds,?_⟩;cases hcl:cl f ds with
 | ok d=>rw [hcl] at k;exact fun v H' Hs' g r=>k _ rfl _ _ _ (F1.grown g) (m1.trans (g.same F1.sub))
 | exc x=>rw [hcl] at k;exact fun H' Hs' C' dd hC g hd=>XC.ez _ _ _ _ hC (k H' Hs' dd (F1.grow.trans g) hd)
 | stuck=>rw [hcl] at k;exact k
theorem ab0 {f:Nat}{ms:List M}{e:Expr} (C:Cok T cl X) (S:ScRel sc X) (XC:XCok T xt cl X Ek Ez ra) (h:pP T X.N sc f ms e=true):PS X (.Return (some e) pos) (tMX X E Es O none Ez (dB cl (.cr f ms))):=by
 refine bJ (CT (Cj C S XC h)) fun D σ H=>?_
 rintro ⟨ρ,Hs,F,k⟩;obtain ⟨ds,hds,k⟩:=vD k;obtain ⟨Hs1,F1,m1,vs⟩:=F.pubU (aM ms);refine ⟨ρ,Hs1,ds,F1.sub,vs,hds,?_⟩;cases hcl:cl f ds with
 | ok d=>rw [hcl] at k;exact fun v H' Hs' g r=>k v H' Hs' (F1.grow.trans g) r
 | exc x=>rw [hcl] at k;exact fun H' Hs' C' dd hC g hd=>XC.ez _ _ _ _ hC (k H' Hs' dd (F1.grow.trans g) hd)
 | stuck=>rw [hcl] at k;exact k
theorem acg {i f:Nat}{ms:List M}{e tg:Expr} (C:Cok T cl X) (S:ScRel sc X) (XC:XCok T xt cl X Ek Ez ra) (hq:∀ q∈E.pins,q.1 ∉ bD (.one i)) (h1:tgB X.N sc (.one i) tg=true) (h:pP T X.N sc f ms e=true) :
  PS X (.Assign [tg] e pos) (tMX X E Es O (some (without (without O (aM ms)) [i])) Ez (dB cl (.cs i f ms))):=by
 have hnc:jZ e=true/\lB (.one i) e=true:=by obtain ⟨x,p,y,ys,q,rfl,_⟩:=Dp h;exact ⟨rfl,rfl⟩
 refine bJ (nF (Cj C S XC h) (kh C S h1) (jF (t:=some tg) (l:=pos.line) (env:=X.env) hnc.1) (iI hnc.2 h1) (assign1 h1)) fun D σ H=>?_
 rintro ⟨ρ,Hs,F,k⟩;obtain ⟨ds,hds,k⟩:=vD k;obtain ⟨Hs1,F1,m1,vs⟩:=F.pubU (aM ms);refine ⟨ρ,Hs1,ds,F1.sub,vs,hds,?_⟩;cases hcl:cl f ds with
 | ok d =>
  rw [hcl] at k;intro v H' Hs' g r;have F2:=F1.grown g;refine pD (X:=X) (t:=.one i) (ρ:=ρ) g.sub rfl r fun l hl hrl eρ=>?_
  have F3:=F2.putL (by rw [hl];exact hq) hrl;rw [hl,<- eρ] at F3;exact k _ rfl _ _ _ F3 (m1.trans (g.same F1.sub))
 | exc x=>rw [hcl] at k;exact fun H' Hs' C' dd hC g hd=>XC.ez _ _ _ _ hC (k H' Hs' dd (F1.grow.trans g) hd)
 | stuck=>rw [hcl] at k;exact k
theorem FT {g:Nat}{re:R (List D)}{gg:G}{Hs:Hp}{O':Ow}{D:Ends} (h:XEnd gg E Es Hs O' D Ez (yP cl g re)):∃ ds x,re=.ok ds/\cl g ds=.exc x/\∀ H' Hs' dd,Grow E.hp Es H' Hs'->AtD H' dd x.val->Ez x dd H':=by
 cases re with
 | ok ds =>
  replace h:XEnd gg E Es Hs O' D Ez (nestD (cl g ds)):=h;cases hc:cl g ds with
  | ok d=>rw [hc] at h;exact h.elim
  | stuck=>rw [hc] at h;exact h.elim
  | exc x=>rw [hc] at h;exact ⟨ds,x,rfl,hc,h⟩
 | exc x=>exact h.elim
 | stuck=>exact h.elim
theorem acC {i f g:Nat}{ms:List M}{e:Expr} (C:Cok T cl X) (S:ScRel sc X) (XC:XCok T xt cl X Ek Ez ra) (h:Nm T X.N sc f g ms e=true):PE X e (fun σ H _=>∃ D,tMX X E Es O none Ez (dB cl (.cn i f g ms)) D σ H):=by
 obtain ⟨x,p,as,q,rfl,h2⟩:=cC h;rcases as with _ | ⟨a,rest⟩
 .cases h2
 simp only [Bool.and_eq_true,decide_eq_true_eq] at h2;obtain ⟨⟨⟨⟨⟨ho,hg⟩,hF⟩,hc⟩,hn⟩,hr⟩:=h2;unfold aL at ho;simp only [Bool.and_eq_true,Bool.not_eq_true'] at ho;obtain ⟨k,b,fd,ps,FX,hrm,hm,hk,hb,hlen⟩:=XC.fns f x hF;have never:PA X rest (fun _ _ _=>False):=fun _ _ _ _ _ _ _ z=>z.elim
 refine bB (Dq FX hrm (S.glb _ hg) hm hk hb .nil XC.pass (dw (Cj C S XC hc) never (aG hn)) ho.1.1 (aG hn) (eZ hr)) fun σ H Q=>?_
 rintro ⟨D,ρ,Hs,F,k⟩;obtain ⟨ds,x,hds,hcl,k⟩:=FT k;obtain ⟨Hs1,F1,m1,vs⟩:=F.pubU (aM ms);refine ⟨ρ,Hs1,ds,F1.sub,vs,hds,?_⟩;rw [hcl];exact fun H' Hs' C' dd hC g hd=>XC.ez _ _ _ _ hC (k H' Hs' dd (F1.grow.trans g) hd)
theorem acA {g:Nat}{ms:List M}{e:Expr} (C:Cok T cl X) (S:ScRel sc X) (XC:XCok T xt cl X Ek Ez ra) (h:rlB T X.N sc g ms e=true):PS X (.Return (some e) pos) (tMX X E Es O none Ez (dB cl (.rl g ms))):=by
 obtain ⟨a,ops,cs,p,rfl⟩:=tH h;rcases ops with _ | ⟨o,_ | ⟨o2,ops⟩⟩ <;> try (cases h;done)
 .cases o <;> try (cases h;done)
  rcases cs with _ | ⟨c,_ | ⟨c2,cs⟩⟩ <;> try (cases h;done)
  .cases c <;> try (cases h;done)
   rename_i c j cp;cases c <;> try (cases h;done)
   rename_i ci;obtain ⟨f,fp,as,q,rfl,h2⟩:=cC (show gJ a _=true from h);rcases as with _ | ⟨b,_ | ⟨b2,as⟩⟩ <;> try (cases h2;done)
   simp only [Bool.and_eq_true,decide_eq_true_eq] at h2;obtain ⟨⟨⟨rfl,hg⟩,hc⟩,hn⟩:=h2;have pl:=kJ (X:=X) (p:=fp) (pos:=q) (xq.or yF) (S.glb _ hg) (C.blt _ (by decide +kernel)) PySem.boot_len (dw (Cj C S XC hc) jz (aG hn)) (by decide +kernel) (by decide +kernel) (aG hn) rfl;refine bJ (CT (Lw (pos:=p) (rD C.un .eq) pl (Jz (i:=ci) (j:=j) (pos:=cp)) rfl)) fun D σ H=>?_
   rintro ⟨ρ,Hs,F,k⟩;obtain ⟨ds,x,hds,hcl,k⟩:=FT k;obtain ⟨Hs1,F1,m1,vs⟩:=F.pubU (aM ms);refine ⟨ρ,Hs1,ds,F1.sub,vs,hds,?_⟩;rw [hcl];exact fun H' Hs' C' dd hC g hd=>XC.ez _ _ _ _ hC (k H' Hs' dd (F1.grow.trans g) hd)
  .cases c <;> try (cases h;done)
   rename_i c j cp;cases c <;> cases h
 .cases o <;> cases h
theorem acD {i f g:Nat}{ms:List M}{e tg:Expr} (C:Cok T cl X) (S:ScRel sc X) (XC:XCok T xt cl X Ek Ez ra) (h1:tgB X.N sc (.one i) tg=true) (h:Nm T X.N sc f g ms e=true):PS X (.Assign [tg] e pos) (tMX X E Es O none Ez (dB cl (.cn i f g ms))):=by
 have hnc:jZ e=true/\lB (.one i) e=true:=by obtain ⟨x,p,as,q,rfl,h2⟩:=cC h;exact ⟨rfl,rfl⟩
 exact bJ (nF (acC (i:=i) (E:=E) (Es:=Es) (O:=O) C S XC h) (kh C S h1) (jF (t:=some tg) (l:=pos.line) (env:=X.env) hnc.1) (iI hnc.2 h1) (assign1 h1)) fun D σ H ht=>⟨D,ht⟩
theorem XEnd.meetL {g:G}{Hs:Hp}{x y:Ow}{D:Ends}{r:R Out} (h:XEnd g E Es Hs (iu x y) D Ez r):XEnd g E Es Hs x D Ez r:=by
 cases r with
 | ok o=>exact jt.meetL h
 | exc x=>exact h
 | stuck=>exact h
theorem XEnd.meetR {g:G}{Hs:Hp}{x y:Ow}{D:Ends}{r:R Out} (h:XEnd g E Es Hs (iu x y) D Ez r):XEnd g E Es Hs y D Ez r:=by
 cases r with
 | ok o=>exact jt.meetR h
 | exc x=>exact h
 | stuck=>exact h
theorem WY {c:M}{a b:List XS}{c':Expr}{a' b':List Stmt}{x y:Ow} (C:Cok T cl X) (S:ScRel sc X) (h1:okE T X.N c sc c'=true) (ha:PSs X a' (tMX X E Es O x Ez (aR cl a))) (hb:PSs X b' (tMX X E Es O y Ez (aR cl b))) :
  PS X (.If c' a' b' pos) (tMX X E Es O (iu x y) Ez (dB cl (.ifs c a b))):=by
 refine bJ (Cv (good c C S h1).2 ha hb) fun D σ H=>?_
 rintro ⟨ρ,Hs,F,k⟩;replace k:XEnd (gOf X) E Es Hs (iu x y) D Ez (yH (aR cl a ρ) (aR cl b ρ) (evE cl c ρ)):=k;obtain ⟨Hs1,F1,m1,vs,w1⟩:=F.pubW (aJ c);cases hc:evE cl c ρ with
 | exc z=>rw [hc] at k;exact k.elim
 | stuck=>rw [hc] at k;exact k.elim
 | ok d =>
  rw [hc] at k;cases d <;> try (exact k.elim)
  rename_i t;refine ⟨ρ,Hs1,t,F1.sub,vs,hc,fun H1 Hs2 g2=>?_⟩;obtain ⟨Hs3,g3,_,_⟩:=Wv F.sub w1 g2;have m2:=g3.same F.sub;cases t with
  | true=>(try dsimp only);rw [if_pos rfl];exact ⟨ρ,Hs3,F.grown g3,(XEnd.meetL k).mono m2⟩
  | false=>(try dsimp only);rw [if_neg (by decide)];exact ⟨ρ,Hs3,F.grown g3,(XEnd.meetR k).mono m2⟩
end
end Mi
namespace Mi
open PySem L2
open PyProof.Rows hiding St
section
variable {T:Tx}{xt:XT}{cl:Nat->List D->R D}{X:Cx}{sc:Scope}{E:Ent}{Es:Hp}{O:List Nat}{pos:Pos}{Ek:XK}{Ez:Xc->Option Addr->Hp->Prop}{ra:Bool}
theorem Lr {n x:Str}{C:Addr} (S:ScRel sc X):∀ {es:List Expr}{ks:List Str},oM sc n es ks=true->(∀ k∈ks,∃ c,pZ X k c/\PySem.W.kitOne X.K (.ref C) c=some (c7 x k))->IsxAll X n C es (ks.map fun k=>c7 x k)
 | [],[],_,_=>.nil
 | [],_::_,h,_=>by cases h
 | _::_,[],h,_=>by cases h
 | e::es,k::ks,h,hk=>by
  replace h:(gJ e _ && oM sc n es ks)=true:=h;rw [Bool.and_eq_true] at h;obtain ⟨h1,h2⟩:=h;obtain ⟨f,p,as,q,rfl,h3⟩:=cC h1;rcases as with _ | ⟨a,_ | ⟨b,_ | ⟨c,as⟩⟩⟩ <;> try (cases h3;done)
  obtain ⟨y,p2,rfl⟩:=fM (show (isK 23 a && _)=true from h3);obtain ⟨z,p3,rfl⟩:=fM (show (isK 23 b && _)=true from h3);replace h3:(decide (f="isinstance") && decide (y=n) && decide (z=k) && cF sc z && aL z)=true:=h3
  simp only [Bool.and_eq_true,decide_eq_true_eq] at h3;obtain ⟨⟨⟨⟨rfl,rfl⟩,rfl⟩,hg⟩,ho⟩:=h3;unfold aL at ho;simp only [Bool.and_eq_true,Bool.not_eq_true'] at ho;obtain ⟨c,hc,hkit⟩:=hk z List.mem_cons_self;exact .cons (S.glb _ hg) ho.1.1 hc hkit (Lr S h2 fun k hk'=>hk k (List.mem_cons_of_mem _ hk'))
theorem Zg {pins:List (Addr × Obj)}{D:Ends}{hs:List ExceptHandler} (C:Cok T cl X):Cok T cl (mY X pins D hs):=⟨C.calm,C.nd,C.un,C.blt,C.gl,C.fns⟩
theorem Xf {pins:List (Addr × Obj)}{D:Ends}{hs:List ExceptHandler} (S:ScRel sc X):ScRel sc (mY X pins D hs):=⟨S.glb,S.vis,S.cf,S.own⟩
structure Clause (xt:XT) (X:Cx) (D:Ends) (hc:Str) (hs:List ExceptHandler) (Ek:Addr->XK) (Ez:Xc->Option Addr->Hp->Prop):Prop where
 mem:hc∈xt.hs
 mine:∀ x dd H',Ez x dd H'->x.cls∈xt.xs/\c7 x.cls hc=true
 pass:∀ Ch (pins pins':List (Addr × Obj)) σ H s ev s',X.mg hc=some (.ref Ch)->Inv X pins σ H s->CX1 X.prog X.w X.stack H s (Ek Ch) ev s'->Ou X pins D hs ev s'
 ez:∀ Ch C x dd H',X.mg x.cls=some (.ref C)->PySem.W.XcK X.K C->PySem.W.exmOne X.K (.ref C) (.ref Ch)=some true->Ez x dd H'->Ek Ch (.ref C) dd H'
theorem K6 {pins:List (Addr × Obj)}{D:Ends}{hc:Str}{hs:List ExceptHandler}{Ek1:Addr->XK}{Ez1:Xc->Option Addr->Hp->Prop} (XC:XCok T xt cl X Ek Ez ra) (hh:Clause xt X D hc hs Ek1 Ez1) :
  ∃ Ek',XCok T xt cl (mY X pins D hs) Ek' Ez1 false:=by
 have ⟨Ch,hCh⟩:∃ Ch,(∀ x∈xt.xs,∃ C,X.mg x=some (.ref C)/\PySem.W.exmOne X.K (.ref C) (.ref Ch)=some (c7 x hc))/\(X.mg hc=some (.ref Ch)\/xt.xs=[]):=by
  cases hxs:xt.xs with
  | nil=>exact ⟨0,⟨fun x hx'=>(by cases hx'),.inr rfl⟩⟩
  | cons x0 xs0 =>
   obtain ⟨C0,Ch,_,e2,_⟩:=XC.facts.mat x0 (by rw [hxs];exact List.mem_cons_self) hc hh.mem;refine ⟨Ch,⟨fun x hx'=>?_,.inl e2⟩⟩;obtain ⟨C1,Ch1,e3,e4,e5⟩:=XC.facts.mat x (by rw [hxs];exact hx') hc hh.mem;rw [e2] at e4;cases e4;exact ⟨C1,e3,e5⟩
 rcases hCh.2 with hmx | hnil
 .refine ⟨Ek1 Ch,⟨fun pins' σ H s ev s' I hcx=>hh.pass Ch _ pins' σ H s ev s' hmx I.ofTry hcx,fun z=>(by cases z),fun x C' dd H' hC k=>?_,XC.facts,XC.fns,XC.hst,XC.hfr⟩⟩;have e1':X.mg x.cls=some (.ref C'):=hC;obtain ⟨hxm,hsub⟩:=hh.mine x dd H' k;obtain ⟨C1,e1,e2⟩:=hCh.1 x.cls hxm;rw [e1'] at e1;cases e1;obtain ⟨C2,e3,Z,_⟩:=XC.facts.cls x.cls hxm;rw [e1'] at e3;cases e3;exact hh.ez Ch C' x dd H' e1' Z (by rw [e2,hsub]) k
 .refine ⟨fun _ _ _=>False,⟨fun pins' σ H s ev s' I hcx=>?_,fun z=>(by cases z),fun x C' dd H' hC k=>?_,XC.facts,XC.fns,XC.hst,XC.hfr⟩⟩
  .obtain ⟨_,_,_,_,_,_,_,_,_,_,_,_,_,_,z⟩:=hcx;exact z.elim
  .have hxm:=(hh.mine x dd H' k).1;rw [hnil] at hxm;cases hxm
theorem W7 {n:Str} (h:Al sc n=true):sc.names.lookup n=some .local:=by
 unfold Al at h;split at h
 .assumption
 .cases h
noncomputable def toV:D->V
 | .bl b=>.bl b
 | .int n=>.int n
 | .str s=>.str s
 | _=>.non
theorem abm {g:G}{H:Hp}{x:Xc}{e:HE}{d:D} (h:heD x e=.ok d):Rp g H d (toV d):=by
 cases e with
 | isx k=>cases h;exact j9.mpr rfl
 | nisx k=>cases h;exact j9.mpr rfl
 | str s=>cases h;exact fY.mpr rfl
 | att =>
  replace h:(match x.val with | .int n=>R.ok (D.int n) | _=>.stuck)=.ok d:=h;split at h
  .cases h;exact aQ.mpr rfl
  .cases h
theorem MJ {g:G}{H:Hp}{x:Xc}:∀ {es:List HE}{ds:List D},jr x es=.ok ds->Rps g H ds (ds.map toV)
 | [],_,h=>by cases h;exact Rps.nil
 | e::es,ds,h=>by
  obtain ⟨d,h1,h2⟩:=aq (show (heD x e >>= fun d=>jr x es >>= fun ds=>(.ok (d::ds):R (List D)))=.ok ds from h);obtain ⟨ds',h3,h4⟩:=aq h2;cases h4;exact Rps.cons (abm h1) (MJ h3)
theorem Lp {x y:Xc}:∀ {es:List HE},jr x es=.exc y->False
 | [],h=>by cases h
 | e::es,h=>by
  replace h:(heD x e >>= fun d=>jr x es >>= fun ds=>(.ok (d::ds):R (List D)))=.exc y:=h;cases h1:heD x e with
  | stuck=>rw [h1] at h;cases h
  | exc z =>
   cases e with
   | att =>
    replace h1:(match x.val with | .int n=>R.ok (D.int n) | _=>.stuck)=.exc z:=h1;split at h1 <;> cases h1
   | _=>cases h1
  | ok d =>
   rw [h1] at h;replace h:(jr x es >>= fun ds=>(.ok (d::ds):R (List D)))=.exc y:=h;cases h2:jr x es with
   | stuck=>rw [h2] at h;cases h
   | exc z=>exact Lp h2
   | ok ds=>rw [h2] at h;cases h
section
variable {n:Str}{C':Addr}{i:Nat}{x:Xc}{dd:Option Addr} (S:ScRel sc X) (Z:PySem.W.XcK X.K C') (hi:X.N[i]?=some n) (hloc:X.env.scope.names.lookup n=some .local) (o2:aL n=true) (hgi:Gl X "isinstance") (hmi:X.mg "isinstance"=none) (pn:List (Addr × Obj)) (e:Addr) (oe:Obj) (hm:(e,oe) ∈ pn) (hcl:oe.cls=.ref C') (hdd:∀ d,dd=some d -> oe.dict=some d) (hnc:PySem.W.notCls oe=true)
include S Z hi hloc o2 hgi hmi hm hcl hdd hnc
theorem DX {k:Str}{c:Expr} (h:oM sc n [c] [k]=true) (hk:∃ c,pZ X k c/\PySem.W.kitOne X.K (.ref C') c=some (c7 x.cls k)):PE (hCx X pn e) c (fun σ H Q=>σ[i]?=some (some (.ref e))/\Q (.bl (c7 x.cls k)) H):=by
 unfold aL at o2;simp only [Bool.and_eq_true,Bool.not_eq_true'] at o2;have all:=Lr (X:=X) (C:=C') (x:=x.cls) S h fun q hq=>by
  cases List.mem_singleton.mp hq;exact hk
 cases all with
 | cons a1 a2 a3 a4 _ =>
  intro pins s σ H Q I h;have hk:pZ (hCx X pn e) _ _:=a3;refine kJ (X:=hCx X pn e) (Ur hm hcl Z) hgi hmi Ve (dw (jY hi (.inl hloc) o2.1.1 o2.1.2) (dw (aaU a1 hk a2) jz)) (by decide) (by decide) rfl rfl pins s σ H Q I ?_;exact ⟨.ref e,h.1,_,_,_,hk,rfl,a4,h.2⟩
theorem acr {h:HE}{c:Expr}{d:D} (hb:heB sc n h c=true) (hk:∀ k∈heK h,∃ c,pZ X k c/\PySem.W.kitOne X.K (.ref C') c=some (c7 x.cls k)) (hd:heD x h=.ok d):PE (hCx X pn e) c (fun σ H Q=>σ[i]?=some (some (.ref e))/\AtD H dd x.val/\Q (toV d) H):=by
 cases h with
 | isx k =>
  cases hd;exact bB (DX S Z hi hloc o2 hgi hmi pn e oe hm hcl hdd hnc (x:=x) hb (hk k (List.mem_singleton.mpr rfl))) fun σ H Q q=>⟨q.1,q.2.2⟩
 | nisx k =>
  cases hd;obtain ⟨op,a,p,rfl⟩:=tK (show (isK 3 c && _)=true from hb);cases op <;> try (cases hb;done)
  exact bB (R7 (DX S Z hi hloc o2 hgi hmi pn e oe hm hcl hdd hnc (x:=x) hb (hk k (List.mem_singleton.mpr rfl)))) fun σ H Q q=>⟨q.1,_,rfl,q.2.2⟩
 | str s =>
  cases hd;obtain ⟨c',j,p,rfl⟩:=xU (show (isK 19 c && _)=true from hb);cases c' <;> try (cases hb;done)
  rename_i t;have ht:t=s:=of_decide_eq_true (show decide (t=s)=true from hb);subst ht;exact bB (Hy (X:=hCx X pn e)) fun σ H Q q=>q.2.2
 | att =>
  replace hd:(match x.val with | .int n=>R.ok (D.int n) | _=>.stuck)=.ok d:=hd;split at hd
  .rename_i m hx;cases hd;obtain ⟨a,mm,p,rfl⟩:=vR (show (isK 20 c && _)=true from hb);obtain ⟨y,p2,rfl⟩:=fM (show (isK 23 a && _)=true from hb);replace hb:(decide (y=n) && decide (mm="at"))=true:=hb
   simp only [Bool.and_eq_true,decide_eq_true_eq] at hb;obtain ⟨rfl,rfl⟩:=hb;unfold aL at o2;simp only [Bool.and_eq_true,Bool.not_eq_true'] at o2;intro pins s σ H Q I h;rw [hx] at h;obtain ⟨h1,⟨d',e1,e2⟩,h3⟩:=h;exact ab5 (X:=hCx X pn e) (d:=d') hm hcl Z (hdd d' e1) hnc Z.hd Z.nat hi (.inl hloc) o2.1.1 o2.1.2 rfl pins s σ H Q I ⟨h1,m,e2,h3⟩
  .cases hd
theorem Wq:∀ {hs:List HE}{es:List Expr}{ds:List D},Jp sc n hs es=true->(∀ k∈hs.flatMap heK,∃ c,pZ X k c/\PySem.W.kitOne X.K (.ref C') c=some (c7 x.cls k))->jr x hs=.ok ds->PA (hCx X pn e) es (fun σ H Q=>σ[i]?=some (some (.ref e))/\AtD H dd x.val/\Q (ds.map toV) H)
 | [],es,ds,hb,hk,hd=>by
  cases hd;have:es=[]:=List.isEmpty_iff.mp hb;subst this;exact fun pos pins s σ H Q I h=>jz pos pins s σ H Q I h.2.2
 | h::hs,[],ds,hb,hk,hd=>by cases hb
 | h::hs,c::es,ds,hb,hk,hd=>by
  replace hb:(heB sc n h c && noStar c && Jp sc n hs es)=true:=hb;rw [Bool.and_eq_true,Bool.and_eq_true] at hb;obtain ⟨d,h1,h2⟩:=aq (show (heD x h >>= fun d=>jr x hs >>= fun ds=>(.ok (d::ds):R (List D)))=.ok ds from hd);obtain ⟨ds',h3,h4⟩:=aq h2;cases h4;have a:=acr S Z hi hloc o2 hgi hmi pn e oe hm hcl hdd hnc (x:=x) hb.1.1 (fun k hk'=>hk k (List.mem_flatMap.mpr ⟨h,List.mem_cons_self,hk'⟩)) h1;have b:=Wq hb.2 (fun k hk'=>hk k (by rw [List.flatMap_cons];exact List.mem_append_right _ hk')) h3;refine fun pos pins s σ H Q I q=>dw a b (aG hb.1.2) pos pins s σ H Q I ?_
  exact ⟨q.1,q.2.1,q.1,q.2.1,q.2.2⟩
theorem Jq {hs:List HE}{r:Stmt}{ds:List D} (hb:Ax sc n hs r=true) (hk:∀ k∈hs.flatMap heK,∃ c,pZ X k c/\PySem.W.kitOne X.K (.ref C') c=some (c7 x.cls k)) (hd:jr x hs=.ok ds) :
  PS (hCx X pn e) r (fun D σ H=>σ[i]?=some (some (.ref e))/\AtD H dd x.val/\ds.length<=sizeLine/\∀ p,H p=none->D.rt (.ref p) (upd H p (.lst (ds.map toV)))):=by
 obtain ⟨v,p,rfl⟩:=pB (show (isS 3 r && _)=true from hb);cases v with
 | none=>cases hb
 | some l =>
  obtain ⟨es,lp,rfl⟩:=Bg (show (isK 24 l && _)=true from hb);refine bJ (CT (JK (Wq S Z hi hloc o2 hgi hmi pn e oe hm hcl hdd hnc (x:=x) (show Jp sc n hs es=true from hb) hk hd))) fun D σ H q=>?_
  exact ⟨q.1,q.2.1,by rw [List.length_map];exact q.2.2.1,q.2.2.2⟩
end
structure HahOk (xt:XT) (N:List Str) (sc:Scope) (i:Nat) (hc:Str) (h:HB) (xs:List Str) (hs:List ExceptHandler):Prop where
 ex:∃ np n s0 sts hp,hs=[.ExceptHandler (some (.Name hc np)) (some n) (s0::sts) hp] /\ cF sc hc=true /\ aL hc=true /\ N[i]?=some n /\ sc.names.lookup n=some .local /\ aL n=true /\ cF sc "isinstance"=true /\ hbB sc n h (s0::sts)=true /\ hc ∈ xt.hs /\ (∀ k ∈ hbK h,k ∈ xt.kx) /\ (∀ x ∈ xs,x ∈ xt.xs)
theorem YJ {N:List Str}{i:Nat}{hc:Str}{hb:HB}{xs:List Str}{hs:List ExceptHandler} (h:Wh xt N sc i hc hb xs hs=true):HahOk xt N sc i hc hb xs hs:=by
 rcases hs with _ | ⟨⟨t,nm,body,hp⟩,_ | ⟨h2,hs⟩⟩
 .cases h
 .cases t with
  | none=>cases h
  | some t =>
   cases nm with
   | none=>cases h
   | some n =>
    rcases body with _ | ⟨s0,sts⟩
    .cases h
    .obtain ⟨x,np,rfl⟩:=fM (show (isK 23 t && _)=true from h);replace h:(decide (x=hc) && cF sc x && aL x && decide (N[i]?=some n) && Al sc n && aL n && cF sc "isinstance" && hbB sc n hb (s0::sts) && xt.hs.contains hc && ((hbK hb).all fun k=>xt.kx.contains k) && (xs.all fun x=>xt.xs.contains x))=true:=h
     simp only [Bool.and_eq_true,decide_eq_true_eq,List.all_eq_true] at h;obtain ⟨⟨⟨⟨⟨⟨⟨⟨⟨⟨rfl,a2⟩,a3⟩,a4⟩,a5⟩,a6⟩,a7⟩,a8⟩,a9⟩,b1⟩,b2⟩:=h;exact ⟨np,n,s0,sts,hp,rfl,a2,a3,a4,W7 a5,a6,a7,a8,by simpa using a9,fun k hk=>by simpa using b1 k hk,fun y hy=>by simpa using b2 y hy⟩
 .cases t <;> cases nm <;> rcases body with _ | ⟨s0,sts⟩ <;> cases h
def Ezh (D:Ends) (hc:Str) (h:HB) (xs:List Str):Xc->Option Addr->Hp->Prop:=fun x dd H'=>(xs.contains x.cls && c7 x.cls hc)=true/\AtD H' dd x.val/\∃ ds,jr x (CN x h)=.ok ds/\ds.length<=lim/\∀ p,H' p=none->D.rt (.ref p) (upd H' p (.lst (ds.map toV)))
theorem Ni {D:Ends}{i:Nat}{hc:Str}{hb:HB}{xs:List Str}{hs:List ExceptHandler} (hsc:sc=X.env.scope) (C:Cok T cl X) (S:ScRel sc X) (F:XF xt X.K X.mg) (hst:X.stack=X.env::X.outer) (hfr:X.env.frame=some X.env.locals) (hh:HahOk xt X.N sc i hc hb xs hs) :
  ∃ Ek',Clause xt X D hc hs Ek' (Ezh D hc hb xs):=by
 obtain ⟨np,n,s0,sts,hp,rfl,g1,o1,hi,hloc,o2,g2,hbb,m1,m2,m3⟩:=hh.ex;have o1':=o1;unfold aL at o1';simp only [Bool.and_eq_true,Bool.not_eq_true'] at o1';have hmi:X.mg "isinstance"=none:=C.blt _ (by decide +kernel)
 have hloc':X.env.scope.names.lookup n=some .local:=by rw [<- hsc];exact hloc
 refine ⟨fun Ch=>abP X D i Ch (s0::sts),m1,fun x dd H' k=>?_,fun Ch pins pins' σ H s ev s' hm I hcx=>caught hst hfr C.nd hi hloc' (S.glb _ g1) hm o1'.1.1 I hcx,fun Ch C' x dd H' e1 Z em k=>?_⟩
 .have k1:=k.1;simp only [Bool.and_eq_true] at k1;exact ⟨m3 x.cls (by simpa using k1.1),k1.2⟩
 .obtain ⟨k1,hat,ds,hds,hl,hrt⟩:=k;simp only [Bool.and_eq_true] at k1;have kit:∀ k∈hbK hb,∃ c,pZ X k c/\PySem.W.kitOne X.K (.ref C') c=some (c7 x.cls k):=fun k hk=>by
   obtain ⟨C3,c,e4,e5,e6⟩:=F.kit x.cls (m3 x.cls (by simpa using k1.1)) k (m2 k hk);rw [e1] at e4;cases e4;exact ⟨c,e5,e6⟩
  refine ⟨C',rfl,Z,em,fun D σ H=>AtD H dd x.val/\ds.length<=sizeLine/\∀ p,H p=none->D.rt (.ref p) (upd H p (.lst (ds.map toV))),fun pn e oe hm hcl hdd hnc=>?_,fun σ _=>⟨hat,Nat.le_trans hl jy,hrt⟩⟩;cases hb with
  | ret es =>
   rcases sts with _ | ⟨s1,sts⟩
   .exact jP (Jq S Z hi hloc' o2 (S.glb _ g2) hmi pn e oe hm hcl hdd hnc (x:=x) (show Ax sc n es s0=true from hbb) kit hds)
   .cases hbb
  | ifx k a b =>
   rcases sts with _ | ⟨s1,_ | ⟨s2,sts⟩⟩
   .cases hbb
   .replace hbb:((isS 12 s0 && _) && Ax sc n b s1)=true:=hbb;rw [Bool.and_eq_true] at hbb;obtain ⟨h1,h2⟩:=hbb;obtain ⟨c,bd,els,ip,rfl⟩:=Ku h1;rcases bd with _ | ⟨r,_ | ⟨r2,bd⟩⟩ <;> try (cases h1;done)
    cases els <;> try (cases h1;done)
    replace h1:(oM sc n [c] [k] && Ax sc n a r)=true:=h1;rw [Bool.and_eq_true] at h1;have pT:plainT c=true:=by
     have h9:(gJ c _ && oM sc n [] [])=true:=h1.1;rw [Bool.and_eq_true] at h9;obtain ⟨f,p,as,q,rfl,_⟩:=cC h9.1;rfl
    have pc:=DX S Z hi hloc' o2 (S.glb _ g2) hmi pn e oe hm hcl hdd hnc (x:=x) h1.1 (kit k List.mem_cons_self);by_cases hs:c7 x.cls k=true
    .have hds':jr x a=.ok ds:=by rw [<- hds];show _=jr x (if c7 x.cls k=true then a else b);rw [if_pos hs]
     have pa:=Jq S Z hi hloc' o2 (S.glb _ g2) hmi pn e oe hm hcl hdd hnc (x:=x) h1.2 (fun k hk=>kit k (List.mem_cons_of_mem _ (List.mem_append_left _ hk))) hds';refine jQ (jK (Cv (Ce pc (jm pT)) (jP pa) (nR (sts:=[]))) (nR (sts:=[s1]))) fun D σ H q=>?_
     exact ⟨q.1,_,rfl,by rw [hs];exact Va q⟩
    .have hds':jr x b=.ok ds:=by rw [<- hds];show _=jr x (if c7 x.cls k=true then a else b);rw [if_neg hs]
     have pb:=Jq S Z hi hloc' o2 (S.glb _ g2) hmi pn e oe hm hcl hdd hnc (x:=x) h2 (fun k hk=>kit k (List.mem_cons_of_mem _ (List.mem_append_right _ hk))) hds';refine jQ (jK (Cv (Ce pc (jm pT)) (nR (sts:=[r])) uc) (jP pb)) fun D σ H q=>?_
     exact ⟨q.1,_,rfl,by rw [Bool.eq_false_iff.mpr hs];exact aaf q⟩
   .cases hbb
theorem acy {b:List XS}{i:Nat}{hc:Str}{h:HB}{xs:List Str}{body:List Stmt}{hs:List ExceptHandler}{O':Ow} (hh:HahOk xt X.N sc i hc h xs hs) (hb:∀ (pins:List (Addr × Obj)) (D:Ends),PSs (mY X pins D hs) body (tMX (mY X pins D hs) E Es O O' (Ezh D hc h xs) (aR cl b))) :
  PS X (.Try body hs [] [] pos) (tMX X E Es O O' Ez (dB cl (.th b i hc h xs))):=by
 obtain ⟨np,n,s0,sts,hp,rfl,_⟩:=hh.ex;intro pins s σ H D I ht;obtain ⟨ρ,Hs,F,k⟩:=ht;refine YW I (hb pins D) ⟨ρ,Hs,F,?_⟩;replace k:XEnd (gOf X) E Es Hs O' D Ez (uD hc h xs (aR cl b ρ)):=k;cases hr:aR cl b ρ with
 | ok o=>rw [hr] at k;exact k
 | stuck=>rw [hr] at k;exact k
 | exc x =>
  rw [hr] at k;replace k:XEnd (gOf X) E Es Hs O' D Ez (if (xs.contains x.cls && c7 x.cls hc)=true then iJ (fun d=>.ok (.rt d)) (jr x (CN x h) >>= fun ds=>if ds.length<=lim then .ok (.lst ds) else .stuck) else .stuck):=k;intro H' Hs' dd gr hat;by_cases hcond:(xs.contains x.cls && c7 x.cls hc)=true
  .rw [if_pos hcond] at k;cases hd:jr x (CN x h) with
   | stuck=>rw [hd] at k;exact k.elim
   | exc y=>rw [hd] at k;exact (Lp hd).elim
   | ok ds =>
    rw [hd] at k;replace k:XEnd (gOf X) E Es Hs O' D Ez (iJ (fun d=>.ok (.rt d)) (if ds.length<=lim then .ok (.lst ds) else .stuck)):=k;by_cases hl:ds.length<=lim
    .rw [if_pos hl] at k;refine ⟨hcond,hat,ds,hd,hl,fun p hp=>k (.ref p) _ _ (gr.trans (Grow.new (o:=.lst (ds.map toV)) gr.sub hp)) (cP.mpr ⟨p,_,rfl,SqL.of aD,MJ hd⟩)⟩
    .rw [if_neg hl] at k;exact k.elim
  .rw [if_neg hcond] at k;exact k.elim
end
def Wx (T:Tx) (xt:XT) (cl:Nat->List D->R D) (m:XS):Prop:=∀ (X:Cx) (sc:Scope) (st:Stmt) (O:List Nat) (O':Ow) (E:Ent) (Es:Hp) (Ek:XK) (Ez:Xc->Option Addr->Hp->Prop) (ra:Bool),E.pins=[]->sc=X.env.scope->Cok T cl X->ScRel sc X->PassesOwn (model X.prog X.w) X.A X.env X.xe->XCok T xt cl X Ek Ez ra ->
 okX T xt X.N sc ra m st=true->N7 m O=some O'->PS X st (tMX X E Es O O' Ez (dB cl m))
theorem yg {T:Tx}{xt:XT}{cl:Nat->List D->R D}:∀ {ms:List XS},(∀ m∈ms,Wx T xt cl m)->∀ {X:Cx}{sc:Scope}{sts:List Stmt}{O:List Nat}{O':Ow}{E:Ent}{Es:Hp}{Ek:XK}{Ez:Xc->Option Addr->Hp->Prop}{ra:Bool},E.pins=[]->sc=X.env.scope->Cok T cl X->ScRel sc X->PassesOwn (model X.prog X.w) X.A X.env X.xe->XCok T xt cl X Ek Ez ra ->
  tW T xt X.N sc ra ms sts=true->jh ms O=some O'->PSs X sts (tMX X E Es O O' Ez (aR cl ms))
 | [],G,X,sc,sts,O,O',E,Es,Ek,Ez,ra,hq,hsc,C,S,hp,XC,h,hc=>by
  replace h:sts.isEmpty=true:=h;rw [List.isEmpty_iff] at h;subst h;cases hc;refine jQ uc fun D σ H=>?_
  rintro ⟨ρ,Hs,F,k⟩;exact k O rfl σ H Hs F (Same.refl _)
 | m::ms,G,X,sc,[],O,O',E,Es,Ek,Ez,ra,hq,hsc,C,S,hp,XC,h,hc=>by cases h
 | m::ms,G,X,sc,st::sts,O,O',E,Es,Ek,Ez,ra,hq,hsc,C,S,hp,XC,h,hc=>by
  replace h:(okX T xt X.N sc ra m st && tW T xt X.N sc ra ms sts)=true:=h;rw [Bool.and_eq_true] at h;replace hc:(N7 m O).bind (fun x=>match x with | none=>some none | some O1=>jh ms O1)=some O':=hc;cases e1:N7 m O with
  | none=>rw [e1] at hc;cases hc
  | some x =>
   rw [e1] at hc;have h1:=G m List.mem_cons_self X sc st O _ E Es Ek Ez ra hq hsc C S hp XC h.1 e1;cases x with
   | none =>
    have hc':O'=none:=by
     have:some (none:Ow)=some O':=hc;cases this;rfl
    subst hc';refine jQ (jK h1 (nR (sts:=sts))) fun D σ H=>?_
    rintro ⟨ρ,Hs,F,k⟩;rw [aU] at k;refine ⟨ρ,Hs,F,?_⟩;cases hr:dB cl m ρ with
    | exc x=>rw [hr] at k;exact k
    | stuck=>rw [hr] at k;exact k
    | ok o =>
     rw [hr] at k;cases o with
     | nx ρ'=>intro O1 e;cases e
     | rt d=>exact k
     | ro d=>exact k
     | bk ρ'=>exact k
     | ct ρ'=>exact k
   | some O1 =>
    have h2:=yg (fun q hq=>G q (List.mem_cons_of_mem _ hq)) (E:=E) (Es:=Es) hq hsc C S hp XC h.2 (show jh ms O1=some O' from hc);refine jQ (jK h1 h2) fun D σ H=>?_
    rintro ⟨ρ,Hs,F,k⟩;rw [aU] at k;refine ⟨ρ,Hs,F,?_⟩;cases hr:dB cl m ρ with
    | exc x=>rw [hr] at k;exact k
    | stuck=>rw [hr] at k;exact k
    | ok o =>
     rw [hr] at k;cases o with
     | nx ρ' =>
      intro O2 e σ' H' Hs' F' s';cases e;exact ⟨ρ',Hs',F',XEnd.mono k s'⟩
     | rt d=>exact k
     | ro d=>exact k
     | bk ρ'=>exact k
     | ct ρ'=>exact k
theorem Hu {T:Tx}{xt:XT}{cl:Nat->List D->R D}:∀ m:XS,Wx T xt cl m
 | .n m=>fun X sc st O O' E Es Ek Ez ra hq hsc C S hp XC h hc=>by
  refine bJ (uK m X sc st [] O O' E Es (fun q hm=>by rw [hq] at hm;cases hm) C S hp h hc) fun D σ H=>?_
  rintro ⟨ρ,Hs,F,k⟩;rw [jX] at k;cases hr:bU cl m ρ with
  | exc x=>rw [hr] at k;exact k.elim
  | stuck=>rw [hr] at k;exact k.elim
  | ok o=>rw [hr] at k;exact ⟨ρ,Hs,o,F,hr,k⟩
 | .rai c=>fun X sc st O O' E Es Ek Ez ra hq hsc C S hp XC h hc=>by
  replace h:(ra && xt.xs.contains c && Vz sc st c && decide (c ≠ "BadTests"))=true:=h
  rw [Bool.and_eq_true,Bool.and_eq_true,Bool.and_eq_true,decide_eq_true_eq] at h;obtain ⟨⟨⟨h1,h2⟩,h3⟩,h4⟩:=h;obtain ⟨np,tx,k,tp,cp,pos,rfl,ho,hg⟩:=Ye h3;obtain ⟨Cc,hm,Z,Ze⟩:=XC.facts.cls c (by simpa using h2);unfold aL at ho;simp only [Bool.and_eq_true,Bool.not_eq_true'] at ho;refine bJ (Uk (XC.rz h1) C.calm (S.glb _ hg) hm (Ze h4) ho.1.1) fun D σ H=>?_
  rintro ⟨ρ,Hs,F,k⟩;exact XC.ez ⟨c,.non⟩ Cc none H hm (k H Hs none F.grow trivial)
 | .ce f es=>fun X sc st O O' E Es Ek Ez ra hq hsc C S hp XC h hc=>by
  obtain ⟨v,p,rfl⟩:=Iv h;cases hc;exact acL C S XC h
 | .cr f es=>fun X sc st O O' E Es Ek Ez ra hq hsc C S hp XC h hc=>by
  obtain ⟨v,p,rfl⟩:=pB h;cases v with
  | none=>cases h
  | some v =>
   cases hc;exact ab0 C S XC h
 | .cs i f es=>fun X sc st O O' E Es Ek Ez ra hq hsc C S hp XC h hc=>by
  obtain ⟨tgs,v,p,rfl⟩:=uN h;rcases tgs with _ | ⟨tg,_ | ⟨tg2,tgs⟩⟩ <;> try (cases h;done)
  replace h:(tgB X.N sc (.one i) tg && pP T X.N sc f es v)=true:=h;rw [Bool.and_eq_true] at h;cases hc;exact acg C S XC (fun q hm=>by rw [hq] at hm;cases hm) h.1 h.2
 | .cn i f g es=>fun X sc st O O' E Es Ek Ez ra hq hsc C S hp XC h hc=>by
  obtain ⟨tgs,v,p,rfl⟩:=uN h;rcases tgs with _ | ⟨tg,_ | ⟨tg2,tgs⟩⟩ <;> try (cases h;done)
  replace h:(tgB X.N sc (.one i) tg && Nm T X.N sc f g es v)=true:=h;rw [Bool.and_eq_true] at h;cases hc;exact acD C S XC h.1 h.2
 | .xr e=>fun X sc st O O' E Es Ek Ez ra hq hsc C S hp XC h hc=>by cases h
 | .xs i e=>fun X sc st O O' E Es Ek Ez ra hq hsc C S hp XC h hc=>by cases h
 | .ifs c a b=>fun X sc st O O' E Es Ek Ez ra hq hsc C S hp XC h hc=>by
  obtain ⟨_,_,_,_,rfl⟩:=Ku h;rename_i c' a' b' p;replace h:(okE T X.N c sc c' && tW T xt X.N sc ra a a' && tW T xt X.N sc ra b b')=true:=h;simp only [Bool.and_eq_true] at h;obtain ⟨⟨h1,h2⟩,h3⟩:=h;replace hc:(jh a O).bind (fun x=>(jh b O).bind fun y=>some (iu x y))=some O':=hc;cases e1:jh a O with
  | none=>rw [e1] at hc;cases hc
  | some x =>
   rw [e1] at hc;cases e2:jh b O with
   | none=>rw [e2] at hc;cases hc
   | some y =>
    rw [e2] at hc;cases (show some (iu x y)=some O' from hc);exact WY C S h1 (yg (fun m _=>Hu m) hq hsc C S hp XC h2 e1) (yg (fun m _=>Hu m) hq hsc C S hp XC h3 e2)
 | .tr b i hcl ks xs=>fun X sc st O O' E Es Ek Ez ra hq hsc C S hp XC h hc=>by cases h
 | .tc b hcl hr xs=>fun X sc st O O' E Es Ek Ez ra hq hsc C S hp XC h hc=>by cases h
 | .lam g=>fun X sc st O O' E Es Ek Ez ra hq hsc C S hp XC h hc=>by cases h
 | .rl g es=>fun X sc st O O' E Es Ek Ez ra hq hsc C S hp XC h hc=>by
  obtain ⟨v,p,rfl⟩:=pB h;cases v with
  | none=>cases h
  | some v =>
   cases hc;exact acA C S XC h
 | .th b i hcl hb xs=>fun X sc st O O' E Es Ek Ez ra hq hsc C S hp XC h hc=>by
  obtain ⟨body,hs,els,fin,p,rfl⟩:=Xz h;cases els <;> cases fin <;> try (cases h;done)
  replace h:(tW T xt X.N sc false b body && Wh xt X.N sc i hcl hb xs hs)=true:=h;rw [Bool.and_eq_true] at h;have hh:=YJ h.2;refine acy hh fun pins D=>?_
  obtain ⟨_,cla⟩:=Ni (D:=D) hsc C S XC.facts XC.hst XC.hfr hh;obtain ⟨Ek',XC'⟩:=K6 (pins:=pins) XC cla;exact yg (fun m _=>Hu m) (X:=mY X pins D hs) hq hsc (Zg C) (Xf S) PassesOwn.looking XC' h.1 hc
 | .ts b i v hcl kss xs=>fun X sc st O O' E Es Ek Ez ra hq hsc C S hp XC h hc=>by cases h
 | .any=>fun X sc st O O' E Es Ek Ez ra hq hsc C S hp XC h hc=>by
  refine bJ Kc fun D σ H=>?_
  rintro ⟨ρ,Hs,F,k⟩;exact k
termination_by m=>sizeOf m
decreasing_by
 all_goals simp_wf
 all_goals (have:=List.sizeOf_lt_of_mem ‹_∈_›;omega)
end Mi
namespace PySem
section
variable {prog:Program}{w:World}{A:Around}{E:Value->Shared->Prop}{h:Heap}{g:Array GenState}{d:Drawn}{t:Nat}{os:OsState}
variable {nm q:Str}{C N:Addr}{bs bm bmB:List Value}{hdct:Bool}{sn:List Str}{sub:List Value}{ab:Bool}{col:Option Bool}{dd:Option Addr}{k0 k1 k2 k3 k5:Option Value}{B newId initId:String}
noncomputable abbrev j5 (C t:Addr):Obj:={ cls:=.ref C,data:=.fields #[.ref t,.none,.none,.none,.bool false,.none] }
noncomputable abbrev n6 (C t:Addr) (dx:Option Addr):Obj:={ cls:=.ref C,dict:=dx,data:=.fields #[.ref t,.none,.none,.none,.bool false,.none] }
theorem Ie (F:ExcBaseFacts B newId initId bmB) (T:OwnTail h bmB bm) {mN:Str->Option Value}{rest:List Value}{fI:Addr}{oI:Obj}{Q:Fin->Shared->Prop}
  (hC:h.get? C=some (excClassObj nm q C N bs bm hdct sn sub ab col dd k0 k1 k2 k3 k5 newId)) (hn:h.Ns N mN) (hi:mN "__init__"=some (.ref fI)) (hfI:h.get? fI=some oI) (hfc:oI.cls=.type "function") (hrest:rest.length <= sizeLine)
  (hq:wpAny (model prog w) A (call (.ref fI) (.ref (h.objs.size+1)::rest)) (fun r s'=>r=.none /\ Q (.done (.ret (.ref (h.objs.size+1)))) s') E ⟨(h.push { cls:=.type "tuple",data:=.seq rest.toArray }).push (j5 C h.objs.size),g,d,t,os⟩) :
  wpAny (model prog w) A (Builtin.«type.__call__» ⟨.ref C::rest,[]⟩) Q E ⟨h,g,d,t,os⟩:=by
 repeat (first | with_reducible refine wpAny_loadPart_at hC ?_ | with_reducible refine wpAny_madeBy_exc hC ?_ | wp_step)
 refine codeAny_call_builtin_code (Code.quiet_builtin _ F.quiet) (wpAny_check_new_subT F T hC ?_);refine codeAny_exc_new_subT F T hC ?_ hrest;show wpAny _ _ _ _ _ _
 have push:∀ b o,h.get? b=some o -> ((h.push { cls:=.type "tuple",data:=.seq rest.toArray }).push (j5 C h.objs.size)).get? b=some o:=fun b o e=>Heap.get?_push_of_some _ (Heap.get?_push_of_some _ e)
 have hC₁:=push _ _ hC;have hfI₁:=push _ _ hfI;have hn₁:=hn.keeps push;have T₁:=T.keeps push;have hget:((h.push { cls:=.type "tuple",data:=.seq rest.toArray }).push (j5 C h.objs.size)).get? (h.objs.size+1)=some (j5 C h.objs.size):=by heap_get
 have hcC:(Value.ref C::bm).contains (.ref C)=true:=by simp
 unfold isInstance
 repeat (first | with_reducible refine wpAny_loadPart_at hget ?_ | (with_reducible refine wpAny_isSubtype_exc hC₁ ?_;rw [hcC]) | wp_step)
 show wpAny _ _ (typeLookup (.ref C) _) _ _ _
 refine wpAny_typeLookup_tail hC₁ hn₁ T₁ F.mroIs F.init.lookup ?_;rw [hi];refine wpAny_holding (wpAny_bind ?_);unfold bindSpecial;refine wpAny_bind (wpAny_typeOf (T:="function") ⟨_,hfI₁,hfc⟩ ?_)
 rw [if_pos (by decide)];refine wpAny_pure (wpAny_bind (wpAny_mono hq (fun r s' hr=>?_) fun _ _ x=>x));obtain ⟨rfl,hQ⟩:=hr
 wp_walk
 exact hQ
theorem Yj (F:ExcBaseFacts B newId initId bmB) (T:OwnTail h bmB bm) {mN:Str->Option Value}{rest:List Value}{fI:Addr}{oI:Obj}{Q:Value->Shared->Prop}
  (hC:h.get? C=some (excClassObj nm q C N bs bm hdct sn sub ab col dd k0 k1 k2 k3 k5 newId)) (hn:h.Ns N mN) (hi:mN "__init__"=some (.ref fI)) (hfI:h.get? fI=some oI) (hfc:oI.cls=.type "function") (hrest:rest.length <= sizeLine)
  (hq:wpAny (model prog w) (A.under (.builtin "type.__call__" ⟨.ref C::rest,[]⟩)) (call (.ref fI) (.ref (h.objs.size+1)::rest)) (fun r s'=>r=.none /\ Q (.ref (h.objs.size+1)) s') E ⟨(h.push { cls:=.type "tuple",data:=.seq rest.toArray }).push (j5 C h.objs.size),g,d,t,os⟩) :
  wpAny (model prog w) A (call (.ref C) rest) Q E ⟨h,g,d,t,os⟩:=by
 have f1:=tc_lookup;have f2:=tc_bind (.ref C);have hT:(⟨h,g,d,t,os⟩:Shared).TypeIs (.ref C) "type":=⟨_,hC,rfl⟩
 refine wpAny_call (codeAny_of_tree ?_);show wpAny _ _ (callAny (.ref C) _) _ _ _
 repeat (any_goals (first | assumption | with_reducible refine wpAny_loadPart_at hC ?_ | wp_step))
 refine ⟨rfl,?_⟩;refine codeAny_call_builtin_at (Code.quiet_builtin _ (by decide +kernel)) entry_typeCall (wpAny_check_type_call_sub hC (Ie F T hC hn hi hfI hfc hrest ?_));exact hq
end
section
variable {M:Model}{A:Around}{E:Value->Shared->Prop}{env:Env}
variable {nm q:Str}{C N:Addr}{bs bm:List Value}{hdct:Bool}{sn:List Str}{sub:List Value}{ab:Bool}{col:Option Bool}{dd:Option Addr}{k0 k1 k2 k3 k5:Option Value}{newId:String}
theorem v8 {s:Shared}{x:Sem Value}{Q:Flow -> Shared -> Prop} (hbase:bm.contains (.type "BaseException")=true) (hh:A.handled=none)
  (h:wpAny M A x (fun v s₁=>∃ e t dx,v=.ref e/\s₁.heap.get? C=some (excClassObj nm q C N bs bm hdct sn sub ab col dd k0 k1 k2 k3 k5 newId)/\s₁.heap.get? e=some (n6 C t dx)/\E (.ref e) s₁) E s) :
  wpAny M A (raiseStmt env (some x) none) Q E s:=by
 have hcB:(Value.ref C::bm).contains (.type "BaseException")=true:=by rw [List.contains_cons,hbase,Bool.or_true]
 unfold raiseStmt;refine wpAny_bind (wpAny_mono h (fun v s₁ h₁=>?_) fun _ _ x=>x);obtain ⟨e,t,dx,rfl,hC,he,hE⟩:=h₁;obtain ⟨hp,g,d,tk,os⟩:=s₁
 repeat (first | with_reducible refine wpAny_loadPart_at he ?_ | with_reducible refine wpAny_loadPart_at hC ?_ | (with_reducible refine wpAny_isSubtype_exc hC ?_;rw [hcB]) | wp_step)
 exact wpAny_raiseNew_none hh hE
end
section
variable {prog:Program}{w:World}{A:Around}{E:Value->Shared->Prop}{s:Shared}{env:Env}
variable {nm q:Str}{C N:Addr}{bs bm bmB:List Value}{hdct:Bool}{sn:List Str}{sub:List Value}{ab:Bool}{col:Option Bool}{dd:Option Addr}{k0 k1 k2 k3 k5:Option Value}{B newId initId:String}
theorem V7 (F:ExcBaseFacts B newId initId bmB) {mN:Str->Option Value}{x:Str}{np cpos pos:Pos}{args:List Expr}{Q:Flow->Shared->Prop}{fI:Addr}{oI:Obj}
  (hbase:bm.contains (.type "BaseException")=true) (hh:A.handled=none) (hplain:(backTo cpos (starEach args env)).any (·.1)=false) (hi:mN "__init__"=some (.ref fI)) (hfc:oI.cls=.type "function")
  (h:wpAny (model prog w) A (eval (.Name x np) env) (fun f s₁=>f=.ref C/\wpAny (model prog w) A (evalArgs (.ref C) true (backTo cpos (starEach args env)) [])
   (fun a s₂=>a.kw=[]/\a.pos.length<=sizeLine/\s₂.heap.get? C=some (excClassObj nm q C N bs bm hdct sn sub ab col dd k0 k1 k2 k3 k5 newId)/\s₂.heap.Ns N mN/\OwnTail s₂.heap bmB bm/\s₂.heap.get? fI=some oI /\
    wpAny (model prog w) (A.under (.builtin "type.__call__" ⟨.ref C::a.pos,[]⟩)) (call (.ref fI) (.ref (s₂.heap.objs.size+1)::a.pos)) (fun r s'=>r=.none /\ s'.heap.get? C=some (excClassObj nm q C N bs bm hdct sn sub ab col dd k0 k1 k2 k3 k5 newId) /\ (∃ t dx,s'.heap.get? (s₂.heap.objs.size+1)=some (n6 C t dx)) /\ E (.ref (s₂.heap.objs.size+1)) s') E { s₂ with heap:=(s₂.heap.push { cls:=.type "tuple",data:=.seq a.pos.toArray }).push (j5 C s₂.heap.objs.size) }) E s₁) E s) :
  wpAny (model prog w) A (exec (.Raise (some (.Call (.Name x np) args [] cpos)) none pos) env) Q E s:=by
 rw [arm_exec_Raise]
 first
  | refine wpAny_bind (wpAny_standAt (v8 (C:=C) (nm:=nm) (q:=q) (N:=N) (bs:=bs) (bm:=bm) (hdct:=hdct) (sn:=sn) (sub:=sub) (ab:=ab) (col:=col) (dd:=dd) (k0:=k0) (k1:=k1) (k2:=k2) (k3:=k3) (k5:=k5) (newId:=newId) hbase hh (wpAny_bind (wpAny_mono (wpAny_Call_ofName (wpAny_mono h (fun f s₁ h₁=>?_) fun _ _ x=>x)) (fun v s₃ h₃=>wpAny_bind (wpAny_standAt (wpAny_pure h₃))) fun _ _ x=>x))))
  | (simp only [evalOpt,Option.map];refine wpAny_bind (wpAny_standAt (v8 (C:=C) (nm:=nm) (q:=q) (N:=N) (bs:=bs) (bm:=bm) (hdct:=hdct) (sn:=sn) (sub:=sub) (ab:=ab) (col:=col) (dd:=dd) (k0:=k0) (k1:=k1) (k2:=k2) (k3:=k3) (k5:=k5) (newId:=newId) hbase hh (wpAny_bind (wpAny_mono (wpAny_Call_ofName (wpAny_mono h (fun f s₁ h₁=>?_) fun _ _ x=>x)) (fun v s₃ h₃=>wpAny_bind (wpAny_standAt (wpAny_pure h₃))) fun _ _ x=>x)))))
 obtain ⟨rfl,h₁⟩:=h₁;unfold callWith;refine wpAny_bind (wpAny_holding (wpAny_mono h₁ (fun a s₂ h₂=>wpAny_bind (wpAny_standAt ?_)) fun _ _ x=>x));obtain ⟨apos,akw⟩:=a;obtain ⟨hkw,hlen,hC,hn,T,hfI,h₂⟩:=h₂;obtain rfl:akw=[]:=hkw;obtain ⟨hp,g,d,tk,os⟩:=s₂;simp only [hplain];refine wpAny_bind (wpAny_keeperOf_exc hC ?_);refine wpAny_bind (Yj F T hC hn hi hfI hfc hlen (wpAny_mono h₂ (fun r s' hr=>?_) fun _ _ x=>x));obtain ⟨e1,c1,⟨t,dx,e2⟩,e4⟩:=hr;exact ⟨e1,wpAny_bind (wpAny_holding (wpAny_point (wpAny_pure ⟨_,t,dx,rfl,c1,e2,e4⟩)))⟩
end
end PySem
namespace PySem.W
open PySem PySem.Calls PyProof.Rows Builtin Builtin.ObjectAttr
theorem Lb {h:Heap}{bmB bm:List Value}{self:Value}{what:Str} (T:OwnTail h bmB bm) (hp:refuseLoop self what bmB=pure ()):refuseLoop self what bm=pure ():=by
 induction T with
 | base=>exact hp
 | own _ _ _ _ ih=>rw [refuseLoop_ref];exact ih
section
variable {prog:Program}{w:World}{A:Around}{E:Value->Shared->Prop}{s:Shared}{K:Frag}
variable {nm q:Str}{C N:Addr}{bs bm:List Value}{sn:List Str}{sub:List Value}{ab:Bool}{col:Option Bool}{dd:Option Addr}{k0 k1 k2 k3 k5:Option Value}{newId:String}
theorem Xe {M:Model}{x t:Addr}{h:Heap}{g:Array GenState}{d:Drawn}{tk:Nat}{os:OsState}{Q:Option Addr->Shared->Prop} (hC:h.get? C=some (excClassObj nm q C N bs bm true sn sub ab col dd k0 k1 k2 k3 k5 newId)) (hx:h.get? x=some (n6 C t none))
  (hq:Q (some h.objs.size) ⟨(h.push { cls:=.type "dict",data:=.dict #[] }).update x fun o=>{ cls:=o.cls,dict:=some h.objs.size,data:=o.data,slots:=o.slots },g,d,tk,os⟩):wpAny M A (ownDictForStores (.ref x)) Q E ⟨h,g,d,tk,os⟩:=by
 unfold ownDictForStores instanceDict
 repeat (first | with_reducible refine wpAny_loadPart_at hx ?_ | with_reducible refine wpAny_loadPart_at hC ?_ | wp_step)
 exact hq
theorem abD {x t:Addr}{v:Value}{name:Str}{Q:Unit->Shared->Prop} (X:K.In s.heap) (T:OwnTail s.heap L2.rY bm) (hC:s.heap.get? C=some (excClassObj nm q C N bs bm true sn sub ab col dd k0 k1 k2 k3 k5 newId))
  (hs:findIn K (.ref C) "__setattr__"=some (some (.builtin "object.__setattr__"))) (ho:mroIn K C (.type "object")=some true) (ha:findIn K (.ref C) name=some none) (hx:s.heap.get? x=some (n6 C t none))
  (hq:∀ h' tk',h'.get? x=some (n6 C t (some s.heap.objs.size))->h'.Ns1 s.heap.objs.size (fun y=>if y=name then some v else none)->(∀ b o,b≠x->s.heap.get? b=some o->h'.get? b=some o)->Q () { s with heap:=h',toks:=tk' }) :
  wpAny (model prog w) A (setAttr (.ref x) name v) Q E s:=by
 obtain ⟨h,g,d,tk,os⟩:=s;dsimp only at X T hC hx hq;have I:InstAt h x (n6 C t none) C none:=⟨hx,rfl,rfl,trivial⟩;have SF:=PySem.F.store_object;have SV:=PySem.F.store_ValueError;refine set_plain X I hs ?_;have sub':Looks (model prog w) h (isInstance (.ref x) (.type "object")) true:=I.type.andThen (looks_mroIn X ho)
 refine codeAny_call_builtin SF.slot.plain SF.entry (@check_slot (model prog w) _ _ ⟨h,g,d,tk+1,os⟩ "object.__setattr__" "object" "__setattr__" (.ref x) [.str name tk,v] [] _ SF.kind SF.split sub' (SF.args (.ref x) (.str name tk) v) ?_)
 have hm:Looks (model prog w) h (mroOf (.ref C)) (.ref C::bm):=((Looks.ld (part:=none) hC).andThen .now).andThen .now;have L0:=I.type (M:=model prog w);have L1:=looks_findIn (M:=model prog w) X ha;rw [osa_eq,refuse_eq];refine wpAny_bind (wpAny_bind (L0.at (wpAny_bind (hm.at ?_))));rw [refuseLoop_ref,Lb T (SV.passes (.ref x))];refine wpAny_pure (wpAny_bind (L0.at (wpAny_bind (L1.at (wpAny_bind (wpAny_pure (a:=none) ?_))))));show wpAny _ _ (storeInOwnDict (.ref x) (.ref C) (.str name tk) name v false) _ _ _
 refine wpAny_bind (wpAny_pure (wpAny_bind (Xe hC hx ?_)));have hx₁:(h.push { cls:=.type "dict",data:=.dict #[] }).get? x=some (n6 C t none):=Heap.get?_push_of_some _ hx
 have hxs:x≠h.objs.size:=Nat.ne_of_lt (Heap.lt_size hx);have hgd:((h.push { cls:=.type "dict",data:=.dict #[] }).update x fun o=>{ cls:=o.cls,dict:=some h.objs.size,data:=o.data,slots:=o.slots }).get? h.objs.size=some { cls:=.type "dict",data:=.dict #[] } :=
  (Heap.get?_update_ne _ _ _ _ hxs.symm).trans (Heap.get?_push_at rfl rfl)
 have hnd:((h.push { cls:=.type "dict",data:=.dict #[] }).update x fun o=>{ cls:=o.cls,dict:=some h.objs.size,data:=o.data,slots:=o.slots }).Ns h.objs.size (fun _=>none) :=
  ⟨_,#[],_,hgd,rfl,fun e he=>absurd he (by simp),fun _=>rfl⟩
 show wpAny _ _ (storeInDict h.objs.size (.str name tk) name v) _ _ _
 unfold storeInDict newKeyGuard;refine wpAny_bind (wpAny_pure (wpAny_bind (wpAny_nsSet1 (Heap.Ns1.of_empty hnd) fun h' hn' hs'=>?_)));obtain ⟨oD,esD,epD,hoD,hdD,hcD⟩:=hn'.count (Within.cons name v Within.nil);refine wpAny_bind (wpAny_lookBehind hoD (by rw [hdD];exact pastItsLine_dict (Nat.le_trans hcD (by rw [List.length_cons,List.length_nil,sizeLine_eq];omega))) ?_);refine wpAny_pure (hq h' _ ?_ hn' fun b o hb e=>?_)
 .exact (hs'.2 x hxs).trans (Heap.get?_update_self _ hx₁ rfl)
 .exact (hs'.2 b (Nat.ne_of_lt (Heap.lt_size e))).trans ((Heap.get?_update_ne _ _ _ _ hb).trans (Heap.get?_push_of_some _ e))
end
end PySem.W
namespace L2
open PySem PySem.Spec PyProof.Rows
def fi0 (C e:Addr):Heap->Prop:=fun h=>∃ t,h.get? e=some (n6 C t none)
def fi1 (C e dd:Addr):Heap->Prop:=fun h=>∃ t,h.get? e=some (n6 C t (some dd))
theorem Rm {P:Program}{w:World}{H:Hp}{h:Heap}{C e:Addr} (x:fi0 C e h):bY P w H h e (.ext (fi0 C e)) :=
 ⟨x,let ⟨_,q⟩:=x;⟨_,q⟩,fun _ _ ⟨t,q⟩ k=>⟨t,k _ q⟩⟩
theorem ZL {P:Program}{w:World}{H:Hp}{h:Heap}{C e dd:Addr} (x:fi1 C e dd h):bY P w H h e (.ext (fi1 C e dd)) :=
 ⟨x,let ⟨_,q⟩:=x;⟨_,q⟩,fun _ _ ⟨t,q⟩ k=>⟨t,k _ q⟩⟩
theorem U6 {H:Hp}{e:Addr}{o:HO} (h:H e=some o):upd H e o=H:=by
 funext b;by_cases hb:b=e
 .subst hb;rw [aD,h]
 .rw [ak hb]
theorem tD {H:Hp}{b e:Addr}{o:HO} (h:H e=some o) (n:H b=none):b≠e:=fun z=>by rw [z,h] at n;cases n
structure InitK (K:PySem.W.Frag) (C Tb fI:Addr):Prop where
 cls:∃ nm q N bs bm sn sub ab col dd k0 k1 k2 k3 k5,K.lookup C=some (excClassObj nm q C N bs bm true sn sub ab col dd k0 k1 k2 k3 k5 "ValueError.__new__") /\ PySem.W.tailIn K rY bm=true /\ PySem.W.nsOkIn K N=true /\ PySem.W.nsIn K N "__init__"=some (some (.ref fI))
 read:PySem.W.readsIn K Tb (.type "type")=true
 find:PySem.W.findCls K (.ref Tb) (.type "type") "__init__"=some (.val (.builtin "ValueError.__init__"))
 ga:PySem.W.specialIn K (.ref Tb) "__getattribute__"=some (some (.builtin "type.__getattribute__"))
 sa:PySem.W.findIn K (.ref C) "__setattr__"=some (some (.builtin "object.__setattr__"))
 obj:PySem.W.mroIn K C (.type "object")=some true
 noat:PySem.W.findIn K (.ref C) "at"=some none
section
variable {X:Cx}{C Tb fI:Addr}{a1 a2:Expr}{p1 p2 p4:Pos}{x:Str}{ta:TA}
theorem Vv {pl:Sem Bool} (Z:InitK X.K C Tb fI) (hg:Gl X x) (hm:X.mg x=some (.ref Tb)) (ha:PA X [a1,a2] ta) (hd:(x == ("__debug__":Str))=false:=by decide)
  (hst:starEach [a1,a2] X.env=(false,eval a1 X.env)::starEach [a2] X.env:=by rfl) (hpl:(backTo p4 (starEach [a2] X.env)).any (·.1)=false:=by rfl)
  (ht:eval (.Call (.Attribute (.Name x p1) "__init__" p2) [a1,a2] [] p4) X.env=(do
   let ov <- eval (.Name x p1) X.env
   standAt p2.atName
   let (f,first) <- holding [ov] (getMethod ov "__init__" pl)
   callWith p4 f first (backTo p4 (starEach [a1,a2] X.env)) (backToKw p4 (keywordEach [] X.env))):=by rfl) :
  PE X (.Call (.Attribute (.Name x p1) "__init__" p2) [a1,a2] [] p4) (fun σ H Q=>ta σ H fun vs H1=>∃ e v,vs=[.ref e,v] /\ H1 e=some (.ext (fi0 C e)) /\ Q .non H1):=by
 intro pins s σ H Q I h;refine PySem.W.methodCall_KW (pl:=pl) (kZ I hg hm ?_ hd) ht;refine PySem.W.method_cls I.kIn Z.ga (PySem.W.cls_value I.kIn Z.read Z.find (by decide +kernel) ?_);refine PyProof.Rows.callWith_builtin1 (thn (ha p4 pins _ σ H _ (I.tok _) h) fun us s1 ⟨vs,H1,I1,r1,e,v,ev,he,q⟩=>?_) hst hpl;subst ev;obtain ⟨u0,u,rfl,r0,r1⟩:=vals2 r1;cases r0;obtain ⟨⟨t,he'⟩,_⟩:=I1.hok e _ he;obtain ⟨nm,q',N,bs,bm,sn,sub,ab,col,dd,k0,k1,k2,k3,k5,lk,tl,_,_⟩:=Z.cls;have hC:=I1.kIn _ _ lk;have T:=PySem.W.tail_of_in I1.kIn tl;have F:=PySem.F.excBase_ValueError;have I1':=I1;obtain ⟨hh,g,d,tk,os⟩:=s1;refine wpAny_call (codeAny_call_builtin F.init.plain F.initEntry (wpAny_check_init_subT F T hC he' rfl ?_))
 wp_walk
 have h2:((hh.push { cls:=.type "tuple",data:=.seq #[u] }).update e (Obj.mapFields fun x=>x.setIfInBounds 0 (Value.ref hh.objs.size))).get? e=some (n6 C hh.objs.size none):=by
  rw [Heap.get?_update_self _ (Heap.get?_push_of_some _ he') rfl];rfl
 have I2:=I1.write (x:=e) (e:=e) (o:=.ext (fi0 C e)) (h':=(hh.push { cls:=.type "tuple",data:=.seq #[u] }).update e (Obj.mapFields fun x=>x.setIfInBounds 0 (Value.ref hh.objs.size))) (t':=tk) (by rw [he]; trivial) (.inl rfl)
  (fun b o hb z=>(Heap.get?_update_other _ _ (Ne.symm hb)).trans (Heap.get?_push_of_some _ z)) ⟨_,h2⟩ (Rm ⟨_,h2⟩)
 rw [U6 he] at I2;exact ⟨.non,H1,I2,rfl,q⟩
theorem Inv.put2 {pins:List (Addr × Obj)}{σ:St}{H:Hp}{s:Shared}{e dd:Addr}{h':Heap}{t':Nat}{f:Heap->Prop}{o1 o2:HO} (I:Inv X pins σ H s) (he:H e=some (.ext f)) (hdd:s.heap.objs.size<=dd) (k:∀ b o,b≠e->s.heap.get? b=some o->h'.get? b=some o)
  (n1:bY X.prog X.w (upd (upd H dd o2) e o1) h' e o1) (n2:bY X.prog X.w (upd (upd H dd o2) e o1) h' dd o2):Inv X pins σ (upd (upd H dd o2) e o1) { s with heap:=h',toks:=t' }:=by
 have nd:H dd=none:=I.hok.fresh hdd;have ned:dd≠e:=fun z=>by rw [z,he] at nd;cases nd
 have oth:∀ b u,H b=some u->b≠e->upd (upd H dd o2) e o1 b=some u:=fun b u q hb=>by rw [ak hb,ak (aB q nd)];exact q
 refine I.un ⟨fun b o q n hb hx=>k b o (tD he n) q,fun b o q n hb hx=>⟨o.slots,k b o (tD he n) q⟩,fun b o q n hx=>?_,fun b o q hx=>?_,fun b xs q=>oth b _ q fun z=>?_,fun b o u q=>oth b _ q fun z=>?_,fun b ps q=>⟨#[],by rw [oth b _ q fun z=>by rw [z,he] at q;cases q];simp⟩⟩ fun b u q=>?_
 .have hbe:b≠e:=tD he n;have hbd:b≠dd:=fun z=>absurd (Nat.lt_of_lt_of_le (Heap.lt_size q) (z ▸ hdd)) (Nat.lt_irrefl _)
  rw [ak hbe,ak hbd];exact n
 .by_cases hb:b=e
  .subst hb;exact n1.there
  .exact ⟨o,k b o hb q⟩
 .rw [z,he] at q;cases q
 .rw [z,he] at q;cases q
 .by_cases hb:b=e
  .subst hb;rw [aD] at q;cases q;exact n1
  .by_cases hbd:b=dd
   .subst hbd;rw [ak hb,aD] at q;cases q;exact n2
   .rw [ak hb,ak hbd] at q;refine (I.hok b u q).stay (fun c v hc r=>k c v ?_ r) (fun c r=>oth c _ r fun z=>?_) (fun c xs r=>oth c _ r fun z=>?_) (fun c ob r _=>oth c _ r fun z=>?_)
    .rcases hc with rfl | hc
     .exact hb
     .intro z;rw [z,he] at hc;cases hc
    .rw [z,he] at r;cases r
    .rw [z,he] at r;cases r
    .rw [z,he] at r;cases r
theorem ab2 {o value:Expr}{to tv:TE}{pos pos':Pos} (Z:InitK X.K C Tb fI) (ha:PE X o to) (hv:PE X value tv) (hs:swapsWith value (some (.Attribute o "at" pos')) pos.line X.env=pure false) :
  PS X (.Assign [.Attribute o "at" pos'] value pos) (fun D σ H=>tv σ H fun y H1=>to σ H1 fun z H2=>∃ e,z=.ref e /\ H2 e=some (.ext (fi0 C e)) /\ ∀ dd,H2 dd=none -> dd ≠ e -> D.nx σ (upd (upd H2 dd (.xd [("at",y)])) e (.ext (fi1 C e dd)))):=by
 intro pins s σ H D I h;refine plainObj_wpAny_Assign_Attribute (thn (hv pins s σ H _ I h) fun u s1 ⟨y,H1,I1,ry,q⟩=>thn (ha pins s1 σ H1 _ I1 q) fun ov s2 ⟨z,H2,I2,rz,e,ez,he,q2⟩=>?_) hs;subst ez;obtain rfl:ov=Value.ref e:=rz;obtain ⟨⟨t,he'⟩,_⟩:=I2.hok e _ he;obtain ⟨nm,q',N,bs,bm,sn,sub,ab,col,dd,k0,k1,k2,k3,k5,lk,tl,_,_⟩:=Z.cls;refine PySem.W.abD I2.kIn (PySem.W.tail_of_in I2.kIn tl) (I2.kIn _ _ lk) Z.sa Z.obj Z.noat he' fun h' tk' e1 e2 e3=>?_
 have nd:H2 s2.heap.objs.size=none:=I2.hok.fresh (Nat.le_refl _);have ned:s2.heap.objs.size≠e:=fun z=>by rw [z,he] at nd;cases nd
 refine ⟨σ,_,I2.put2 (o2:=.xd [("at",y)]) he (Nat.le_refl _) e3 (ZL ⟨t,e1⟩) ⟨_,e2,fun f=>?_⟩,q2 _ nd ned⟩
 by_cases hf:f="at"
 .subst hf;exact ry
 .have hb:(f == ("at":Str))=false:=by simpa using hf
  rw [if_neg hf];show Nx (List.lookup f [(("at":Str),y)]) none
  rw [List.lookup_cons,hb]
  trivial
end
noncomputable def inN:List Str:=["self","at"]
noncomputable def inScope:Scope:={ kind:=.function,names:=[(Str.ofString "self",.local),(Str.ofString "at",.local),(Str.ofString "TestError",.globalImplicit)],isGenerator:=false,isCoroutine:=false,more:=[] }
noncomputable def inBody (p1 p2 p3 p4 p5 p6 p7 p8 p9 q1 q2 q3 q4:Pos) (j:Nat) (tx:Str):List Stmt :=
 [.Expr (.Call (.Attribute (.Name "TestError" p1) "__init__" p2) [.Name "self" p3,.JoinedStr [.Constant (.str tx) j p4,.FormattedValue (.Name "at" p5) (-1) none p6] p7] [] p8) p9,.Assign [.Attribute (.Name "self" q1) "at" q2] (.Name "at" q3) q4]
def ab1 (sep:Str) (ta:TE):TE:=fun σ H Q=>ta σ H fun x H1=>∃ i:Int,x=.int i/\i.natAbs.log2 < 1920/\(Str.empty++sep).length<=sizeLine/\(Str.empty++sep++Str.ofString (toString i)).length<=sizeLine/\Q (.str (Str.empty++sep++Str.ofString (toString i))) H1
theorem Xg {X:Cx}{a:Expr}{ta:TE}{sep:Str}{j:Nat}{p1 p2 pos:Pos} (ha:PE X a ta) (hl:(Str.empty++sep).length<=sizeLine):PE X (.JoinedStr [.Constant (.str sep) j p1,.FormattedValue a (-1) none p2] pos) (ab1 sep ta):=by
 intro pins s σ H Q I h;refine wpAny_JoinedStr ?_;show wpAny _ _ (eval (.Constant (.str sep) j p1) X.env) _ _ _
 refine Calls.Constant_str ⟨_,_,rfl,hl,?_⟩;show wpAny _ _ (eval (.FormattedValue a (-1) none p2) X.env) _ _ _
 refine wpAny_FormattedValue_plain (thn (ha pins _ σ H _ (I.tok _) h) fun v s1 ⟨x,H1,I1,r1,i,e,hi,l1,l2,q1⟩=>?_);subst e;obtain ⟨t,rfl⟩:=r1;refine wpAny_formatField_int hi ⟨_,_,rfl,l2,l2,?_⟩;exact ⟨.str _,H1,(I1.tok _).tok _,⟨_,rfl⟩,q1⟩
def HD (p1 p2 p3 p4 p5 p6 p7 p8:Pos) (j:Nat) (tx:Str):Prop:=∀ env:Env,∃ pl:Sem Bool,eval (.Call (.Attribute (.Name "TestError" p1) "__init__" p2) [.Name "self" p3,.JoinedStr [.Constant (.str tx) j p4,.FormattedValue (.Name "at" p5) (-1) none p6] p7] [] p8) env=(do
   let ov <- eval (.Name "TestError" p1) env
   standAt p2.atName
   let (f,first) <- holding [ov] (getMethod ov "__init__" pl)
   callWith p8 f first (backTo p8 (starEach [.Name "self" p3,.JoinedStr [.Constant (.str tx) j p4,.FormattedValue (.Name "at" p5) (-1) none p6] p7] env)) (backToKw p8 (keywordEach [] env)))
def Ql (C:Addr) (tx:Str):Sp:=fun vs H Q _=>∃ e,∃ n:Int,vs=[.ref e,.int n] /\ n.natAbs.log2 < 1920 /\ (Str.empty ++ tx ++ Str.ofString (toString n)).length <= sizeLine /\ H e=some (.ext (fi0 C e)) /\ ∀ dd,H dd=none -> dd ≠ e -> Q .non (upd (upd H dd (.xd [("at",.int n)])) e (.ext (fi1 C e dd)))
theorem VG {P:Program}{w:World}{K:PySem.W.Frag}{mg:Str->Option Value}{base:Heap}{C Tb fI:Addr}{params:Arguments}{dV kV doc pm cdv ct oc:Value}{an od:Option Addr}{osl:Array (Option Value)}{p1 p2 p3 p4 p5 p6 p7 p8 p9 q1 q2 q3 q4:Pos}{j:Nat}{tx:Str}{A:Around}{outer:List Env}
  (Z:InitK K C Tb fI) (ht:HD p1 p2 p3 p4 p5 p6 p7 p8 j tx) (hm:mg (Str.ofString "TestError")=some (.ref Tb)) (hl:(Str.empty ++ tx).length <= sizeLine) (hdp:A.depth < recursionLimit) (hh:A.handled=none)
  (lk:K.lookup fI=some ⟨oc,od,.func (PySem.W.fnOf "__init__" "BadTests.__init__" params (inBody p1 p2 p3 p4 p5 p6 p7 p8 p9 q1 q2 q3 q4 j tx) inScope dV kV doc pm an cdv ct),osl⟩) (hcd:PySem.W.codeIn K cdv "BadTests.__init__"=true) :
  RunAt P w K mg base A outer fI (PySem.W.fnOf "__init__" "BadTests.__init__" params (inBody p1 p2 p3 p4 p5 p6 p7 p8 p9 q1 q2 q3 q4 j tx) inScope dV kV doc pm an cdv ct) ["self","at"] (Ql C tx):=by
 have S:FnScope inN ["self","at"] inScope:=Mi.jD (by decide +kernel)
 refine aaI lk hcd S hdp hh (fun vs H Q E h=>?_) fun s H vs Q E h=>?_
 .obtain ⟨e,n,rfl,_⟩:=h;rfl
 .obtain ⟨e,n,rfl,hn,hl2,he,k⟩:=h;have vis:∀ x∈inN,Vis inScope x:=fun x hx=>.inl ((show ∀ x∈inN,inScope.names.lookup x=some .local by decide +kernel) x hx)
  have p0:∀ {p},PE (bV CX0 P w K mg base inN "BadTests.__init__" inScope fI cdv A outer s H E) (.Name "self" p) (Dk 0):=jY rfl (vis _ (by decide +kernel)) (by decide +kernel) (by decide +kernel)
  have p1':∀ {p},PE (bV CX0 P w K mg base inN "BadTests.__init__" inScope fI cdv A outer s H E) (.Name "at" p) (Dk 1):=jY rfl (vis _ (by decide +kernel)) (by decide +kernel) (by decide +kernel)
  obtain ⟨pl,ht'⟩:=ht (bV CX0 P w K mg base inN "BadTests.__init__" inScope fI cdv A outer s H E).env
  have b1:=Vv (pl:=pl) (X:=bV CX0 P w K mg base inN "BadTests.__init__" inScope fI cdv A outer s H E) (x:="TestError") (p1:=p1) (p2:=p2) (p4:=p8) Z (show inScope.names.lookup (Str.ofString "TestError")=some .globalImplicit by decide +kernel) hm (dw (p0 (p:=p3)) (dw (Xg (j:=j) (p1:=p4) (p2:=p6) (pos:=p7) (p1' (p:=p5)) hl) jz)) (by decide +kernel) rfl rfl ht'
  have b2:=ab2 (X:=bV CX0 P w K mg base inN "BadTests.__init__" inScope fI cdv A outer s H E) (pos:=q4) (pos':=q2) Z (p0 (p:=q1)) (p1' (p:=q3)) rfl
  refine ⟨_,jK (yJ b1 (Mi.jF rfl)) (jP b2),?_⟩;exact ⟨.ref e,rfl,.int n,rfl,n,rfl,hn,hl,hl2,e,_,rfl,he,.int n,rfl,.ref e,rfl,e,rfl,he,k⟩
end L2
namespace L2
open PySem PySem.Spec PyProof.Rows
theorem Nf {K:PySem.W.Frag}{h:Heap}{N:Addr}{mg:Str->Option Value}{n:Str}{v:Value} (X:K.In h) (G:h.Ns N mg) (e:PySem.W.nsIn K N n=some (some v)):mg n=some v:=by
 obtain ⟨o,es,ep,ho,hd,_,hf⟩:=G;unfold PySem.W.nsIn at e;split at e
 .rename_i c d es' n' sl q;have:=X _ _ q;rw [ho] at this;cases this;cases hd;split at e
  .rename_i en he;cases e;rw [<- hf];unfold nsFind findBy;rw [<- Array.find?_toList,he];rfl
  .split at e <;> cases e
 .cases e
section
variable {X:Cx}{pins:List (Addr × Obj)}{σ:St}{H H':Hp}{s s':Shared}{E:XK}{e C Tb fI t:Addr}{dx:Option Addr}{E2:Value->Shared->Prop}
theorem Inv.dropX {f:Heap->Prop} (I:Inv X pins σ H s) (he:H e=some (.ext f)) (h0:X.s₀.heap.get? e=none):Inv X pins σ (drop H e) s:=by
 have oth:∀ b u,H b=some u->(∀ g,u≠.ext g)->drop H e b=some u:=fun b u q n=>by
  rw [aX (fun z=>by rw [z,he] at q;cases q;exact n f rfl)];exact q
 refine ⟨I.ok,I.os,I.bare,⟨I.base.keep,I.base.slot,fun b o q n hx=>?_,I.base.there,fun b xs q=>oth b _ (I.base.tups b xs q) (fun _ z=>nomatch z),fun b o u q=>oth b _ (I.base.frzs b o u q) (fun _ z=>nomatch z),fun b ps q=>?_⟩,I.loc,I.cell,?_,fun x c q=>?_,fun p hp=>?_,fun b u q=>?_,I.len⟩
 .rw [aX (fun z=>by rw [z,h0] at q;cases q)];exact I.base.free b o q n hx
 .obtain ⟨m,z⟩:=I.base.tbls b ps q;exact ⟨m,oth b _ z (fun _ z=>nomatch z)⟩
 .by_cases hb:X.env.locals=e
  .rw [hb];exact cT
  .rw [aX hb];exact I.free
 .by_cases hb:c=e
  .rw [hb];exact cT
  .rw [aX hb];exact I.freeC x c q
 .obtain ⟨a1,a2,a3⟩:=I.pin p hp;refine ⟨a1,?_,a3⟩;by_cases hb:p.1=e
  .rw [hb];exact cT
  .rw [aX hb];exact a2
 .have hb:b≠e:=fun z=>by subst z;rw [cT] at q;cases q
  rw [aX hb] at q;exact (I.hok b u q).stay (fun _ _ _ z=>z) (fun c r=>oth c _ r fun _ z=>nomatch z) (fun c xs r=>oth c _ r fun _ z=>nomatch z) (fun c ob r _=>oth c _ r fun _ z=>nomatch z)
theorem Xq (hex:X.ex=[]) (hst:X.stack=X.env::X.outer) (hf:X.env.frame=some X.env.locals) (I:Inv X pins σ H' s') (he:s'.heap.get? e=some (n6 C t dx)) (h0:X.s₀.heap.get? e=none) (hn:H' e=none) (hE:E (.ref C) dx H') :
  wpAny (model X.prog X.w) X.A (leaving X.env (.ref e)) (fun _ s''=>CX1 X.prog X.w X.outer X.H₀ X.s₀ E (.ref e) s'') E2 s':=by
 have fr:=I.stack;have hin:∀ env∈X.stack,∀ b,env.frame=some b->b∈e::frs X.stack:=fun env he b hb=>List.mem_cons_of_mem _ (List.mem_filterMap.mpr ⟨env,he,hb⟩)
 have fh:=PySem.W.funFrames_hide (h:=s'.heap) fr hin;rw [hst] at fh;have hen:(PySem.W.hideAll s'.heap (e::frs (X.env::X.outer))).get? e=none:=PySem.W.hideAll_none _ List.mem_cons_self;refine wpAny_mono (rM (CJ _ _) (wpAny_leaving_firstW (Q:=fun _ s''=>∃ h4,s''={ s' with heap:=h4 }/\Heap.LeftW (PySem.W.hideAll s'.heap (e::frs (X.env::X.outer))) (X.env::X.outer) e (.ref C) (.ref t) s'.heap h4) (base:=PySem.W.hideAll s'.heap (e::frs (X.env::X.outer))) (L:=X.env.locals) (a0:=.ref t) (by rw [I.ok.frames,hst]) fh hf he (fun b o q=>PySem.W.of_hideAll _ q) hen rfl rfl rfl fun h4 hL=>⟨h4,rfl,hL⟩)) (fun _ s'' ⟨⟨h4,es,hL⟩,ds⟩=>?_) fun _ _ z=>z.1
 subst es;obtain ⟨k1,⟨_,_,k2⟩,k3,up⟩:=hL;have hB:StB X.fs X.s₀.heap H' s'.heap (PySem.W.hideAll s'.heap (e::frs (X.env::X.outer))):=fun b o eb hh hb=>by
  refine PySem.W.hideAll_get _ eb fun z=>?_
  rcases List.mem_cons.mp z with z | z
  .subst z;rcases hh with ⟨u,q⟩ | q
   .rw [h0] at q;cases q
   .exact q hn
  .rw [<- hst,rQ hst hf] at z;rcases List.mem_cons.mp z with z | z
   .exact I.notLoc hh z
   .exact hb z
 have u:=I.base;rw [hex] at u;obtain ⟨u1,u2,u3⟩:=uE u I.hok I.fsFree I.fsData hB k1 up;have hD:DictAt s'.heap e dx:=fun d hd=>⟨_,he,hd⟩
 exact ⟨e,C,_,dx,H',_,rfl,I.os,I.bare,u1,u2,⟨k1,hen,k2,k3⟩,u3,hD.ds ds,hE⟩
def RzD (X:Cx) (E:XK):Prop:=∀ (pins:List (Addr × Obj)) (σ:St) (H':Hp) (s':Shared) (e C t:Addr) (dx:Option Addr),Inv X pins σ H' s'->s'.heap.get? e=some (n6 C t dx)->X.s₀.heap.get? e=none->H' e=none->E (.ref C) dx H'->X.xe (.ref e) s'
theorem abf {P:Program}{w:World}{K:PySem.W.Frag}{mg:Str->Option Value}{base:Heap}{N:List Str}{qual:Str}{scope:Scope}{f:Addr}{cd:Value}{A:Around}{outer:List Env}{s:Shared}{H:Hp}{E:XK} :
  RzD (bV (CX1 P w) P w K mg base N qual scope f cd A outer s H E) E:=fun pins σ H' s' e C t dx I he h0 hn hE=>Xq (X:=bV (CX1 P w) P w K mg base N qual scope f cd A outer s H E) rfl rfl rfl I he h0 hn hE
theorem Qw {x:Str}{np cpos pos:Pos}{a:Expr}{ta:TE}{fd:FuncData}{tx:Str}{oI:Obj} (Z:InitK X.K C Tb fI) (rz:RzD X E) (hc:X.calm=true) (hfI:X.K.lookup fI=some oI) (hfc:oI.cls=.type "function")
  (RA:∀ us,RunAt X.prog X.w X.K X.mg X.base (X.A.under (.builtin "type.__call__" ⟨.ref C::us,[]⟩)) X.stack fI fd ["self","at"] (Ql C tx)) (hb:Binds X.K fd ["self","at"] [])
  (hg:Gl X x) (hm:X.mg x=some (.ref C)) (ha:PE X a ta) (hd:(x == ("__debug__":Str))=false) (hpl:(backTo cpos (starEach [a] X.env)).any (·.1)=false) (hsa:starEach [a] X.env=(false,eval a X.env)::starEach [] X.env:=by rfl) :
  PS X (.Raise (some (.Call (.Name x np) [a] [] cpos)) none pos) (fun _ σ H=>Hl ta Iz σ H fun vs H1=>∃ n:Int,vs=[.int n] /\ n.natAbs.log2 < 1920 /\ (Str.empty ++ tx ++ Str.ofString (toString n)).length <= sizeLine /\ ∀ dd,H1 dd=none -> E (.ref C) (some dd) (upd H1 dd (.xd [("at",.int n)]))):=by
 intro pins s σ H D I h;obtain ⟨nm,q',N,bs,bm,sn,sub,ab,col,dd,k0,k1,k2,k3,k5,lk,tl,hok,hni⟩:=Z.cls;have T0:=PySem.W.tail_of_in (bmB:=rY) I.kIn tl;refine V7 (C:=C) (nm:=nm) (q:=q') (N:=N) (bs:=bs) (bm:=bm) (hdct:=true) (sn:=sn) (sub:=sub) (ab:=ab) (col:=col) (dd:=dd) (k0:=k0) (k1:=k1) (k2:=k2) (k3:=k3) (k5:=k5) (mN:=X.base.nsMap N) (fI:=fI) (oI:=oI) PySem.F.excBase_ValueError (T0.hasType PySem.F.excBase_ValueError.hasBase) (I.ok.hd hc) hpl (Nf I.mod.kin (.of_isNs (PySem.W.isNs_of_in I.mod.kin hok)) hni) hfc (kZ I hg hm ⟨rfl,?_⟩ hd);rw [hsa];have hpa:=(dw ha jz hsa) cpos pins s σ H _ I h;rw [hsa] at hpa;refine Calls.evalArgs_plain (thn hpa fun us s1 ⟨vs,H1,I1,r1,n,ev,hn1,hn2,hE⟩=>?_);subst ev;obtain ⟨u,rfl,ru⟩:∃ u,us=[u]/\RelV (.int n) u:=by
  cases r1 with
  | cons a b=>cases b;exact ⟨_,rfl,a⟩
 have n0:∀ b,s1.heap.objs.size<=b->X.s₀.heap.get? b=none:=fun b hb=>by
  cases z:X.s₀.heap.get? b with
  | none=>rfl
  | some o=>exact absurd (Nat.lt_of_lt_of_le (Heap.lt_size z) (Nat.le_trans I1.sz hb)) (Nat.lt_irrefl _)
 have hget:((s1.heap.push { cls:=.type "tuple",data:=.seq [u].toArray }).push (j5 C s1.heap.objs.size)).get? (s1.heap.objs.size+1)=some (j5 C s1.heap.objs.size):=Heap.get?_push_at (by rw [Heap.size_push]) rfl
 have I2:=I1.laid (a:=s1.heap.objs.size+1) (o:=.ext (fi0 C (s1.heap.objs.size+1))) (h':=(s1.heap.push { cls:=.type "tuple",data:=.seq [u].toArray }).push (j5 C s1.heap.objs.size)) (t':=s1.toks) (fun b o q=>Heap.get?_push_of_some _ (Heap.get?_push_of_some _ q)) (Nat.le_succ _) (Rm ⟨_,hget⟩)
 have ne:H1 (s1.heap.objs.size+1)=none:=I1.hok.fresh (Nat.le_succ _);refine ⟨rfl,by show 1<=sizeLine;decide,I1.kIn _ _ lk,(Heap.Ns.of_isNs (PySem.W.isNs_of_in I.mod.kin hok)).keeps I1.bk,PySem.W.tail_of_in I1.kIn tl,I1.kIn _ _ hfI,?_⟩;refine wpAny_call (codeAny_mono ((RA [u]).run { s1 with heap:=(s1.heap.push { cls:=.type "tuple",data:=.seq [u].toArray }).push (j5 C s1.heap.objs.size) } (upd H1 (s1.heap.objs.size+1) (.ext (fi0 C (s1.heap.objs.size+1)))) ⟨[.ref (s1.heap.objs.size+1),u],[]⟩ [.ref (s1.heap.objs.size+1),u] [.ref (s1.heap.objs.size+1),.int n]
  (fun v H'=>v=.non /\ ∃ dd,H1 dd=none /\ dd ≠ s1.heap.objs.size+1 /\ H'=upd (upd (upd H1 (s1.heap.objs.size+1) (.ext (fi0 C (s1.heap.objs.size+1)))) dd (.xd [("at",.int n)])) (s1.heap.objs.size+1) (.ext (fi1 C (s1.heap.objs.size+1) dd))) E0 (I2.env0.make C [u] []) (hb _ [_,u] I2.kIn rfl) (.cons rfl (.cons ru .nil))
  ⟨s1.heap.objs.size+1,n,rfl,hn1,hn2,aD,fun dd hdd hne=>⟨rfl,dd,by rw [ak hne] at hdd;exact hdd,hne,rfl⟩⟩) fun r s' hq=>?_)
 cases r with
 | error ex=>exact False.elim hq
 | ok fl =>
  cases fl with
  | next=>exact False.elim hq
  | brk=>exact False.elim hq
  | cont=>exact False.elim hq
  | ret w' =>
   obtain ⟨v,H',I3,rv,ev,dd,hdd,hne,eH⟩:=I2.after hq;subst ev;subst eH;obtain ⟨⟨t',he'⟩,_⟩:=I3.hok (s1.heap.objs.size+1) _ aD;have I4:=I3.dropX (e:=s1.heap.objs.size+1) aD (n0 _ (Nat.le_succ _));have eq:drop (upd (upd (upd H1 (s1.heap.objs.size+1) (.ext (fi0 C (s1.heap.objs.size+1)))) dd (.xd [("at",.int n)])) (s1.heap.objs.size+1) (.ext (fi1 C (s1.heap.objs.size+1) dd))) (s1.heap.objs.size+1)=upd H1 dd (.xd [("at",.int n)]):=by
    funext b;by_cases hb:b=s1.heap.objs.size+1
    .subst hb;rw [cT,ak (Ne.symm hne),ne]
    .rw [aX hb,ak hb];by_cases hbd:b=dd
     .subst hbd;rw [aD,aD]
     .rw [ak hbd,ak hbd,ak hb]
   rw [eq] at I4;exact ⟨rv,I3.kIn _ _ lk,⟨t',some dd,he'⟩,rz pins σ _ s' _ C t' (some dd) I4 he' (n0 _ (Nat.le_succ _)) (by rw [ak (Ne.symm hne)];exact ne) (hE dd hdd)⟩
end
end L2
set_option maxHeartbeats 1000000
namespace L2
open PySem PySem.Spec PyProof.Rows
structure RunX (P:Program) (w:World) (K:PySem.W.Frag) (mg:Str->Option Value) (base:Heap) (A:Around) (outer:List Env) (f:Addr) (fd:FuncData) (ps:List Str) (sp:Sp):Prop where
 len:∀ vs H Q E,sp vs H Q E->vs.length=ps.length
 run:∀ (s:Shared) (H:Hp) (args:Args) (us:List Value) (vs:List V) (Q:VK) (E:XK),Env0 P w K mg base A outer s H->BindsTo s fd args (ps.zip us)->Vals vs us->sp vs H Q E->codeAny (model P w) A (.call (.ref f) args) (CR (CX1 P w) outer P w H s Q E) s
theorem M9 {P:Program}{w:World}{K:PySem.W.Frag}{mg:Str->Option Value}{base:Heap}{A:Around}{outer:List Env}{f:Addr}{name qual:Str}{params:Arguments}{body:List Stmt}{scope:Scope}{dV kV doc pm cdv ct oc:Value}{an od:Option Addr}
  {osl:Array (Option Value)}{N ps:List Str}{sp:Sp} (lk:K.lookup f=some ⟨oc,od,.func (PySem.W.fnOf name qual params body scope dV kV doc pm an cdv ct),osl⟩) (hcd:PySem.W.codeIn K cdv qual=true) (S:FnScope N ps scope) (hdp:A.depth < recursionLimit) (hh:A.handled=none)
  (len:∀ vs H Q E,sp vs H Q E->vs.length=ps.length)
  (hbody:∀ (s:Shared) (H:Hp) (vs:List V) (Q:VK) (E:XK),sp vs H Q E ->
   ∃ t,PSs (bV (CX1 P w) P w K mg base N qual scope f cdv A outer s H E) body t/\t { nx:=fun _ H'=>Q .non H',rt:=Q } (start N vs) H) :
  RunX P w K mg base A outer f (PySem.W.fnOf name qual params body scope dV kV doc pm an cdv ct) ps sp:=by
 refine ⟨len,fun s H args us vs Q E e0 hb r hsp=>?_⟩;have hl:=len _ _ _ _ hsp;have KX:K.In s.heap:=e0.mod.kin.keeps fun b o e=>(e0.bs b o e).1
 have lim:s.heap.NoLimit:=e0.mod.nolimit.keeps fun b o e=>(e0.bs b o e).1
 have hkind:∀ y∈ps.zip us,scope.names.lookup y.1=some .local\/(scope.names.lookup y.1=some .cell/\((cellsFrom (s.heap.objs.size+1) scope.names []).lookup y.1).isSome=true):=fun ⟨n,v⟩ hy=>by
  rcases S.par n (List.of_mem_zip hy).1 with q | q
  .exact .inl q
  .exact .inr ⟨q,PySem.W.cellsFrom_some _ _ _ (.inl q)⟩
 refine codeAny_call_function hdp (KX _ _ lk) rfl S.co S.gen rfl (PySem.W.codeRec_of KX hcd) (hb _ _ _ _ ?_);refine wpAny_newFunctionEnv_cells S.kind hkind fun env he s1 x=>?_
 subst he;refine ⟨lim.keeps x.toInCall.keep,codeAny_func ?_⟩;obtain ⟨t,ht,hq⟩:=hbody s H vs Q E hsp;have I:Inv (bV (CX1 P w) P w K mg base N qual scope f cdv A outer s H E) [] (start N vs) H s1:=yx S hh e0 hl r x;refine wpAny_mono (ht [] s1 (start N vs) H _ I hq) (fun fl s' hs=>?_) fun e s' hs=>hs
 have fin:∀ {σ':St}{H':Hp}{v:V}{u:Value},Inv (bV (CX1 P w) P w K mg base N qual scope f cdv A outer s H E) [] σ' H' s'->RelV v u->Q v H'->CE outer P w H s Q u s' :=
  fun {σ' H' v u} J rv q=>⟨v,H',J.os,J.bare,J.base,J.hok,rv,q⟩
 cases fl with
 | ret u =>
  obtain ⟨v,σ',H',J,rv,q⟩:=hs;exact fin J rv q
 | next =>
  obtain ⟨σ',H',J,q⟩:=hs;exact fin (v:=V.non) (u:=Value.none) J rfl q
 | brk =>
  obtain ⟨_,_,_,q⟩:=hs;exact False.elim q
 | cont =>
  obtain ⟨_,_,_,q⟩:=hs;exact False.elim q
section
variable {X:Cx}{pins:List (Addr × Obj)}{σ:St}{H:Hp}{s:Shared}{k:Nat}{fa c:Addr}{fd:FuncData}{ps:List Str}{sp:Sp}{xb:Str}{ocell:Obj}{ub:Value}{E:XK}
theorem RZ {Q:VK}{vs:List V}{us:List Value} (F:RunX X.prog X.w X.K X.mg X.base X.A X.stack fa fd ps sp) (hx:Passes (CX1 X.prog X.w) X E) (hb:Binds X.K fd ps []) (I:Inv X pins σ H s) (hcl:X.env.cells.lookup xb=some c) (hfn:X.fn xb=true)
  (ec:s.heap.get? c=some ocell) (hcell:ocell.data=.cell (some ub)) (r:Vals vs us) (h:sp vs (upd H c (.frz ocell bM)) (fun v H1=>Q v (drop H1 c)) (fun C d H1=>E C d (drop H1 c))):wpAny (model X.prog X.w) X.A (call (.ref fa) us) (EP X pins σ Q) X.xe s:=by
 have hn:H c=none:=I.freeC xb c hcl;have hnl:¬ lamO ocell:=fun ⟨vs,t,z,_⟩=>by rw [hcell] at z;cases z
 have c0:X.s₀.heap.objs.size<=c:=I.ok.cab xb c hfn hcl;have old:∀ b o,X.s₀.heap.get? b=some o->b≠c:=fun b o e z=>absurd (Nat.lt_of_lt_of_le (Heap.lt_size e) (z ▸ c0)) (Nat.lt_irrefl _)
 have cfr:c ∉ frs X.stack:=fun z=>by
  rcases List.mem_cons.mp (I.stkSub c z) with e | e
  .exact I.cne xb c hcl e
  .obtain ⟨_,o,ho,_⟩:=I.ok.funs.mem e;exact old c o ho rfl
 have e0:=I.env0;have e1:Env0 X.prog X.w X.K X.mg X.base X.A X.stack s (upd H c (.frz ocell bM)):=⟨e0.frames,e0.mod,fun b o e=>⟨(e0.bs b o e).1,by rw [ak (old b o (I.ok.bs b o e).1)];exact (e0.bs b o e).2⟩,e0.bsz,e0.funs,fun b hb=>by rw [ak (fun z:b=c=>cfr (by rw [<- z];exact hb))];exact e0.frf b hb,e0.hok.lend hn ec,e0.bare,fun a o fd d oc vs p e1 e2 e3 e4 e5 e6 e7=>by
  obtain ⟨q,e⟩:=e0.tab a o fd d oc vs p e1 e2 e3 e4 e5 e6 e7;exact ⟨q,by rw [ak (aB e hn)];exact e⟩⟩
 have hl:(us++[]).length=ps.length:=by rw [List.append_nil,<- r.length];exact F.len _ _ _ _ h
 have hb':=hb s us I.kIn hl;rw [List.append_nil] at hb';refine wpAny_call (codeAny_mono (F.run s _ ⟨us,[]⟩ us vs _ _ e1 hb' r h) fun r s' hq=>?_);cases r with
 | error ev =>
  obtain ⟨e,C,a0,dd,H',B,rfl,os,bare,un,ok,fly,stb,hD,hE⟩:=hq;obtain ⟨un2,ok2⟩:=Ln hn ec hnl cfr un ok;refine hx pins σ H s _ s' I ⟨e,C,a0,dd,drop H' c,B,rfl,os,bare,un2,ok2,fly,fun b o eb hh hb=>stb b o eb (hh.imp id fun q z=>q ?_) hb,hD,hE⟩;by_cases hbc:b=c
  .rw [hbc];exact cT
  .rw [aX hbc];exact z
 | ok fl =>
  cases fl with
  | ret u =>
   obtain ⟨v,H',os,bare,un,ok,rv,q⟩:=hq;obtain ⟨un2,ok2⟩:=Ln hn ec hnl cfr un ok;exact I.after ⟨v,drop H' c,os,bare,un2,ok2,rv,q⟩
  | next=>exact False.elim hq
  | brk=>exact False.elim hq
  | cont=>exact False.elim hq
theorem Vt {params:Arguments}{body:Expr}{scope:Scope}{lpos p p2 pos:Pos}{cc Pt:Addr}{xc y:Str}{i0 i1:Nat} (F:RunX X.prog X.w X.K X.mg X.base X.A X.stack fa fd ps sp) (hx:Passes (CX1 X.prog X.w) X E) (hb:Binds X.K fd ps []) (hg:Gl X xc) (hm:X.mg xc=some (.ref fa)) (hk:PySem.W.keepIn X.K (.ref fa)=true)
  (h0:X.N[i0]?=some xb) (hsc:X.env.scope.names.lookup xb=some .cell) (hfn:X.fn xb=true) (h1:X.N[i1]?=some y) (hv1:Vis X.env.scope y) (hd1:(y == ("__debug__":Str))=false) (hd2:(y == ("__classdict__":Str))=false) (hdb:(xc == ("__debug__":Str))=false)
  (hclo:∀ c,X.env.cells.lookup xb=some c -> closureFor scope X.env=pure [(xb,c)]) (hcode:X.env.code=.ref cc) (C:∀ h:Heap,X.K.In h -> PySem.W.CodeHd h cc Pt) (hPt:∀ H,sH X.K X.mg H -> ∃ q,H Pt=some (.tbl q)) (hdef:defaultsOf params X.env=([],[])) (hqn:X.env.qual ++ "<lambda>"=dX) :
  PE X (.Call (.Name xc p) [.Name y p2,.Lambda params body scope lpos] [] pos) (fun σ H Q=>∃ vb vt,σ[i0]?=some (some vb)/\σ[i1]?=some (some vt)/\∀ f c' oc pm ctv c ocell ub H',(∀ b o,H b=some o->H' b=some o)->H c=none->H' c=none ->
   H' f=some (.frz (PySem.W.kla_obj "<lambda>" dX params body scope [(xb,c)] pm c' ctv) bM) -> H' c'=some (.frz oc bM) -> lamO oc -> ocell.data=.cell (some ub) -> RelV vb ub -> sp [vt,.ref f] (upd H' c (.frz ocell bM)) (fun v H1=>Q v (drop H1 c)) (fun C d H1=>E C d (drop H1 c))):=by
 intro pins s σ H Q I h;obtain ⟨vb,vt,e0,e1,h⟩:=h;refine wpAny_Call_Name_kw (kZ I hg hm ?_ hdb);have pa:=dw (jY (pos:=p2) h1 hv1 hd1 hd2) (dw (ZQ (X:=X) (pos:=lpos) (params:=params) (body:=body) hsc hclo hcode C hPt hdef hqn) jz);refine PySem.W.callWith_K (h₀:=X.base) I.ok.mod.kin hk (thn (pa pos pins s σ H (fun vs H1=>∃ f c' oc pm ctv c,vs=[vt,.ref f] /\ X.env.cells.lookup xb=some c /\ (∀ b o,H b=some o -> H1 b=some o) /\ H c=none /\ H1 f=some (.frz (PySem.W.kla_obj "<lambda>" dX params body scope [(xb,c)] pm c' ctv) bM) /\ H1 c'=some (.frz oc bM) /\ lamO oc) I ?_) fun us s1 ⟨vs,H1,I1,r,f,c',oc,pm,ctv,c,ev,hc,mono,hn,hf,hc',hlo⟩=>⟨I1.kIn,?_⟩)
 .exact ⟨vt,e1,fun f c' oc pm ctv c H' hc mono nf hn hn' hf hc' hlo=>⟨f,c',oc,pm,ctv,c,rfl,hc,mono,hn,hf,hc',hlo⟩⟩
 .subst ev;obtain ⟨m,hns,hl⟩:=I1.loc;obtain ⟨ub,rb,lk⟩:=hl i0 xb vb h0 e0 (.inr (.inl hsc));rcases lk with ⟨hk',_⟩ | ⟨_,c2,hc2,ocell,hoc,hcell⟩
  .have:X.env.scope.names.lookup xb=some .local:=hk';rw [hsc] at this;cases this
  .rw [hc] at hc2;cases hc2;exact RZ F hx hb I1 hc hfn hoc hcell r (h f c' oc pm ctv c ocell ub H1 mono hn (I1.freeC xb c hc) hf hc' hlo hcell rb)
end
end L2
set_option maxHeartbeats 1000000
namespace Mi
open PySem L2
open PyProof.Rows hiding St
theorem Ey {f:D -> R D}:∀ {ts:List D}{k:Nat}{x:Xc},gk f k ts=.exc x -> x.cls="BadTests"
 | [],_,_,h=>by cases h
 | t::ts,k,x,h=>by
  replace h:(match f t with | .ok (.bl true)=>gk f (k+1) ts | .ok (.bl false)=>fJ k | _=>.stuck)=.exc x:=h;split at h
  .exact Ey h
  .unfold fJ at h;split at h
   .cases h;rfl
   .cases h
  .cases h
theorem Bh {f:D->R D}:∀ {ts:List D}{k:Nat}{z:D},gk f k ts=.ok z->z=.non
 | [],_,_,h=>by cases h;rfl
 | t::ts,k,z,h=>by
  replace h:(match f t with | .ok (.bl true)=>gk f (k+1) ts | .ok (.bl false)=>fJ k | _=>.stuck)=.ok z:=h;split at h
  .exact Bh h
  .unfold fJ at h;split at h <;> cases h
  .cases h
theorem Gj {f:D->R D}{d z:D} (h:jk f d=.ok z):z=.non:=by
 have no:fJ 0=.ok z->False:=fun h=>by unfold fJ at h;split at h <;> cases h
 cases d <;> first | exact Bh h | exact (no h).elim
theorem Ii {k:Nat} (h:fJ k ≠ .stuck):nC k=true /\ fJ k=.exc ⟨"BadTests",.int k⟩:=by
 unfold fJ at h ⊢;by_cases q:nC k=true
 .rw [if_pos q];exact ⟨q,rfl⟩
 .rw [if_neg q] at h;exact absurd rfl h
structure InK (K:PySem.W.Frag) (mg:Str->Option Value) (C:Addr):Prop where
 ex:∃ Tb fI params dV kV doc pm cdv ct an od osl p1 p2 p3 p4 p5 p6 p7 p8 p9 q1 q2 q3 q4 j,InitK K C Tb fI /\ HD p1 p2 p3 p4 p5 p6 p7 p8 j oW /\ mg (Str.ofString "TestError")=some (.ref Tb) /\
  K.lookup fI=some ⟨.type "function",od,.func (PySem.W.fnOf "__init__" "BadTests.__init__" params (inBody p1 p2 p3 p4 p5 p6 p7 p8 p9 q1 q2 q3 q4 j oW) inScope dV kV doc pm an cdv ct),osl⟩ /\ PySem.W.codeIn K cdv "BadTests.__init__"=true /\
  Binds K (PySem.W.fnOf "__init__" "BadTests.__init__" params (inBody p1 p2 p3 p4 p5 p6 p7 p8 p9 q1 q2 q3 q4 j oW) inScope dV kV doc pm an cdv ct) ["self","at"] []
 me:mg (Str.ofString "BadTests")=some (.ref C)
section
variable {X:Cx}{C:Addr}{Ek:XK}{a:Expr}{ta:TE}{np cpos pos:Pos}
theorem RP (Z:InK X.K X.mg C) (rz:RzD X Ek) (hc:X.calm=true) (hg:Gl X (Str.ofString "BadTests")) (hdp:X.A.depth+2 < recursionLimit) (hh:X.A.handled=none) (ha:PE X a ta) (hpl:(backTo cpos (starEach [a] X.env)).any (·.1)=false) (hsa:starEach [a] X.env=(false,eval a X.env)::starEach [] X.env) :
  PS X (.Raise (some (.Call (.Name "BadTests" np) [a] [] cpos)) none pos) (fun _ σ H=>Hl ta Iz σ H fun vs H1=>∃ n:Int,vs=[.int n] /\ n.natAbs.log2 < 1920 /\ (Str.empty ++ oW ++ Str.ofString (toString n)).length <= sizeLine /\ ∀ dd,H1 dd=none -> Ek (.ref C) (some dd) (upd H1 dd (.xd [("at",.int n)]))):=by
 obtain ⟨Tb,fI,params,dV,kV,doc,pm,cdv,ct,an,od,osl,p1,p2,p3,p4,p5,p6,p7,p8,p9,q1,q2,q3,q4,j,z,tr,mT,lk,hcd,hb⟩:=Z.ex;have hl:(Str.empty++oW).length<=sizeLine:=by decide +kernel
 exact Qw (X:=X) (E:=Ek) (x:="BadTests") (np:=np) (cpos:=cpos) (pos:=pos) (a:=a) (ta:=ta) z rz hc lk rfl (fun us=>VG (A:=X.A.under (.builtin "type.__call__" ⟨.ref C::us,[]⟩)) (outer:=X.stack) z tr mT hl (by rw [Nb]; omega) hh lk hcd) hb hg Z.me ha (by decide +kernel) hpl hsa
end
theorem vA {k:Nat} (h:nC k=true):((k:Int).natAbs.log2 < 1920)/\(Str.empty++oW++Str.ofString (toString (k:Int))).length<=sizeLine:=by
 unfold nC at h;simp only [Bool.and_eq_true,decide_eq_true_eq] at h;exact h
section
variable {cl:Nat->List D->R D}{X:Cx}{n g:Nat}{T:Tx}{b:D}{E:Ent}{Es:Hp}{fa:Addr}{C:Addr}{Ek:XK}{Ez:Xc->Option Addr->Hp->Prop}
def abE (X:Cx) (E:Ent) (Es:Hp) (Ez:Xc->Option Addr->Hp->Prop) (cl:Nat->List D->R D) (g:Nat) (b:D):TS:=fun En' σ H=>∃ ρ Hs,FR (gOf X) E Es [] ρ σ H Hs/\∃ d k bb,ρ[3]?=some (some d)/\ρ[2]?=some (some (.int (k:Nat)))/\cl g [b,d]=.ok (.bl bb) /\
   (if bb=true then (∀ σ' H' Hs',FR (gOf X) E Es [] ρ σ' H' Hs' -> Same Hs Hs' -> En'.nx σ' H') else (nC k=true /\ ∀ H' Hs' dd,Grow E.hp Es H' Hs' -> AtD H' dd (.int (k:Nat)) -> Ez ⟨"BadTests",.int (k:Nat)⟩ dd H'))
noncomputable def uf (x:Expr) (r1 r2 r3:Pos):Stmt:=.Raise (some (.Call (.Name "BadTests" r1) [x] [] r2)) none r3
theorem Z7 {p1 p2 p3 p4 p5 r1 r2 r3 r4:Pos} (F:FnsP T cl X.prog X.w X.K X.mg X.base n) (hT:T.F[g]?=some (Str.ofString "is_test")) (hr:∀ env,Room n (X.A.deeper env)) (hdp:X.A.depth+2 < recursionLimit) (hh:X.A.handled=none) (hN:X.N=clN) (hsc:X.env.scope=bF) (hca:X.calm=true)
  (Z:InK X.K X.mg C) (rz:RzD X Ek) (hez:∀ (k:Nat) dd H',Ez ⟨"BadTests",.int (k:Nat)⟩ dd H' -> Ek (.ref C) dd H') (hp:E.pins=[(1,fa)]) (hs:Same Es E.hp) (hc:CloAt (gOf X) E.hp Es fa b) :
  PS X (RX p1 p2 p3 p4 p5 [uf (.Name "place" r1) r2 r3 r4]) (abE X E Es Ez cl g b):=by
 have vis:∀ x∈clN,Vis X.env.scope x:=fun x hx=>by
  rw [hsc];refine .inl ?_;have:∀ x∈clN,bF.names.lookup x=some .local:=by decide +kernel
  exact this x hx
 have hpe:PE X (.Name "thing" p2) (Dk 3):=jY (by rw [hN]; rfl) (vis _ (by decide +kernel)) (by decide +kernel) (by decide +kernel)
 have hpl:PE X (.Name "place" r1) (Dk 2):=jY (by rw [hN]; rfl) (vis _ (by decide +kernel)) (by decide +kernel) (by decide +kernel)
 have hcall:=Wd (X:=X) (p:=p1) (pos:=p3) (W:=fun f v H Q=>∃ Hs d z,Same Hs H /\ CloAt (gOf X) H Hs f b /\ Rp (gOf X) Hs d v /\ cl g [b,d]=.ok z /\ XD X H Hs Q z) (j:=1) (x:="is_right") (by rw [hN]; rfl) (vis _ (by decide +kernel)) (by decide +kernel) (by decide +kernel) hpe rfl
  (fun f pins s σ H v u Q I ru ⟨Hs,d,z,h1,h2,h3,h4,h5⟩=>Wb F hT hr (by omega) hh I ru h1 h2 h3 h4 h5)
  (fun f s H ok ⟨ob,h1,oc,od,fd,sl,h2⟩=>by subst h2;exact ⟨oc,od,fd,sl,(ok f _ h1).1⟩)
 have hpt:=RQ (pos:=p4) (Ce hcall (jm rfl));have hra:=RP (X:=X) (Ek:=Ek) (np:=r2) (cpos:=r3) (pos:=r4) Z rz hca (by show X.env.scope.names.lookup _=_;rw [hsc];decide +kernel) hdp hh hpl rfl rfl;refine bJ (Cv hpt (jP hra) uc) fun D σ H=>?_
 rintro ⟨ρ,Hs,Fr,d,k,bb,hd3,hd2,hz,kk⟩;have Fr':FR (gOf X) E Es [] ρ σ H Hs:=Fr;obtain ⟨v,ev,rv⟩:=Fr.val 3 d hd3 (by simp);obtain ⟨w,ew,rw'⟩:=Fr.val 2 _ hd2 (by simp);cases aQ.mp rw';have ep:=Fr.pin (1,fa) (by rw [hp];exact List.mem_singleton.mpr rfl);have cg:=hc.grow hs Fr.grow;refine ⟨fa,ep,?_,v,ev,Hs,d,.bl bb,Fr.grow.sub,cg,rv,hz,fun v' H' Hs' g' r'=>⟨bb,j9.mp r',?_⟩⟩
 .obtain ⟨p0,p1,p2,p3,p4,c,c',oc,ocell,ub,vb,pm,ctv,h1,_⟩:=cg.ex;exact ⟨_,h1,_,_,_,_,rfl⟩
 .cases bb with
  | true =>
   rw [if_pos rfl] at kk;show (if (!true)=true then _ else _)
   exact kk σ H' Hs' (Fr.grown g') (g'.same Fr.grow.sub)
  | false =>
   rw [if_neg Bool.false_ne_true] at kk;refine Va (show Hl (Dk 2) Iz σ H' _ from ?_);refine ⟨_,ew,k,rfl,(vA kk.1).1,(vA kk.1).2,fun dd hdd=>hez _ _ _ (kk.2 _ Hs' (some dd) ((Fr.grown g').grow.trans (Grow.own (g'.sub) hdd)) ⟨dd,rfl,aD⟩)⟩
noncomputable def acF (ρ:En):R D->R Out
 | .ok _=>.ok (.nx ρ)
 | .exc x=>.exc x
 | .stuck=>.stuck
theorem Fe:∀ (ts:List D) (k i:Nat) (d:D),(bT k ts)[i]?=some d->∃ t,ts[i]?=some t/\d=.tup [.int (k+i:Nat),t]
 | [],_,_,_,h=>by cases h
 | t::ts,k,0,d,h=>by cases h;exact ⟨t,rfl,rfl⟩
 | t::ts,k,i+1,d,h=>by
  obtain ⟨t',e1,e2⟩:=Fe ts (k+1) i d h;exact ⟨t',e1,by rw [e2,show k+1+i=k+(i+1) by omega]⟩
theorem Fz:∀ (ts:List D) (k:Nat),(bT k ts).length=ts.length
 | [],_=>rfl
 | t::ts,k=>by show (bT (k+1) ts).length+1=_;rw [Fz];rfl
theorem Xd {q1 q2 q3 q4 q5 q6 q12:Pos}{j:Nat}{body:List Stmt} (hp:PassesOwn (model X.prog X.w) X.A X.env X.xe) (hN:X.N=clN) (Cc:Cok ⟨[],[]⟩ (clB cl g b) X) (SR:ScRel bF X) (hpin:E.pins=[(1,fa)])
  (hb:PSs X body (abE X E Es Ez cl g b)) :
  PS X (.For (.Tuple [.Name "place" q1,.Name "thing" q2] j q3) (.Call (.Name "enumerate" q4) [.Name "things" q5] [] q6) body [] q12)
   (fun D σ H=>∃ ts Hs,FR (gOf X) E Es [] [some (.lst ts),none,none,none] σ H Hs/\XEnd (gOf X) E Es Hs (some []) D Ez (acF [some (.lst ts),none,none,none] (gk (fun t=>cl g [b,t]) 0 ts))):=by
 have h1:tgB X.N bF (.two 2 3) (.Tuple [.Name "place" q1,.Name "thing" q2] j q3)=true:=by rw [hN]; rfl
 have h2:nD bF .enum (.Tuple [.Name "place" q1,.Name "thing" q2] j q3) (.Call (.Name "enumerate" q4) [.Name "things" q5] [] q6)=true:=rfl
 have h3:cB ⟨[],[]⟩ X.N [.var 0] bF (pL .enum (.Call (.Name "enumerate" q4) [.Name "things" q5] [] q6))=true:=by rw [hN]; rfl
 refine bJ (RG hp Cc.calm (uG Cc SR (fun m _=>good m) h2 h3) (kh Cc SR h1) hb (uq (pX h2))) fun D σ H=>?_
 rintro ⟨ts,Hs,F,kk⟩;generalize hR:gk (fun t=>cl g [b,t]) 0 ts=rr at kk;obtain ⟨Hs1,F1,m1,vs⟩:=F.pubU (aM [M.var 0]);refine ⟨[some (.lst ts),none,none,none],Hs1,bT 0 ts,F1.sub,vs,rfl,fun J H1 Hs2 g2 sr=>?_⟩;have F2:=F1.grown g2;obtain ⟨Hs3,F3,m3⟩:=F2.fewer (O':=[]) fun i hi=>by cases hi
 have mm:Same Hs Hs3:=(m1.trans (g2.same F1.sub)).trans m3;refine Mf sr (fun i σ H=>∃ Hs',FR (gOf X) E Es [] [some (.lst ts),none,none,none] σ H Hs'/\Same Hs3 Hs'/\gk (fun t=>cl g [b,t]) i (ts.drop i)=rr) ⟨Hs3,F3,Same.refl _,hR⟩ (fun i σ H ⟨Hs',F',s',_⟩=>(m3.trans s').trans F'.sub) ?_ ?_
 .rintro i d x σ1 H1' H2' hdi ⟨Hs',F',s',hgo⟩ hy';obtain ⟨t,hti,rfl⟩:=Fe ts 0 i d hdi;rw [Nat.zero_add] at *
  obtain ⟨hlt,ed⟩:=List.getElem?_eq_some_iff.mp hti;rw [List.drop_eq_getElem_cons hlt,ed] at hgo;obtain ⟨Hs4,g4,rx⟩:=sr.yld i H1' x H2' Hs' _ (m3.trans s') F'.sub hdi hy';have F4:=F'.grown g4;have s4:Same Hs3 Hs4:=s'.trans (g4.same F'.sub);have hρ2:fu (.two 2 3) (.tup [.int (i:Nat),t]) [some (.lst ts),none,none,none]=.ok [some (.lst ts),none,some (.int (i:Nat)),some t]:=rfl;refine pD (X:=X) g4.sub hρ2 rx fun l hl hrl eρ=>?_
  have F5:=F4.putL (by rw [hl,hpin];intro q hq;rw [List.mem_singleton.mp hq];show (1:Nat) ∉ [2,3];decide) hrl;rw [<- eρ] at F5;obtain ⟨Hs6,F6,m6⟩:=F5.fewer (O':=[]) fun j hj=>by cases hj
  have back:∀ {σ' H' Hs'},FR (gOf X) E Es [] [some (.lst ts),none,some (.int (i:Nat)),some t] σ' H' Hs'->FR (gOf X) E Es [] [some (.lst ts),none,none,none] σ' H' Hs':=fun F=>F.less rfl fun j d q=>by
   match j,q with
   | 0,q=>exact q
   | 1,q=>cases q
   | 2,q=>cases q
   | 3,q=>cases q
   | j+4,q=>cases q
  replace hgo:(match cl g [b,t] with | .ok (.bl true)=>gk (fun t=>cl g [b,t]) (i+1) (ts.drop (i+1)) | .ok (.bl false)=>fJ i | _=>.stuck)=rr:=hgo;cases hz:cl g [b,t] with
  | stuck=>rw [hz] at hgo;rw [<- hgo] at kk;exact kk.elim
  | exc y=>rw [hz] at hgo;rw [<- hgo] at kk;exact kk.elim
  | ok z =>
   rw [hz] at hgo;cases z with
   | bl bb =>
    cases bb with
    | true=>exact ⟨_,Hs6,F6,t,i,true,rfl,rfl,hz,Va fun σ' H' Hs7 F7 s7=>⟨Hs7,back F7,(s4.trans m6).trans s7,hgo⟩⟩
    | false =>
     replace hgo:fJ i=rr:=hgo;rw [<- hgo] at kk;have hne:fJ i≠.stuck:=fun z=>by rw [z] at kk;exact kk
     obtain ⟨sm,e⟩:=Ii hne;rw [e] at kk;exact ⟨_,Hs6,F6,t,i,false,rfl,rfl,hz,aaf ⟨sm,fun H' Hs' dd g' hd=>kk H' Hs' dd g' hd⟩⟩
   | _=>rw [<- hgo] at kk;exact kk.elim
 .rintro σ1 H1' ⟨Hs',F',s',hgo⟩;rw [Fz,List.drop_length] at hgo;replace hgo:R.ok Mi.D.non=rr:=hgo;rw [<- hgo] at kk;exact kk [] rfl _ _ _ F' (mm.trans s')
end
section
variable {T:Tx}{cl:Nat->List D->R D}{P:Program}{w:World}{K:PySem.W.Frag}{mg:Str->Option Value}{base:Heap}{n:Nat}
def acW (g:G) (mg:Str->Option Value) (cl:Nat->List D->R D) (q:Nat):Sp:=fun vs H Q E=>∃ vt fa b d Hs,vs=[vt,.ref fa]/\Same Hs H/\CloAt g H Hs fa b/\Rp g Hs d vt/\Jl g mg H Hs Q E (jk (fun t=>cl q [b,t]) d)
theorem T9 {d:D} (h:jc d .list=true):∃ ts,d=.lst ts:=by
 cases d <;> first | exact ⟨_,rfl⟩ | cases h
theorem S6 {f:D->R D}{d:D} (h:jc d .list=false):jk f d=fJ 0:=by
 cases d <;> first | rfl | cases h
theorem Xb {q:Nat}{f C:Addr}{params:Arguments}{dV kV doc pm cdv ct oc:Value}{an od:Option Addr}{osl:Array (Option Value)}{p1 p2 p3 p4 p5 p6:Pos}{q1 q2 q3 q4 q5 q6 q7 q8 q9 q10 q11 q12 q13 r1 r2 r3 s1 s2 s3 s4:Pos}{j j0:Nat}{A:Around}{outer:List Env}{e1:Env}
  (F:FnsP T cl P w K mg base n) (hT:T.F[q]?=some (Str.ofString "is_test")) (hr:Room (n+1) A) (Z:InK K mg C)
  (lk:K.lookup f=some ⟨oc,od,.func (PySem.W.fnOf "check_list" "check_list" params (yh p1 p2 p3 p4 p5 p6 (some (.Call (.Name "BadTests" r1) [.Constant (.int 0) j0 r2] [] r3)) none q1 q2 q3 q4 q5 q6 q7 q8 q9 q10 q11 q12 q13 j [uf (.Name "place" s1) s2 s3 s4]) bF dV kV doc pm an cdv ct),osl⟩) (hcd:PySem.W.codeIn K cdv "check_list"=true) :
  RunX P w K mg base (A.deeper e1) outer f (PySem.W.fnOf "check_list" "check_list" params (yh p1 p2 p3 p4 p5 p6 (some (.Call (.Name "BadTests" r1) [.Constant (.int 0) j0 r2] [] r3)) none q1 q2 q3 q4 q5 q6 q7 q8 q9 q10 q11 q12 q13 j [uf (.Name "place" s1) s2 s3 s4]) bF dV kV doc pm an cdv ct) ["things","is_right"] (acW ⟨P,w,K⟩ mg cl q):=by
 have S:FnScope clN ["things","is_right"] bF:=jD (by decide +kernel)
 have hdp0:=hr.dp;refine M9 lk hcd S (by show A.depth+1 < _;omega) hr.hd (fun vs H Q E h=>?_) fun s H vs Q E h=>?_
 .obtain ⟨vt,fa,b,d,Hs,rfl,_⟩:=h;rfl
 .obtain ⟨vt,fa,b,d,Hs,rfl,hs,hc,rt,k⟩:=h;have hr2:=ab8 hr e1 (envOfC "check_list" bF s.heap.objs.size f cdv)
  have hdp:(bV (CX1 P w) P w K mg base clN "check_list" bF f cdv (A.deeper e1) outer s H E).A.depth+2 < recursionLimit:=by show A.depth+1+1+2 < recursionLimit; have:=hr.dp; omega
  have Cc:Cok ⟨[],[]⟩ (clB cl q b) (bV (CX1 P w) P w K mg base clN "check_list" bF f cdv (A.deeper e1) outer s H E):=FnsP.cok (X:=bV (CX1 P w) P w K mg base clN "check_list" bF f cdv (A.deeper e1) outer s H E) (ac5 F) rfl S.nd hr2
  have SR:ScRel bF (bV (CX1 P w) P w K mg base clN "check_list" bF f cdv (A.deeper e1) outer s H E):=⟨fun y h=>uQ h,fun y h=>uT h,fun y h=>h,fun y h=>⟨mH h,.inl rfl⟩⟩
  have rz:RzD (bV (CX1 P w) P w K mg base clN "check_list" bF f cdv (A.deeper e1) outer s H E) E:=abf
  have hra:=RP (X:=bV (CX1 P w) P w K mg base clN "check_list" bF f cdv (A.deeper e1) outer s H E) (Ek:=E) (np:=r1) (cpos:=r3) (pos:=q13) Z rz rfl (show bF.names.lookup (Str.ofString "BadTests")=some .globalImplicit by decide +kernel) hdp hr.hd (Jz (i:=0) (j:=j0) (pos:=r2)) rfl rfl
  have h1:=WY (T:=⟨[],[]⟩) (cl:=clB cl q b) (X:=bV (CX1 P w) P w K mg base clN "check_list" bF f cdv (A.deeper e1) outer s H E) (sc:=bF) (E:=⟨H,[(1,fa)]⟩) (Es:=Hs) (O:=[]) (pos:=p6) (Ez:=fun x dd H'=>(x.val=.non -> AtD H' dd (.int 0)) -> E (.ref C) dd H') (c:=.not (.isin (.var 0) .list)) (a:=[.rai "BadTests"]) (b:=[]) (x:=none) (y:=some []) (c':=.UnaryOp .Not (.Call (.Name "isinstance" p1) [.Name "things" p2,.Name "list" p3] [] p4) p5) (a':=[.Raise (some (.Call (.Name "BadTests" r1) [.Constant (.int 0) j0 r2] [] r3)) none q13]) (b':=[]) Cc SR rfl
   (jP (bJ hra fun D σ H'=>?_)) (jQ uc fun D σ H'=>?_)
  .have h2:=Z7 (cl:=cl) (g:=q) (X:=bV (CX1 P w) P w K mg base clN "check_list" bF f cdv (A.deeper e1) outer s H E) (T:=T) (b:=b) (E:=⟨H,[(1,fa)]⟩) (Es:=Hs) (fa:=fa) (Ek:=E) (Ez:=fun x dd H'=>(x.val=.non -> AtD H' dd (.int 0)) -> E (.ref C) dd H') (p1:=q7) (p2:=q8) (p3:=q9) (p4:=q10) (p5:=q11) (r1:=s1) (r2:=s2) (r3:=s3) (r4:=s4) F hT (fun env=>acZ hr e1 _ env) hdp hr.hd rfl rfl rfl Z rz (fun _ _ _ h=>h fun z=>by cases z) rfl hs hc
   have h3:=Xd (cl:=cl) (g:=q) (X:=bV (CX1 P w) P w K mg base clN "check_list" bF f cdv (A.deeper e1) outer s H E) (b:=b) (E:=⟨H,[(1,fa)]⟩) (Es:=Hs) (fa:=fa) (Ez:=fun x dd H'=>(x.val=.non -> AtD H' dd (.int 0)) -> E (.ref C) dd H') (q1:=q1) (q2:=q2) (q3:=q3) (q4:=q4) (q5:=q5) (q6:=q6) (q12:=q12) (j:=j) PassesOwn.leaving rfl Cc SR rfl (jP h2)
   refine ⟨_,jK h1 (jP h3),?_⟩;have FR0:FR ⟨P,w,K⟩ ⟨H,[(1,fa)]⟩ Hs [] [some d,none,none,none] [some vt,some (.ref fa),none,none] H Hs:=by
    refine ⟨Grow.refl hs,rfl,fun i d h _=>?_,fun i hi=>(by cases hi),fun i hi=>(by cases hi),fun z hz=>by rw [List.mem_singleton.mp hz];rfl⟩
    match i,h with
    | 0,h=>cases h;exact ⟨vt,rfl,rt⟩
    | 1,h=>cases h
    | 2,h=>cases h
    | 3,h=>cases h
    | i+4,h=>cases h
   have exc0:∀ {k:Nat},Jl ⟨P,w,K⟩ mg H Hs Q E (fJ k)->∀ H' Hs' dd,Grow H Hs H' Hs'->AtD H' dd (.int k)->E (.ref C) dd H':=fun {k} hk=>by
    have hne:fJ k≠.stuck:=fun z=>by rw [z] at hk;exact hk
    rw [(Ii hne).2] at hk;exact fun H' Hs' dd g' hd=>hk H' Hs' C dd Z.me g' hd
   refine ⟨[some d,none,none,none],Hs,FR0,?_⟩;show XEnd _ _ _ _ _ _ _ (yH (aR (clB cl q b) [.rai "BadTests"] [some d,none,none,none]) (aR (clB cl q b) [] [some d,none,none,none]) (.ok (.bl (!jc d .list))))
   cases hd:jc d .list with
   | false =>
    rw [S6 hd] at k;intro H' Hs' dd g' _ hd;exact exc0 k H' Hs' dd g' (hd rfl)
   | true =>
    obtain ⟨ts,rfl⟩:=T9 hd;refine fun O1 e σ' H' Hs' F' s'=>?_
    cases e;refine ⟨ts,Hs',F',?_⟩;replace k:Jl ⟨P,w,K⟩ mg H Hs Q E (gk (fun t=>cl q [b,t]) 0 ts):=k;cases hg:gk (fun t=>cl q [b,t]) 0 ts with
    | stuck=>rw [hg] at k;exact k
    | exc x =>
     rw [hg] at k;have hx:=Ey hg;intro H2 Hs2 dd g2 hd _;exact k H2 Hs2 C dd (by rw [hx];exact Z.me) g2 hd
    | ok z =>
     rw [hg] at k;have hz:=Bh hg;subst hz;intro O1 e σ2 H2 Hs2 F2 s2;exact k .non H2 Hs2 F2.grow (tZ.mpr rfl)
  .rintro ⟨ρ,Hs1,F',k'⟩;replace k':∀ H' Hs' dd,Grow H Hs H' Hs'->True->(Mi.D.non=Mi.D.non->AtD H' dd (.int 0))->E (.ref C) dd H':=k';have sm:nC 0=true:=by decide +kernel
   exact ⟨0,rfl,(vA sm).1,(vA sm).2,fun dd hdd=>k' _ Hs1 (some dd) (F'.grow.trans (Grow.own F'.sub hdd)) trivial fun _=>⟨dd,rfl,aD⟩⟩
  .rintro ⟨ρ,Hs1,F',k'⟩;exact k' [] rfl σ H' Hs1 F' (Same.refl _)
structure LamKX (K:PySem.W.Frag) (mg:Str->Option Value) (act:Addr) (cdv:Value):Prop where
 cl:∃ f params dV kV doc pm cv ct oc an od osl p1 p2 p3 p4 p5 p6 q1 q2 q3 q4 q5 q6 q7 q8 q9 q10 q11 q12 q13 r1 r2 r3 s1 s2 s3 s4 j j0,K.lookup f=some ⟨oc,od,.func (PySem.W.fnOf "check_list" "check_list" params (yh p1 p2 p3 p4 p5 p6 (some (.Call (.Name "BadTests" r1) [.Constant (.int 0) j0 r2] [] r3)) none q1 q2 q3 q4 q5 q6 q7 q8 q9 q10 q11 q12 q13 j [uf (.Name "place" s1) s2 s3 s4]) bF dV kV doc pm an cv ct),osl⟩ /\ PySem.W.codeIn K cv "check_list"=true /\
  mg (Str.ofString "check_list")=some (.ref f) /\ PySem.W.keepIn K (.ref f)=true /\ Binds K (PySem.W.fnOf "check_list" "check_list" params (yh p1 p2 p3 p4 p5 p6 (some (.Call (.Name "BadTests" r1) [.Constant (.int 0) j0 r2] [] r3)) none q1 q2 q3 q4 q5 q6 q7 q8 q9 q10 q11 q12 q13 j [uf (.Name "place" s1) s2 s3 s4]) bF dV kV doc pm an cv ct) ["things","is_right"] []
 code:∃ cc Pt oc vs file tf flags tg inF text tt,cdv=.ref cc /\ K.lookup cc=some oc /\ oc.cls=.type "code" /\ oc.data=.fields vs /\ vs[11]?=some (.ref Pt) /\ vs.getD 11 .none=.ref Pt /\ vs.getD 18 .none=.str file tf /\ vs.getD 7 .none=.int flags tg /\ vs.getD 9 .none=.bool inF /\ vs.getD 10 .none=.int text tt /\ cc ≠ Pt
 me:mg "check_tests"=some (.ref act)
 bad:∃ C,InK K mg C
theorem Ss {q:Nat}{act:Addr}{params:Arguments}{dV kV doc pm cdv ct oc:Value}{an od:Option Addr}{osl:Array (Option Value)}{p1 p2 p3 p4 p5 p6 p7 p8 p9 p10:Pos}{c:List D->R D}
  (F:FnsP T cl P w K mg base n) (hT:T.F[q]?=some (Str.ofString "is_test")) (hc:∀ ds,c ds ≠ .stuck -> ∃ b d,ds=[b,d] /\ c ds=jk (fun t=>cl q [b,t]) d)
  (lk:K.lookup act=some ⟨oc,od,.func (PySem.W.fnOf "check_tests" "check_tests" params (CG p1 p2 p3 p4 p5 p6 p7 p8 p9 p10) iz dV kV doc pm an cdv ct),osl⟩) (hcd:PySem.W.codeIn K cdv "check_tests"=true) (L:LamKX K mg act cdv) :
  FnOk P w K mg base (CX1 P w) (n+1) act (PySem.W.fnOf "check_tests" "check_tests" params (CG p1 p2 p3 p4 p5 p6 p7 p8 p9 p10) iz dV kV doc pm an cdv ct) ["book","tests"] (spX ⟨P,w,K⟩ mg c 2):=by
 have S:FnScope ctN ["book","tests"] iz:=jD (by decide +kernel)
 have len:∀ (vs:List V) (H:Hp) (Q:VK) (E:XK),spX ⟨P,w,K⟩ mg c 2 vs H Q E -> vs.length=([("book":Str),"tests"]:List Str).length:=fun vs H Q E h=>by
  obtain ⟨ds,Hs,h,_⟩:=h;exact h
 refine ⟨len,fun A outer s H args us vs Q E hr e0 hb r hsp=>(M9 (N:=ctN) lk hcd S (by have:=hr.dp;omega) hr.hd len fun s H vs Q E h=>?_).run s H args us vs Q E e0 hb r hsp⟩;obtain ⟨ds,Hs,hlen,hs,rs,k⟩:=h;have hne:c ds≠.stuck:=fun z=>by rw [z] at k;exact k
 obtain ⟨b,d,rfl,ec⟩:=hc _ hne;rw [ec] at k;obtain ⟨vb,ws,rfl,rb,rs2⟩:=rs.cons_inv;obtain ⟨vt,ws,rfl,rt,rs3⟩:=rs2.cons_inv;cases rs3.nil_inv;obtain ⟨fc,params',dV',kV',doc',pm',cv',ct',oc',an',od',osl',a1,a2,a3,a4,a5,a6,b1,b2,b3,b4,b5,b6,b7,b8,b9,b10,b11,b12,b13,r1,r2,r3,s1,s2,s3,s4,j,j0,g1,g2,g3,g4,g5⟩:=L.cl;obtain ⟨cc,Pt,ocd,vsd,file,tf,flags,tg,inF,text,tt,d1,d2,d3,d4,d5,d6,d7,d8,d9,d10,d11⟩:=L.code;obtain ⟨C,Z⟩:=L.bad;have RA:=Xb (e1:=envOfC "check_tests" iz s.heap.objs.size act cdv) (outer:=envOfC "check_tests" iz s.heap.objs.size act cdv::outer) F hT hr Z g1 g2
 have hpe:=Vt (X:=bV (CX1 P w) P w K mg base ctN "check_tests" iz act cdv A outer s H E) (E:=E) (xb:="book") (y:="tests") (xc:="check_list") (i0:=0) (i1:=1) (params:=Er p3) (body:=yV p4 p5 p6 p7) (scope:=dj) (lpos:=p8) (p:=p1) (p2:=p2) (pos:=p9) (cc:=cc) (Pt:=Pt)
  RA Ij.pass g5 (show iz.names.lookup (Str.ofString "check_list")=some .globalImplicit by decide +kernel) g3 g4 rfl (show iz.names.lookup (Str.ofString "book")=some .cell by decide +kernel) rfl rfl (.inl (show iz.names.lookup (Str.ofString "tests")=some .local by decide +kernel)) (by decide +kernel) (by decide +kernel) (by decide +kernel)
  (fun c h=>Yi h) d1 (fun h X=>⟨ocd,vsd,file,tf,flags,tg,inF,text,tt,X _ _ d2,d3,d4,d5,d6,d7,d8,d9,d10,d11⟩) (fun H' tab=>tab act _ _ cc ocd vsd Pt L.me lk rfl d1 d2 d4 d5) rfl (show ("check_tests":Str) ++ ".<locals>." ++ "<lambda>"=dX by decide +kernel)
 refine ⟨_,jP (yJ hpe (jF rfl)),?_⟩;refine ⟨vb,vt,rfl,rfl,fun f c' oc pm ctv cx ocell ub H' mono hn hn' hf hc' hlo hcell rub=>?_⟩;have nf:f≠cx:=fun z=>by rw [z,hn'] at hf;cases hf
 have nc:c'≠cx:=fun z=>by rw [z,hn'] at hc';cases hc'
 have hsc:Hs cx=none:=hs.free hn;have back:∀ {H1 Hs1:Hp},Grow (upd H' cx (.frz ocell bM)) Hs H1 Hs1->Grow H Hs (drop H1 cx) Hs1:=fun {H1 Hs1} w1=>by
  have o1:Hs1 cx=none:=(w1.old cx _ aD).trans hsc;refine ⟨fun a o e=>?_,fun a o e=>?_,fun a o e=>?_⟩
  .have na:a≠cx:=fun z=>by rw [z,hn] at e;cases e
   rw [aX na];exact w1.keep a o (by rw [ak na];exact mono _ _ e)
  .have na:a≠cx:=fun z=>by rw [z,hn] at e;cases e
   exact w1.old a o (by rw [ak na];exact mono _ _ e)
  .rw [aX (fun z=>by rw [z,o1] at e;cases e)];exact w1.sub a o e
 refine ⟨vt,f,b,d,Hs,rfl,fun a o e=>?_,⟨p3,p4,p5,p6,p7,cx,c',oc,ocell,ub,vb,pm,ctv,by rw [ak nf];exact hf,by rw [ak nc];exact hc',hlo,aD,hcell,rub,hsc,rb⟩,rt,?_⟩
 .rw [ak (fun z=>by rw [z,hsc] at e;cases e)];exact mono _ _ (hs a o e)
 .cases hl:jk (fun t=>cl q [b,t]) d with
  | stuck=>rw [hl] at k;exact k
  | exc x =>
   rw [hl] at k;refine fun H1 Hs1 C dd hC w1 hd=>k _ Hs1 C dd hC (back w1) ?_
   have hcx:=w1.keep cx _ aD
   revert hd
   generalize x.val=y;intro hd;cases y <;> first | trivial | skip
   obtain ⟨d',e1,e2⟩:=hd;exact ⟨d',e1,by rw [aX (fun z=>by rw [z,hcx] at e2;cases e2)];exact e2⟩
  | ok z =>
   rw [hl] at k;have hz:=Gj hl;subst hz;exact fun v H1 Hs1 w1 r1=>k .non _ Hs1 (back w1) (tZ.mpr rfl)
end
end Mi
namespace Mi
open PySem L2
open PyProof.Rows hiding St
noncomputable def pQ:R Out->R D
 | .ok (.rt d)=>.ok d
 | .ok (.nx _)=>.ok .non
 | .ok (.ro d)=>.ok d
 | _=>.stuck
noncomputable def Wu:R Out->R D
 | .ok (.ro d)=>.ok d
 | _=>.stuck
noncomputable def Wo:R Out->R D
 | .ok (.nx ρ)=>cY ρ 1
 | _=>.stuck
noncomputable def iC:R Out->R D
 | .ok (.rt d)=>.ok d
 | .ok (.nx _)=>.ok .non
 | .exc x=>.exc x
 | _=>.stuck
noncomputable def st0 (d:Def) (args:List D):En:=args.map some++List.replicate (d.nn - d.np) none
def kj (cl:Nat->List D->R D) (tab:List Def) (f:Nat) (args:List D):R D:=match tab[f]? with
 | some d=>if args.length=d.np/\d.nrm=true then pQ (cZ cl d.body (st0 d args)) else .stuck
 | none=>if 2000<=f then (match tab[f - 2000]? with
   | none=>.stuck
   | some d=>if args.length=d.np/\d.nrm=true then Wu (cZ cl d.body (st0 d args)) else .stuck)
  else (match tab[f - 1000]? with
   | none=>.stuck
   | some d=>if args.length=2/\yq d=true then Wo (cZ cl d.body (st0 d args)) else .stuck)
def sE (cl:Nat->List D->R D) (b:List XS) (args:List D):Option Def->R D
 | none=>.stuck
 | some d=>if args.length=d.np then iC (aR cl b (st0 d args)) else .stuck
abbrev tO:=List (Nat × List XS)
def aj (tab:List Def) (xt:tO):Nat->Nat->List D->R D
 | 0,_,_=>.stuck
 | n+1,f,args=>match xt.lookup f with
  | some b=>sE (aj tab xt n) b args tab[f]?
  | none=>kj (aj tab xt n) tab f args
section
variable {tab:List Def}{xt:tO}{n f:Nat}{d:Def}{args:List D}{z:D}{b:List XS}
theorem V3 (hx:xt.lookup f=none) (ht:tab[f]?=some d) (hl:args.length=d.np) (hn:d.nrm=true):aj tab xt (n+1) f args=pQ (cZ (aj tab xt n) d.body (st0 d args)):=by
 show (match xt.lookup f with | some b=>_ | none=>_)=_
 rw [hx];show kj _ _ _ _=_
 unfold kj;rw [ht];exact if_pos ⟨hl,hn⟩
theorem Sd (hx:xt.lookup f=some b) (ht:tab[f]?=some d) (hl:args.length=d.np):aj tab xt (n+1) f args=iC (aR (aj tab xt n) b (st0 d args)):=by
 show (match xt.lookup f with | some b=>_ | none=>_)=_
 rw [hx];show sE _ _ _ _=_
 rw [ht];exact if_pos hl
theorem dO (d:D):pQ (.ok (.rt d))=.ok d:=rfl
theorem dJ (d:D):pQ (.ok (.ro d))=.ok d:=rfl
theorem dH (ρ:En):pQ (.ok (.nx ρ))=.ok .non:=rfl
theorem dN (d:D):iC (.ok (.rt d))=.ok d:=rfl
theorem dI (ρ:En):iC (.ok (.nx ρ))=.ok .non:=rfl
theorem cR (x:Xc):iC (.exc x)=.exc x:=rfl
theorem Iw (hx:xt.lookup f=none) (ht:tab[f]?=some d) (h:aj tab xt (n+1) f args=.ok z):∃ o,args.length=d.np/\d.nrm=true/\cZ (aj tab xt n) d.body (st0 d args)=.ok o/\(o=.rt z\/o=.ro z\/(z=.non/\∃ ρ,o=.nx ρ)):=by
 replace h:(match xt.lookup f with | some b=>sE (aj tab xt n) b args tab[f]? | none=>kj (aj tab xt n) tab f args)=.ok z:=h;rw [hx] at h;unfold kj at h;rw [ht] at h;obtain ⟨hl,h1⟩:=bR h;cases hr:cZ (aj tab xt n) d.body (st0 d args) with
 | exc x=>rw [hr] at h1;cases h1
 | stuck=>rw [hr] at h1;cases h1
 | ok o =>
  rw [hr] at h1;refine ⟨o,hl.1,hl.2,rfl,?_⟩;cases o with
  | rt d'=>cases h1;exact .inl rfl
  | ro d'=>cases h1;exact .inr (.inl rfl)
  | nx ρ=>cases h1;exact .inr (.inr ⟨rfl,ρ,rfl⟩)
  | bk ρ=>cases h1
  | ct ρ=>cases h1
theorem Ac (hx:xt.lookup f=none) {x:Xc} (h:aj tab xt (n+1) f args=.exc x):False:=by
 replace h:(match xt.lookup f with | some b=>sE (aj tab xt n) b args tab[f]? | none=>kj (aj tab xt n) tab f args)=.exc x:=h;rw [hx] at h;replace h:kj (aj tab xt n) tab f args=.exc x:=h;have e1:∀ r,pQ r≠.exc x:=fun r=>by
  cases r with
  | ok o=>cases o <;> exact fun z=>nomatch z
  | exc _=>exact fun z=>nomatch z
  | stuck=>exact fun z=>nomatch z
 have e2:∀ r,Wu r≠.exc x:=fun r=>by
  cases r with
  | ok o=>cases o <;> exact fun z=>nomatch z
  | exc _=>exact fun z=>nomatch z
  | stuck=>exact fun z=>nomatch z
 have e3:∀ r,Wo r≠.exc x:=fun r=>by
  cases r with
  | ok o =>
   cases o with
   | nx ρ =>
    intro z;replace z:cY ρ 1=.exc x:=z;unfold cY at z;split at z <;> cases z
   | rt _=>intro z;cases z
   | ro _=>intro z;cases z
   | bk _=>intro z;cases z
   | ct _=>intro z;cases z
  | exc _=>exact fun z=>nomatch z
  | stuck=>exact fun z=>nomatch z
 unfold kj at h;split at h
 .split at h
  .exact e1 _ h
  .cases h
 .split at h
  .split at h
   .cases h
   .split at h
    .exact e2 _ h
    .cases h
  .split at h
   .cases h
   .split at h
    .exact e3 _ h
    .cases h
theorem yj (hf:f < 1000) (hx:xt.lookup (1000+f)=none) (hn:tab[1000+f]?=none) (ht:tab[f]?=some d) (h:aj tab xt (n+1) (1000+f) args=.ok z):∃ ρ,args.length=2/\yq d=true/\cZ (aj tab xt n) d.body (st0 d args)=.ok (.nx ρ)/\cY ρ 1=.ok z:=by
 replace h:(match xt.lookup (1000+f) with | some b=>sE (aj tab xt n) b args tab[1000+f]? | none=>kj (aj tab xt n) tab (1000+f) args)=.ok z:=h;rw [hx] at h;unfold kj at h;rw [hn,show 1000+f - 1000=f by omega] at h;simp only [ht,if_neg (show ¬ 2000<=1000+f by omega)] at h;obtain ⟨hl,h1⟩:=bR h;cases hr:cZ (aj tab xt n) d.body (st0 d args) with
 | exc x=>rw [hr] at h1;cases h1
 | stuck=>rw [hr] at h1;cases h1
 | ok o =>
  rw [hr] at h1;cases o with
  | rt d'=>cases h1
  | ro d'=>cases h1
  | nx ρ=>exact ⟨ρ,hl.1,hl.2,rfl,h1⟩
  | bk ρ=>cases h1
  | ct ρ=>cases h1
theorem v7 (hx:xt.lookup (2000+f)=none) (hn:tab[2000+f]?=none) (ht:tab[f]?=some d) (h:aj tab xt (n+1) (2000+f) args=.ok z):args.length=d.np/\d.nrm=true/\cZ (aj tab xt n) d.body (st0 d args)=.ok (.ro z):=by
 replace h:(match xt.lookup (2000+f) with | some b=>sE (aj tab xt n) b args tab[2000+f]? | none=>kj (aj tab xt n) tab (2000+f) args)=.ok z:=h;rw [hx] at h;unfold kj at h;rw [hn,show 2000+f - 2000=f by omega] at h;simp only [ht,if_pos (show 2000<=2000+f by omega)] at h;obtain ⟨hl,h1⟩:=bR h;cases hr:cZ (aj tab xt n) d.body (st0 d args) with
 | exc x=>rw [hr] at h1;cases h1
 | stuck=>rw [hr] at h1;cases h1
 | ok o =>
  rw [hr] at h1;cases o with
  | rt d'=>cases h1
  | ro d'=>cases h1;exact ⟨hl.1,hl.2,rfl⟩
  | nx ρ=>cases h1
  | bk ρ=>cases h1
  | ct ρ=>cases h1
end
noncomputable def cI (T:Tx) (xtt:XT) (d:Def) (b:List XS) (N ps:List Str) (st:Stmt):Bool :=
 Dd N ps (aH st) && decide (d.np=ps.length) && decide (d.nn=N.length) && tW T xtt N (aH st) true b (bC st) && (jh b []).isSome && !yq d && !d.nrm
structure LamD (T:Tx) (K:PySem.W.Frag) (mg:Str->Option Value) (x:Str) (b:List XS) (d:Def) (ps:List Str) (st:Stmt) (a:Addr) (fd:FuncData):Prop where
 ex:∃ q p1 p2 p3 p4 p5 p6 p7 p8 p9 p10,b=[.lam q] /\ T.F[q]?=some (Str.ofString "is_test") /\ bC st=CG p1 p2 p3 p4 p5 p6 p7 p8 p9 p10
 sc:aH st=iz
 nm:x=Str.ofString "check_tests"
 par:ps=[("book":Str),"tests"]
 np:d.np=2
 nn:d.nn=2
 nomut:yq d=false
 nonrm:d.nrm=false
 lam:LamKX K mg a fd.code
structure PrX (T:Tx) (xtt:XT) (tab:List Def) (xt:tO) (K:PySem.W.Frag) (mg:Str->Option Value):Prop where
 len:tab.length<=1000
 xlen:∀ f b,xt.lookup f=some b->f < 1000
 blt:∀ f∈mK,mg f=none
 gl:∀ x d,T.gl.lookup x=some d->GlV d (mg x)
 facts:XF xtt K mg
 fn:∀ (f:Nat) (x:Str),T.F[f]?=some x->∃ d N ps st a fd,tab[f]?=some d/\Fun K x x st a fd/\mg x=some (.ref a)/\Binds K fd ps []/\(match xt.lookup f with | none=>cX T d N ps st=true | some b=>cI T xtt d b N ps st=true\/LamD T K mg x b d ps st a fd)
def Bo (T:Tx) (tab:List Def) (xt:tO) (P:Program) (w:World) (K:PySem.W.Frag) (mg:Str->Option Value) (base:Heap) (n:Nat):Prop:=∀ (f:Nat) (x:Str),T.F[f]?=some x ->
  ∃ a fd ps,FnOk P w K mg base CX0 n a fd ps (spD ⟨P,w,K⟩ (aj tab xt n f) ps.length)/\FnOk P w K mg base CX0 n a fd ps (Qf ⟨P,w,K⟩ (aj tab xt n (1000+f)) ps.length)/\mg x=some (.ref a)/\PySem.W.keepIn K (.ref a)=true/\Binds K fd ps []/\(∀ ds d,aj tab xt n f ds=.ok d->ds.length=ps.length)/\(∀ ds d,aj tab xt n (1000+f) ds=.ok d->ps.length=2)/\FnOk P w K mg base CX0 n a fd ps (spF ⟨P,w,K⟩ (aj tab xt n (2000+f)) ps.length)/\(∀ ds d,aj tab xt n (2000+f) ds=.ok d->ds.length=ps.length) /\
   FnOk P w K mg base (CX1 P w) n a fd ps (spX ⟨P,w,K⟩ mg (aj tab xt n f) ps.length)/\∀ ds,aj tab xt n f ds≠.stuck->ds.length=ps.length
section
variable {T:Tx}{xtt:XT}{tab:List Def}{xt:tO}{P:Program}{w:World}{K:PySem.W.Frag}{mg:Str->Option Value}{base:Heap}{n:Nat}{f:Nat}{x:Str}{d:Def}{N ps:List Str}{st:Stmt}{a:Addr}{fd:FuncData}{b:List XS}
theorem PrX.no1 (Pr:PrX T xtt tab xt K mg):xt.lookup (1000+f)=none:=by
 cases q:xt.lookup (1000+f) with
 | none=>rfl
 | some b=>have:=Pr.xlen _ b q;omega
theorem PrX.no2 (Pr:PrX T xtt tab xt K mg):xt.lookup (2000+f)=none:=by
 cases q:xt.lookup (2000+f) with
 | none=>rfl
 | some b=>have:=Pr.xlen _ b q;omega
theorem yK (Pr:PrX T xtt tab xt K mg) (IH:Bo T tab xt P w K mg base n) {CX:CXT}{cdv:Value}{A:Around}{outer:List Env}{s:Shared}{H:Hp}{E:XK}{q:Str} (S:FnScope N ps (aH st)) (hr:Room n (A.deeper (envOfC q (aH st) s.heap.objs.size a cdv))) {xe:Value->Shared->Prop} :
  Cok T (aj tab xt n) ((bV CX P w K mg base N q (aH st) a cdv A outer s H E).wish xe):=by
 refine ⟨rfl,S.nd,?_,Pr.blt,Pr.gl,fun f' x' hF'=>?_⟩
 .have:=hr.un;show (A.deeper _).units+100 < cLine
  omega
 .obtain ⟨a',fd',ps',q1,q1m,q2,q3,q4,q5,q6,q7,q8,_⟩:=IH f' x' hF';exact ⟨n,a',fd',ps',q1,q1m,hr,q2,q3,q4,q5,q6,q7,q8⟩
theorem sX {CX:CXT}{cdv:Value}{A:Around}{outer:List Env}{s:Shared}{H:Hp}{E:XK}{q:Str}{xe:Value->Shared->Prop}:ScRel (aH st) ((bV CX P w K mg base N q (aH st) a cdv A outer s H E).wish xe) :=
 ⟨fun y h=>uQ h,fun y h=>uT h,fun y h=>h,fun y h=>⟨mH h,.inl rfl⟩⟩
theorem Jj (Pr:PrX T xtt tab xt K mg) (IH:Bo T tab xt P w K mg base n) (hx:xt.lookup f=none) (ht:tab[f]?=some d) (F:Fun K x x st a fd) (hd:cX T d N ps st=true) :
  FnOk P w K mg base CX0 (n+1) a fd ps (spD ⟨P,w,K⟩ (aj tab xt (n+1) f) ps.length)/\∀ ds z,aj tab xt (n+1) f ds=.ok z->ds.length=ps.length:=by
 unfold cX at hd;simp only [Bool.and_eq_true,decide_eq_true_eq] at hd;obtain ⟨⟨⟨⟨h1,h2⟩,h3⟩,h4⟩,h5⟩:=hd;have S:=jD h1;refine ⟨F.ok S (fun vs H Q E h=>?_) (fun cdv A outer s H vs Q E hr h=>?_),fun ds z h=>?_⟩
 .obtain ⟨ds,Hs,z,h,_⟩:=h;exact h
 .obtain ⟨ds,Hs,z,hlen,hs,r,hc,k⟩:=h;obtain ⟨o,hnp,hnr,hrun,ho⟩:=Iw hx ht hc;rw [hnr] at h5;obtain ⟨O',hO⟩:=Option.isSome_iff_exists.mp (show (fU [] d.body []).isSome=true from h5);have C:=yK (CX:=CX0) (outer:=outer) (H:=H) (E:=E) (xe:=fun _ _=>False) Pr IH S hr;have SR:=sX (CX:=CX0) (P:=P) (w:=w) (K:=K) (mg:=mg) (base:=base) (N:=N) (st:=st) (a:=a) (cdv:=cdv) (A:=A) (outer:=outer) (s:=s) (H:=H) (E:=E) (q:=x) (xe:=fun _ _=>False);refine ⟨_,vH (E:=⟨H,[]⟩) (Es:=Hs) (fun m _=>uK m) (fun q hm=>by cases hm) C SR PassesOwn.never h4 hO,?_⟩;refine ⟨_,Hs,o,?_,hrun,?_⟩
  .have hl:=r.length;exact Bs hs r (by rw [h3,h2];omega)
  .rcases ho with rfl | rfl | ⟨rfl,ρ',rfl⟩
   .exact fun v H' Hs' g' r'=>k v H' Hs' g' r'
   .exact fun v H' Hs' g' r' _=>k v H' Hs' g' r'
   .exact fun O1 _ σ' H' Hs' F' _=>k .non H' Hs' F'.grow (tZ.mpr rfl)
 .obtain ⟨o,hnp,_⟩:=Iw hx ht h;rw [hnp,h2]
theorem Zh (Pr:PrX T xtt tab xt K mg) (IH:Bo T tab xt P w K mg base n) (ht:tab[f]?=some d) (F:Fun K x x st a fd) (hd:cX T d N ps st=true) :
  FnOk P w K mg base CX0 (n+1) a fd ps (Qf ⟨P,w,K⟩ (aj tab xt (n+1) (1000+f)) ps.length)/\∀ ds z,aj tab xt (n+1) (1000+f) ds=.ok z->ps.length=2:=by
 unfold cX at hd;simp only [Bool.and_eq_true,decide_eq_true_eq] at hd;obtain ⟨⟨⟨⟨h1,h2⟩,h3⟩,h4⟩,h5⟩:=hd;have S:=jD h1;have hn:tab[1000+f]?=none:=List.getElem?_eq_none (by have:=Pr.len;omega);have hf:f < 1000:=by
  have:=Pr.len;have:=(List.getElem?_eq_some_iff.mp ht).1;omega
 refine ⟨F.ok S (fun vs H Q E h=>?_) (fun cdv A outer s H vs Q E hr h=>?_),fun ds z h=>?_⟩
 .obtain ⟨d0,d1,d',v0,b,Hs,_,h,_⟩:=h;exact h
 .obtain ⟨d0,d1,d',v0,b,Hs,rfl,hlen,hs,r0,hb,ow,hc,k⟩:=h;obtain ⟨ρ,hl2,hm,hrun,hg⟩:=yj hf Pr.no1 hn ht hc;unfold yq at hm;simp only [Bool.and_eq_true,decide_eq_true_eq,Bool.not_eq_true'] at hm;obtain ⟨⟨m1,m2⟩,m3⟩:=hm;cases hO:fU [] d.body [1] with
  | none=>rw [hO] at m3;cases m3
  | some O' =>
   cases O' with
   | none=>rw [hO] at m3;cases m3
   | some O1 =>
    rw [hO] at m3;replace m3:1∈O1:=by simpa using m3
    have m2':(1:Nat) ∉ Az d.body:=by simpa using m2
    have C:=yK (CX:=CX0) (outer:=outer) (H:=H) (E:=E) (xe:=fun _ _=>False) Pr IH S hr;have SR:=sX (CX:=CX0) (P:=P) (w:=w) (K:=K) (mg:=mg) (base:=base) (N:=N) (st:=st) (a:=a) (cdv:=cdv) (A:=A) (outer:=outer) (s:=s) (H:=H) (E:=E) (q:=x) (xe:=fun _ _=>False);refine ⟨_,vH (E:=⟨hole H b,[(1,b)]⟩) (Es:=Hs) (fun m _=>uK m) (fun q hm=>by rw [List.mem_singleton.mp hm];exact m2') C SR PassesOwn.never h4 hO,?_⟩;refine ⟨_,Hs,.nx ρ,Ui hs r0 hb ow (by rw [h3,h2,hlen]),hrun,?_⟩;intro O2 e2 σ' H' Hs' F' _;cases e2;obtain ⟨c,ec,_,c1,oc⟩:=F'.own 1 m3 d' (Mv hg);have ep:=F'.pin (1,b) (List.mem_singleton.mpr rfl);rw [ec] at ep;cases ep;exact k H' Hs' F'.grow c1 oc
 .obtain ⟨ρ,hl2,hm,_⟩:=yj hf Pr.no1 hn ht h;unfold yq at hm;simp only [Bool.and_eq_true,decide_eq_true_eq] at hm;rw [<- h2];exact hm.1.1
theorem Xh (Pr:PrX T xtt tab xt K mg) (IH:Bo T tab xt P w K mg base n) (ht:tab[f]?=some d) (F:Fun K x x st a fd) (hd:cX T d N ps st=true) :
  FnOk P w K mg base CX0 (n+1) a fd ps (spF ⟨P,w,K⟩ (aj tab xt (n+1) (2000+f)) ps.length)/\∀ ds z,aj tab xt (n+1) (2000+f) ds=.ok z->ds.length=ps.length:=by
 unfold cX at hd;simp only [Bool.and_eq_true,decide_eq_true_eq] at hd;obtain ⟨⟨⟨⟨h1,h2⟩,h3⟩,h4⟩,h5⟩:=hd;have S:=jD h1;have hn:tab[2000+f]?=none:=List.getElem?_eq_none (by have:=Pr.len;omega);refine ⟨F.ok S (fun vs H Q E h=>?_) (fun cdv A outer s H vs Q E hr h=>?_),fun ds z h=>?_⟩
 .obtain ⟨ds,Hs,z,h,_⟩:=h;exact h
 .obtain ⟨ds,Hs,z,hlen,hs,r,hc,k⟩:=h;obtain ⟨hnp,hnr,hrun⟩:=v7 Pr.no2 hn ht hc;rw [hnr] at h5;obtain ⟨O',hO⟩:=Option.isSome_iff_exists.mp (show (fU [] d.body []).isSome=true from h5);have C:=yK (CX:=CX0) (outer:=outer) (H:=H) (E:=E) (xe:=fun _ _=>False) Pr IH S hr;have SR:=sX (CX:=CX0) (P:=P) (w:=w) (K:=K) (mg:=mg) (base:=base) (N:=N) (st:=st) (a:=a) (cdv:=cdv) (A:=A) (outer:=outer) (s:=s) (H:=H) (E:=E) (q:=x) (xe:=fun _ _=>False);refine ⟨_,vH (E:=⟨H,[]⟩) (Es:=Hs) (fun m _=>uK m) (fun q hm=>by cases hm) C SR PassesOwn.never h4 hO,?_⟩;refine ⟨_,Hs,.ro z,?_,hrun,fun v H' Hs' g' r' f'=>k v H' Hs' g' r' f'⟩;have hl:=r.length;exact Bs hs r (by rw [h3,h2];omega)
 .obtain ⟨hnp,_⟩:=v7 Pr.no2 hn ht h;rw [hnp,h2]
theorem Xj (Pr:PrX T xtt tab xt K mg) (IH:Bo T tab xt P w K mg base n) (hx:xt.lookup f=some b) (ht:tab[f]?=some d) (F:Fun K x x st a fd) (hd:cI T xtt d b N ps st=true) :
  FnOk P w K mg base (CX1 P w) (n+1) a fd ps (spX ⟨P,w,K⟩ mg (aj tab xt (n+1) f) ps.length)/\∀ ds,aj tab xt (n+1) f ds≠.stuck->ds.length=ps.length:=by
 unfold cI at hd;simp only [Bool.and_eq_true,decide_eq_true_eq] at hd;obtain ⟨⟨⟨⟨⟨⟨h1,h2⟩,h3⟩,h4⟩,h5⟩,h6⟩,h7⟩:=hd;have S:=jD h1;obtain ⟨O',hO⟩:=Option.isSome_iff_exists.mp h5;have ce:∀ ds,aj tab xt (n+1) f ds=if ds.length=d.np then iC (aR (aj tab xt n) b (st0 d ds)) else .stuck:=fun ds=>by
  show (match xt.lookup f with | some b=>_ | none=>_)=_
  rw [hx];show sE _ _ _ _=_
  rw [ht];rfl
 refine ⟨?_,fun ds h=>?_⟩
 .obtain ⟨oc,od,kV,doc,pm,an,cdv,ct,osl,rfl,lk,hcd⟩:=F.ex;refine Wn lk hcd S (fun vs H Q E h=>?_) fun A outer s H vs Q E hr h=>?_
  .obtain ⟨ds,Hs,h,_⟩:=h;exact h
  .obtain ⟨ds,Hs,hlen,hs,r,k⟩:=h;rw [ce] at k;have hl:=r.length;have hdl:ds.length=d.np:=by omega
   rw [if_pos hdl] at k;have C:=yK (CX:=CX1 P w) (outer:=outer) (H:=H) (E:=E) (xe:=(bV (CX1 P w) P w K mg base N x (aH st) a cdv A outer s H E).xe) Pr IH S hr;have SR:=sX (CX:=CX1 P w) (P:=P) (w:=w) (K:=K) (mg:=mg) (base:=base) (N:=N) (st:=st) (a:=a) (cdv:=cdv) (A:=A) (outer:=outer) (s:=s) (H:=H) (E:=E) (q:=x) (xe:=(bV (CX1 P w) P w K mg base N x (aH st) a cdv A outer s H E).xe);have XC:XCok T xtt (aj tab xt n) (bV (CX1 P w) P w K mg base N x (aH st) a cdv A outer s H E) E (fun y dd H'=>∀ C,mg y.cls=some (.ref C)->E (.ref C) dd H') true :=
    ⟨Ij.pass,fun _=>Ij,fun y C dd H' hC k=>k C hC,Pr.facts,fun f' x' hF'=>by
     obtain ⟨a',fd',ps',q1,q1m,q2,q3,q4,q5,q6,q7,q8,q9,q10⟩:=IH f' x' hF';exact ⟨n,a',fd',ps',q9,hr,q2,q3,q4,q10⟩,rfl,rfl⟩
   refine ⟨_,yg (E:=⟨H,[]⟩) (Es:=Hs) (O:=[]) (fun m _=>Hu m) rfl rfl C SR PassesOwn.leaving XC h4 hO,?_⟩;refine ⟨st0 d ds,Hs,Bs hs r (by rw [h3,h2];omega),?_⟩;cases hr2:aR (aj tab xt n) b (st0 d ds) with
   | stuck=>rw [hr2] at k;exact k
   | exc y=>rw [hr2] at k;exact fun H' Hs' dd g hd C hC=>k H' Hs' C dd hC g hd
   | ok o =>
    rw [hr2] at k;cases o with
    | rt z=>exact fun v H' Hs' g' r'=>k v H' Hs' g' r'
    | nx ρ'=>exact fun O1 _ σ' H' Hs' F' _=>k .non H' Hs' F'.grow (tZ.mpr rfl)
    | ro z=>exact k.elim
    | bk ρ=>exact k.elim
    | ct ρ=>exact k.elim
 .rw [ce] at h;by_cases hl:ds.length=d.np
  .rw [hl,h2]
  .rw [if_neg hl] at h;exact absurd rfl h
theorem Yz (Pr:PrX T xtt tab xt K mg) (IH:Bo T tab xt P w K mg base n) (hx:xt.lookup f=some b) (ht:tab[f]?=some d) (F:Fun K x x st a fd) (hd:LamD T K mg x b d ps st a fd) :
  FnOk P w K mg base (CX1 P w) (n+1) a fd ps (spX ⟨P,w,K⟩ mg (aj tab xt (n+1) f) ps.length)/\∀ ds,aj tab xt (n+1) f ds≠.stuck->ds.length=ps.length:=by
 obtain ⟨q,p1,p2,p3,p4,p5,p6,p7,p8,p9,p10,rfl,hT,hbd⟩:=hd.ex;have ce:∀ ds,aj tab xt (n+1) f ds=if ds.length=d.np then iC (aR (aj tab xt n) [.lam q] (st0 d ds)) else .stuck:=fun ds=>by
  show (match xt.lookup f with | some b=>_ | none=>_)=_
  rw [hx];show sE _ _ _ _=_
  rw [ht];rfl
 have two:∀ ds:List D,ds.length=d.np->∃ u v,ds=[u,v]/\st0 d ds=[some u,some v]:=fun ds hl=>by
  rw [hd.np] at hl
  match ds,hl with
  | [u,v],_ =>
   refine ⟨u,v,rfl,?_⟩;unfold st0;rw [hd.nn,hd.np];rfl
 have lam:∀ u v,iC (aR (aj tab xt n) [.lam q] [some u,some v])=jk (fun t=>aj tab xt n q [u,t]) v:=fun u v=>by
  show iC (yO _ [] (iJ (fun _=>.ok (.nx [some u,some v])) (jk (fun t=>aj tab xt n q [u,t]) v)))=_
  cases hl:jk (fun t=>aj tab xt n q [u,t]) v with
  | ok z=>rw [Gj hl];rfl
  | exc x=>rfl
  | stuck=>rfl
 have hc:∀ ds,aj tab xt (n+1) f ds≠.stuck->∃ u v,ds=[u,v]/\aj tab xt (n+1) f ds=jk (fun t=>aj tab xt n q [u,t]) v:=fun ds h=>by
  rw [ce] at h ⊢;by_cases hl:ds.length=d.np
  .rw [if_pos hl];obtain ⟨u,v,rfl,e⟩:=two ds hl;rw [e,lam];exact ⟨u,v,rfl,rfl⟩
  .rw [if_neg hl] at h;exact absurd rfl h
 refine ⟨?_,fun ds h=>?_⟩
 .have FP:FnsP T (aj tab xt n) P w K mg base n:=⟨Pr.blt,Pr.gl,fun f' x' hF'=>by
   obtain ⟨a',fd',ps',q1,q1m,q2,q3,q4,q5,q6,q7,q8,_⟩:=IH f' x' hF';exact ⟨a',fd',ps',q1,q1m,q2,q3,q4,q5,q6,q7,q8⟩⟩
  have hlam:=hd.lam;have hnm:=hd.nm;have hpar:=hd.par;subst hnm hpar;obtain ⟨oc,od,kV,doc,pm,an,cdv,ct,osl,rfl,lk,hcd⟩:=F.ex;rw [hbd,hd.sc] at lk ⊢;exact Ss FP hT hc lk hcd hlam
 .obtain ⟨u,v,rfl,_⟩:=hc ds h;rw [hd.par];rfl
theorem O8 (c:List D->R D) (np:Nat) (hne:∀ ds x,c ds=.exc x->False) (vs:List V) (H:Hp) (Q:VK) (E:XK) (h:spX ⟨P,w,K⟩ mg c np vs H Q E):spD ⟨P,w,K⟩ c np vs H Q E:=by
 obtain ⟨ds,Hs,h1,h2,h3,k⟩:=h;cases hc:c ds with
 | ok d=>rw [hc] at k;exact ⟨ds,Hs,d,h1,h2,h3,hc,k⟩
 | exc x=>exact (hne ds x hc).elim
 | stuck=>rw [hc] at k;exact k.elim
theorem Cp (c:List D->R D) (np:Nat) (vs:List V) (H:Hp) (Q:VK) (E:XK) (h:spD ⟨P,w,K⟩ c np vs H Q E):spX ⟨P,w,K⟩ mg c np vs H Q E0:=by
 obtain ⟨ds,Hs,d,h1,h2,h3,hc,k⟩:=h;refine ⟨ds,Hs,h1,h2,h3,?_⟩;rw [hc];exact k
end
theorem pF {T:Tx}{xtt:XT}{tab:List Def}{xt:tO}{P:Program}{w:World}{K:PySem.W.Frag}{mg:Str->Option Value} (Pr:PrX T xtt tab xt K mg) (base:Heap):∀ (n:Nat),Bo T tab xt P w K mg base n
 | 0,f,x,hF=>by
  obtain ⟨d,N,ps,st,a,fd,ht,F,hm,hb,hd⟩:=Pr.fn f x hF;refine ⟨a,fd,ps,⟨fun vs H Q E h=>?_,fun A outer s H args us vs Q E hr he hbt hv h=>?_⟩,⟨fun vs H Q E h=>?_,fun A outer s H args us vs Q E hr he hbt hv h=>?_⟩,hm,F.kp,hb,fun ds d h=>?_,fun ds d h=>?_,⟨fun vs H Q E h=>?_,fun A outer s H args us vs Q E hr he hbt hv h=>?_⟩,fun ds d h=>?_,⟨fun vs H Q E h=>?_,fun A outer s H args us vs Q E hr he hbt hv h=>?_⟩,fun ds h=>?_⟩
  .obtain ⟨ds,Hs,d,_,_,_,h,_⟩:=h;cases h
  .obtain ⟨ds,Hs,d,_,_,_,h,_⟩:=h;cases h
  .obtain ⟨_,_,_,_,_,_,_,_,_,_,_,_,h,_⟩:=h;cases h
  .obtain ⟨_,_,_,_,_,_,_,_,_,_,_,_,h,_⟩:=h;cases h
  .cases h
  .cases h
  .obtain ⟨ds,Hs,d,_,_,_,h,_⟩:=h;cases h
  .obtain ⟨ds,Hs,d,_,_,_,h,_⟩:=h;cases h
  .cases h
  .obtain ⟨ds,Hs,_,_,_,h⟩:=h;exact h.elim
  .obtain ⟨ds,Hs,_,_,_,h⟩:=h;exact h.elim
  .exact absurd rfl h
 | n+1,f,x,hF=>by
  obtain ⟨d,N,ps,st,a,fd,ht,F,hm,hb,hd⟩:=Pr.fn f x hF;cases hx:xt.lookup f with
  | none =>
   rw [hx] at hd;obtain ⟨q1,q2⟩:=Jj Pr (pF Pr base n) hx ht F hd;obtain ⟨q3,q4⟩:=Zh Pr (pF Pr base n) ht F hd;obtain ⟨q5,q6⟩:=Xh Pr (pF Pr base n) ht F hd;refine ⟨a,fd,ps,q1,q3,hm,F.kp,hb,q2,q4,q5,q6,q1.lifted.imp (O8 _ _ fun ds y h=>Ac hx h),fun ds h=>?_⟩;cases hc:aj tab xt (n+1) f ds with
   | ok z=>exact q2 ds z hc
   | exc y=>exact (Ac hx hc).elim
   | stuck=>exact absurd hc h
  | some b =>
   rw [hx] at hd;have hm6:yq d=false:=by
    rcases hd with hd | hd
    .unfold cI at hd;simp only [Bool.and_eq_true,decide_eq_true_eq,Bool.not_eq_true'] at hd;exact hd.1.2
    .exact hd.nomut
   have hn7:d.nrm=false:=by
    rcases hd with hd | hd
    .unfold cI at hd;simp only [Bool.and_eq_true,decide_eq_true_eq,Bool.not_eq_true'] at hd;exact hd.2
    .exact hd.nonrm
   have both:FnOk P w K mg base CX0 (n+1) a fd ps (spD ⟨P,w,K⟩ (aj tab xt (n+1) f) ps.length)/\FnOk P w K mg base (CX1 P w) (n+1) a fd ps (spX ⟨P,w,K⟩ mg (aj tab xt (n+1) f) ps.length)/\∀ ds,aj tab xt (n+1) f ds≠.stuck->ds.length=ps.length:=by
    rcases hd with hd | hd
    .obtain ⟨q1,q2⟩:=Xj Pr (pF Pr base n) hx ht F hd;exact ⟨q1.calmed (Cp _ _),q1,q2⟩
    .obtain ⟨q1,q2⟩:=Yz Pr (pF Pr base n) hx ht F hd;exact ⟨q1.calmed (Cp _ _),q1,q2⟩
   obtain ⟨q0,q1,q2⟩:=both;have hn1:tab[1000+f]?=none:=List.getElem?_eq_none (by have:=Pr.len;omega);have hn2:tab[2000+f]?=none:=List.getElem?_eq_none (by have:=Pr.len;omega);have hf:f < 1000:=Pr.xlen f b hx;have no1:∀ ds z,aj tab xt (n+1) (1000+f) ds=.ok z->False:=fun ds z h=>by
    obtain ⟨_,_,hmm,_⟩:=yj hf Pr.no1 hn1 ht h;rw [hm6] at hmm;cases hmm
   have no2:∀ ds z,aj tab xt (n+1) (2000+f) ds=.ok z->False:=fun ds z h=>by
    obtain ⟨_,hmm,_⟩:=v7 Pr.no2 hn2 ht h;rw [hn7] at hmm;cases hmm
   refine ⟨a,fd,ps,q0,⟨fun vs H Q E h=>?_,fun A outer s H args us vs Q E hr he hbt hv h=>?_⟩,hm,F.kp,hb,fun ds z h=>q2 ds (by rw [h];exact fun z=>nomatch z),fun ds z h=>(no1 ds z h).elim,⟨fun vs H Q E h=>?_,fun A outer s H args us vs Q E hr he hbt hv h=>?_⟩,fun ds z h=>(no2 ds z h).elim,q1,q2⟩
   .obtain ⟨_,_,_,_,_,_,_,_,_,_,_,_,h,_⟩:=h;exact (no1 _ _ h).elim
   .obtain ⟨_,_,_,_,_,_,_,_,_,_,_,_,h,_⟩:=h;exact (no1 _ _ h).elim
   .obtain ⟨ds,Hs,d,_,_,_,h,_⟩:=h;exact (no2 _ _ h).elim
   .obtain ⟨ds,Hs,d,_,_,_,h,_⟩:=h;exact (no2 _ _ h).elim
theorem abW {l:PySem.W.OpenLaw}{q:Program}{loose:List Str}{XP:(Str->Option Value)->Heap->Prop}{YP:World->Heap->Prop}{dr:DefRec}{K:Params->PySem.W.Frag}{T:Tx}{xtt:XT}{tab:List Def}{xt:tO}{n fl:Nat}{par:Str}{N:List Str}{st:Stmt}{d:Def}
  (hn:l.most=some 63) (hdf:dr.params.defaults=[]) (hr:Room (n+1) callerA) (ht:tab[fl]?=some d) (hx:xt.lookup fl=none) (hd:cX T d N [par] st=true)
  (hY:∀ (w:World) (h:Heap),YP w h->(K w.params).In h) (hKc:∀ (p:Params) (b:Addr) (o:Obj),(K p).lookup b=some o->Qh o) (hT:∀ (w:World) (s₀:Shared) (mg mb:Str->Option Value) (h:Heap),PySem.W.Ground q loose [] XP w s₀ mg mb h->YP w h->∃ tP,BL mg h tP)
  (F:∀ (w:World) (mg:Str->Option Value) (h:Heap),(K w.params).In h->h.Ns mainGlobals mg->PrX T xtt tab xt (K w.params) mg)
  (FL:∀ (w:World),FF (K w.params) dr.name st)
  (hb:∀ (kV doc pm:Value) (an:Option Addr) (cdv ct u:Value),bindArgs (PySem.W.fnOf dr.name dr.name (bQ st) (bC st) (aH st) .none kV doc pm an cdv ct) ⟨[u],[]⟩=pure [(par,u)])
  (law:∀ ns:List Int,ns.length<=63->aj tab xt (n+1) fl [.lst (ns.map D.int)]=.ok (.bl true)) :
  PySem.W.WalkO q loose XP YP l.row.toRowW dr [] (fun f vs=>PySem.call f vs):=by
 refine L2.Y0 (n:=63) (k:=n+1) (x:=par) (CX:=fun _=>CX0) (sp:=fun w=>spD ⟨l.prog,w,K w.params⟩ (aj tab xt (n+1) fl) 1) hn (by decide) hdf hr hY hKc hT (fun w mg fa h KX G hmg=>?_) (fun w H a ns hl hO hS=>?_) (fun _ _ _ _ _ z=>z)
 .obtain ⟨a,fd,ha,FF⟩:=(FL w).ex;have e:=hmg.symm.trans (PySem.W.mg_of KX G ha);cases e;refine ⟨fd,fun s u=>?_,fun base kb nb=>(Jj (F w mg h KX G) (pF (F w mg h KX G) base n) hx ht FF hd).1⟩;obtain ⟨oc,od,kV,doc,pm,an,cdv,ct,osl,rfl,lk,hcd⟩:=FF.ex;exact .of_eq (hb kV doc pm an cdv ct u)
 .exact ⟨[.lst (ns.map D.int)],H,.bl true,rfl,Same.refl _,Rps.one (cP.mpr ⟨a,_,rfl,hS,Kp ns⟩),law ns hl,fun v H' Hs' g' r=>j9.mp r⟩
end Mi
namespace Mi
open PySem L2
open PyProof.Rows hiding St
open PySem.W (Frag nsIn excIn clsIn findIn findObj specialIn takesIn mroIn subIn exmOne kitOne XcK)
theorem RW:∀ {l:tO}{f:Nat}{b:List XS},l.lookup f=some b->(f,b)∈l
 | [],_,_,h=>by cases h
 | (k,v)::l,f,b,h=>by
  rw [List.lookup_cons] at h;split at h
  .rename_i e;cases h;rw [beq_iff_eq.mp e];exact List.mem_cons_self
  .exact List.mem_cons_of_mem _ (RW h)
noncomputable def xcB (K:Frag) (C:Addr):Bool:=(clsIn K C).isSome && (findIn K (.ref C) "__class__" == some (some (.builtin "object.__class__"))) && (specialIn K (.builtin "object.__class__") "__get__" == some (some (.builtin "getset_descriptor.__get__"))) &&
 (takesIn K (.builtin "object.__class__") == some true) && (mroIn K C (.type "object") == some true) && (findIn K (.ref C) "__getattribute__" == some (some (.builtin "BaseException.__getattribute__"))) && (findIn K (.ref C) "__getattr__" == some none) && (subIn K (.ref C) (.type "BaseException") == some true) && PySem.W.hasDictIn K C && (findIn K (.ref C) "at" == some none)
theorem ZF {K:Frag}{C:Addr} (h:xcB K C=true):XcK K C:=by
 unfold xcB at h;simp only [Bool.and_eq_true,beq_iff_eq] at h;obtain ⟨⟨⟨⟨⟨⟨⟨⟨⟨b,c⟩,d⟩,e⟩,f⟩,g⟩,i⟩,j⟩,k⟩,l⟩:=h;exact ⟨b,c,d,e,f,g,i,j,k,l⟩
noncomputable def kxB (K:Frag) (p:Str × Value):Bool:=match p.2 with
 | .ref a=>nsIn K mainGlobals p.1 == some (some (.ref a))
 | .type n=>(nsIn K mainGlobals p.1 == some none) && (bootBuiltins p.1 == some (.type n)) && !(p.1 == ("__name__":Str))
 | _=>false
noncomputable def xfB (K:Frag) (cs hs:List (Str × Addr)) (ks:List (Str × Value)):Bool :=
 (cs.all fun p=>(nsIn K mainGlobals p.1 == some (some (.ref p.2))) && xcB K p.2 && (decide (p.1="BadTests") || excIn K p.2 rY "ValueError.__new__")) && (hs.all fun p=>nsIn K mainGlobals p.1 == some (some (.ref p.2))) && (ks.all fun p=>kxB K p) &&
 (cs.all fun p=>(hs.all fun q=>exmOne K (.ref p.2) (.ref q.2) == some (c7 p.1 q.1)) && (ks.all fun q=>kitOne K (.ref p.2) q.2 == some (c7 p.1 q.1)))
theorem acB {K:Frag}{h:Heap}{mg:Str->Option Value}{cs hs:List (Str × Addr)}{ks:List (Str × Value)} (X:K.In h) (G:h.Ns mainGlobals mg) (hb:xfB K cs hs ks=true):XF ⟨cs.map (·.1),hs.map (·.1),ks.map (·.1)⟩ K mg:=by
 unfold xfB at hb;simp only [Bool.and_eq_true,Bool.or_eq_true,decide_eq_true_eq,List.all_eq_true,beq_iff_eq] at hb;obtain ⟨⟨⟨h1,h2⟩,h3⟩,h4⟩:=hb;refine ⟨fun x hx=>?_,fun x hx k hk=>?_,fun x hx k hk=>?_⟩
 .obtain ⟨p,hp,rfl⟩:=List.mem_map.mp hx;exact ⟨p.2,PySem.W.mg_of X G (h1 p hp).1.1,ZF (h1 p hp).1.2,fun n=>(h1 p hp).2.resolve_left n⟩
 .obtain ⟨p,hp,rfl⟩:=List.mem_map.mp hx;obtain ⟨q,hq,rfl⟩:=List.mem_map.mp hk;exact ⟨p.2,q.2,PySem.W.mg_of X G (h1 p hp).1.1,PySem.W.mg_of X G (h2 q hq),(h4 p hp).1 q hq⟩
 .obtain ⟨p,hp,rfl⟩:=List.mem_map.mp hx;obtain ⟨q,hq,rfl⟩:=List.mem_map.mp hk;refine ⟨p.2,q.2,PySem.W.mg_of X G (h1 p hp).1.1,?_,(h4 p hp).2 q hq⟩;have h5:=h3 q hq;obtain ⟨nm,v⟩:=q;cases v <;> try (cases h5;done)
  .rename_i n;replace h5:((nsIn K mainGlobals nm == some none) && (bootBuiltins nm == some (.type n)) && !(nm == ("__name__":Str)))=true:=h5
   simp only [Bool.and_eq_true,beq_iff_eq,Bool.not_eq_true',beq_eq_false_iff_ne] at h5;exact .inr ⟨n,rfl,PySem.W.mg_none_of X G h5.1.1,h5.1.2,h5.2⟩
  .rename_i a;replace h5:(nsIn K mainGlobals nm == some (some (.ref a)))=true:=h5;exact .inl ⟨a,rfl,PySem.W.mg_of X G (beq_iff_eq.mp h5)⟩
end Mi
set_option maxHeartbeats 1000000
namespace Mi
open PySem L2
open PyProof.Rows hiding St
noncomputable def yL (K:PySem.W.Frag):Value->Bool
 | .ref cc=>(match K.lookup cc with
  | some ⟨.type t,_,.fields vs,_⟩=>decide (t="code") && (match (vs[11]?:Option Value) with
   | some (.ref p)=>(match vs.getD 18 .none with
    | .str _ _=>(match vs.getD 7 .none with
     | .int _ _=>(match vs.getD 9 .none with
      | .bool _=>(match vs.getD 10 .none with
       | .int _ _=>decide (cc≠p)
       | _=>false)
      | _=>false)
     | _=>false)
    | _=>false)
   | _=>false)
  | _=>false)
 | _=>false
theorem Nq {K:PySem.W.Frag}{v:Value} (h:yL K v=true):∃ cc Pt oc vs file tf flags tg inF text tt,v=.ref cc /\ K.lookup cc=some oc /\ oc.cls=.type "code" /\ oc.data=.fields vs /\ vs[11]?=some (.ref Pt) /\ vs.getD 11 .none=.ref Pt /\ vs.getD 18 .none=.str file tf /\ vs.getD 7 .none=.int flags tg /\ vs.getD 9 .none=.bool inF /\ vs.getD 10 .none=.int text tt /\ cc ≠ Pt:=by
 unfold yL at h;split at h <;> try (cases h;done)
 rename_i cc;split at h <;> try (cases h;done)
 rename_i t dd vs sl e;rw [Bool.and_eq_true] at h;obtain ⟨h0,h⟩:=h;cases of_decide_eq_true h0;split at h <;> try (cases h;done)
 rename_i p e11;split at h <;> try (cases h;done)
 rename_i f18 t18 e18;split at h <;> try (cases h;done)
 rename_i f7 t7 e7;split at h <;> try (cases h;done)
 rename_i f9 e9;split at h <;> try (cases h;done)
 rename_i f10 t10 e10;refine ⟨cc,p,_,vs,f18,t18,f7,t7,f9,f10,t10,rfl,e,rfl,rfl,e11,?_,e18,e7,e9,e10,of_decide_eq_true h⟩;simp [Array.getD_eq_getD_getElem?,e11]
structure FL (K:PySem.W.Frag) (x:Str) (st:Stmt):Prop where
 ex:∃ a fd,PySem.W.nsIn K mainGlobals x=some (some (.ref a))/\Fun K x x st a fd/\yL K fd.code=true
theorem acK {K:PySem.W.Frag}{x:Str}{st:Stmt}{f:Addr}{oc:Value}{od an:Option Addr}{osl:Array (Option Value)}{kV doc pm cdv ct:Value} (a:PySem.W.nsIn K mainGlobals x=some (some (.ref f)))
  (l:K.lookup f=some ⟨oc,od,.func (PySem.W.fnOf x x (bQ st) (bC st) (aH st) .none kV doc pm an cdv ct),osl⟩) (c:PySem.W.codeIn K cdv x=true) (k:PySem.W.keepIn K (.ref f)=true) (h:yL K cdv=true):FL K x st :=
 ⟨⟨f,_,a,R5 l c k,h⟩⟩
open PySem.W (Frag nsIn nsOkIn tailIn findIn specialIn mroIn readsIn findCls)
noncomputable def Ht (K:Frag) (C Tb fI:Addr):Bool:=(match K.lookup C with
 | some ⟨.type t,_,.cls cd,sl⟩=>t == "type" && (match cd.mro,sl.toList with
  | .ref C'::bm,[_,_,_,_,some (.builtin n),_]=>C' == C && n == "ValueError.__new__" && !cd.hasDel && cd.hasDict && tailIn K rY bm && nsOkIn K cd.ns && nsIn K cd.ns "__init__" == some (some (.ref fI))
  | _,_=>false)
 | _=>false) && readsIn K Tb (.type "type") && (match findCls K (.ref Tb) (.type "type") "__init__" with | some (.val (.builtin n))=>n == "ValueError.__init__" | _=>false) && specialIn K (.ref Tb) "__getattribute__" == some (some (.builtin "type.__getattribute__")) &&
 findIn K (.ref C) "__setattr__" == some (some (.builtin "object.__setattr__")) && mroIn K C (.type "object") == some true && findIn K (.ref C) "at" == some none
theorem VL {K:Frag}{C Tb fI:Addr} (h:Ht K C Tb fI=true):InitK K C Tb fI:=by
 unfold Ht at h;simp only [Bool.and_eq_true,beq_iff_eq] at h;obtain ⟨⟨⟨⟨⟨⟨h1,h2⟩,h3⟩,h4⟩,h5⟩,h6⟩,h7⟩:=h;refine ⟨?_,h2,?_,h4,h5,h6,h7⟩
 .split at h1 <;> try (cases h1;done)
  rename_i t dd cd sl ho;simp only [Bool.and_eq_true,beq_iff_eq] at h1;obtain ⟨rfl,h1⟩:=h1;split at h1 <;> try (cases h1;done)
  rename_i C' bm k0 k1 k2 k3 n k5 hm hs;simp only [Bool.and_eq_true,beq_iff_eq,Bool.not_eq_true'] at h1;obtain ⟨⟨⟨⟨⟨⟨rfl,rfl⟩,a3⟩,a4⟩,a5⟩,a6⟩,a7⟩:=h1;obtain ⟨nm,bs,mro,ns,qn,hdc,sn,sub,ab,col,del⟩:=cd;dsimp only at hm a3 a4 a5 a6 a7;subst hm a3 a4;obtain ⟨l⟩:=sl;simp only at hs;subst hs;exact ⟨nm,qn,ns,bs,bm,sn,sub,ab,col,dd,k0,k1,k2,k3,k5,ho,a5,a6,a7⟩
 .split at h3 <;> try (cases h3;done)
  rename_i n e;rw [e,beq_iff_eq.mp h3]
structure FI (K:Frag) (C Tb fI:Addr) (st:Stmt):Prop where
 init:Ht K C Tb fI=true
 fn:∃ od kV doc pm an cdv ct osl,K.lookup fI=some ⟨.type "function",od,.func (PySem.W.fnOf "__init__" "BadTests.__init__" (bQ st) (bC st) (aH st) .none kV doc pm an cdv ct),osl⟩ /\ PySem.W.codeIn K cdv "BadTests.__init__"=true
 n1:nsIn K mainGlobals "TestError"=some (some (.ref Tb))
 n2:nsIn K mainGlobals "BadTests"=some (some (.ref C))
theorem acw {K:Frag}{C Tb fI:Addr}{st:Stmt}{od an:Option Addr}{osl:Array (Option Value)}{kV doc pm cdv ct:Value} (i:Ht K C Tb fI=true) (l:K.lookup fI=some ⟨.type "function",od,.func (PySem.W.fnOf "__init__" "BadTests.__init__" (bQ st) (bC st) (aH st) .none kV doc pm an cdv ct),osl⟩) (c:PySem.W.codeIn K cdv "BadTests.__init__"=true) (a:nsIn K mainGlobals "TestError"=some (some (.ref Tb))) (b:nsIn K mainGlobals "BadTests"=some (some (.ref C))):FI K C Tb fI st :=
 ⟨i,⟨od,kV,doc,pm,an,cdv,ct,osl,l,c⟩,a,b⟩
theorem aaz {K:Frag}{h:Heap}{mg:Str->Option Value}{C Tb fI:Addr}{st:Stmt}{p1 p2 p3 p4 p5 p6 p7 p8 p9 q1 q2 q3 q4:Pos}{j:Nat} (X:K.In h) (G:h.Ns mainGlobals mg) (fi:FI K C Tb fI st) (hb:bC st=inBody p1 p2 p3 p4 p5 p6 p7 p8 p9 q1 q2 q3 q4 j oW) (hs:aH st=inScope) (tr:HD p1 p2 p3 p4 p5 p6 p7 p8 j oW)
  (hbi:∀ (kV doc pm:Value) (an:Option Addr) (cdv ct:Value) (us:List Value),us.length=([("self":Str),"at"]:List Str).length -> bindArgs (PySem.W.fnOf (Str.ofString "__init__") (Str.ofString "BadTests.__init__") (bQ st) (bC st) (aH st) .none kV doc pm an cdv ct) ⟨us,[]⟩=pure (([("self":Str),"at"]:List Str).zip us)):InK K mg C:=by
 obtain ⟨od,kV,doc,pm,an,cdv,ct,osl,lk,hcd⟩:=fi.fn;have b:=hbi kV doc pm an cdv ct;rw [hb,hs] at lk b;exact ⟨⟨Tb,fI,bQ st,.none,kV,doc,pm,cdv,ct,an,od,osl,p1,p2,p3,p4,p5,p6,p7,p8,p9,q1,q2,q3,q4,j,VL fi.init,tr,PySem.W.mg_of X G fi.n1,lk,hcd,.all b⟩,PySem.W.mg_of X G fi.n2⟩
theorem abx {T:Tx}{xtt:XT}{tab:List Def}{xt:tO}{K:PySem.W.Frag}{h:Heap}{mg:Str->Option Value}{st stc:Stmt}{d:Def}{i q:Nat}{p1 p2 p3 p4 p5 p6 p7 p8 p9 p10:Pos}{a1 a2 a3 a4 a5 a6:Pos}{b1 b2 b3 b4 b5 b6 b7 b8 b9 b10 b11 b12 b13 r1 r2 r3 s1 s2 s3 s4:Pos}{j j0:Nat}{C:Addr}
  (X:K.In h) (G:h.Ns mainGlobals mg) (fl:FL K (Str.ofString "check_tests") st) (fc:FF K (Str.ofString "check_list") stc) (hx:xt.lookup i=some [.lam q]) (ht:tab[i]?=some d) (hq:T.F[q]?=some (Str.ofString "is_test"))
  (hb:bC st=CG p1 p2 p3 p4 p5 p6 p7 p8 p9 p10) (hs:aH st=iz) (ik:InK K mg C) (hbc:bC stc=yh a1 a2 a3 a4 a5 a6 (some (.Call (.Name "BadTests" r1) [.Constant (.int 0) j0 r2] [] r3)) none b1 b2 b3 b4 b5 b6 b7 b8 b9 b10 b11 b12 b13 j [uf (.Name "place" s1) s2 s3 s4]) (hsc:aH stc=bF) (hnp:d.np=2) (hnn:d.nn=2) (hmu:yq d=false) (hnr:d.nrm=false)
  (hb1:∀ (kV doc pm:Value) (an:Option Addr) (cdv ct:Value) (us:List Value),us.length=([("book":Str),"tests"]:List Str).length -> bindArgs (PySem.W.fnOf (Str.ofString "check_tests") (Str.ofString "check_tests") (bQ st) (bC st) (aH st) .none kV doc pm an cdv ct) ⟨us,[]⟩=pure (([("book":Str),"tests"]:List Str).zip us))
  (hb2:∀ (kV doc pm:Value) (an:Option Addr) (cdv ct:Value) (us:List Value),us.length=([("things":Str),"is_right"]:List Str).length -> bindArgs (PySem.W.fnOf (Str.ofString "check_list") (Str.ofString "check_list") (bQ stc) (bC stc) (aH stc) .none kV doc pm an cdv ct) ⟨us,[]⟩=pure (([("things":Str),"is_right"]:List Str).zip us)) :
  ∃ d N ps st a fd,tab[i]?=some d /\ Fun K (Str.ofString "check_tests") (Str.ofString "check_tests") st a fd /\ mg (Str.ofString "check_tests")=some (.ref a) /\ L2.Binds K fd ps [] /\ (match xt.lookup i with | none=>cX T d N ps st=true | some b=>cI T xtt d b N ps st=true \/ LamD T K mg (Str.ofString "check_tests") b d ps st a fd):=by
 obtain ⟨a,fd,e,F,hco⟩:=fl.ex;obtain ⟨ac,fdc,ec,FC⟩:=fc.ex;have me:=PySem.W.mg_of X G e;refine ⟨d,[],[("book":Str),"tests"],st,a,fd,ht,F,me,F.binds hb1,?_⟩
 rw [hx];refine .inr ⟨⟨q,p1,p2,p3,p4,p5,p6,p7,p8,p9,p10,rfl,hq,hb⟩,hs,rfl,rfl,hnp,hnn,hmu,hnr,?_,Nq hco,me,C,ik⟩;have bc:=FC.binds hb2;have kp:=FC.kp;obtain ⟨oc,od,kV,doc,pm,an,cdv,ct,osl,rfl,lk,hcd⟩:=FC.ex;rw [hbc,hsc] at lk bc;exact ⟨ac,bQ stc,.none,kV,doc,pm,cdv,ct,oc,an,od,osl,a1,a2,a3,a4,a5,a6,b1,b2,b3,b4,b5,b6,b7,b8,b9,b10,b11,b12,b13,r1,r2,r3,s1,s2,s3,s4,j,j0,lk,hcd,PySem.W.mg_of X G ec,kp,bc⟩
theorem Ms:∀ {l:List (Addr × Obj)}{f:Addr}{b:Obj},l.lookup f=some b->(f,b)∈l
 | [],_,_,h=>by cases h
 | (k,v)::l,f,b,h=>by
  rw [List.lookup_cons] at h;split at h
  .rename_i e;cases h;rw [beq_iff_eq.mp e];exact List.mem_cons_self
  .exact List.mem_cons_of_mem _ (Ms h)
noncomputable def Vi (o:Obj):Bool:=match o.data,o.cls with
 | .fields _,.none=>false
 | _,_=>true
theorem acn {K:PySem.W.Frag} (h:(K.all fun p=>Vi p.2)=true) (b:Addr) (o:Obj) (e:K.lookup b=some o):Qh o:=fun vs z1 z2=>by
 have:=List.all_eq_true.mp h (b,o) (Ms e);unfold Vi at this;rw [z1,z2] at this;cases this
theorem tab_of {q:Program}{loose:List Str}{XP:(Str -> Option Value) -> Heap -> Prop}{w:World}{s₀:Shared}{mg mb:Str -> Option Value}{h:Heap} (hr:((recsOf q).any fun d=>decide (d.name=Str.ofString "check_tests"))=true) (G:PySem.W.Ground q loose [] XP w s₀ mg mb h):∃ tP,BL mg h tP:=by
 obtain ⟨d,hd,e⟩:=List.any_eq_true.mp hr;obtain ⟨a,o,fd,c,P,t1,t2,t3,t4,_,t6⟩:=G.T.tab d hd;rw [of_decide_eq_true e] at t1;exact ⟨some P,a,o,fd,c,t1,t2,t3,t4,t6⟩
end Mi
namespace E02
open PySem L2 Mi
noncomputable def T:Tx:=⟨[("is_whole":Str),("is_tuple":Str),("are_levels":Str),("is_setting":Str),("is_meeting":Str),("is_book":Str),("checked":Str),("meets":Str),("meets_any":Str),("is_row":Str),("is_test":Str),("check_tests":Str),("most_strength":Str),("check_book_and_strength":Str),("all_meetings":Str),("possible":Str),("impossible":Str),("check_all":Str),("missing":Str),("is_cover":Str),("needless":Str),("trimmed":Str),("in_order":Str),("built":Str),("suspects":Str),("blurred":Str),("most_looked":Str),("small_tests":Str),("meetings_by_mask":Str),("fewest":Str),("apart":Str),("kept":Str),("paper":Str),("is_paper":Str),("_law_cell":Str),("_law_mix":Str),("_law_book":Str),("_law_rows":Str),("_law_meets":Str),("_law_tests":Str),("_law_drawn":Str),("_law_by_strength":Str),("_law_more":Str),("_law_by_tests":Str),("_law_told":Str),("law":Str)],[("MOST_THINGS",.int 6),("MOST_SETTINGS",.int 4),("MOST_ROWS",.int 400),("MOST_BANS",.int 12),("MOST_IN_MEETING",.int 3),("MOST_TESTS",.int 24),("MOST_IN_ROW",.int 99),("MOST_MANY",.int 30)]⟩
abbrev gw:Nat:=0
abbrev cG:Nat:=1
abbrev pU:Nat:=2
abbrev rC:Nat:=3
abbrev pR:Nat:=4
abbrev sW:Nat:=5
abbrev nZ:Nat:=6
abbrev Eh:Nat:=7
abbrev tu:Nat:=8
abbrev jG:Nat:=9
abbrev dZ:Nat:=10
abbrev fX:Nat:=11
abbrev lO:Nat:=12
abbrev aA:Nat:=13
abbrev iD:Nat:=14
abbrev lR:Nat:=15
abbrev jL:Nat:=16
abbrev aN:Nat:=17
abbrev iH:Nat:=18
abbrev lC:Nat:=19
abbrev jW:Nat:=20
abbrev kO:Nat:=21
abbrev jR:Nat:=22
abbrev uy:Nat:=23
abbrev jU:Nat:=24
abbrev lA:Nat:=25
abbrev jl:Nat:=26
abbrev cD:Nat:=27
abbrev nG:Nat:=28
abbrev rJ:Nat:=29
abbrev uz:Nat:=30
abbrev xu:Nat:=31
abbrev ux:Nat:=32
abbrev lK:Nat:=33
abbrev bG:Nat:=34
abbrev dW:Nat:=35
abbrev nq:Nat:=36
abbrev j6:Nat:=37
abbrev rF:Nat:=38
abbrev jC:Nat:=39
abbrev lZ:Nat:=40
abbrev cU:Nat:=41
abbrev jq:Nat:=42
abbrev eG:Nat:=43
abbrev bL:Nat:=44
abbrev O5:Nat:=45
noncomputable def oZ:Def:=⟨3,3,[.ret (.and [(.isin (.var 0) .int),(.not (.isin (.var 0) .bool)),(.chain .le .le (.var 1) (.var 0) (.var 2))])],true⟩
noncomputable def pA:Def:=⟨3,3,[.ret (.and [(.isin (.var 0) .tuple),(.chain .le .le (.var 1) (.blt .len [(.var 0)]) (.var 2))])],true⟩
noncomputable def lM:Def:=⟨1,3,[.ifs (.not (.call cG [(.var 0),(.con (.int 1)),(.con (.int 6))])) [.ret (.con (.bl false))] [],.set (.one 1) (.con (.int 1)),.forr (.one 2) .seq [(.var 0)] [.ifs (.not (.call gw [(.var 2),(.con (.int 1)),(.con (.int 4))])) [.ret (.con (.bl false))] [],.set (.one 1) (.bin .mul (.var 1) (.var 2))],.ret (.cmp .le (.var 1) (.con (.int 400)))],true⟩
noncomputable def lY:Def:=⟨2,2,[.ifs (.or [(.not (.call cG [(.var 1),(.con (.int 2)),(.con (.int 2))])),(.not (.call gw [(.ix (.var 1) (.con (.int 0))),(.con (.int 0)),(.bin .sub (.blt .len [(.var 0)]) (.con (.int 1)))]))]) [.ret (.con (.bl false))] [],.ret (.call gw [(.ix (.var 1) (.con (.int 1))),(.con (.int 0)),(.bin .sub (.ix (.var 0) (.ix (.var 1) (.con (.int 0)))) (.con (.int 1)))])],true⟩
noncomputable def lX:Def:=⟨2,4,[.ifs (.not (.call cG [(.var 1),(.con (.int 1)),(.con (.int 3))])) [.ret (.con (.bl false))] [],.set (.one 2) (.con (.int 0)),.forr (.one 3) .seq [(.var 1)] [.ifs (.or [(.not (.call rC [(.var 0),(.var 3)])),(.cmp .lt (.ix (.var 3) (.con (.int 0))) (.var 2))]) [.ret (.con (.bl false))] [],.set (.one 2) (.bin .add (.ix (.var 3) (.con (.int 0))) (.con (.int 1)))],.ret (.con (.bl true))],true⟩
noncomputable def sI:Def:=⟨1,2,[.ifs (.or [(.not (.call cG [(.var 0),(.con (.int 2)),(.con (.int 2))])),(.not (.call pU [(.ix (.var 0) (.con (.int 0)))])),(.not (.call cG [(.ix (.var 0) (.con (.int 1))),(.con (.int 0)),(.con (.int 12))]))]) [.ret (.con (.bl false))] [],.ret (.blt .all [(.comp (.call pR [(.ix (.var 0) (.con (.int 0))),(.var 1)]) (.one 1) .seq [(.ix (.var 0) (.con (.int 1)))] false (.con (.bl true)) [true,false])])],true⟩
noncomputable def sY:Def:=⟨1,1,[.rai],false⟩
noncomputable def sG:List XS:=[(.ifs (.not (.call sW [(.var 0)])) [(.rai "BadBook")] []),(.n (.ret (.var 0)))]
noncomputable def zj:Def:=⟨2,3,[.ret (.blt .all [(.comp (.cmp .eq (.ix (.var 0) (.ix (.var 2) (.con (.int 0)))) (.ix (.var 2) (.con (.int 1)))) (.one 2) .seq [(.var 1)] false (.con (.bl true)) [true,false,false])])],true⟩
noncomputable def mR:Def:=⟨2,3,[.ret (.blt .any [(.comp (.call Eh [(.var 0),(.var 2)]) (.one 2) .seq [(.var 1)] false (.con (.bl true)) [true,false,false])])],true⟩
noncomputable def mO:Def:=⟨2,4,[.ifs (.not (.call cG [(.var 1),(.blt .len [(.var 0)]),(.blt .len [(.var 0)])])) [.ret (.con (.bl false))] [],.ret (.blt .all [(.comp (.call gw [(.var 2),(.con (.int 0)),(.bin .sub (.var 3) (.con (.int 1)))]) (.two 2 3) .zip [(.var 1),(.var 0)] false (.con (.bl true)) [false,false,false,false])])],true⟩
noncomputable def lq:Def:=⟨2,2,[.ret (.and [(.call jG [(.ix (.var 0) (.con (.int 0))),(.var 1)]),(.not (.call tu [(.var 1),(.ix (.var 0) (.con (.int 1)))]))])],true⟩
def oG:Def:=⟨2,2,[.rai],false⟩
noncomputable def vP:List XS:=[.lam dZ]
noncomputable def jw:Def:=⟨1,1,[.ret (.blt .min2 [(.con (.int 3)),(.blt .len [(.ix (.var 0) (.con (.int 0)))])])],true⟩
def cW:Def:=⟨2,2,[.rai],false⟩
noncomputable def cV:List XS:=[(.ce nZ [(.var 0)]),(.ifs (.not (.call gw [(.var 1),(.con (.int 1)),(.call lO [(.var 0)])])) [(.rai "BadStrength")] [])]
def mz:Def:=⟨2,2,[.rai],false⟩
noncomputable def mG:List XS:=[(.ce aA [(.var 0),(.var 1)]),.any]
def vC:Def:=⟨2,2,[.rai],false⟩
def uV:List XS:=[(.ce aA [(.var 0),(.var 1)]),.any]
def pK:Def:=⟨2,4,[.rai],false⟩
noncomputable def pW:List XS:=[(.ce aA [(.var 0),(.var 1)]),.any,.any]
def ni:Def:=⟨3,3,[.rai],false⟩
noncomputable def mQ:List XS:=[(.ce aA [(.var 0),(.var 1)]),(.ce fX [(.var 0),(.var 2)])]
def xV:Def:=⟨3,5,[.rai],false⟩
noncomputable def xY:List XS:=[(.ce aN [(.var 0),(.var 1),(.var 2)]),.any,.any]
def uM:Def:=⟨3,3,[.rai],false⟩
noncomputable def vq:List XS:=[(.rl iH [(.var 0),(.var 1),(.var 2)])]
def vd:Def:=⟨3,6,[.rai],false⟩
def uZ:List XS:=[(.ce aN [(.var 0),(.var 1),(.var 2)]),.any,.any]
def xT:Def:=⟨3,7,[.rai],false⟩
noncomputable def xK:List XS:=[(.ce aN [(.var 0),(.var 1),(.var 2)]),.any,.any,.any,.any]
def uP:Def:=⟨3,3,[.rai],false⟩
def uO:List XS:=[(.ce aN [(.var 0),(.var 1),(.var 2)]),.any]
def Ec:Def:=⟨2,2,[.rai],false⟩
def DK:List XS:=[(.ce aA [(.var 0),(.var 1)]),.any]
def uL:Def:=⟨4,9,[.rai],false⟩
def vG:List XS:=[(.ce aN [(.var 0),(.var 1),(.var 2)]),.any,.any,.any,.any]
def v5:Def:=⟨3,4,[.rai],false⟩
def yE:List XS:=[(.ce aN [(.var 0),(.var 1),(.var 2)]),.any]
def oN:Def:=⟨3,6,[.rai],false⟩
noncomputable def oh:List XS:=[(.ce aN [(.var 0),(.var 1),(.var 2)]),.any,.any,.any,.any,.any]
def oA:Def:=⟨2,3,[.rai],false⟩
def oJ:List XS:=[(.ce aA [(.var 0),(.var 1)]),.any,.any,.any]
def nQ:Def:=⟨2,5,[.rai],false⟩
noncomputable def nU:List XS:=[.any,.any,.any]
def Bk:Def:=⟨2,8,[.rai],false⟩
noncomputable def Bd:List XS:=[(.cs 2 cD [(.var 0),(.var 1)]),.any,.any,.any,.any,.any,.any]
def DG:Def:=⟨2,4,[.rai],false⟩
noncomputable def Dw:List XS:=[(.cn 2 nG cD [(.var 0),(.var 1)]),.any]
def Jb:Def:=⟨3,7,[.rai],false⟩
def JB:List XS:=[(.ce aA [(.var 0),(.var 1)]),.any,.any,.any,.any,.any]
def Dr:Def:=⟨3,7,[.rai],false⟩
noncomputable def Dz:List XS:=[(.cs 3 cD [(.var 0),(.var 1)]),.any,.any,.any,.any,.any,.any,.any]
def uX:Def:=⟨4,5,[.rai],false⟩
def vB:List XS:=[(.ce aA [(.var 0),(.var 1)]),.any,.any,.any,.any,.any]
noncomputable def mX:Def:=⟨2,2,[.ifs (.cmp .lt (.var 1) (.blt .len [(.var 0)])) [.ret (.ix (.var 0) (.var 1))] [],.ret (.con (.int 0))],true⟩
noncomputable def oY:Def:=⟨3,3,[.ret (.bin .mod (.bin .mod (.bin .mul (.var 0) (.con (.int 48271))) (.var 1)) (.var 2))],true⟩
noncomputable def mW:Def:=⟨2,11,[.set (.one 2) (.call bG [(.var 0),(.var 1)]),.set (.one 3) (.bin .add (.con (.int 1)) (.call dW [(.var 2),(.con (.int 9973)),(.con (.int 4))])),.set (.one 4) (.lst []),.forr (.one 5) .rng [(.var 3)] [.set (.one 7) (.con (.int 2)),.ifs (.or [(.cmp .lt (.var 5) (.con (.int 2))),(.cmp .gt (.blt .len [(.var 0)]) (.con (.int 63)))]) [.set (.one 7) (.con (.int 3))] [],.app 4 (.bin .add (.con (.int 1)) (.call dW [(.bin .add (.bin .add (.call bG [(.var 0),(.bin .add (.var 1) (.con (.int 1)))]) (.bin .mul (.bin .mul (.con (.int 31)) (.var 5)) (.var 5))) (.var 5)),(.con (.int 9967)),(.var 7)]))],.set (.one 6) (.lst []),.forr (.one 5) .rng [(.call dW [(.var 2),(.con (.int 9949)),(.con (.int 4))])] [.set (.one 8) (.bin .add (.bin .add (.call bG [(.var 0),(.bin .add (.var 1) (.con (.int 2)))]) (.bin .mul (.bin .mul (.con (.int 53)) (.var 5)) (.var 5))) (.bin .mul (.con (.int 7)) (.var 5))),.set (.one 9) (.slc (.comp (.var 10) (.one 10) .rng [(.var 3)] true (.cmp .eq (.call dW [(.bin .add (.var 8) (.bin .mul (.con (.int 17)) (.var 10))),(.con (.int 9941)),(.con (.int 2))]) (.con (.int 1))) [false,false,false,false,false,false,false,false,true,false,false]) (.con .non) (.con (.int 3))),.ifs (.cmp .eq (.var 9) (.lst [])) [.set (.one 9) (.lst [(.call dW [(.var 8),(.con (.int 9931)),(.var 3)])])] [],.app 6 (.blt .tuple [(.comp (.tup [(.var 10),(.call dW [(.bin .add (.var 8) (.bin .mul (.con (.int 5)) (.var 10))),(.con (.int 9929)),(.ix (.var 4) (.var 10))])]) (.one 10) .seq [(.var 9)] false (.con (.bl true)) [false,false,false,false,true,false,false,false,true,false,false])])],.ret (.tup [(.blt .tuple [(.var 4)]),(.blt .tuple [(.var 6)])])],true⟩
noncomputable def nj:Def:=⟨1,6,[.set (.one 1) (.lst [(.tup [])]),.forr (.one 2) .seq [(.var 0)] [.set (.one 3) (.lst []),.forr (.one 4) .seq [(.var 1)] [.set (.one 3) (.bin .add (.var 3) (.comp (.bin .add (.var 4) (.tup [(.var 5)])) (.one 5) .rng [(.var 2)] false (.con (.bl true)) [false,false,false,false,true,false]))],.set (.one 1) (.var 3)],.ret (.var 1)],true⟩
noncomputable def lG:Def:=⟨2,3,[.ret (.cmp .eq (.comp (.var 2) (.one 2) .seq [(.var 1)] true (.cmp .ne (.ix (.var 0) (.ix (.var 2) (.con (.int 0)))) (.ix (.var 2) (.con (.int 1)))) [true,false,false]) (.lst []))],true⟩
noncomputable def mq:Def:=⟨1,4,[.set (.one 1) (.lst []),.forr (.one 2) .seq [(.call j6 [(.ix (.var 0) (.con (.int 0)))])] [.ifs (.cmp .eq (.comp (.var 3) (.one 3) .seq [(.ix (.var 0) (.con (.int 1)))] true (.call rF [(.var 2),(.var 3)]) [false,false,true,false]) (.lst [])) [.app 1 (.var 2)] []],.ret (.var 1)],true⟩
noncomputable def jN:Def:=⟨4,7,[.set (.one 4) (.call jC [(.var 2)]),.set (.one 5) (.lst []),.ifs (.cmp .ne (.var 4) (.lst [])) [.forr (.one 6) .rng [(.call dW [(.call bG [(.var 0),(.var 1)]),(.con (.int 9923)),(.bin .add (.var 3) (.con (.int 1)))])] [.app 5 (.ix (.var 4) (.call dW [(.bin .add (.bin .add (.call bG [(.var 0),(.var 1)]) (.bin .mul (.bin .mul (.con (.int 29)) (.var 6)) (.var 6))) (.var 6)),(.con (.int 9907)),(.blt .len [(.var 4)])]))]] [],.ret (.var 5)],true⟩
def jB:Def:=⟨3,3,[.rai],false⟩
noncomputable def jx:List XS:=[(.ifs (.cmp .eq (.var 0) (.con (.int 0))) [(.cr iD [(.var 1),(.var 2)])] []),(.ifs (.cmp .eq (.var 0) (.con (.int 1))) [(.cr lR [(.var 1),(.var 2)])] []),(.ifs (.cmp .eq (.var 0) (.con (.int 2))) [(.cr jL [(.var 1),(.var 2)])] []),(.ifs (.cmp .eq (.var 0) (.con (.int 3))) [(.cr iH [(.var 1),(.var 2),(.con .non)])] []),(.ifs (.cmp .eq (.var 0) (.con (.int 4))) [(.cr jW [(.var 1),(.var 2),(.con .non)])] []),(.ifs (.cmp .eq (.var 0) (.con (.int 5))) [(.cr kO [(.var 1),(.var 2),(.con .non)])] []),(.ifs (.cmp .eq (.var 0) (.con (.int 6))) [(.cr jR [(.var 1),(.var 2),(.con .non)])] []),(.cr uy [(.var 1),(.var 2)])]
def tE:Def:=⟨3,3,[.rai],false⟩
noncomputable def sZ:List XS:=[(.ifs (.cmp .eq (.var 0) (.con (.int 0))) [(.cr rJ [(.var 1),(.var 2)])] []),(.ifs (.cmp .eq (.var 0) (.con (.int 1))) [(.cr uz [(.var 1),(.var 2)])] []),(.ifs (.cmp .eq (.var 0) (.con (.int 2))) [(.cr ux [(.var 1),(.var 2),(.con .non)])] []),(.ifs (.cmp .eq (.var 0) (.con (.int 3))) [(.cr lK [(.var 1),(.var 2),(.con .non),(.con .non)])] []),(.ifs (.cmp .eq (.var 0) (.con (.int 4))) [(.cr xu [(.var 1),(.var 2),(.con .non)])] []),(.ifs (.cmp .eq (.var 0) (.con (.int 5))) [(.cr jU [(.var 1),(.var 2),(.con .non),(.con .non)])] []),(.cr lA [(.var 1),(.var 2),(.con .non)])]
def lD:Def:=⟨3,3,[.rai],false⟩
noncomputable def lF:List XS:=[(.ifs (.cmp .eq (.var 0) (.con (.int 0))) [(.cr iH [(.var 1),(.con (.int 1)),(.var 2)])] []),(.ifs (.cmp .eq (.var 0) (.con (.int 1))) [(.cr lC [(.var 1),(.con (.int 1)),(.var 2)])] []),(.ifs (.cmp .eq (.var 0) (.con (.int 2))) [(.cr jW [(.var 1),(.con (.int 1)),(.var 2)])] []),(.ifs (.cmp .eq (.var 0) (.con (.int 3))) [(.cr kO [(.var 1),(.con (.int 1)),(.var 2)])] []),(.ifs (.cmp .eq (.var 0) (.con (.int 4))) [(.cr jR [(.var 1),(.con (.int 1)),(.var 2)])] []),(.ifs (.cmp .eq (.var 0) (.con (.int 5))) [(.cr jU [(.var 1),(.con (.int 1)),(.var 2),(.con .non)])] []),(.ifs (.cmp .eq (.var 0) (.con (.int 6))) [(.cr lA [(.var 1),(.con (.int 1)),(.var 2)])] []),(.cr jl [(.var 1),(.con (.int 1)),(.var 2)])]
def tQ:Def:=⟨4,5,[.rai],false⟩
noncomputable def tY:List XS:=[(.th [(.ifs (.cmp .eq (.var 0) (.con (.int 0))) [(.ce cU [(.var 1),(.var 2),(.var 3)])] [(.ifs (.cmp .eq (.var 0) (.con (.int 1))) [(.ce jq [(.var 1),(.var 2),(.var 3)])] [(.ce eG [(.var 1),(.var 2),(.var 3)])])])] 4 "TestError" (.ifx "BadTests" [(.nisx "BadStrength"),(.isx "ValueError"),.att] [(.isx "BadStrength"),(.isx "ValueError")]) ["BadBook","BadStrength","BadTests"]),(.n (.ret (.lst [])))]
noncomputable def Ho:Def:=⟨1,12,[.set (.one 1) (.call nq [(.var 0),(.con (.int 3))]),.set (.one 2) (.ix (.lst [(.con .non),(.con (.int 0)),(.con (.int 4)),(.con (.bl true)),(.con (.str "1")),(.lst [(.con (.int 1))]),(.neg (.con (.int 1))),(.bin .add (.bin .add (.blt .len [(.ix (.var 1) (.con (.int 0)))]) (.con (.int 1))) (.bin .mul (.con (.int 3)) (.blt .int [(.cmp .gt (.blt .len [(.ix (.var 1) (.con (.int 0)))]) (.con (.int 2)))]))),(.tup [(.con (.int 1))])]) (.bin .mod (.call bG [(.var 0),(.con (.int 0))]) (.con (.int 9)))),.forr (.two 3 4) .seq [(.lst [(.tup [(.con (.int 0)),(.con (.int 8))]),(.tup [(.con (.int 1)),(.con (.int 7))])])] [.ifs (.comp (.var 10) (.one 10) .rng [(.var 4)] true (.cmp .ne (.call bL [(.var 3),(.var 10),(.var 1),(.var 2)]) (.lst [(.con (.bl true)),(.con (.bl true))])) [false,true,true,true,false,false,false,false,false,false,false,false]) [.ret (.con (.bl false))] []],.set (.one 5) (.call lZ [(.var 0),(.con (.int 6)),(.var 1),(.con (.int 5))]),.set (.one 6) (.bin .mod (.call bG [(.var 0),(.con (.int 1))]) (.bin .add (.blt .len [(.var 5)]) (.con (.int 1)))),.set (.one 7) (.lst [(.con .non),(.con (.int 7)),(.bin .mul (.tup [(.con (.int 0))]) (.bin .add (.blt .len [(.ix (.var 1) (.con (.int 0)))]) (.con (.int 1)))),(.bin .mul (.lst [(.con (.int 0))]) (.blt .len [(.ix (.var 1) (.con (.int 0)))])),(.ix (.var 1) (.con (.int 0)))]),.set (.one 7) (.bin .add (.var 7) (.lst [(.bin .add (.tup [(.neg (.con (.int 1)))]) (.slc (.ix (.var 1) (.con (.int 0))) (.con (.int 1)) (.con .non))),(.bin .mul (.tup [(.con (.bl true))]) (.blt .len [(.ix (.var 1) (.con (.int 0)))]))])),.set (.one 7) (.bin .add (.bin .add (.var 7) (.lst [(.bin .mul (.tup [(.con (.str "0"))]) (.blt .len [(.ix (.var 1) (.con (.int 0)))])),(.tup [])])) (.comp (.var 11) (.one 11) .seq [(.call j6 [(.ix (.var 1) (.con (.int 0)))])] true (.cmp .notin (.var 11) (.call jC [(.var 1)])) [false,true,false,false,false,false,false,false,false,false,false,false])),.set (.one 8) (.bin .add (.bin .add (.slc (.var 5) (.con .non) (.var 6)) (.lst [(.ix (.var 7) (.bin .mod (.call bG [(.var 0),(.con (.int 2))]) (.blt .len [(.var 7)])))])) (.slc (.var 5) (.var 6) (.con .non))),.set (.one 9) (.var 6),.ifs (.cmp .eq (.bin .mod (.call bG [(.var 0),(.con (.int 1))]) (.con (.int 7))) (.con (.int 6))) [.set (.one 8) (.ix (.lst [(.con .non),(.blt .tuple [(.var 5)]),(.con (.int 7))]) (.bin .mod (.call bG [(.var 0),(.con (.int 0))]) (.con (.int 3)))),.set (.one 9) (.con (.int 0))] [],.ret (.cmp .eq (.comp (.var 10) (.one 10) .rng [(.con (.int 8))] true (.cmp .ne (.call bL [(.con (.int 2)),(.var 10),(.var 1),(.var 8)]) (.lst [(.con (.bl true)),(.con (.bl true)),(.var 9)])) [false,true,false,false,false,false,false,false,true,true,false,false]) (.lst []))],true⟩
noncomputable def tab:List Def:=[oZ,pA,lM,lY,lX,sI,sY,zj,mR,mO,lq,oG,jw,cW,mz,vC,pK,ni,xV,uM,vd,xT,uP,Ec,uL,v5,oN,oA,nQ,Bk,DG,Jb,Dr,uX,mX,oY,mW,nj,lG,mq,jN,jB,tE,lD,tQ,Ho]
noncomputable def au:tO:=[(nZ,sG),(fX,vP),(aA,cV),(iD,mG),(lR,uV),(jL,pW),(aN,mQ),(iH,xY),(lC,vq),(jW,uZ),(kO,xK),(jR,uO),(uy,DK),(jU,vG),(lA,yE),(jl,oh),(cD,oJ),(nG,nU),(rJ,Bd),(uz,Dw),(xu,JB),(ux,Dz),(lK,vB),(cU,jx),(jq,sZ),(eG,lF),(bL,tY)]
noncomputable def cs:List (Str × Addr):=[("BadBook",37),("BadStrength",49),("BadTests",68)]
noncomputable def hs:List (Str × Addr):=[("TestError",24)]
noncomputable def ks:List (Str × Value):=[("BadTests",.ref 68),("BadStrength",.ref 49),("ValueError",.type "ValueError")]
noncomputable def xtt:XT:=⟨cs.map (·.1),hs.map (·.1),ks.map (·.1)⟩
theorem cQ {n f:Nat}{d:Def}{args:List D} (ht:tab[f]?=some d) (hl:args.length=d.np) (hn:d.nrm=true:=by rfl) (hx:au.lookup f=none:=by rfl):aj tab au (n+1) f args=pQ (cZ (aj tab au n) d.body (args.map some++List.replicate (d.nn - d.np) none)):=V3 hx ht hl hn
theorem aK {n f:Nat}{d:Def}{b:List XS}{args:List D} (ht:tab[f]?=some d) (hx:au.lookup f=some b) (hl:args.length=d.np):aj tab au (n+1) f args=iC (aR (aj tab au n) b (args.map some++List.replicate (d.nn - d.np) none)):=Sd hx ht hl
theorem CQ:tab[gw]?=some oZ:=rfl
theorem KJ:cX T oZ ["thing","least","most"] ["thing","least","most"] (top 14)=true:=by decide +kernel
theorem OJ:tab[cG]?=some pA:=rfl
theorem KY:cX T pA ["thing","least","most"] ["thing","least","most"] (top 15)=true:=by decide +kernel
theorem JV:tab[pU]?=some lM:=rfl
theorem Gp:cX T lM ["thing","rows","level"] ["thing"] (top 16)=true:=by decide +kernel
theorem JF:tab[rC]?=some lY:=rfl
theorem GD:cX T lY ["levels","thing"] ["levels","thing"] (top 17)=true:=by decide +kernel
theorem HJ:tab[pR]?=some lX:=rfl
theorem Gx:cX T lX ["levels","thing","behind","pair"] ["levels","thing"] (top 18)=true:=by decide +kernel
theorem Rh:tab[sW]?=some sI:=rfl
theorem N6:cX T sI ["thing","ban"] ["thing"] (top 19)=true:=by decide +kernel
theorem QB:tab[nZ]?=some sY:=rfl
theorem SN:au.lookup nZ=some sG:=rfl
theorem Qd:cI T xtt sY sG ["book"] ["book"] (top 20)=true:=by decide +kernel
theorem Xa:tab[Eh]?=some zj:=rfl
theorem Us:cX T zj ["row","meeting","pair"] ["row","meeting"] (top 21)=true:=by decide +kernel
theorem K4:tab[tu]?=some mR:=rfl
theorem HX:cX T mR ["row","meetings","meeting"] ["row","meetings"] (top 22)=true:=by decide +kernel
theorem vo:tab[jG]?=some mO:=rfl
theorem Q7:cX T mO ["levels","thing","setting","level"] ["levels","thing"] (top 25)=true:=by decide +kernel
theorem yd:tab[dZ]?=some lq:=rfl
theorem Oi:cX T lq ["book","thing"] ["book","thing"] (top 26)=true:=by decide +kernel
theorem vK:tab[fX]?=some oG:=rfl
theorem vO:au.lookup fX=some vP:=rfl
theorem Ck:tab[lO]?=some jw:=rfl
theorem Bl:cX T jw ["book"] ["book"] (top 30)=true:=by decide +kernel
theorem o7:tab[aA]?=some cW:=rfl
theorem pC:au.lookup aA=some cV:=rfl
theorem oF:cI T xtt cW cV ["book","strength"] ["book","strength"] (top 31)=true:=by decide +kernel
theorem Dy:tab[iD]?=some mz:=rfl
theorem DP:au.lookup iD=some mG:=rfl
theorem Cq:cI T xtt mz mG ["book","strength"] ["book","strength"] (top 37)=true:=by decide +kernel
theorem Nt:tab[lR]?=some vC:=rfl
theorem Oe:au.lookup lR=some uV:=rfl
theorem Li:cI T xtt vC uV ["book","strength"] ["book","strength"] (top 38)=true:=by decide +kernel
theorem Ka:tab[jL]?=some pK:=rfl
theorem JC:au.lookup jL=some pW:=rfl
theorem Gz:cI T xtt pK pW ["book","strength","met","meeting"] ["book","strength"] (top 39)=true:=by decide +kernel
theorem zy:tab[aN]?=some ni:=rfl
theorem zY:au.lookup aN=some mQ:=rfl
theorem Jk:cI T xtt ni mQ ["book","strength","tests"] ["book","strength","tests"] (top 41)=true:=by decide +kernel
theorem Qm:tab[iH]?=some xV:=rfl
theorem RM:au.lookup iH=some xY:=rfl
theorem NT:cI T xtt xV xY ["book","strength","tests","met","meeting"] ["book","strength","tests"] (top 42)=true:=by decide +kernel
theorem Oq:tab[lC]?=some uM:=rfl
theorem Pq:au.lookup lC=some vq:=rfl
theorem KD:cI T xtt uM vq ["book","strength","tests"] ["book","strength","tests"] (top 43)=true:=by decide +kernel
theorem PN:tab[jW]?=some vd:=rfl
theorem Ot:au.lookup jW=some uZ:=rfl
theorem KH:cI T xtt vd uZ ["book","strength","tests","times","place","test"] ["book","strength","tests"] (top 46)=true:=by decide +kernel
theorem Td:tab[kO]?=some xT:=rfl
theorem S7:au.lookup kO=some xK:=rfl
theorem Nu:cI T xtt xT xK ["book","strength","tests","times","left","test","meetings"] ["book","strength","tests"] (top 48)=true:=by decide +kernel
theorem Oz:tab[jR]?=some uP:=rfl
theorem NK:au.lookup jR=some uO:=rfl
theorem La:cI T xtt uP uO ["book","strength","tests"] ["book","strength","tests"] (top 52)=true:=by decide +kernel
theorem YQ:tab[uy]?=some Ec:=rfl
theorem Zj:au.lookup uy=some DK:=rfl
theorem Tr:cI T xtt Ec DK ["book","strength"] ["book","strength"] (top 54)=true:=by decide +kernel
theorem Oc:tab[jU]?=some uL:=rfl
theorem Pj:au.lookup jU=some vG:=rfl
theorem KN:cI T xtt uL vG ["book","strength","tests","results","places","faulty","place","result","meeting"] ["book","strength","tests","results"] (top 57)=true:=by decide +kernel
theorem QG:tab[lA]?=some v5:=rfl
theorem QL:au.lookup lA=some yE:=rfl
theorem Np:cI T xtt v5 yE ["book","strength","tests","meetings"] ["book","strength","tests"] (top 60)=true:=by decide +kernel
theorem Gu:tab[jl]?=some oN:=rfl
theorem G5:au.lookup jl=some oh:=rfl
theorem Dj:cI T xtt oN oh ["book","strength","tests","places","many","lists"] ["book","strength","tests"] (top 62)=true:=by decide +kernel
theorem Gv:tab[cD]?=some oA:=rfl
theorem Gw:au.lookup cD=some oJ:=rfl
theorem Dm:cI T xtt oA oJ ["book","strength","tests"] ["book","strength"] (top 65)=true:=by decide +kernel
theorem vY:cI T xtt nQ nU ["tests","strength","meetings","meeting","mask"] ["tests","strength"] (top 68)=true:=by decide +kernel
theorem Vk:tab[rJ]?=some Bk:=rfl
theorem Uv:au.lookup rJ=some Bd:=rfl
theorem Tc:cI T xtt Bk Bd ["book","strength","tests","masks","many","found","by_bit","bit"] ["book","strength"] (top 76)=true:=by decide +kernel
theorem Xw:tab[uz]?=some DG:=rfl
theorem YH:au.lookup uz=some Dw:=rfl
theorem V6:cI T xtt DG Dw ["book","strength","meetings","mask"] ["book","strength"] (top 81)=true:=by decide +kernel
theorem aaD:tab[xu]?=some Jb:=rfl
theorem aa1:au.lookup xu=some JB:=rfl
theorem XM:cI T xtt Jb JB ["book","strength","tests","ahead","behind","further","test"] ["book","strength","tests"] (top 86)=true:=by decide +kernel
theorem Y4:tab[ux]?=some Dr:=rfl
theorem Xv:au.lookup ux=some Dz:=rfl
theorem Ux:cI T xtt Dr Dz ["book","strength","many","tests","found","meetings","masks"] ["book","strength","many"] (top 91)=true:=by decide +kernel
theorem Qg:tab[lK]?=some uX:=rfl
theorem Nz:au.lookup lK=some vB:=rfl
theorem KZ:cI T xtt uX vB ["book","strength","many","thing","ground"] ["book","strength","many","thing"] (top 96)=true:=by decide +kernel
theorem KC:tab[bG]?=some mX:=rfl
theorem Jg:cX T mX ["_law_script","_law_k"] ["_law_script","_law_k"] (top 98)=true:=by decide +kernel
theorem Oh:tab[dW]?=some oY:=rfl
theorem Kv:cX T oY ["_law_cell_here","_law_prime","_law_many"] ["_law_cell_here","_law_prime","_law_many"] (top 99)=true:=by decide +kernel
theorem K9:tab[nq]?=some mW:=rfl
theorem JR:cX T mW ["_law_script","_law_at","_law_cell_here","_law_many","_law_levels","_law_k","_law_bans","_law_most","_law_seed","_law_things","_law_thing"] ["_law_script","_law_at"] (top 100)=true:=by decide +kernel
theorem Lg:tab[j6]?=some nj:=rfl
theorem Je:cX T nj ["_law_levels","_law_found","_law_level","_law_more_here","_law_row","_law_setting"] ["_law_levels"] (top 101)=true:=by decide +kernel
theorem JG:tab[rF]?=some lG:=rfl
theorem Gq:cX T lG ["_law_test","_law_meeting","_law_pair"] ["_law_test","_law_meeting"] (top 102)=true:=by decide +kernel
theorem Ks:tab[jC]?=some mq:=rfl
theorem Gy:cX T mq ["_law_book_here","_law_found","_law_row","_law_ban"] ["_law_book_here"] (top 103)=true:=by decide +kernel
theorem Ig:tab[lZ]?=some jN:=rfl
theorem GQ:cX T jN ["_law_script","_law_at","_law_book_here","_law_most","_law_tests_here","_law_found","_law_k"] ["_law_script","_law_at","_law_book_here","_law_most"] (top 104)=true:=by decide +kernel
theorem bN:tab[cU]?=some jB:=rfl
theorem bO:au.lookup cU=some jx:=rfl
theorem vX:cI T xtt jB jx ["_law_way","_law_book_here","_law_bad"] ["_law_way","_law_book_here","_law_bad"] (top 105)=true:=by decide +kernel
theorem gH:tab[jq]?=some tE:=rfl
theorem gD:au.lookup jq=some sZ:=rfl
theorem HF:cI T xtt tE sZ ["_law_way","_law_book_here","_law_bad"] ["_law_way","_law_book_here","_law_bad"] (top 106)=true:=by decide +kernel
theorem cL:tab[eG]?=some lD:=rfl
theorem cM:au.lookup eG=some lF:=rfl
theorem Am:cI T xtt lD lF ["_law_way","_law_book_here","_law_bad"] ["_law_way","_law_book_here","_law_bad"] (top 107)=true:=by decide +kernel
theorem tR:tab[bL]?=some tQ:=rfl
theorem tU:au.lookup bL=some tY:=rfl
theorem Jh:cI T xtt tQ tY ["_law_sort","_law_way","_law_book_here","_law_bad","e"] ["_law_sort","_law_way","_law_book_here","_law_bad"] (top 108)=true:=by decide +kernel
theorem acG:tab[O5]?=some Ho:=rfl
theorem Rv:cX T Ho ["_law_script","_law_book_here","_law_odd","_law_sort","_law_ways","_law_tests_here","_law_at","_law_some","_law_bad","_law_due","_law_way","_law_row"] ["_law_script"] (top 109)=true:=by decide +kernel
section
variable {K:PySem.W.Frag}{h:Heap}{mg:Str->Option Value}
theorem aF {x:Str}{st:Stmt}{d:Def}{N ps:List Str}{i:Nat} (X:K.In h) (G:h.Ns mainGlobals mg) (f:FF K x st) (ht:tab[i]?=some d) (ok:match au.lookup i with | none=>cX T d N ps st=true | some b=>cI T xtt d b N ps st=true)
  (hb:∀ (kV doc pm:Value) (an:Option Addr) (cdv ct:Value) (us:List Value),us.length=ps.length->bindArgs (PySem.W.fnOf x x (bQ st) (bC st) (aH st) .none kV doc pm an cdv ct) ⟨us,[]⟩=pure (ps.zip us)) :
  ∃ d N ps st a fd,tab[i]?=some d/\Fun K x x st a fd/\mg x=some (.ref a)/\L2.Binds K fd ps []/\(match au.lookup i with | none=>cX T d N ps st=true | some b=>cI T xtt d b N ps st=true\/LamD T K mg x b d ps st a fd):=by
 obtain ⟨a,fd,e,F⟩:=f.ex;refine ⟨d,N,ps,st,a,fd,ht,F,PySem.W.mg_of X G e,F.binds hb,?_⟩;cases hx:au.lookup i with
 | none=>rw [hx] at ok;exact ok
 | some b=>rw [hx] at ok;exact .inl ok
theorem pr (X:K.In h) (G:h.Ns mainGlobals mg) (f0:FF K "is_whole" (top 14)) (f1:FF K "is_tuple" (top 15)) (f2:FF K "are_levels" (top 16)) (f3:FF K "is_setting" (top 17)) (f4:FF K "is_meeting" (top 18)) (f5:FF K "is_book" (top 19)) (f6:FF K "checked" (top 20)) (f7:FF K "meets" (top 21)) (f8:FF K "meets_any" (top 22)) (f9:FF K "is_row" (top 25)) (f10:FF K "is_test" (top 26)) (f11:FL K "check_tests" (top 28)) (f12:FF K "most_strength" (top 30)) (f13:FF K "check_book_and_strength" (top 31)) (f14:FF K "all_meetings" (top 37)) (f15:FF K "possible" (top 38)) (f16:FF K "impossible" (top 39)) (f17:FF K "check_all" (top 41)) (f18:FF K "missing" (top 42)) (f19:FF K "is_cover" (top 43)) (f20:FF K "needless" (top 46)) (f21:FF K "trimmed" (top 48)) (f22:FF K "in_order" (top 52)) (f23:FF K "built" (top 54)) (f24:FF K "suspects" (top 57)) (f25:FF K "blurred" (top 60)) (f26:FF K "most_looked" (top 62)) (f27:FF K "small_tests" (top 65)) (f28:FF K "meetings_by_mask" (top 68)) (f29:FF K "fewest" (top 76)) (f30:FF K "apart" (top 81)) (f31:FF K "kept" (top 86)) (f32:FF K "paper" (top 91)) (f33:FF K "is_paper" (top 96)) (f34:FF K "_law_cell" (top 98)) (f35:FF K "_law_mix" (top 99)) (f36:FF K "_law_book" (top 100)) (f37:FF K "_law_rows" (top 101)) (f38:FF K "_law_meets" (top 102)) (f39:FF K "_law_tests" (top 103)) (f40:FF K "_law_drawn" (top 104)) (f41:FF K "_law_by_strength" (top 105)) (f42:FF K "_law_more" (top 106)) (f43:FF K "_law_by_tests" (top 107)) (f44:FF K "_law_told" (top 108)) (f45:FF K "law" (top 109)) (fcl:FF K "check_list" (top 27)) (fi:FI K 68 24 65 (Hs.inn 0 (top 4))) (g0:GF K "MOST_THINGS" (.int 6)) (g1:GF K "MOST_SETTINGS" (.int 4)) (g2:GF K "MOST_ROWS" (.int 400)) (g3:GF K "MOST_BANS" (.int 12)) (g4:GF K "MOST_IN_MEETING" (.int 3)) (g5:GF K "MOST_TESTS" (.int 24)) (g6:GF K "MOST_IN_ROW" (.int 99)) (g7:GF K "MOST_MANY" (.int 30)) (hb:∀ f ∈ mK,PySem.W.nsIn K mainGlobals f=some none) (hxf:xfB K cs hs ks=true):PrX T xtt tab au K mg:=by
 refine ⟨by decide,fun f b hf=>?_,fun f hf=>PySem.W.mg_none_of X G (hb f hf),fun x i e=>?_,acB X G hxf,fun f x e=>?_⟩
 .have hm:∀ p∈au,p.1 < 1000:=by decide
  exact hm (f,b) (RW hf)
 .have key:∀ (l:List (Str × D)),l.lookup x=some i->(∀ p∈l,GF K p.1 p.2)->GlV i (mg x):=by
   intro l;induction l with
   | nil=>intro e;cases e
   | cons q l ih =>
    intro e H;rw [List.lookup_cons] at e;split at e
    .rename_i hx;obtain ⟨v,e2,g⟩:=(H q List.mem_cons_self).ex;cases e;rw [PySem.W.mg_of X G (by rw [beq_iff_eq.mp hx];exact e2)];exact g
    .exact ih e fun p hp=>H p (List.mem_cons_of_mem _ hp)
  refine key T.gl e fun p hp=>?_
  simp only [T,List.mem_cons,List.not_mem_nil,or_false] at hp;rcases hp with rfl | rfl | rfl | rfl | rfl | rfl | rfl | rfl
  .exact g0
  .exact g1
  .exact g2
  .exact g3
  .exact g4
  .exact g5
  .exact g6
  .exact g7
 .have hlt:f < 46:=(List.getElem?_eq_some_iff.mp e).1
  match f,hlt,e with
  | 0,_,e=>cases e;exact aF X G f0 rfl KJ fun _ _ _ _ _ _=>us3 fun _ _ _=>rfl
  | 1,_,e=>cases e;exact aF X G f1 rfl KY fun _ _ _ _ _ _=>us3 fun _ _ _=>rfl
  | 2,_,e=>cases e;exact aF X G f2 rfl Gp fun _ _ _ _ _ _=>us1 fun _=>rfl
  | 3,_,e=>cases e;exact aF X G f3 rfl GD fun _ _ _ _ _ _=>us2 fun _ _=>rfl
  | 4,_,e=>cases e;exact aF X G f4 rfl Gx fun _ _ _ _ _ _=>us2 fun _ _=>rfl
  | 5,_,e=>cases e;exact aF X G f5 rfl N6 fun _ _ _ _ _ _=>us1 fun _=>rfl
  | 6,_,e=>cases e;exact aF X G f6 rfl Qd fun _ _ _ _ _ _=>us1 fun _=>rfl
  | 7,_,e=>cases e;exact aF X G f7 rfl Us fun _ _ _ _ _ _=>us2 fun _ _=>rfl
  | 8,_,e=>cases e;exact aF X G f8 rfl HX fun _ _ _ _ _ _=>us2 fun _ _=>rfl
  | 9,_,e=>cases e;exact aF X G f9 rfl Q7 fun _ _ _ _ _ _=>us2 fun _ _=>rfl
  | 10,_,e=>cases e;exact aF X G f10 rfl Oi fun _ _ _ _ _ _=>us2 fun _ _=>rfl
  | 11,_,e=>cases e;exact abx (d:=oG) (q:=dZ) X G f11 fcl vO vK rfl rfl rfl (aaz X G fi rfl rfl (fun env=>⟨_,rfl⟩) fun _ _ _ _ _ _=>us2 fun _ _=>rfl) rfl rfl rfl rfl rfl rfl (fun _ _ _ _ _ _=>us2 fun _ _=>rfl) (fun _ _ _ _ _ _=>us2 fun _ _=>rfl)
  | 12,_,e=>cases e;exact aF X G f12 rfl Bl fun _ _ _ _ _ _=>us1 fun _=>rfl
  | 13,_,e=>cases e;exact aF X G f13 rfl oF fun _ _ _ _ _ _=>us2 fun _ _=>rfl
  | 14,_,e=>cases e;exact aF X G f14 rfl Cq fun _ _ _ _ _ _=>us2 fun _ _=>rfl
  | 15,_,e=>cases e;exact aF X G f15 rfl Li fun _ _ _ _ _ _=>us2 fun _ _=>rfl
  | 16,_,e=>cases e;exact aF X G f16 rfl Gz fun _ _ _ _ _ _=>us2 fun _ _=>rfl
  | 17,_,e=>cases e;exact aF X G f17 rfl Jk fun _ _ _ _ _ _=>us3 fun _ _ _=>rfl
  | 18,_,e=>cases e;exact aF X G f18 rfl NT fun _ _ _ _ _ _=>us3 fun _ _ _=>rfl
  | 19,_,e=>cases e;exact aF X G f19 rfl KD fun _ _ _ _ _ _=>us3 fun _ _ _=>rfl
  | 20,_,e=>cases e;exact aF X G f20 rfl KH fun _ _ _ _ _ _=>us3 fun _ _ _=>rfl
  | 21,_,e=>cases e;exact aF X G f21 rfl Nu fun _ _ _ _ _ _=>us3 fun _ _ _=>rfl
  | 22,_,e=>cases e;exact aF X G f22 rfl La fun _ _ _ _ _ _=>us3 fun _ _ _=>rfl
  | 23,_,e=>cases e;exact aF X G f23 rfl Tr fun _ _ _ _ _ _=>us2 fun _ _=>rfl
  | 24,_,e=>cases e;exact aF X G f24 rfl KN fun _ _ _ _ _ _=>us4 fun _ _ _ _=>rfl
  | 25,_,e=>cases e;exact aF X G f25 rfl Np fun _ _ _ _ _ _=>us3 fun _ _ _=>rfl
  | 26,_,e=>cases e;exact aF X G f26 rfl Dj fun _ _ _ _ _ _=>us3 fun _ _ _=>rfl
  | 27,_,e=>cases e;exact aF X G f27 rfl Dm fun _ _ _ _ _ _=>us2 fun _ _=>rfl
  | 28,_,e=>cases e;exact aF X G f28 rfl vY fun _ _ _ _ _ _=>us2 fun _ _=>rfl
  | 29,_,e=>cases e;exact aF X G f29 rfl Tc fun _ _ _ _ _ _=>us2 fun _ _=>rfl
  | 30,_,e=>cases e;exact aF X G f30 rfl V6 fun _ _ _ _ _ _=>us2 fun _ _=>rfl
  | 31,_,e=>cases e;exact aF X G f31 rfl XM fun _ _ _ _ _ _=>us3 fun _ _ _=>rfl
  | 32,_,e=>cases e;exact aF X G f32 rfl Ux fun _ _ _ _ _ _=>us3 fun _ _ _=>rfl
  | 33,_,e=>cases e;exact aF X G f33 rfl KZ fun _ _ _ _ _ _=>us4 fun _ _ _ _=>rfl
  | 34,_,e=>cases e;exact aF X G f34 rfl Jg fun _ _ _ _ _ _=>us2 fun _ _=>rfl
  | 35,_,e=>cases e;exact aF X G f35 rfl Kv fun _ _ _ _ _ _=>us3 fun _ _ _=>rfl
  | 36,_,e=>cases e;exact aF X G f36 rfl JR fun _ _ _ _ _ _=>us2 fun _ _=>rfl
  | 37,_,e=>cases e;exact aF X G f37 rfl Je fun _ _ _ _ _ _=>us1 fun _=>rfl
  | 38,_,e=>cases e;exact aF X G f38 rfl Gq fun _ _ _ _ _ _=>us2 fun _ _=>rfl
  | 39,_,e=>cases e;exact aF X G f39 rfl Gy fun _ _ _ _ _ _=>us1 fun _=>rfl
  | 40,_,e=>cases e;exact aF X G f40 rfl GQ fun _ _ _ _ _ _=>us4 fun _ _ _ _=>rfl
  | 41,_,e=>cases e;exact aF X G f41 rfl vX fun _ _ _ _ _ _=>us3 fun _ _ _=>rfl
  | 42,_,e=>cases e;exact aF X G f42 rfl HF fun _ _ _ _ _ _=>us3 fun _ _ _=>rfl
  | 43,_,e=>cases e;exact aF X G f43 rfl Am fun _ _ _ _ _ _=>us3 fun _ _ _=>rfl
  | 44,_,e=>cases e;exact aF X G f44 rfl Jh fun _ _ _ _ _ _=>us4 fun _ _ _ _=>rfl
  | 45,_,e=>cases e;exact aF X G f45 rfl Rv fun _ _ _ _ _ _=>us1 fun _=>rfl
end
end E02
set_option maxHeartbeats 400000
namespace E02
open PySem L2 Mi
local macro_rules | `(tactic| simpa only [$xs,*])=>`(tactic| simp only [qQ,qR,qx,qS,qD,qE,qF,qG,qH,qy,qz,wA,wB,qT,wC,qI,qU,qV,qW,wD,wE,wF,qX,wG,wH,wI,qY,qZ,wJ,wK,wL,wM,wN,wO,wP,qJ,wQ,wl,wR,wS,wT,wm,wU,qa,qb,wV,qd,qe,qf,qK,qg,qL,wW,qh,wn,wo,qi,qM,qN,wX,wY,wZ,wa,wb,wc,wq,wr,wt,wu,↓wd,↓we,zK,zL,zM,zN,zO,zP,zQ,qj,qk,wf,wv,ql,qm,qA,qO,qp,qq,qr,qu,dO,dJ,dH,ww,wx,wy,wz,zA,zB,zC,zR,zS,zT,zU,zV,zW,wg,wj,wk,if_true,zD,zE,zX,if_false,qB,qv,qP,qC,qw,zF,zG,zH,zI,zJ,jX,fG,fZ,gj,gP,dh,iM,fH,dG,aU,ji,jd,fC,dM,eU,iK,fO,jJ,jA,iU,dN,dI,cR,fL,fD,iQ,iT,iV,iR,iZ,iY,iy,iw,je,$xs,*])
theorem pq {n:Nat} (x a b:Int):aj tab au (n+1) gw [.int x,.int a,.int b]=.ok (.bl (decide (a<=x) && decide (x<=b))):=by
 rw [cQ CQ rfl];delta oZ;simpa only [];by_cases h:a<=x <;> by_cases h2:x<=b <;> simpa only [h,h2,decide_true,decide_false,Bool.and_true,Bool.and_false,Bool.and_self,qi]
theorem jf {n:Nat} (ds:List D) (a b:Int):aj tab au (n+1) cG [.tup ds,.int a,.int b]=.ok (.bl (decide (a<=ds.length) && decide ((ds.length:Int)<=b))):=by
 rw [cQ OJ rfl];delta pA;simpa only [Ai];by_cases h:a<=ds.length <;> by_cases h2:(ds.length:Int)<=b <;> simpa only [h,h2,decide_true,decide_false,Bool.and_true,Bool.and_false,Bool.and_self,qi]
theorem uF {n:Nat} (r:List Nat) (a b:Int):aj tab au (n+1) cG [aC r,.int a,.int b]=.ok (.bl (decide (a<=r.length) && decide ((r.length:Int)<=b))):=by
 have:=jf (n:=n) (r.map eN) a b;rw [List.length_map] at this;exact this
theorem JW {n:Nat} (r:Meet) (a b:Int):aj tab au (n+1) cG [eM r,.int a,.int b]=.ok (.bl (decide (a<=r.length) && decide ((r.length:Int)<=b))):=by
 have:=jf (n:=n) (r.map eP) a b;rw [List.length_map] at this;exact this
theorem GZ {n:Nat} (r:List Meet) (a b:Int):aj tab au (n+1) cG [eBs r,.int a,.int b]=.ok (.bl (decide (a<=r.length) && decide ((r.length:Int)<=b))):=by
 have:=jf (n:=n) (r.map eM) a b;rw [List.length_map] at this;exact this
theorem Hv {n:Nat} (p:Nat × Nat):aj tab au (n+1) cG [eP p,.int 2,.int 2]=.ok (.bl true):=jf (n:=n) [eN p.1,eN p.2] 2 2
theorem IV {n:Nat} (lv:List Nat) (bs:List Meet):aj tab au (n+1) cG [eB lv bs,.int 2,.int 2]=.ok (.bl true):=jf (n:=n) [aC lv,eBs bs] 2 2
theorem Ri {x:Nat} (h:x<=1000000):jj (x:Int)=true:=Nat.ble_eq_true_of_le (by omega)
theorem J2 {n:Nat} (lv:List Nat) (h1:1<=lv.length) (h6:lv.length<=6) (hl:∀ l∈lv,1<=l/\l<=4):aj tab au (n+2) pU [aC lv]=.ok (.bl (decide (prod lv<=400))):=by
 rw [cQ JV rfl];delta lM;simpa only [uF,decide_eq_true (show (1:Int)<=lv.length by omega),decide_eq_true (show (lv.length:Int)<=6 by omega),Bool.and_self];rw [bind_eq (a:=.nx [some (aC lv),some (.int (prod lv:Nat)),none])]
 .simpa only [];congr 2;by_cases h:prod lv<=400
  .rw [decide_eq_true h,decide_eq_true (by omega)]
  .rw [decide_eq_false h,decide_eq_false (by omega)]
 .refine K3 eN (fun a:Nat=>[some (aC lv),some (.int (a:Int)),none]) (fun a l=>a * l) (fun _=>True) lv (fun a l hlm _=>⟨trivial,?_⟩) 1 trivial;have:=hl l hlm;have hmul:fQ .mul (.int (a:Int)) (.int (l:Int))=.ok (.int ((a:Int) * (l:Int))):=Cg (.inr (Ri (by omega)));simpa only [pq,decide_eq_true (show (1:Int)<=l by omega),decide_eq_true (show (l:Int)<=4 by omega),Bool.and_self,hmul];exact ⟨_,rfl,by simp [bK]⟩
theorem Ik {n:Nat}{lv:List Nat}{p:Nat × Nat}{l:Nat} (h1:lv[p.1]?=some l) (h2:p.2 < l):aj tab au (n+2) rC [aC lv,eP p]=.ok (.bl true):=by
 have hlt:p.1 < lv.length:=(List.getElem?_eq_some_iff.mp h1).1;rw [cQ JF rfl];delta lY;simpa only [Hv,pq,J1 h1,decide_eq_true (show (0:Int)<=p.1 by omega),decide_eq_true (show (p.1:Int)<=lv.length - 1 by omega),decide_eq_true (show (0:Int)<=p.2 by omega),decide_eq_true (show (p.2:Int)<=l - 1 by omega),Bool.and_self]
theorem Kf {n:Nat}{lv:List Nat}{m:Meet} (h:JD lv m) (h1:1<=m.length) (h3:m.length<=3):aj tab au (n+3) pR [aC lv,eM m]=.ok (.bl true):=by
 rw [cQ HJ rfl];delta lX;simpa only [JW,decide_eq_true (show (1:Int)<=m.length by omega),decide_eq_true (show (m.length:Int)<=3 by omega),Bool.and_self];rw [bind_eq (a:=.nx [some (aC lv),some (eM m),some (.int (m.foldl (fun _ p=>p.1+1) 0:Nat)),none])]
 .simpa only []
 .refine lN eP (fun a:Nat=>[some (aC lv),some (eM m),some (.int (a:Int)),none]) (fun _ p=>p.1+1) (fun b rest=>Pn rest/\∀ q∈rest,b<=q.1/\∃ l,lv[q.1]?=some l/\q.2 < l) (fun b p rest hp=>?_) m 0 ⟨h.1,fun q hq=>⟨Nat.zero_le _,h.2 q hq⟩⟩;obtain ⟨hr,hq⟩:=hp;unfold Pn at hr;rw [List.pairwise_cons] at hr;obtain ⟨hb,l,hl,hlt⟩:=hq p List.mem_cons_self;refine ⟨⟨hr.2,fun q hq'=>⟨by have:=hr.1 q hq';omega,(hq q (List.mem_cons_of_mem _ hq')).2⟩⟩,?_⟩;simpa only [Ik hl hlt,decide_eq_false (show ¬ ((p.1:Int) < b) by omega)];exact ⟨_,rfl,by simp [bK]⟩
theorem WB.lvAll {lv:List Nat}{bs:List Meet} (h:WB lv bs):∀ l∈lv,1<=l/\l<=4:=fun l hl=>by
 obtain ⟨i,hi⟩:=List.mem_iff_getElem?.mp hl;have:=h.lv1 i l hi;omega
theorem Ys {n:Nat}{r:List Nat}{m:Meet} (h:∀ p∈m,p.1 < r.length) (hl:m.length<=lim):aj tab au (n+1) Eh [aC r,eM m]=.ok (.bl (kE r m)):=by
 rw [cQ Xa rfl];delta zj;simpa only [];rw [bind_eq (a:=m.map fun p=>D.bl (decide (r[p.1]?=some p.2)))]
 .simpa only [List.length_map,if_pos hl];rw [bind_eq (Hr (fun p:Nat × Nat=>decide (r[p.1]?=some p.2)) m)];rfl
 .refine gq m fun p hp=>?_
  obtain ⟨x,hx⟩:∃ x,r[p.1]?=some x:=⟨_,List.getElem?_eq_getElem (h p hp)⟩;simpa only [J1 hx,Bb,hx,Option.some.injEq]
theorem Ab {n:Nat}{r:List Nat}{bs:List Meet} (h:∀ b∈bs,(∀ p∈b,p.1 < r.length)/\b.length<=lim) (hl:bs.length<=lim):aj tab au (n+2) tu [aC r,eBs bs]=.ok (.bl (bs.any fun b=>kE r b)):=by
 rw [cQ K4 rfl];delta mR;simpa only [];rw [bind_eq (a:=bs.map fun b=>D.bl (kE r b))]
 .simpa only [List.length_map,if_pos hl];rw [bind_eq (ach (fun b=>kE r b) bs)];rfl
 .refine gq bs fun b hb=>?_
  simpa only [Ys (h b hb).1 (h b hb).2]
theorem Lk (rs:List (List Nat)) (l:Nat):rs.flatMap (fun r=>(List.range l).map fun s=>r++[s])=cu rs l:=rfl
theorem zm {rs:List (List Nat)}{l:Nat} (h:1<=l):rs.length<=(cu rs l).length:=by
 rw [xJ];exact Nat.le_mul_of_pos_right _ h
def yM (lv0:List Nat) (rs:List (List Nat)) (rest:List Nat):Prop:=rest.foldl cu rs=rows lv0/\(∀ r∈rs,r.length+rest.length=lv0.length)/\∀ l∈rest,1<=l
theorem uo:∀ (rest:List Nat) (rs:List (List Nat)),(∀ l∈rest,1<=l)->rs.length<=(rest.foldl cu rs).length
 | [],rs,_=>Nat.le_refl _
 | l::rest,rs,h=>Nat.le_trans (zm (h l List.mem_cons_self)) (uo rest _ fun x hx=>h x (List.mem_cons_of_mem _ hx))
theorem yM.step {lv0 rest:List Nat}{l:Nat}{rs:List (List Nat)} (h:yM lv0 rs (l::rest)):yM lv0 (cu rs l) rest/\(cu rs l).length<=prod lv0:=by
 obtain ⟨h1,h2,h3⟩:=h;have h4:∀ x∈rest,1<=x:=fun x hx=>h3 x (List.mem_cons_of_mem _ hx)
 refine ⟨⟨h1,fun r hr=>?_,h4⟩,?_⟩
 .unfold cu at hr;obtain ⟨a,ha,hr⟩:=List.mem_flatMap.mp hr;obtain ⟨s,_,rfl⟩:=List.mem_map.mp hr;have:=h2 a ha;simp only [List.length_cons,List.length_append,List.length_nil] at this ⊢;omega
 .have:=uo rest (cu rs l) h4;rw [<- Ar,<- h1];exact this
def bf (ns:List Int) (k:Nat):Int:=ns.getD k 0
theorem lJ {n:Nat} (ns:List Int) (k:Nat):aj tab au (n+1) bG [.lst (ns.map D.int),.int k]=.ok (.int (bf ns k)):=by
 rw [cQ KC rfl];delta mX;simpa only [];unfold bf;by_cases h:k < ns.length
 .have e:ns[k]?=some ns[k]:=List.getElem?_eq_getElem h;simpa only [decide_eq_true (show (k:Int) < ns.length by omega),JT (enc:=D.int) e,List.getD,e,Option.getD]
 .simpa only [decide_eq_false (show ¬ ((k:Int) < ns.length) by omega),List.getD,List.getElem?_eq_none (Nat.le_of_not_lt h),Option.getD]
noncomputable def cj (c p m:Int):Nat:=(c * 48271 % p % m).toNat
theorem Ft {c p m:Int} (hm:0 < m):((cj c p m:Nat):Int)=c * 48271 % p % m:=Int.toNat_of_nonneg (Int.emod_nonneg _ (by omega))
theorem kY {c p m:Int} (hm:0 < m):((cj c p m:Nat):Int) < m:=by rw [Ft hm];exact Int.emod_lt_of_pos _ hm
theorem mU {n:Nat}{c p m:Int} (hp:0 < p) (hm:0 < m):aj tab au (n+1) dW [.int c,.int p,.int m]=.ok (.int (cj c p m:Nat)):=by
 rw [cQ Oh rfl];have e:fQ .mul (.int c) (.int 48271)=.ok (.int (c * 48271)):=Cg (.inr rfl);delta oY;simpa only [e,sJ hp,sJ hm,Ft hm]
noncomputable def bA (ns:List Int) (a:Nat):Nat:=1+cj (bf ns a) 9973 4
def j4 (k:Nat):Nat:=if k < 2 then 3 else 2
noncomputable def cO (ns:List Int) (a k:Nat):Nat:=1+cj (bf ns (a+1)+31 * (k:Int) * (k:Int)+(k:Int)) 9967 (j4 k:Nat)
noncomputable def iB (ns:List Int) (a:Nat):List Nat:=(List.range (bA ns a)).map (cO ns a)
noncomputable def eE (ns:List Int) (a k:Nat):Int:=bf ns (a+2)+53 * (k:Int) * (k:Int)+7 * (k:Int)
noncomputable def drawn (ns:List Int) (a k:Nat):List Nat:=((List.range (bA ns a)).filter fun (x:Nat)=>decide (cj (eE ns a k+17 * (x:Int)) 9941 2=1)).take 3
noncomputable def dR (ns:List Int) (a k:Nat):List Nat:=if (drawn ns a k).isEmpty then [cj (eE ns a k) 9931 (bA ns a:Nat)] else drawn ns a k
noncomputable def fP (ns:List Int) (a k:Nat):Meet:=(dR ns a k).map fun (x:Nat)=>(x,cj (eE ns a k+5 * (x:Int)) 9929 ((iB ns a).getD x 1:Nat))
noncomputable def nH (ns:List Int) (a:Nat):List Meet:=(List.range (cj (bf ns a) 9949 4)).map (fP ns a)
theorem Bc (ns:List Int) (a:Nat):1<=bA ns a/\bA ns a<=4:=by
 have:=kY (c:=bf ns a) (p:=9973) (m:=4) (by decide);unfold bA;omega
theorem Uz (k:Nat):0 < ((j4 k:Nat):Int):=by unfold j4;split <;> decide
theorem rN (ns:List Int) (a k:Nat):1<=cO ns a k/\cO ns a k<=j4 k:=by
 have:=kY (c:=bf ns (a+1)+31 * (k:Int) * (k:Int)+(k:Int)) (p:=9967) (Uz k);unfold cO;omega
theorem Rf (ns:List Int) (a:Nat):(iB ns a).length=bA ns a:=by simp [iB]
theorem RN {ns:List Int}{a i l:Nat} (h:(iB ns a)[i]?=some l):l=cO ns a i/\i < bA ns a:=by
 unfold iB at h;rw [List.getElem?_map] at h;cases e:(List.range (bA ns a))[i]? with
 | none=>rw [e] at h;cases h
 | some j =>
  rw [e] at h;obtain ⟨h1,h2⟩:=List.getElem?_eq_some_iff.mp e;simp at h1 h2;subst h2;cases h;exact ⟨rfl,h1⟩
theorem yW {ns:List Int}{a i:Nat} (h:i < bA ns a):(iB ns a)[i]?=some (cO ns a i):=by
 unfold iB;rw [List.getElem?_map,List.getElem?_range h];rfl
theorem S5 {ns:List Int}{a k:Nat}:∀ x∈drawn ns a k,x < bA ns a:=fun x hx=>by
 unfold drawn at hx;have:=List.mem_of_mem_take hx;exact List.mem_range.mp (List.mem_filter.mp this).1
theorem nW (ns:List Int) (a k:Nat):(dR ns a k).Pairwise (· < ·)/\(∀ x∈dR ns a k,x < bA ns a)/\1<=(dR ns a k).length/\(dR ns a k).length<=3:=by
 have hm:=Bc ns a;unfold dR;split
 .have:=kY (c:=eE ns a k) (p:=9931) (m:=(bA ns a:Nat)) (by omega);refine ⟨by simp,fun x hx=>?_,by simp,by simp⟩;rw [List.mem_singleton.mp hx];omega
 .rename_i h;refine ⟨?_,S5,?_,?_⟩
  .unfold drawn;exact ((List.pairwise_lt_range.filter _).sublist (List.take_sublist _ _))
  .cases e:drawn ns a k with
   | nil=>rw [e] at h;simp at h
   | cons _ _=>simp
  .unfold drawn;rw [List.length_take];omega
theorem Zq (ns:List Int) (a:Nat):WB (iB ns a) (nH ns a):=by
 have hm:=Bc ns a;refine ⟨by rw [Rf];omega,by rw [Rf];omega,fun i l h=>?_,fun i l h h2=>?_,?_,fun b hb=>?_⟩
 .obtain ⟨rfl,_⟩:=RN h;have:=rN ns a i;have h3:j4 i<=3:=by unfold j4;split <;> decide
  omega
 .obtain ⟨rfl,_⟩:=RN h;have:=rN ns a i;have h3:j4 i=2:=by unfold j4;rw [if_neg (by omega)]
  omega
 .have:=kY (c:=bf ns a) (p:=9949) (m:=4) (by decide);unfold nH;rw [List.length_map,List.length_range];omega
 .unfold nH at hb;obtain ⟨k,_,rfl⟩:=List.mem_map.mp hb;obtain ⟨t1,t2,t3,t4⟩:=nW ns a k;refine ⟨⟨?_,fun p hp=>?_⟩,?_,?_⟩
  .unfold fP Pn;exact List.pairwise_map.mpr t1
  .unfold fP at hp;obtain ⟨x,hx,rfl⟩:=List.mem_map.mp hp;have hx':=t2 x hx;refine ⟨cO ns a x,yW hx',?_⟩;have e:(iB ns a).getD x 1=cO ns a x:=by simp [List.getD,yW hx']
   simp only [e];have hl:=rN ns a x;have:=kY (c:=eE ns a k+5 * (x:Int)) (p:=9929) (m:=(cO ns a x:Nat)) (by omega);omega
  .unfold fP;rw [List.length_map];exact t3
  .unfold fP;rw [List.length_map];exact t4
theorem one_add (x:Nat):(1:Int)+(x:Int)=((1+x:Nat):Int):=by omega
theorem ac4 (ds:List D):cutD ds none (some 3)=ds.take 3:=by
 unfold cutD;rw [HT.UW];have e:HT.sIx ds.length ds.length (some 3)=min 3 ds.length:=HT.YG ds.length ds.length 3;rw [e,Nat.sub_zero,List.drop_zero];by_cases h:3<=ds.length
 .rw [Nat.min_eq_left h]
 .rw [Nat.min_eq_right (by omega),List.take_of_length_le (by omega),List.take_of_length_le (by omega)]
theorem Jf (x:Nat) (h:x<=1000):jj (x:Int)=true:=Nat.ble_eq_true_of_le (by omega)
theorem vf {c:Nat} (h:c<=1000) (x:Int):fQ .mul (.int (c:Int)) (.int x)=.ok (.int ((c:Int) * x)):=Cg (.inl (Jf c h))
theorem mul_k {k:Nat} (h:k<=1000) (x:Int):fQ .mul (.int x) (.int (k:Int))=.ok (.int (x * (k:Int))):=Cg (.inr (Jf k h))
theorem aau {n:Nat}{ns:List Int} (hns:ns.length<=63) (a:Nat):aj tab au (n+2) nq [.lst (ns.map D.int),.int a]=.ok (eB (iB ns a) (nH ns a)):=by
 have hm:=Bc ns a;have hlim:lim=100000:=rfl;have hbn:=kY (c:=bf ns a) (p:=9949) (m:=4) (by decide);rw [cQ K9 rfl];have ea:∀ j:Nat,(a:Int)+(j:Int)=((a+j:Nat):Int):=fun j=>by omega
 have ea1:(a:Int)+1=((a+1:Nat):Int):=by omega
 have ea2:(a:Int)+2=((a+2:Nat):Int):=by omega
 have em:(1:Int)+(cj (bf ns a) 9973 4:Nat)=((bA ns a:Nat):Int):=by unfold bA;omega
 delta mW;simpa only [lJ,mU (show (0:Int) < 9973 by decide) (show (0:Int) < 4 by decide),em,if_pos (show 0<=lim from Nat.zero_le _),lu (bA ns a) (show bA ns a<=lim by omega)];rw [bind_eq (a:=.nx [some (.lst (ns.map D.int)),some (.int (a:Int)),some (.int (bf ns a)),some (.int (bA ns a:Nat)),some (.lst ((iB ns a).map eN)),none,none,none,none,none,none])]
 .simpa only [mU (show (0:Int) < 9949 by decide) (show (0:Int) < 4 by decide),if_pos (show 0<=lim from Nat.zero_le _),lu (cj (bf ns a) 9949 4) (show cj (bf ns a) 9949 4<=lim by omega)];rw [bind_eq (a:=.nx [some (.lst (ns.map D.int)),some (.int (a:Int)),some (.int (bf ns a)),some (.int (bA ns a:Nat)),some (.lst ((iB ns a).map eN)),none,some (.lst ((nH ns a).map eM)),none,none,none,none])]
  .simpa only [if_pos (show 0+1+1<=lim by decide)];rfl
  .refine (lH eN (fun acc:List Meet=>[some (.lst (ns.map D.int)),some (.int (a:Int)),some (.int (bf ns a)),some (.int (bA ns a:Nat)),some (.lst ((iB ns a).map eN)),none,some (.lst (acc.map eM)),none,none,none,none]) (fun k=>[fP ns a k]) lim (List.range (cj (bf ns a) 9949 4)) (fun acc k hk hB=>?_) [] ?_).trans ?_
   .have hk':=List.mem_range.mp hk;have m53:=vf (show 53<=1000 by decide) (k:Int);have m53k:=mul_k (show k<=1000 by omega) (((53:Nat):Int) * (k:Int));have m7:=vf (show 7<=1000 by decide) (k:Int);have es:bf ns (a+2)+((53:Nat):Int) * (k:Int) * (k:Int)+((7:Nat):Int) * (k:Int)=eE ns a k:=rfl;simp only [show ((53:Nat):Int)=53 from rfl,show ((7:Nat):Int)=7 from rfl] at m53 m53k m7 es;simpa only [ea2,lJ,m53,m53k,m7,es,if_pos (show 0<=lim from Nat.zero_le _),lu (bA ns a) (show bA ns a<=lim by omega)];rw [bind_eq (a:=((List.range (bA ns a)).filter fun (x:Nat)=>decide (cj (eE ns a k+17 * (x:Int)) 9941 2=1)).map eN)]
    .have hfl:=List.length_filter_le (fun x:Nat=>decide (cj (eE ns a k+17 * (x:Int)) 9941 2=1)) (List.range (bA ns a));rw [List.length_range] at hfl;have hfl2:((List.range (bA ns a)).filter fun (x:Nat)=>decide (cj (eE ns a k+17 * (x:Int)) 9941 2=1)).length<=lim:=by omega
     have ed:(((List.range (bA ns a)).filter fun (x:Nat)=>decide (cj (eE ns a k+17 * (x:Int)) 9941 2=1)).map eN).take 3=(drawn ns a k).map eN:=by unfold drawn;rw [List.map_take]
     simpa only [List.length_map,if_pos hfl2,slD,ac4,ed,Dh.cmpEq0];have hal:acc.length < lim:=by simp only [List.length_singleton] at hB;omega
     by_cases hd:(drawn ns a k).isEmpty=true
     .have et:dR ns a k=[cj (eE ns a k) 9931 (bA ns a:Nat)]:=if_pos hd;simpa only [hd,mU (show (0:Int) < 9931 by decide) (show (0:Int) < (bA ns a:Nat) by omega),if_pos (show 0+1<=lim by decide)];rw [show ([D.int ((cj (eE ns a k) 9931 (bA ns a:Nat):Nat):Int)]:List D)=(dR ns a k).map eN by rw [et];rfl];rw [bind_eq (a:=(fP ns a k).map eP)]
      .have hbl:(fP ns a k).length<=lim:=by
        have:=(nW ns a k).2.2.2;unfold fP;rw [List.length_map];omega
       simpa only [List.length_map,if_pos hbl];rw [bind_eq (show Ak (.lst (acc.map eM)) (.tup ((fP ns a k).map eP))=_ from yS (enc:=eM) (a:=fP ns a k) hal)];exact ⟨_,rfl,by simp [bK]⟩
      .rw [show fP ns a k=(dR ns a k).map fun (x:Nat)=>(x,cj (eE ns a k+5 * (x:Int)) 9929 ((iB ns a).getD x 1:Nat)) from rfl,List.map_map];refine gq (dR ns a k) fun x hx=>?_
       have hx':=(nW ns a k).2.1 x hx;have m5:=vf (show 5<=1000 by decide) (x:Int);simp only [show ((5:Nat):Int)=5 from rfl] at m5;have eg:(iB ns a).getD x 1=cO ns a x:=by simp [List.getD,yW hx']
       have hlp:=rN ns a x;simpa only [m5,JT (enc:=eN) (yW hx'),mU (show (0:Int) < 9929 by decide) (show (0:Int) < (cO ns a x:Nat) by omega),if_pos (show 0+1+1<=lim by decide)];simp only [Function.comp,eg,eP]
     .have et:dR ns a k=drawn ns a k:=if_neg hd;simpa only [eq_false_of_ne_true hd];rw [<- et];rw [bind_eq (a:=(fP ns a k).map eP)]
      .have hbl:(fP ns a k).length<=lim:=by
        have:=(nW ns a k).2.2.2;unfold fP;rw [List.length_map];omega
       simpa only [List.length_map,if_pos hbl];rw [bind_eq (show Ak (.lst (acc.map eM)) (.tup ((fP ns a k).map eP))=_ from yS (enc:=eM) (a:=fP ns a k) hal)];exact ⟨_,rfl,by simp [bK]⟩
      .rw [show fP ns a k=(dR ns a k).map fun (x:Nat)=>(x,cj (eE ns a k+5 * (x:Int)) 9929 ((iB ns a).getD x 1:Nat)) from rfl,List.map_map];refine gq (dR ns a k) fun x hx=>?_
       have hx':=(nW ns a k).2.1 x hx;have m5:=vf (show 5<=1000 by decide) (x:Int);simp only [show ((5:Nat):Int)=5 from rfl] at m5;have eg:(iB ns a).getD x 1=cO ns a x:=by simp [List.getD,yW hx']
       have hlp:=rN ns a x;simpa only [m5,JT (enc:=eN) (yW hx'),mU (show (0:Int) < 9929 by decide) (show (0:Int) < (cO ns a x:Nat) by omega),if_pos (show 0+1+1<=lim by decide)];simp only [Function.comp,eg,eP]
    .refine eV (List.range (bA ns a)) fun x hx=>?_
     have m17:=vf (show 17<=1000 by decide) (x:Int);simp only [show ((17:Nat):Int)=17 from rfl] at m17;simpa only [m17,mU (show (0:Int) < 9941 by decide) (show (0:Int) < 2 by decide)];have e1:decide (((cj (eE ns a k+17 * (x:Int)) 9941 2:Nat):Int)=1)=decide (cj (eE ns a k+17 * (x:Int)) 9941 2=1):=Bb _ 1;rw [e1];by_cases hh:cj (eE ns a k+17 * (x:Int)) 9941 2=1 <;> simp [hh,qQ,qR,qx,qS,qD,qE,qF,qG,qH,qy,qz,wA,wB,qT,wC,qI,qU,qV,qW,wD,wE,wF,qX,wG,wH,wI,qY,qZ,wJ,wK,wL,wM,wN,wO,wP,qJ,wQ,wl,wR,wS,wT,wm,wU,qa,qb,wV,qd,qe,qf,qK,qg,qL,wW,qh,wn,wo,qi,qM,qN,wX,wY,wZ,wa,wb,wc,wq,wr,wt,wu,↓wd,↓we,zK,zL,zM,zN,zO,zP,zQ,qj,qk,wf,wv,ql,qm,qA,qO,qp,qq,qr,qu,dO,dJ,dH,ww,wx,wy,wz,zA,zB,zC,zR,zS,zT,zU,zV,zW,wg,wj,wk,if_true,zD,zE,zX,if_false,qB,qv,qP,qC,qw,zF,zG,zH,zI,zJ,jX,fG,fZ,gj,gP,dh,iM,fH,dG,aU,ji,jd,fC,dM,eU,iK,fO,jJ,jA,iU,dN,dI,cR,fL,fD,iQ,iT,iV,iR,iZ,iY,iy,iw,je]
   .rw [gC,List.length_nil,List.length_map,List.length_range];omega
   .rw [gC];rfl
 .refine (lH eN (fun acc:List Nat=>[some (.lst (ns.map D.int)),some (.int (a:Int)),some (.int (bf ns a)),some (.int (bA ns a:Nat)),some (.lst (acc.map eN)),none,none,none,none,none,none]) (fun k=>[cO ns a k]) lim (List.range (bA ns a)) (fun acc k hk hB=>?_) [] ?_).trans ?_
  .have hk':=List.mem_range.mp hk;have m31:=vf (show 31<=1000 by decide) (k:Int);have m31k:=mul_k (show k<=1000 by omega) (((31:Nat):Int) * (k:Int));simp only [show ((31:Nat):Int)=31 from rfl] at m31 m31k;have hal:acc.length < lim:=by simp only [List.length_singleton] at hB;omega
   have h63:decide ((63:Int) < (ns.length:Int))=false:=decide_eq_false (by omega);by_cases h2:k < 2
   .have e3:j4 k=3:=if_pos h2;have el:cO ns a k=1+cj (bf ns (a+1)+31 * (k:Int) * (k:Int)+(k:Int)) 9967 3:=by unfold cO;rw [e3];rfl
    simpa only [decide_eq_true (show (k:Int) < 2 by omega),ea1,lJ,m31,m31k,mU (show (0:Int) < 9967 by decide) (show (0:Int) < 3 by decide),one_add,<- el];rw [bind_eq (yS (enc:=eN) hal)];exact ⟨_,rfl,by simp [bK]⟩
   .have e3:j4 k=2:=if_neg h2;have el:cO ns a k=1+cj (bf ns (a+1)+31 * (k:Int) * (k:Int)+(k:Int)) 9967 2:=by unfold cO;rw [e3];rfl
    simpa only [decide_eq_false (show ¬ ((k:Int) < 2) by omega),h63,ea1,lJ,m31,m31k,mU (show (0:Int) < 9967 by decide) (show (0:Int) < 2 by decide),one_add,<- el];rw [bind_eq (yS (enc:=eN) hal)];exact ⟨_,rfl,by simp [bK]⟩
  .rw [gC,List.length_nil,List.length_map,List.length_range];omega
  .rw [gC];rfl
theorem FJ {lv:List Nat}{bs:List Meet} (h:WB lv bs):(tests lv bs).length<=36:=by
 have f:=vm lv h.mem;have h1:=List.length_filter_le (rR bs) (rows lv);rw [Ar] at h1;unfold tests;omega
theorem R0 {lv:List Nat}{bs:List Meet}{t:List Nat} (ht:t∈tests lv bs):nu lv t:=Aj.mp (List.mem_filter.mp ht).1
theorem Mu {n:Nat}{lv:List Nat} (h1:∀ l∈lv,1<=l) (hp:prod lv<=lim) (hlen:lv.length<=lim) (hl:∀ l∈lv,l<=lim):aj tab au (n+1) j6 [aC lv]=.ok (.lst ((rows lv).map aC)):=by
 rw [cQ Lg rfl];delta nj;simpa only [if_pos (show 0<=lim from Nat.zero_le _),if_pos (show 0+1<=lim by decide)];rw [bind_eq (a:=.nx [some (aC lv),some (.lst ((rows lv).map aC)),none,none,none,none])]
 .simpa only []
 .refine lN eN (fun rs:List (List Nat)=>[some (aC lv),some (.lst (rs.map aC)),none,none,none,none]) cu (fun rs rest=>yM lv rs rest/\∀ l∈rest,l<=lim) (fun rs l rest hi=>?_) lv [[]] ⟨⟨rfl,by simp,h1⟩,hl⟩;obtain ⟨hi,hll⟩:=hi;obtain ⟨hs,hsz⟩:=hi.step;have hrl:∀ r∈rs,r.length < lim:=fun r hr=>by
   have:=hi.2.1 r hr;simp only [List.length_cons] at this;omega
  refine ⟨⟨hs,fun x hx=>hll x (List.mem_cons_of_mem _ hx)⟩,?_⟩;simpa only [if_pos (show 0<=lim from Nat.zero_le _)];rw [bind_eq (a:=.nx [some (aC lv),some (.lst (rs.map aC)),some (eN l),some (.lst ((cu rs l).map aC)),none,none])]
  .simpa only [];exact ⟨_,rfl,by simp [bK]⟩
  .refine lH aC (fun acc:List (List Nat)=>[some (aC lv),some (.lst (rs.map aC)),some (eN l),some (.lst (acc.map aC)),none,none]) (fun r=>(List.range l).map fun s=>r++[s]) lim rs (fun acc r hr hB=>?_) [] (by rw [Lk,List.length_nil];omega);simpa only [lu l (hll l List.mem_cons_self)];rw [bind_eq (a:=((List.range l).map fun s=>r++[s]).map aC)]
   .have hll':=hll l List.mem_cons_self;simpa only [List.length_map,List.length_range,if_pos hll'];rw [bind_eq (acM (enc:=aC) hB)];exact ⟨_,rfl,by simp [bK]⟩
   .rw [List.map_map];refine gq (List.range l) fun s hs=>?_
    simpa only [U3 (hrl r hr),if_pos (show 0+1<=lim by decide)];rfl
theorem Wa {n:Nat}{r:List Nat}{m:Meet} (h:∀ p∈m,p.1 < r.length) (hl:m.length<=lim):aj tab au (n+1) rF [aC r,eM m]=.ok (.bl (kE r m)):=by
 rw [cQ JG rfl];delta lG;simpa only [if_pos (show 0<=lim from Nat.zero_le _)];rw [bind_eq (a:=(m.filter fun p=>!decide (r[p.1]?=some p.2)).map eP)]
 .have:=List.length_filter_le (fun p:Nat × Nat=>!decide (r[p.1]?=some p.2)) m;have h2:(m.filter fun p=>!decide (r[p.1]?=some p.2)).length<=lim:=by omega
  simpa only [List.length_map,if_pos h2,Qc.cmpEq0];congr 2;unfold kE;rw [Bool.eq_iff_iff,List.isEmpty_iff,List.filter_eq_nil_iff,List.all_eq_true];simp
 .refine eV m fun p hp=>?_
  obtain ⟨x,hx⟩:∃ x,r[p.1]?=some x:=⟨_,List.getElem?_eq_getElem (h p hp)⟩;simpa only [J1 hx,Bb,hx,Option.some.injEq];by_cases hh:x=p.2 <;> simp [hh,qQ,qR,qx,qS,qD,qE,qF,qG,qH,qy,qz,wA,wB,qT,wC,qI,qU,qV,qW,wD,wE,wF,qX,wG,wH,wI,qY,qZ,wJ,wK,wL,wM,wN,wO,wP,qJ,wQ,wl,wR,wS,wT,wm,wU,qa,qb,wV,qd,qe,qf,qK,qg,qL,wW,qh,wn,wo,qi,qM,qN,wX,wY,wZ,wa,wb,wc,wq,wr,wt,wu,↓wd,↓we,zK,zL,zM,zN,zO,zP,zQ,qj,qk,wf,wv,ql,qm,qA,qO,qp,qq,qr,qu,dO,dJ,dH,ww,wx,wy,wz,zA,zB,zC,zR,zS,zT,zU,zV,zW,wg,wj,wk,if_true,zD,zE,zX,if_false,qB,qv,qP,qC,qw,zF,zG,zH,zI,zJ,jX,fG,fZ,gj,gP,dh,iM,fH,dG,aU,ji,jd,fC,dM,eU,iK,fO,jJ,jA,iU,dN,dI,cR,fL,fD,iQ,iT,iV,iR,iZ,iY,iy,iw,je]
theorem BJ {lv:List Nat}{bs:List Meet} (h:WB lv bs) {r:List Nat} (hr:nu lv r) {b:Meet} (hb:b∈bs):(∀ p∈b,p.1 < r.length)/\b.length<=lim:=by
 have hlim:lim=100000:=rfl;refine ⟨fun p hp=>?_,by have:=(h.ban b hb).2.2;omega⟩;obtain ⟨l,e,_⟩:=(h.ban b hb).1.2 p hp;rw [hr.len];exact (List.getElem?_eq_some_iff.mp e).1
theorem Aw {n:Nat}{lv:List Nat}{bs:List Meet} (h:WB lv bs):aj tab au (n+2) jC [eB lv bs]=.ok (.lst ((tests lv bs).map aC)):=by
 have f:=vm lv h.mem;have h4:=h.four;have hb:=h.nb;have hlim:lim=100000:=rfl;rw [cQ Ks rfl];delta mq;simpa only [if_pos (show 0<=lim from Nat.zero_le _),Mu (fun l hl=>(WB.lvAll h l hl).1) (show prod lv<=lim by omega) (show lv.length<=lim by omega) (fun l hl=>by have:=WB.lvAll h l hl;omega)];rw [bind_eq (a:=.nx [some (eB lv bs),some (.lst ((tests lv bs).map aC)),none,none])]
 .simpa only []
 .refine (lH aC (fun acc:List (List Nat)=>[some (eB lv bs),some (.lst (acc.map aC)),none,none]) (fun r=>if rR bs r then [r] else []) lim (rows lv) (fun acc r hr hB=>?_) [] ?_).trans ?_
  .have hok:=Aj.mp hr;simpa only [if_pos (show 0<=lim from Nat.zero_le _)];rw [bind_eq (a:=(bs.filter fun b=>kE r b).map eM)]
   .have:=List.length_filter_le (fun b=>kE r b) bs;have h2:(bs.filter fun b=>kE r b).length<=lim:=by omega
    simpa only [List.length_map,if_pos h2,acp.cmpEq0];have et:(bs.filter fun b=>kE r b).isEmpty=rR bs r:=by
     unfold rR;rw [Bool.eq_iff_iff,List.isEmpty_iff,List.filter_eq_nil_iff];simp
    rw [et];cases e:rR bs r with
    | false=>simpa only [];exact ⟨_,rfl,by simp [bK]⟩
    | true =>
     rw [e] at hB;have hal:acc.length < lim:=by simp at hB;omega
     simpa only [];rw [bind_eq (yS (enc:=aC) hal)];exact ⟨_,rfl,by simp [bK]⟩
   .refine eV bs fun b hbm=>?_
    simpa only [Wa (BJ h hok hbm).1 (BJ h hok hbm).2];cases kE r b <;> simp [qQ,qR,qx,qS,qD,qE,qF,qG,qH,qy,qz,wA,wB,qT,wC,qI,qU,qV,qW,wD,wE,wF,qX,wG,wH,wI,qY,qZ,wJ,wK,wL,wM,wN,wO,wP,qJ,wQ,wl,wR,wS,wT,wm,wU,qa,qb,wV,qd,qe,qf,qK,qg,qL,wW,qh,wn,wo,qi,qM,qN,wX,wY,wZ,wa,wb,wc,wq,wr,wt,wu,↓wd,↓we,zK,zL,zM,zN,zO,zP,zQ,qj,qk,wf,wv,ql,qm,qA,qO,qp,qq,qr,qu,dO,dJ,dH,ww,wx,wy,wz,zA,zB,zC,zR,zS,zT,zU,zV,zW,wg,wj,wk,if_true,zD,zE,zX,if_false,qB,qv,qP,qC,qw,zF,zG,zH,zI,zJ,jX,fG,fZ,gj,gP,dh,iM,fH,dG,aU,ji,jd,fC,dM,eU,iK,fO,jJ,jA,iU,dN,dI,cR,fL,fD,iQ,iT,iV,iR,iZ,iY,iy,iw,je]
  .rw [vp,List.length_nil];have:=FJ h;unfold tests at this;omega
  .rw [vp];rfl
theorem M7:∀ {lv r:List Nat},nu lv r->∀ p∈r.zip lv,p.1 < p.2
 | [],[],_,p,h=>by simp at h
 | l::lv,x::r,h,p,hp=>by
  rw [List.zip_cons_cons,List.mem_cons] at hp;rcases hp with rfl | hp
  .exact h.1
  .exact M7 h.2 p hp
theorem Km {n:Nat}{lv r:List Nat} (hr:nu lv r) (hl:lv.length<=6):aj tab au (n+2) jG [aC lv,aC r]=.ok (.bl true):=by
 have hlim:lim=100000:=rfl;have hlen:=hr.len;have hz:(r.zip lv).length<=lim:=by rw [List.length_zip];omega
 rw [cQ vo rfl];delta mO;simpa only [uF,decide_eq_true (show (lv.length:Int)<=r.length by omega),decide_eq_true (show (r.length:Int)<=lv.length by omega),Bool.and_self,Rz];rw [bind_eq (a:=(r.zip lv).map fun _=>D.bl true)]
 .simpa only [List.length_map,if_pos hz];rw [bind_eq (Hr (fun _=>true) (r.zip lv))];simp [qQ,qR,qx,qS,qD,qE,qF,qG,qH,qy,qz,wA,wB,qT,wC,qI,qU,qV,qW,wD,wE,wF,qX,wG,wH,wI,qY,qZ,wJ,wK,wL,wM,wN,wO,wP,qJ,wQ,wl,wR,wS,wT,wm,wU,qa,qb,wV,qd,qe,qf,qK,qg,qL,wW,qh,wn,wo,qi,qM,qN,wX,wY,wZ,wa,wb,wc,wq,wr,wt,wu,↓wd,↓we,zK,zL,zM,zN,zO,zP,zQ,qj,qk,wf,wv,ql,qm,qA,qO,qp,qq,qr,qu,dO,dJ,dH,ww,wx,wy,wz,zA,zB,zC,zR,zS,zT,zU,zV,zW,wg,wj,wk,if_true,zD,zE,zX,if_false,qB,qv,qP,qC,qw,zF,zG,zH,zI,zJ,jX,fG,fZ,gj,gP,dh,iM,fH,dG,aU,ji,jd,fC,dM,eU,iK,fO,jJ,jA,iU,dN,dI,cR,fL,fD,iQ,iT,iV,iR,iZ,iY,iy,iw,je]
 .refine gq (r.zip lv) fun p hp=>?_
  have:=M7 hr p hp;simpa only [eP,pq,decide_eq_true (show (0:Int)<=p.1 by omega),decide_eq_true (show (p.1:Int)<=p.2 - 1 by omega),Bool.and_self]
theorem Rr {n:Nat}{lv:List Nat}{bs:List Meet} (h:WB lv bs) {t:List Nat} (ht:t∈tests lv bs):aj tab au (n+3) dZ [eB lv bs,aC t]=.ok (.bl true):=by
 have hlim:lim=100000:=rfl;have h4:=h.four;have hb:=h.nb;have hr:=R0 ht;have hany:(bs.any fun b=>kE t b)=false:=by
  have:=(List.mem_filter.mp ht).2;unfold rR at this;simpa using this
 rw [cQ yd rfl];delta lq;simpa only [Km hr (show lv.length<=6 by omega),Ab (fun b hb=>BJ h hr hb) (show bs.length<=lim by omega),hany]
theorem Xu {n:Nat}{ns:List Int}{lv:List Nat}{bs:List Meet} (h:WB lv bs) (a:Nat) {w:Nat} (hw:w<=100):∃ ts:List (List Nat),(∀ t∈ts,t∈tests lv bs)/\ts.length<=w/\aj tab au (n+3) lZ [.lst (ns.map D.int),.int a,eB lv bs,.int w]=.ok (.lst (ts.map aC)):=by
 have hlim:lim=100000:=rfl;have htl:=FJ h;rw [cQ Ig rfl];cases hT:(tests lv bs).isEmpty with
 | true =>
  refine ⟨[],by simp,Nat.zero_le _,?_⟩;delta jN;simpa only [Aw h,if_pos (show 0<=lim from Nat.zero_le _),Ei.cmpNe0,hT]
 | false =>
  have hpos:0 < (tests lv bs).length:=by
   cases e:tests lv bs with
   | nil=>rw [e] at hT;cases hT
   | cons x l=>simp
  have hNl:=kY (c:=bf ns a) (p:=9923) (m:=(w:Int)+1) (by omega);have hix:∀ k:Nat,cj (bf ns a+29 * (k:Int) * (k:Int)+(k:Int)) 9907 ((tests lv bs).length:Nat) < (tests lv bs).length:=fun k=>by
   have:=kY (c:=bf ns a+29 * (k:Int) * (k:Int)+(k:Int)) (p:=9907) (m:=((tests lv bs).length:Nat)) (by omega);omega
  have hget:∀ k:Nat,(tests lv bs)[cj (bf ns a+29 * (k:Int) * (k:Int)+(k:Int)) 9907 ((tests lv bs).length:Nat)]?=some ((tests lv bs)[cj (bf ns a+29 * (k:Int) * (k:Int)+(k:Int)) 9907 ((tests lv bs).length:Nat)]'(hix k)):=fun k=>List.getElem?_eq_getElem (hix k)
  refine ⟨(List.range (cj (bf ns a) 9923 ((w:Int)+1))).map fun k:Nat=>(tests lv bs)[cj (bf ns a+29 * (k:Int) * (k:Int)+(k:Int)) 9907 ((tests lv bs).length:Nat)]'(hix k),fun t htm=>?_,?_,?_⟩
  .obtain ⟨k,_,rfl⟩:=List.mem_map.mp htm;exact List.getElem_mem _
  .rw [List.length_map,List.length_range];omega
  .delta jN;simpa only [Aw h,if_pos (show 0<=lim from Nat.zero_le _),Ei.cmpNe0,hT,lJ,mU (show (0:Int) < 9923 by decide) (show (0:Int) < (w:Int)+1 by omega),lu (cj (bf ns a) 9923 ((w:Int)+1)) (show _<=lim by omega)];rw [bind_eq (a:=.nx [some (.lst (ns.map D.int)),some (.int (a:Int)),some (eB lv bs),some (.int (w:Int)),some (.lst ((tests lv bs).map aC)),some (.lst (((List.range (cj (bf ns a) 9923 ((w:Int)+1))).map fun k:Nat=>(tests lv bs)[cj (bf ns a+29 * (k:Int) * (k:Int)+(k:Int)) 9907 ((tests lv bs).length:Nat)]'(hix k)).map aC)),none])]
   .simpa only []
   .refine (lH eN (fun acc:List (List Nat)=>[some (.lst (ns.map D.int)),some (.int (a:Int)),some (eB lv bs),some (.int (w:Int)),some (.lst ((tests lv bs).map aC)),some (.lst (acc.map aC)),none]) (fun k:Nat=>[(tests lv bs)[cj (bf ns a+29 * (k:Int) * (k:Int)+(k:Int)) 9907 ((tests lv bs).length:Nat)]'(hix k)]) lim (List.range (cj (bf ns a) 9923 ((w:Int)+1))) (fun acc k hk hB=>?_) [] ?_).trans ?_
    .have hk':=List.mem_range.mp hk;have m29:=vf (show 29<=1000 by decide) (k:Int);have m29k:=mul_k (show k<=1000 by omega) (((29:Nat):Int) * (k:Int));simp only [show ((29:Nat):Int)=29 from rfl] at m29 m29k;have hal:acc.length < lim:=by simp only [List.length_singleton] at hB;omega
     simpa only [lJ,m29,m29k,mU (show (0:Int) < 9907 by decide) (show (0:Int) < ((tests lv bs).length:Nat) by omega),JT (enc:=aC) (hget k)];rw [bind_eq (yS (enc:=aC) hal)];exact ⟨_,rfl,by simp [bK]⟩
    .rw [gC,List.length_map,List.length_range,List.length_nil];omega
    .rw [gC];rfl
noncomputable def j8:D->Int->Int->Bool
 | .int x,a,b=>decide (a<=x) && decide (x<=b)
 | _,_,_=>false
theorem Jw {n:Nat} (d:D) (a b:Int):aj tab au (n+1) gw [d,.int a,.int b]=.ok (.bl (j8 d a b)):=by
 cases d <;> first | exact pq _ a b | (rw [cQ CQ rfl];rfl)
structure BG (lv:List Nat) (bs:List Meet):Prop where
 one:1<=lv.length
 six:lv.length<=6
 lvl:∀ l∈lv,1<=l/\l<=4
 prd:prod lv<=400
 nb:bs.length<=12
 ban:∀ b∈bs,JD lv b/\1<=b.length/\b.length<=3
theorem O9 {n:Nat}{lv:List Nat}{bs:List Meet} (h:BG lv bs):aj tab au (n+4) sW [eB lv bs]=.ok (.bl true):=by
 have h1:=h.one;have h6:=h.six;have hb:=h.nb;rw [cQ Rh rfl];delta sI;simpa only [IV,GZ,J2 lv h.one h.six h.lvl,decide_eq_true h.prd,decide_eq_true (show (0:Int)<=bs.length by omega),decide_eq_true (show (bs.length:Int)<=12 by omega),Bool.and_self];rw [bind_eq (a:=bs.map fun _=>D.bl true)]
 .simpa only [List.length_map,if_pos (show bs.length<=lim by unfold lim;omega)];rw [bind_eq (Hr (fun _=>true) bs)];simp [pQ]
 .refine gq bs fun b hbm=>?_
  obtain ⟨q1,q2,q3⟩:=h.ban b hbm;simpa only [Kf q1 q2 q3]
theorem WB.bg {lv:List Nat}{bs:List Meet} (h:WB lv bs):BG lv bs:=by
 have f:=vm lv h.mem;have h4:=h.four;have hb:=h.nb;exact ⟨h.one,by omega,WB.lvAll h,by omega,by omega,h.ban⟩
theorem Og {n:Nat}{d:D}{b:Bool} (h:aj tab au n sW [d]=.ok (.bl b)):aj tab au (n+1) nZ [d]=if b then .ok d else .exc ⟨"BadBook",.non⟩:=by
 rw [aK QB SN rfl];delta sG sY;simpa only [h];cases b <;> simpa only [] <;> rfl
theorem zf (c:Int) {k:Nat} (h:0 < k):∃ r:Nat,c % (k:Int)=(r:Int)/\r < k:=by
 have h1:=Int.emod_nonneg c (show (k:Int)≠0 by omega);have h2:=Int.emod_lt_of_pos c (show (0:Int) < k by omega);exact ⟨(c % k).toNat,by omega,by omega⟩
theorem jV {ds:List D}{r:Nat}{d:D} (h:ds[r]?=some d):ixD (.lst ds) (.int (r:Int))=.ok d:=by
 have:=JT (enc:=id) (l:=ds) h;rw [List.map_id] at this;exact this
theorem Df {n:Nat} (lv:List Nat) (bs:List Meet):aj tab au (n+1) lO [eB lv bs]=.ok (.int (min 3 lv.length:Nat)):=by
 rw [cQ Ck rfl];delta jw;simpa only [];congr 2;split <;> omega
theorem eY {cl:Nat->List D->R D}{m:MS}{ms:List MS}{ρ ρ':En}{v:R D} (h:bU cl m ρ=.ok (.nx ρ')) (k:pQ (cZ cl ms ρ')=v):pQ (cZ cl (m::ms) ρ)=v:=by
 rw [qS,h];exact k
theorem JZ {cl:Nat->List D->R D}{m:MS}{ρ:En}{d:D} (h:bU cl m ρ=.ok (.rt d)):pQ (cZ cl [m] ρ)=.ok d:=by
 rw [qS,h];rfl
section
variable {cl:Nat->List D->R D}{f g:Nat}{es:List M}{ρ:En}{ds:List D}{x:Xc}{rest a b:List XS}{c:M}
theorem first (h:cl f ds=.exc x) (e:aW cl es ρ=.ok ds):iC (aR cl (.ce f es::rest) ρ)=.exc x:=by
 rw [aU,fZ,e,eU,h];rfl
theorem Rk {i:Nat} (h:cl f ds=.exc x) (e:aW cl es ρ=.ok ds):iC (aR cl (.cs i f es::rest) ρ)=.exc x:=by
 rw [aU,gP,e,eU,h];rfl
theorem abQ {i:Nat} (h:cl g ds=.exc x) (e:aW cl es ρ=.ok ds):iC (aR cl (.cn i f g es::rest) ρ)=.exc x:=by
 rw [aU,ac1,e,Wz,h];rfl
theorem aa2 (h:cl g ds=.exc x) (e:aW cl es ρ=.ok ds):iC (aR cl (.rl g es::rest) ρ)=.exc x:=by
 rw [aU,iw,e,Wz,h];rfl
theorem skip {v:R D} (e:evE cl c ρ=.ok (.bl false)) (h:iC (aR cl rest ρ)=v):iC (aR cl (.ifs c a []::rest) ρ)=v:=by
 rw [aU,dh,e,jA];exact h
theorem take (e:evE cl c ρ=.ok (.bl true)) (h:cl f ds=.exc x) (e2:aW cl es ρ=.ok ds):iC (aR cl (.ifs c [.cr f es] b::rest) ρ)=.exc x:=by
 rw [aU,dh,e,jJ,aU,gj,e2,eU,h];rfl
theorem Ox (h:cl f ds=.exc x) (e2:aW cl es ρ=.ok ds):iC (aR cl (.cr f es::rest) ρ)=.exc x:=by
 rw [aU,gj,e2,eU,h];rfl
theorem tce (h:cl f ds=.exc x) (e2:aW cl es ρ=.ok ds):aR cl (.ce f es::rest) ρ=.exc x:=by
 rw [aU,fZ,e2,eU,h];rfl
theorem tT (e:evE cl c ρ=.ok (.bl true)) (h:aR cl a ρ=.exc x):aR cl (.ifs c a b::rest) ρ=.exc x:=by
 rw [aU,dh,e,jJ,h];rfl
theorem tF (e:evE cl c ρ=.ok (.bl false)) (h:aR cl b ρ=.exc x):aR cl (.ifs c a b::rest) ρ=.exc x:=by
 rw [aU,dh,e,jA,h];rfl
theorem tk {i:Nat}{hc:Str}{hb:HB}{xs:List Str}{d:D} (h:aR cl a ρ=.exc x) (hx:uD hc hb xs (.exc x)=.ok (.rt d)):iC (aR cl (.th a i hc hb xs::rest) ρ)=.ok d:=by
 rw [aU,iy,h,hx];rfl
end
theorem JQ {n:Nat}{lv:List Nat}{bs:List Meet} (W:WB lv bs) (d:D):aj tab au (n+6) aA [eB lv bs,d]=if j8 d 1 ((min 3 lv.length:Nat):Int) then .ok .non else .exc ⟨"BadStrength",.non⟩:=by
 rw [aK o7 pC rfl];have hc:=Og (n:=n+4) (O9 (n:=n) (WB.bg W));delta cV cW;simpa only [hc,if_true,Df,Jw];cases j8 d 1 ((min 3 lv.length:Nat):Int) <;> simpa only [] <;> rfl
section
variable {n:Nat}{B d t u:D}{x:Xc}
theorem jo (h:aj tab au n aA [B,d]=.exc x):aj tab au (n+1) aN [B,d,t]=.exc x:=(aK zy zY rfl).trans (first h rfl)
theorem Dl (h:aj tab au n aA [B,d]=.exc x):aj tab au (n+1) iD [B,d]=.exc x:=(aK Dy DP rfl).trans (first h rfl)
theorem Px (h:aj tab au n aA [B,d]=.exc x):aj tab au (n+1) lR [B,d]=.exc x:=(aK Nt Oe rfl).trans (first h rfl)
theorem Ip (h:aj tab au n aA [B,d]=.exc x):aj tab au (n+1) jL [B,d]=.exc x:=(aK Ka JC rfl).trans (first h rfl)
theorem W8 (h:aj tab au n aA [B,d]=.exc x):aj tab au (n+1) uy [B,d]=.exc x:=(aK YQ Zj rfl).trans (first h rfl)
theorem Zy (h:aj tab au n aA [B,d]=.exc x):aj tab au (n+1) xu [B,d,t]=.exc x:=(aK aaD aa1 rfl).trans (first h rfl)
theorem O6 (h:aj tab au n aA [B,d]=.exc x):aj tab au (n+1) lK [B,d,t,u]=.exc x:=(aK Qg Nz rfl).trans (first h rfl)
theorem oK (h:aj tab au n aA [B,d]=.exc x):aj tab au (n+1) cD [B,d]=.exc x:=(aK Gv Gw rfl).trans (first h rfl)
theorem U5 (h:aj tab au n cD [B,d]=.exc x):aj tab au (n+1) rJ [B,d]=.exc x:=(aK Vk Uv rfl).trans (Rk h rfl)
theorem XQ (h:aj tab au n cD [B,d]=.exc x):aj tab au (n+1) ux [B,d,t]=.exc x:=(aK Y4 Xv rfl).trans (Rk h rfl)
theorem YK (h:aj tab au n cD [B,d]=.exc x):aj tab au (n+1) uz [B,d]=.exc x:=(aK Xw YH rfl).trans (abQ h rfl)
theorem xM (h:aj tab au n aN [B,d,t]=.exc x):aj tab au (n+1) iH [B,d,t]=.exc x:=(aK Qm RM rfl).trans (first h rfl)
theorem BR (h:aj tab au n aN [B,d,t]=.exc x):aj tab au (n+1) jW [B,d,t]=.exc x:=(aK PN Ot rfl).trans (first h rfl)
theorem Ew (h:aj tab au n aN [B,d,t]=.exc x):aj tab au (n+1) kO [B,d,t]=.exc x:=(aK Td S7 rfl).trans (first h rfl)
theorem Cr (h:aj tab au n aN [B,d,t]=.exc x):aj tab au (n+1) jR [B,d,t]=.exc x:=(aK Oz NK rfl).trans (first h rfl)
theorem Fy (h:aj tab au n aN [B,d,t]=.exc x):aj tab au (n+1) lA [B,d,t]=.exc x:=(aK QG QL rfl).trans (first h rfl)
theorem GJ (h:aj tab au n aN [B,d,t]=.exc x):aj tab au (n+1) jl [B,d,t]=.exc x:=(aK Gu G5 rfl).trans (first h rfl)
theorem BK (h:aj tab au n aN [B,d,t]=.exc x):aj tab au (n+1) jU [B,d,t,u]=.exc x:=(aK Oc Pj rfl).trans (first h rfl)
theorem Pu (h:aj tab au n iH [B,d,t]=.exc x):aj tab au (n+1) lC [B,d,t]=.exc x:=(aK Oq Pq rfl).trans (aa2 h rfl)
theorem adn (h:∀ m,aj tab au (m+6) aA [B,d]=.exc x):∀ w:Nat,w < 8->aj tab au (n+9) cU [.int (w:Int),B,d]=.exc x
 | 0,_=>(aK bN bO rfl).trans (take rfl (Dl (h (n+1))) rfl)
 | 1,_=>(aK bN bO rfl).trans (skip rfl (take rfl (Px (h (n+1))) rfl))
 | 2,_=>(aK bN bO rfl).trans (skip rfl (skip rfl (take rfl (Ip (h (n+1))) rfl)))
 | 3,_=>(aK bN bO rfl).trans (skip rfl (skip rfl (skip rfl (take rfl (xM (jo (h n))) rfl))))
 | 4,_=>(aK bN bO rfl).trans (skip rfl (skip rfl (skip rfl (skip rfl (take rfl (BR (jo (h n))) rfl)))))
 | 5,_=>(aK bN bO rfl).trans (skip rfl (skip rfl (skip rfl (skip rfl (skip rfl (take rfl (Ew (jo (h n))) rfl))))))
 | 6,_=>(aK bN bO rfl).trans (skip rfl (skip rfl (skip rfl (skip rfl (skip rfl (skip rfl (take rfl (Cr (jo (h n))) rfl)))))))
 | 7,_=>(aK bN bO rfl).trans (skip rfl (skip rfl (skip rfl (skip rfl (skip rfl (skip rfl (skip rfl (Ox (W8 (h (n+1))) rfl))))))))
theorem adl (h:∀ m,aj tab au (m+6) aA [B,d]=.exc x):∀ w:Nat,w < 7->aj tab au (n+9) jq [.int (w:Int),B,d]=.exc x
 | 0,_=>(aK gH gD rfl).trans (take rfl (U5 (oK (h n))) rfl)
 | 1,_=>(aK gH gD rfl).trans (skip rfl (take rfl (YK (oK (h n))) rfl))
 | 2,_=>(aK gH gD rfl).trans (skip rfl (skip rfl (take rfl (XQ (oK (h n))) rfl)))
 | 3,_=>(aK gH gD rfl).trans (skip rfl (skip rfl (skip rfl (take rfl (O6 (h (n+1))) rfl))))
 | 4,_=>(aK gH gD rfl).trans (skip rfl (skip rfl (skip rfl (skip rfl (take rfl (Zy (h (n+1))) rfl)))))
 | 5,_=>(aK gH gD rfl).trans (skip rfl (skip rfl (skip rfl (skip rfl (skip rfl (take rfl (BK (jo (h n))) rfl))))))
 | 6,_=>(aK gH gD rfl).trans (skip rfl (skip rfl (skip rfl (skip rfl (skip rfl (skip rfl (Ox (Fy (jo (h n))) rfl)))))))
theorem abp (h:∀ m,aj tab au (m+7) aN [B,.int 1,t]=.exc x):∀ w:Nat,w < 8->aj tab au (n+10) eG [.int (w:Int),B,t]=.exc x
 | 0,_=>(aK cL cM rfl).trans (take rfl (xM (h (n+1))) rfl)
 | 1,_=>(aK cL cM rfl).trans (skip rfl (take rfl (Pu (xM (h n))) rfl))
 | 2,_=>(aK cL cM rfl).trans (skip rfl (skip rfl (take rfl (BR (h (n+1))) rfl)))
 | 3,_=>(aK cL cM rfl).trans (skip rfl (skip rfl (skip rfl (take rfl (Ew (h (n+1))) rfl))))
 | 4,_=>(aK cL cM rfl).trans (skip rfl (skip rfl (skip rfl (skip rfl (take rfl (Cr (h (n+1))) rfl)))))
 | 5,_=>(aK cL cM rfl).trans (skip rfl (skip rfl (skip rfl (skip rfl (skip rfl (take rfl (BK (h (n+1))) rfl))))))
 | 6,_=>(aK cL cM rfl).trans (skip rfl (skip rfl (skip rfl (skip rfl (skip rfl (skip rfl (take rfl (Fy (h (n+1))) rfl)))))))
 | 7,_=>(aK cL cM rfl).trans (skip rfl (skip rfl (skip rfl (skip rfl (skip rfl (skip rfl (skip rfl (Ox (GJ (h (n+1))) rfl))))))))
theorem acf {w:D} (h:aj tab au n cU [w,B,d]=.exc ⟨"BadStrength",.non⟩):aj tab au (n+1) bL [.int 0,w,B,d]=.ok (.lst [.bl true,.bl true]):=(aK tR tU rfl).trans (tk (tT rfl (tce h rfl)) rfl)
theorem acR {w:D} (h:aj tab au n jq [w,B,d]=.exc ⟨"BadStrength",.non⟩):aj tab au (n+1) bL [.int 1,w,B,d]=.ok (.lst [.bl true,.bl true]):=(aK tR tU rfl).trans (tk (tF rfl (tT rfl (tce h rfl))) rfl)
theorem Wk {w:D}{k:Int} (h:aj tab au n eG [w,B,d]=.exc ⟨"BadTests",.int k⟩):aj tab au (n+1) bL [.int 2,w,B,d]=.ok (.lst [.bl true,.bl true,.int k]):=(aK tR tU rfl).trans (tk (tF rfl (tF rfl (tce h rfl))) rfl)
end
theorem Ih:∀ (a:List D) (b:List Nat),n8 a (b.map eN)=(a.zip b).map fun p=>D.tup [p.1,eN p.2]
 | [],b=>by cases b <;> rfl
 | x::a,[]=>rfl
 | x::a,y::b=>by simp only [List.map_cons,n8,List.zip_cons_cons,Ih a b]
theorem OD (a:List D) (b:List Nat):itemsOf .zip [.tup a,aC b]=.ok ((a.zip b).map fun p=>D.tup [p.1,eN p.2]):=by
 rw [<- Ih];rfl
theorem aaE {n:Nat}{lv:List Nat}{ds:List D} (hl:ds.length=lv.length) (h6:lv.length<=6):aj tab au (n+2) jG [aC lv,.tup ds]=.ok (.bl ((ds.zip lv).all fun p=>j8 p.1 0 ((p.2:Int) - 1))):=by
 have hlim:lim=100000:=rfl;have hz:(ds.zip lv).length<=lim:=by rw [List.length_zip];omega
 rw [cQ vo rfl];delta mO;simpa only [jf,decide_eq_true (show (lv.length:Int)<=ds.length by omega),decide_eq_true (show (ds.length:Int)<=lv.length by omega),Bool.and_self,OD];rw [bind_eq (a:=(ds.zip lv).map fun p=>D.bl (j8 p.1 0 ((p.2:Int) - 1)))]
 .simpa only [List.length_map,if_pos hz];rw [bind_eq (Hr (fun p:D × Nat=>j8 p.1 0 ((p.2:Int) - 1)) (ds.zip lv))];simp [qQ,qR,qx,qS,qD,qE,qF,qG,qH,qy,qz,wA,wB,qT,wC,qI,qU,qV,qW,wD,wE,wF,qX,wG,wH,wI,qY,qZ,wJ,wK,wL,wM,wN,wO,wP,qJ,wQ,wl,wR,wS,wT,wm,wU,qa,qb,wV,qd,qe,qf,qK,qg,qL,wW,qh,wn,wo,qi,qM,qN,wX,wY,wZ,wa,wb,wc,wq,wr,wt,wu,↓wd,↓we,zK,zL,zM,zN,zO,zP,zQ,qj,qk,wf,wv,ql,qm,qA,qO,qp,qq,qr,qu,dO,dJ,dH,ww,wx,wy,wz,zA,zB,zC,zR,zS,zT,zU,zV,zW,wg,wj,wk,if_true,zD,zE,zX,if_false,qB,qv,qP,qC,qw,zF,zG,zH,zI,zJ,jX,fG,fZ,gj,gP,dh,iM,fH,dG,aU,ji,jd,fC,dM,eU,iK,fO,jJ,jA,iU,dN,dI,cR,fL,fD,iQ,iT,iV,iR,iZ,iY,iy,iw,je]
 .refine gq (ds.zip lv) fun p hp=>?_
  simpa only [Jw]
theorem yX {n:Nat}{lv:List Nat}{d:D}{ds:List D}{l:Nat}{r:List Nat} (e:lv=l::r) (hl:(d::ds).length=lv.length) (h6:lv.length<=6) (h:j8 d 0 ((l:Int) - 1)=false):aj tab au (n+2) jG [aC lv,.tup (d::ds)]=.ok (.bl false):=by
 rw [aaE hl h6,e,List.zip_cons_cons,List.all_cons,h];rfl
theorem Lz {n:Nat}{lv:List Nat}{ds:List D} (hl:ds.length≠lv.length):aj tab au (n+2) jG [aC lv,.tup ds]=.ok (.bl false):=by
 rw [cQ vo rfl];have e:(decide ((lv.length:Int)<=ds.length) && decide ((ds.length:Int)<=lv.length))=false:=by
  rw [Bool.and_eq_false_iff,decide_eq_false_iff_not,decide_eq_false_iff_not];omega
 delta mO;simpa only [jf,e]
theorem Ed {n:Nat}{lv:List Nat}{d:D} (h:d=.non\/d=.int 7\/∃ l,d=.lst l):aj tab au (n+2) jG [aC lv,d]=.ok (.bl false):=by
 rcases h with rfl | rfl | ⟨l,rfl⟩ <;> (rw [cQ vo rfl];rfl)
theorem Zd {n:Nat}{lv:List Nat}{bs:List Meet}{d:D} (h:aj tab au (n+2) jG [aC lv,d]=.ok (.bl false)):aj tab au (n+3) dZ [eB lv bs,d]=.ok (.bl false):=by
 rw [cQ yd rfl];delta lq;simpa only [h]
theorem VH {n:Nat}{lv:List Nat}{bs:List Meet} (h:WB lv bs) {r:List Nat} (hr:r∈rows lv) (hn:r ∉ tests lv bs):aj tab au (n+3) dZ [eB lv bs,aC r]=.ok (.bl false):=by
 have hlim:lim=100000:=rfl;have h4:=h.four;have hb:=h.nb;have hk:=Aj.mp hr;have hany:(bs.any fun b=>kE r b)=true:=by
  by_cases e:(bs.any fun b=>kE r b)=true
  .exact e
  .refine absurd (List.mem_filter.mpr ⟨hr,?_⟩) hn;unfold rR;simpa using e
 rw [cQ yd rfl];delta lq;simpa only [Km hk (show lv.length<=6 by omega),Ab (fun b hb=>BJ h hk hb) (show bs.length<=lim by omega),hany]
theorem Mq {f:D->R D}{o:D} (ho:f o=.ok (.bl false)) (b:List D):∀ (a:List D) (k:Nat),(∀ t∈a,f t=.ok (.bl true))->gk f k (a++o::b)=fJ (k+a.length)
 | [],k,_=>by
  show (match f o with | .ok (.bl true)=>gk f (k+1) b | .ok (.bl false)=>fJ k | _=>.stuck)=_
  rw [ho];rfl
 | t::a,k,h=>by
  show (match f t with | .ok (.bl true)=>gk f (k+1) (a++o::b) | .ok (.bl false)=>fJ k | _=>.stuck)=_
  rw [h t List.mem_cons_self];show gk f (k+1) (a++o::b)=_
  rw [Mq ho b a (k+1) fun u hu=>h u (List.mem_cons_of_mem _ hu),List.length_cons,show k+1+a.length=k+(a.length+1) by omega]
theorem abB:∀ k:Nat,k < 6->nC k=true:=by decide +kernel
theorem LR {k:Nat} (h:k < 6):fJ k=.exc ⟨"BadTests",.int k⟩:=if_pos (abB k h)
theorem WX {n:Nat}{B t:D}{v:R D} (h:jk (fun u=>aj tab au n dZ [B,u]) t=v) (x:Xc) (e:v=.exc x):aj tab au (n+1) fX [B,t]=.exc x:=by
 rw [aK vK vO rfl];show iC (yO _ [] (iJ (fun _=>.ok (.nx [some B,some t])) (jk (fun u=>aj tab au n dZ [B,u]) t)))=_
 rw [h,e];rfl
theorem Fi {n:Nat}{lv:List Nat}{bs:List Meet} (W:WB lv bs) {t:D}{x:Xc} (h:aj tab au (n+6) fX [eB lv bs,t]=.exc x):aj tab au (n+7) aN [eB lv bs,.int 1,t]=.exc x:=by
 have h1:=W.one;have hw:j8 (.int 1) 1 ((min 3 lv.length:Nat):Int)=true:=by
  show (decide ((1:Int)<=1) && decide ((1:Int)<=((min 3 lv.length:Nat):Int)))=true
  rw [decide_eq_true (by omega),decide_eq_true (by omega)];rfl
 have hc:=JQ (n:=n) W (.int 1);rw [hw,if_pos rfl] at hc;rw [aK zy zY rfl];delta mQ ni;simpa only [hc,h]
theorem U9 {n:Nat}{lv:List Nat}{bs:List Meet} (W:WB lv bs) {a b:List (List Nat)}{o:D} (ha:∀ t∈a,t∈tests lv bs) (hl:a.length < 6) (ho:∀ m,aj tab au (m+3) dZ [eB lv bs,o]=.ok (.bl false)) :
  aj tab au (n+7) aN [eB lv bs,.int 1,.lst (a.map aC ++ o::b.map aC)]=.exc ⟨"BadTests",.int a.length⟩:=by
 refine Fi W (WX (n:=n+5) (v:=fJ a.length) ?_ _ (LR hl));show gk (fun u=>aj tab au (n+5) dZ [eB lv bs,u]) 0 (a.map aC++o::b.map aC)=_
 rw [Mq (ho (n+2)) (b.map aC) (a.map aC) 0 fun t ht=>?_,Nat.zero_add,List.length_map];obtain ⟨r,hr,rfl⟩:=List.mem_map.mp ht;exact Rr W (ha r hr)
theorem RB {n:Nat}{lv:List Nat}{bs:List Meet} (W:WB lv bs) {t:D} (h:∀ l,t ≠ .lst l):aj tab au (n+7) aN [eB lv bs,.int 1,t]=.exc ⟨"BadTests",.int 0⟩:=by
 refine Fi W (WX (n:=n+5) (v:=fJ 0) ?_ _ (LR (k:=0) (by decide)));cases t <;> first | rfl | exact absurd rfl (h _)
theorem VN {r:List Nat}{t:Nat} (h:t < r.length):slD (aC r) (some ((t:Int)+1)) none=.ok (aC (r.drop (t+1))):=by
 have e1:((t:Int)+1)=((t+1:Nat):Int):=by omega
 rw [e1];have e:¬ (HT.sIx (r.map eN).length 0 (some ((t+1:Nat):Int))=0/\HT.sIx (r.map eN).length (r.map eN).length none=(r.map eN).length):=by
  rw [List.length_map];rintro ⟨e1,-⟩;unfold HT.sIx at e1;have:¬ (((t+1:Nat):Int) < 0):=by omega
  simp only [this,if_false] at e1;omega
 show (if _ then _ else _)=_
 rw [if_neg e,Rb _ _ (by rw [List.length_map];omega),<- List.map_drop];rfl
theorem aci {ts:List (List Nat)}{i:Nat} (h:i<=ts.length):slD (.lst (ts.map aC)) none (some (i:Int))=.ok (.lst ((ts.take i).map aC)):=by
 simp only [slD,Z5 (ts.map aC) i (by rw [List.length_map];exact h),List.map_take]
theorem abL {ts:List (List Nat)}{i:Nat} (h:i<=ts.length):slD (.lst (ts.map aC)) (some (i:Int)) none=.ok (.lst ((ts.drop i).map aC)):=by
 simp only [slD,Rb (ts.map aC) i (by rw [List.length_map];exact h),List.map_drop]
theorem Nk (x:D) {k:Nat} (h1:1<=k) (hk:k<=1000):fQ .mul (.tup [x]) (.int (k:Int))=.ok (.tup (List.replicate k x)):=by
 show (if 1<=(k:Int)/\(k:Int)<=1000/\[x].length<=1000/\0 < [x].length then R.ok (D.tup (List.replicate (k:Int).toNat [x]).flatten) else .stuck)=_
 rw [if_pos ⟨by omega,by omega,by simp,by simp⟩,Int.toNat_natCast,List.flatten_replicate_singleton]
theorem acd (x:D) {k:Nat} (hk:k<=1000):fQ .mul (.lst [x]) (.int (k:Int))=.ok (.lst (List.replicate k x)):=by
 show (if 0<=(k:Int)/\(k:Int)<=1000/\[x].length<=1000 then R.ok (D.lst (List.replicate (k:Int).toNat [x]).flatten) else .stuck)=_
 rw [if_pos ⟨by omega,by omega,by simp⟩,Int.toNat_natCast,List.flatten_replicate_singleton]
def lg (lv:List Nat) (bs:List Meet):List (List Nat):=(rows lv).filter fun r=>!decide (r∈tests lv bs)
noncomputable def vg (lv:List Nat):List D:=[.non,.int 7,.tup (List.replicate (lv.length+1) (.int 0)),.lst (List.replicate lv.length (.int 0)),aC lv,.tup (.int (-1)::(lv.drop 1).map eN),.tup (List.replicate lv.length (.bl true)),.tup (List.replicate lv.length (.str (Str.ofString "0"))),.tup []]
def rB (lv:List Nat) (bs:List Meet):List D:=vg lv++(lg lv bs).map aC
theorem Zx {lv:List Nat}{bs:List Meet} (W:WB lv bs) {o:D} (ho:o∈rB lv bs) (m:Nat):aj tab au (m+3) dZ [eB lv bs,o]=.ok (.bl false):=by
 have h1:=W.one;have h4:=W.four;rcases List.mem_append.mp ho with h | h
 .obtain ⟨l,r,e⟩:∃ l r,lv=l::r:=by
   cases lv with
   | nil=>simp at h1
   | cons l r=>exact ⟨l,r,rfl⟩
  have hl:lv.length=r.length+1:=by rw [e];rfl
  have hw:j8 (.int (l:Int)) 0 ((l:Int) - 1)=false:=by
   show (decide ((0:Int)<=l) && decide ((l:Int)<=(l:Int) - 1))=false
   rw [decide_eq_false (show ¬ ((l:Int)<=(l:Int) - 1) by omega),Bool.and_false]
  have hr:aC lv=.tup (eN l::r.map eN):=by rw [e];rfl
  apply Zd;unfold vg at h;simp only [List.mem_cons,List.not_mem_nil,or_false] at h;rcases h with rfl | rfl | rfl | rfl | rfl | rfl | rfl | rfl | rfl
  .exact Ed (.inl rfl)
  .exact Ed (.inr (.inl rfl))
  .exact Lz (by simp)
  .exact Ed (.inr (.inr ⟨_,rfl⟩))
  .have:=yX (n:=m) (d:=eN l) (ds:=r.map eN) e (by simp [hl]) (by omega) hw;rw [<- hr] at this;exact this
  .exact yX e (by simp [hl]) (by omega) rfl
  .rw [hl,List.replicate_succ];exact yX e (by simp [hl]) (by omega) rfl
  .rw [hl,List.replicate_succ];exact yX e (by simp [hl]) (by omega) rfl
  .exact Lz (by simp;omega)
 .obtain ⟨r,hr,rfl⟩:=List.mem_map.mp h;obtain ⟨h2,h3⟩:=List.mem_filter.mp hr;exact VH W h2 (by simpa using h3)
theorem abn (k:Int):aY .ne (.lst [.bl true,.bl true,.int k]) (.lst [.bl true,.bl true,.int k])=.ok false:=by
 have e:ao (.lst [.bl true,.bl true,.int k]) (.lst [.bl true,.bl true,.int k])=true:=by simp [ao,fj]
 show (if bx (.lst [.bl true,.bl true,.int k]) (.lst [.bl true,.bl true,.int k])=true then R.ok (!ao (.lst [.bl true,.bl true,.int k]) (.lst [.bl true,.bl true,.int k])) else .stuck)=_
 rw [e,if_pos]
 .rfl
 .simp [bx,dep,deps]
theorem three (c:Int) (a:List D):∃ t,ixD (.lst [.non,.tup a,.int 7]) (.int (c % 3))=.ok t/\∀ l,t≠.lst l:=by
 obtain ⟨r,e,hr⟩:=zf c (k:=3) (by decide);have e':c % 3=(r:Int):=e;rw [e']
 match r,hr with
 | 0,_=>exact ⟨_,jV rfl,fun l z=>by cases z⟩
 | 1,_=>exact ⟨_,jV rfl,fun l z=>by cases z⟩
 | 2,_=>exact ⟨_,jV rfl,fun l z=>by cases z⟩
theorem aa5 (b:Bool):jH .int [.bl b]=.ok (.int (if b=true then 1 else 0)):=rfl
theorem adp (c:Int) (k:Nat):∃ d,ixD (.lst [.non,.int 0,.int 4,.bl true,.str (Str.ofString "1"),.lst [.int 1],.int (-1),.int ((k:Int)+1+3 * (if decide (2 < (k:Int))=true then 1 else 0)),.tup [.int 1]]) (.int (c % 9))=.ok d /\ j8 d 1 ((min 3 k:Nat):Int)=false:=by
 obtain ⟨r,e,hr⟩:=zf c (k:=9) (by decide);have e':c % 9=(r:Int):=e;rw [e']
 match r,hr with
 | 0,_=>exact ⟨_,jV rfl,rfl⟩
 | 1,_=>exact ⟨_,jV rfl,rfl⟩
 | 2,_ =>
  refine ⟨_,jV rfl,?_⟩;show (decide ((1:Int)<=4) && decide ((4:Int)<=((min 3 k:Nat):Int)))=false
  rw [decide_eq_false (show ¬ ((4:Int)<=((min 3 k:Nat):Int)) by omega),Bool.and_false]
 | 3,_=>exact ⟨_,jV rfl,rfl⟩
 | 4,_=>exact ⟨_,jV rfl,rfl⟩
 | 5,_=>exact ⟨_,jV rfl,rfl⟩
 | 6,_=>exact ⟨_,jV rfl,rfl⟩
 | 7,_ =>
  refine ⟨_,jV rfl,?_⟩;generalize hv:((k:Int)+1+3 * (if decide (2 < (k:Int))=true then 1 else 0))=v;show (decide ((1:Int)<=v) && decide (v<=((min 3 k:Nat):Int)))=false
  have:¬ (v<=((min 3 k:Nat):Int)):=by
   subst hv;split <;> omega
  rw [decide_eq_false this,Bool.and_false]
 | 8,_=>exact ⟨_,jV rfl,rfl⟩
def ws (k:Nat):List D:=(List.range k).map eN
theorem HN {k:Nat} (h:k<=lim):itemsOf .rng [.int (k:Int)]=.ok (ws k):=lu k h
theorem ways {F:D->R D}{k:Nat}{v:D} (hv:aY .ne v v=.ok false) (h:∀ w:Nat,w < k->F (.int (w:Int))=.ok v):dF (fun e=>do let a <- F e;let t <- aY .ne a v;if t=true then R.ok (some e) else R.ok none) (ws k)=.ok []:=by
 refine (eV (e:=eN) (p:=fun _=>false) (List.range k) fun w hw=>?_).trans (by simp);show (F (.int (w:Int)) >>= fun a=>aY .ne a v >>= fun t=>if t=true then R.ok (some (eN w)) else R.ok none)=_
 rw [h w (List.mem_range.mp hw),qR,hv];rfl
theorem adC (k:Int):fQ .mul (.int 3) (.int k)=.ok (.int (3 * k)):=Cg (.inl rfl)
theorem U7 (ns:List Int) (hns:ns.length<=63):aj tab au 31 O5 [.lst (ns.map D.int)]=.ok (.bl true):=by
 have W:=Zq ns 3;have hlim:lim=100000:=rfl;have hone:=W.one;have hfour:=W.four;have hnb:=W.nb;have hcell0:aj tab au 30 bG [.lst (ns.map D.int),.int 0]=.ok (.int (bf ns 0)):=lJ (n:=29) ns 0;have hcell1:aj tab au 30 bG [.lst (ns.map D.int),.int 1]=.ok (.int (bf ns 1)):=lJ (n:=29) ns 1;have hcell2:aj tab au 30 bG [.lst (ns.map D.int),.int 2]=.ok (.int (bf ns 2)):=lJ (n:=29) ns 2;have hbook:aj tab au 30 nq [.lst (ns.map D.int),.int 3]=.ok (eB (iB ns 3) (nH ns 3)):=aau (n:=28) hns 3;obtain ⟨ts,hts,htl,hdraw0⟩:=Xu (n:=27) (ns:=ns) W 6 (w:=5) (by decide);have hdraw:aj tab au 30 lZ [.lst (ns.map D.int),.int 6,eB (iB ns 3) (nH ns 3),.int 5]=.ok (.lst (ts.map aC)):=hdraw0;clear hdraw0;generalize hlv:iB ns 3=lv at *
 generalize hbs:nH ns 3=bs at *
 generalize bf ns 0=c0 at *
 generalize bf ns 1=c1 at *
 generalize bf ns 2=c2 at *
 obtain ⟨d,o9,hd⟩:=adp c0 lv.length;have hck:∀ m,aj tab au (m+6) aA [eB lv bs,d]=.exc ⟨"BadStrength",.non⟩:=fun m=>by
  rw [JQ W d,hd];rfl
 have i8:itemsOf .rng [.int 8]=.ok (ws 8):=HN (k:=8) (by decide);have i7:itemsOf .rng [.int 7]=.ok (ws 7):=HN (k:=7) (by decide);have h0:dF (fun e=>do let a <- aj tab au 30 bL [.int 0,e,eB lv bs,d];let t <- aY .ne a (.lst [.bl true,.bl true]);if t=true then R.ok (some e) else R.ok none) (ws 8)=.ok []:=ways rfl fun w hw=>acf (n:=29) (adn (n:=20) hck w hw)
 have h1:dF (fun e=>do let a <- aj tab au 30 bL [.int 1,e,eB lv bs,d];let t <- aY .ne a (.lst [.bl true,.bl true]);if t=true then R.ok (some e) else R.ok none) (ws 7)=.ok []:=ways rfl fun w hw=>acR (n:=29) (adl (n:=20) hck w hw)
 obtain ⟨a,ea0,hal⟩:=zf c1 (k:=ts.length+1) (by omega);have ea:c1 % ((ts.length:Int)+1)=(a:Int):=ea0;have rT0:fQ .mul (.tup [.int 0]) (.int ((lv.length:Int)+1))=.ok (.tup (List.replicate (lv.length+1) (.int 0))):=Nk (.int 0) (k:=lv.length+1) (by omega) (by omega);have rL0:fQ .mul (.lst [.int 0]) (.int (lv.length:Int))=.ok (.lst (List.replicate lv.length (.int 0))):=acd (.int 0) (by omega);have rT1:fQ .mul (.tup [.bl true]) (.int (lv.length:Int))=.ok (.tup (List.replicate lv.length (.bl true))):=Nk (.bl true) (by omega) (by omega);have rT2:fQ .mul (.tup [.str (Str.ofString "0")]) (.int (lv.length:Int))=.ok (.tup (List.replicate lv.length (.str (Str.ofString "0")))):=Nk (.str (Str.ofString "0")) (by omega) (by omega)
 have hsl:slD (aC lv) (some 1) none=.ok (aC (lv.drop 1)):=VN (t:=0) (by omega);have hadd:jM (.tup [.int (-1)]) (aC (lv.drop 1))=.ok (.tup (.int (-1)::(lv.drop 1).map eN)):=by
  show (if [D.int (-1)].length+((lv.drop 1).map eN).length<=lim then R.ok (D.tup ([D.int (-1)]++(lv.drop 1).map eN)) else .stuck)=_
  rw [if_pos (by simp;omega)];rfl
 have add7:∀ z1 z2 z3 z4 z5 z6 z7:D,jM (.lst [z1,z2,z3,z4,z5]) (.lst [z6,z7])=.ok (.lst [z1,z2,z3,z4,z5,z6,z7]):=fun _ _ _ _ _ _ _=>rfl
 have add9:∀ z1 z2 z3 z4 z5 z6 z7 z8 z9:D,jM (.lst [z1,z2,z3,z4,z5,z6,z7]) (.lst [z8,z9])=.ok (.lst [z1,z2,z3,z4,z5,z6,z7,z8,z9]):=fun _ _ _ _ _ _ _ _ _=>rfl
 have f:=vm lv W.mem;have hrl:(rows lv).length<=36:=by rw [Ar];omega
 have hol:(lg lv bs).length<=36:=Nat.le_trans (List.length_filter_le _ _) hrl;have addO:jM (.lst (vg lv)) (.lst ((lg lv bs).map aC))=.ok (.lst (rB lv bs)):=by
  show (if (vg lv).length+((lg lv bs).map aC).length<=lim then R.ok (D.lst (vg lv++(lg lv bs).map aC)) else .stuck)=_
  rw [if_pos (by simp [vg];omega)];rfl
 have addO2:jM (.lst [.non,.int 7,.tup (.int 0::List.replicate lv.length (.int 0)),.lst (List.replicate lv.length (.int 0)),aC lv,.tup (.int (-1)::(lv.drop 1).map eN),.tup (List.replicate lv.length (.bl true)),.tup (List.replicate lv.length (.str (Str.ofString "0"))),.tup []]) (.lst ((lg lv bs).map aC))=.ok (.lst (rB lv bs)):=addO
 have hrows:aj tab au 30 j6 [aC lv]=.ok (.lst ((rows lv).map aC)):=Mu (n:=29) (fun l hl=>(WB.lvAll W l hl).1) (show prod lv<=lim by omega) (show lv.length<=lim by omega) (fun l hl=>by have:=WB.lvAll W l hl;omega);have htests:aj tab au 30 jC [eB lv bs]=.ok (.lst ((tests lv bs).map aC)):=Aw (n:=28) W;have hcO:dF (fun e=>do let r <- inD e (.lst ((tests lv bs).map aC));if (!r)=true then R.ok (some e) else R.ok none) ((rows lv).map aC)=.ok ((lg lv bs).map aC):=by
  refine eV (rows lv) fun r hr=>?_
  rw [Ei.inL,qR];by_cases hm:r∈tests lv bs <;> simp [hm]
 have hpos:0 < (rB lv bs).length:=by simp [rB,vg]
 obtain ⟨q,eq0,hq⟩:=zf c2 (k:=(rB lv bs).length) hpos;obtain ⟨o,ho⟩:∃ o,(rB lv bs)[q]?=some o:=⟨_,List.getElem?_eq_getElem hq⟩;have hno:=fun m=>Zx W (List.mem_of_getElem? ho) m
 have hix:ixD (.lst (rB lv bs)) (.int (q:Int))=.ok o:=jV ho;have hlenS:Ai (.lst (rB lv bs))=.ok (.int ((rB lv bs).length:Nat)):=rfl;have hbad:jM (.lst ((ts.take a).map aC)) (.lst [o])=.ok (.lst ((ts.take a).map aC++[o])):=if_pos (by simp;omega);have hbad2:jM (.lst ((ts.take a).map aC++[o])) (.lst ((ts.drop a).map aC))=.ok (.lst ((ts.take a).map aC++o::(ts.drop a).map aC)):=by
  show (if ((ts.take a).map aC++[o]).length+((ts.drop a).map aC).length<=lim then R.ok (D.lst ((ts.take a).map aC++[o]++(ts.drop a).map aC)) else .stuck)=_
  rw [if_pos (by simp;omega),List.append_assoc];rfl
 obtain ⟨t3,e3,h3⟩:=three c0 (ts.map aC);have hL:∀ w:Nat,w < 8->aj tab au 30 bL [.int 2,.int (w:Int),eB lv bs,.lst ((ts.take a).map aC++o::(ts.drop a).map aC)]=.ok (.lst [.bl true,.bl true,.int (a:Int)]):=fun w hw=>by
  have hta:(ts.take a).length=a:=by rw [List.length_take];omega
  have hk:∀ m,aj tab au (m+7) aN [eB lv bs,.int 1,.lst ((ts.take a).map aC ++ o::(ts.drop a).map aC)]=.exc ⟨"BadTests",.int (a:Int)⟩:=fun m=>by
   have:=U9 (n:=m) (b:=ts.drop a) W (a:=ts.take a) (fun t ht=>hts t (List.mem_of_mem_take ht)) (by omega) hno;rw [hta] at this;exact this
  exact Wk (n:=29) (abp (n:=19) hk w hw)
 have hT:∀ w:Nat,w < 8->aj tab au 30 bL [.int 2,.int (w:Int),eB lv bs,t3]=.ok (.lst [.bl true,.bl true,.int 0]):=fun w hw=>Wk (n:=29) (abp (n:=19) (fun m=>RB W h3) w hw)
 have hcL:dF (fun e=>do let z <- aj tab au 30 bL [.int 2,e,eB lv bs,.lst ((ts.take a).map aC++o::(ts.drop a).map aC)];let t <- aY .ne z (.lst [.bl true,.bl true,.int (a:Int)]);if t=true then R.ok (some e) else R.ok none) (ws 8)=.ok []:=ways (abn _) hL;have hcT:dF (fun e=>do let z <- aj tab au 30 bL [.int 2,e,eB lv bs,t3];let t <- aY .ne z (.lst [.bl true,.bl true,.int 0]);if t=true then R.ok (some e) else R.ok none) (ws 8)=.ok []:=ways (abn _) hT;have e00:aY .eq (.lst []) (.lst [])=.ok true:=rfl;show aj tab au (30+1) O5 _=_
 rw [cQ acG rfl];delta Ho;apply eY
 .simpa only [hbook]
  all_goals rfl
 apply eY
 .simpa only [hcell0,aa5,adC,o9,sJ (show (0:Int) < 9 by decide),if_pos (show 0<=lim from Nat.zero_le _),if_pos (show 0+1<=lim by decide),if_pos (show 0+1+1+1+1+1+1+1+1+1<=lim by decide)]
  all_goals rfl
 apply eY
 .simpa only [if_pos (show 0+1<=lim by decide),if_pos (show 0+1+1<=lim by decide),lQ,i8,i7,h0,h1,if_pos (show 0<=lim from Nat.zero_le _),List.isEmpty_nil]
  all_goals rfl
 apply eY
 .simpa only [hdraw]
  all_goals rfl
 apply eY
 .simpa only [hcell1,sJ (show (0:Int) < (ts.length:Int)+1 by omega),ea]
  all_goals rfl
 apply eY
 .simpa only [if_pos (show 0+1<=lim by decide),if_pos (show 0+1+1<=lim by decide),if_pos (show 0+1+1+1+1+1<=lim by decide),rT0,rL0]
  all_goals rfl
 apply eY
 .simpa only [if_pos (show 0+1<=lim by decide),if_pos (show 0+1+1<=lim by decide),rT1,hsl,hadd,add7]
  all_goals rfl
 apply eY
 .simpa only [if_pos (show 0<=lim from Nat.zero_le _),if_pos (show 0+1<=lim by decide),if_pos (show 0+1+1<=lim by decide),rT2,add9,hrows,htests,hcO,List.length_map,if_pos (show (lg lv bs).length<=lim by omega),addO2]
  all_goals rfl
 apply eY
 .simpa only [if_pos (show 0+1<=lim by decide),hcell2,hlenS,sJ (show (0:Int) < ((rB lv bs).length:Nat) by omega),eq0,hix,aci (show a<=ts.length by omega),abL (show a<=ts.length by omega),hbad,hbad2]
  all_goals rfl
 apply eY
 .simpa only []
  all_goals rfl
 by_cases h6:c1 % 7=6
 .apply eY
  .simpa only [hcell1,hcell0,sJ (show (0:Int) < 7 by decide),sJ (show (0:Int) < 3 by decide),decide_eq_true h6,if_pos (show 0+1+1+1<=lim by decide),e3]
   all_goals rfl
  apply JZ;simpa only [i8,if_pos (show 0<=lim from Nat.zero_le _),if_pos (show 0+1+1+1<=lim by decide),hcT,e00]
 .apply eY
  .simpa only [hcell1,sJ (show (0:Int) < 7 by decide),decide_eq_false h6]
   all_goals rfl
  apply JZ;simpa only [i8,if_pos (show 0<=lim from Nat.zero_le _),if_pos (show 0+1+1+1<=lim by decide),hcL,e00]
end E02
namespace E02
open PySem L2 Mi
variable (P:Params)
theorem G4:FF (heap P) "check_list" (top 27):=aV (f:=192) (by kernel_rfl) (show (heap P).lookup 192=some w6 by kernel_rfl) (by kernel_rfl) (by kernel_rfl)
theorem kcl:((heap P).all fun q=>Vi q.2)=true:=by kernel_rfl
theorem Xp:FI (heap P) 68 24 65 (Hs.inn 0 (top 4)):=acw (by kernel_rfl) (show (heap P).lookup 65=some Q5 by kernel_rfl) (by kernel_rfl) (by kernel_rfl) (by kernel_rfl)
theorem recs:((PyProof.Rows.recsOf view).any fun d=>decide (d.name=Str.ofString "check_tests"))=true:=by kernel_rfl
theorem Lf:FF (heap P) "is_whole" (top 14):=aV (f:=113) (by kernel_rfl) (show (heap P).lookup 113=some CW by kernel_rfl) (by kernel_rfl) (by kernel_rfl)
theorem K8:FF (heap P) "is_tuple" (top 15):=aV (f:=120) (by kernel_rfl) (show (heap P).lookup 120=some Ci by kernel_rfl) (by kernel_rfl) (by kernel_rfl)
theorem GK:FF (heap P) "are_levels" (top 16):=aV (f:=127) (by kernel_rfl) (show (heap P).lookup 127=some yc by kernel_rfl) (by kernel_rfl) (by kernel_rfl)
theorem Gs:FF (heap P) "is_setting" (top 17):=aV (f:=134) (by kernel_rfl) (show (heap P).lookup 134=some xQ by kernel_rfl) (by kernel_rfl) (by kernel_rfl)
theorem G7:FF (heap P) "is_meeting" (top 18):=aV (f:=141) (by kernel_rfl) (show (heap P).lookup 141=some xP by kernel_rfl) (by kernel_rfl) (by kernel_rfl)
theorem N8:FF (heap P) "is_book" (top 19):=aV (f:=146) (by kernel_rfl) (show (heap P).lookup 146=some Fg by kernel_rfl) (by kernel_rfl) (by kernel_rfl)
theorem O7:FF (heap P) "checked" (top 20):=aV (f:=153) (by kernel_rfl) (show (heap P).lookup 153=some Fo by kernel_rfl) (by kernel_rfl) (by kernel_rfl)
theorem Wc:FF (heap P) "meets" (top 21):=aV (f:=158) (by kernel_rfl) (show (heap P).lookup 158=some Ma by kernel_rfl) (by kernel_rfl) (by kernel_rfl)
theorem Ib:FF (heap P) "meets_any" (top 22):=aV (f:=163) (by kernel_rfl) (show (heap P).lookup 163=some Ad by kernel_rfl) (by kernel_rfl) (by kernel_rfl)
theorem RD:FF (heap P) "is_row" (top 25):=aV (f:=178) (by kernel_rfl) (show (heap P).lookup 178=some Ja by kernel_rfl) (by kernel_rfl) (by kernel_rfl)
theorem Ng:FF (heap P) "is_test" (top 26):=aV (f:=185) (by kernel_rfl) (show (heap P).lookup 185=some Fj by kernel_rfl) (by kernel_rfl) (by kernel_rfl)
theorem Dt:FL (heap P) "check_tests" (top 28):=acK (f:=199) (by kernel_rfl) (show (heap P).lookup 199=some vN by kernel_rfl) (by kernel_rfl) (by kernel_rfl) (by kernel_rfl)
theorem Bp:FF (heap P) "most_strength" (top 30):=aV (f:=206) (by kernel_rfl) (show (heap P).lookup 206=some sS by kernel_rfl) (by kernel_rfl) (by kernel_rfl)
theorem oO:FF (heap P) "check_book_and_strength" (top 31):=aV (f:=213) (by kernel_rfl) (show (heap P).lookup 213=some ju by kernel_rfl) (by kernel_rfl) (by kernel_rfl)
theorem Cz:FF (heap P) "all_meetings" (top 37):=aV (f:=251) (by kernel_rfl) (show (heap P).lookup 251=some uH by kernel_rfl) (by kernel_rfl) (by kernel_rfl)
theorem KR:FF (heap P) "possible" (top 38):=aV (f:=258) (by kernel_rfl) (show (heap P).lookup 258=some CK by kernel_rfl) (by kernel_rfl) (by kernel_rfl)
theorem GC:FF (heap P) "impossible" (top 39):=aV (f:=263) (by kernel_rfl) (show (heap P).lookup 263=some yp by kernel_rfl) (by kernel_rfl) (by kernel_rfl)
theorem Io:FF (heap P) "check_all" (top 41):=aV (f:=270) (by kernel_rfl) (show (heap P).lookup 270=some zq by kernel_rfl) (by kernel_rfl) (by kernel_rfl)
theorem NQ:FF (heap P) "missing" (top 42):=aV (f:=275) (by kernel_rfl) (show (heap P).lookup 275=some Fp by kernel_rfl) (by kernel_rfl) (by kernel_rfl)
theorem Lh:FF (heap P) "is_cover" (top 43):=aV (f:=282) (by kernel_rfl) (show (heap P).lookup 282=some CZ by kernel_rfl) (by kernel_rfl) (by kernel_rfl)
theorem Lj:FF (heap P) "needless" (top 46):=aV (f:=299) (by kernel_rfl) (show (heap P).lookup 299=some Cd by kernel_rfl) (by kernel_rfl) (by kernel_rfl)
theorem Ol:FF (heap P) "trimmed" (top 48):=aV (f:=313) (by kernel_rfl) (show (heap P).lookup 313=some Gb by kernel_rfl) (by kernel_rfl) (by kernel_rfl)
theorem Kw:FF (heap P) "in_order" (top 52):=aV (f:=339) (by kernel_rfl) (show (heap P).lookup 339=some Bw by kernel_rfl) (by kernel_rfl) (by kernel_rfl)
theorem UG:FF (heap P) "built" (top 54):=aV (f:=346) (by kernel_rfl) (show (heap P).lookup 346=some LK by kernel_rfl) (by kernel_rfl) (by kernel_rfl)
theorem K7:FF (heap P) "suspects" (top 57):=aV (f:=356) (by kernel_rfl) (show (heap P).lookup 356=some Ca by kernel_rfl) (by kernel_rfl) (by kernel_rfl)
theorem Ob:FF (heap P) "blurred" (top 60):=aV (f:=375) (by kernel_rfl) (show (heap P).lookup 375=some FN by kernel_rfl) (by kernel_rfl) (by kernel_rfl)
theorem Di:FF (heap P) "most_looked" (top 62):=aV (f:=387) (by kernel_rfl) (show (heap P).lookup 387=some vL by kernel_rfl) (by kernel_rfl) (by kernel_rfl)
theorem Ds:FF (heap P) "small_tests" (top 65):=aV (f:=394) (by kernel_rfl) (show (heap P).lookup 394=some vM by kernel_rfl) (by kernel_rfl) (by kernel_rfl)
theorem vV:FF (heap P) "meetings_by_mask" (top 68):=aV (f:=415) (by kernel_rfl) (show (heap P).lookup 415=some nY by kernel_rfl) (by kernel_rfl) (by kernel_rfl)
theorem Qj:FF (heap P) "fewest" (top 76):=aV (f:=463) (by kernel_rfl) (show (heap P).lookup 463=some Jx by kernel_rfl) (by kernel_rfl) (by kernel_rfl)
theorem Vr:FF (heap P) "apart" (top 81):=aV (f:=494) (by kernel_rfl) (show (heap P).lookup 494=some M5 by kernel_rfl) (by kernel_rfl) (by kernel_rfl)
theorem Yb:FF (heap P) "kept" (top 86):=aV (f:=511) (by kernel_rfl) (show (heap P).lookup 511=some QW by kernel_rfl) (by kernel_rfl) (by kernel_rfl)
theorem Vj:FF (heap P) "paper" (top 91):=aV (f:=532) (by kernel_rfl) (show (heap P).lookup 532=some Mx by kernel_rfl) (by kernel_rfl) (by kernel_rfl)
theorem Le:FF (heap P) "is_paper" (top 96):=aV (f:=595) (by kernel_rfl) (show (heap P).lookup 595=some CV by kernel_rfl) (by kernel_rfl) (by kernel_rfl)
theorem Jt:FF (heap P) "_law_cell" (top 98):=aV (f:=602) (by kernel_rfl) (show (heap P).lookup 602=some zZ by kernel_rfl) (by kernel_rfl) (by kernel_rfl)
theorem K5:FF (heap P) "_law_mix" (top 99):=aV (f:=609) (by kernel_rfl) (show (heap P).lookup 609=some BZ by kernel_rfl) (by kernel_rfl) (by kernel_rfl)
theorem IW:FF (heap P) "_law_book" (top 100):=aV (f:=614) (by kernel_rfl) (show (heap P).lookup 614=some zu by kernel_rfl) (by kernel_rfl) (by kernel_rfl)
theorem Iu:FF (heap P) "_law_rows" (top 101):=aV (f:=619) (by kernel_rfl) (show (heap P).lookup 619=some Aa by kernel_rfl) (by kernel_rfl) (by kernel_rfl)
theorem GP:FF (heap P) "_law_meets" (top 102):=aV (f:=624) (by kernel_rfl) (show (heap P).lookup 624=some xG by kernel_rfl) (by kernel_rfl) (by kernel_rfl)
theorem G8:FF (heap P) "_law_tests" (top 103):=aV (f:=629) (by kernel_rfl) (show (heap P).lookup 629=some yr by kernel_rfl) (by kernel_rfl) (by kernel_rfl)
theorem G6:FF (heap P) "_law_drawn" (top 104):=aV (f:=636) (by kernel_rfl) (show (heap P).lookup 636=some xO by kernel_rfl) (by kernel_rfl) (by kernel_rfl)
theorem vZ:FF (heap P) "_law_by_strength" (top 105):=aV (f:=643) (by kernel_rfl) (show (heap P).lookup 643=some nO by kernel_rfl) (by kernel_rfl) (by kernel_rfl)
theorem Hz:FF (heap P) "_law_more" (top 106):=aV (f:=650) (by kernel_rfl) (show (heap P).lookup 650=some Ae by kernel_rfl) (by kernel_rfl) (by kernel_rfl)
theorem Br:FF (heap P) "_law_by_tests" (top 107):=aV (f:=657) (by kernel_rfl) (show (heap P).lookup 657=some rO by kernel_rfl) (by kernel_rfl) (by kernel_rfl)
theorem Ir:FF (heap P) "_law_told" (top 108):=aV (f:=664) (by kernel_rfl) (show (heap P).lookup 664=some Ag by kernel_rfl) (by kernel_rfl) (by kernel_rfl)
theorem QZ:FF (heap P) "law" (top 109):=aV (f:=669) (by kernel_rfl) (show (heap P).lookup 669=some o_law by kernel_rfl) (by kernel_rfl) (by kernel_rfl)
theorem DQ:GF (heap P) "MOST_THINGS" (.int 6):=rZ (t:=314) (by kernel_rfl)
theorem Bj:GF (heap P) "MOST_SETTINGS" (.int 4):=rZ (t:=316) (by kernel_rfl)
theorem J0:GF (heap P) "MOST_ROWS" (.int 400):=rZ (t:=318) (by kernel_rfl)
theorem J9:GF (heap P) "MOST_BANS" (.int 12):=rZ (t:=320) (by kernel_rfl)
theorem xZ:GF (heap P) "MOST_IN_MEETING" (.int 3):=rZ (t:=322) (by kernel_rfl)
theorem Hf:GF (heap P) "MOST_TESTS" (.int 24):=rZ (t:=702) (by kernel_rfl)
theorem Eb:GF (heap P) "MOST_IN_ROW" (.int 99):=rZ (t:=847) (by kernel_rfl)
theorem JH:GF (heap P) "MOST_MANY" (.int 30):=rZ (t:=873) (by kernel_rfl)
theorem bl:∀ f∈mK,PySem.W.nsIn (heap P) mainGlobals f=some none:=by
 intro f hf;simp only [mK,List.mem_cons,List.not_mem_nil,or_false] at hf;rcases hf with rfl | rfl | rfl | rfl | rfl | rfl | rfl | rfl | rfl | rfl | rfl | rfl | rfl | rfl | rfl | rfl <;> kernel_rfl
theorem xf:xfB (heap P) cs hs ks=true:=by kernel_rfl
end E02
open PySem PySem.W PyProof.Rows
set_option maxRecDepth 100000 in
set_option maxHeartbeats 0 in
theorem PySem.Challenge.cw_pairtests_k02_strengths_and_tests_holds : PySem.Challenge.rw_pairtests_k02_strengths_and_tests.Holds := by
 w_on;o_law
 refine PySem.W.holds_open (q:=E02.view) (loose:=[]) (Xt:=fun s=>PySem.W.xlAt E02.view [] s && PySem.W.recOk (PySem.W.RowW.records (PySem.W.OpenRow.toRowW PySem.Challenge.rw_pairtests_k02_strengths_and_tests.row)) s) (XP:=XL E02.view []) (Yf:=Hook.obs E02.hook) (Ya:=Hook.val E02.hook) (YP:=Hook.says E02.hook) (N:=9016) E02.left (Hook.of E02.hook) (Hook.keeps E02.hook) (fun s e=>xl_of s (Bool.and_eq_true_iff.mp e).1) XL.keeps (by rfl) (by rfl) (by rfl) (fun s e=>recFacts_of (Bool.and_eq_true_iff.mp e).2) (by rfl) (by first | assumption | decide +kernel) (by decide +kernel) ⟨rfl,rfl,rfl,rfl,rfl,by decide +kernel⟩ ?hw ?hc
 (case hw=>w_witness2)
 exact Mi.abW (l:=PySem.Challenge.rw_pairtests_k02_strengths_and_tests) (T:=E02.T) (xtt:=E02.xtt) (tab:=E02.tab) (xt:=E02.au) (n:=30) (fl:=45) (par:="_law_script") (N:=["_law_script","_law_book_here","_law_odd","_law_sort","_law_ways","_law_tests_here","_law_at","_law_some","_law_bad","_law_due","_law_way","_law_row"]) (st:=E02.top 109) rfl rfl ⟨rfl,by decide,by decide⟩ rfl rfl E02.Rv (fun w h Y=>Y) (fun p=>Mi.acn (E02.kcl p)) (fun w s₀ mg mb h G Y=>Mi.tab_of E02.recs G) (fun w mg h KX G=>E02.pr KX G (E02.Lf w.params) (E02.K8 w.params) (E02.GK w.params) (E02.Gs w.params) (E02.G7 w.params) (E02.N8 w.params) (E02.O7 w.params) (E02.Wc w.params) (E02.Ib w.params) (E02.RD w.params) (E02.Ng w.params) (E02.Dt w.params) (E02.Bp w.params) (E02.oO w.params) (E02.Cz w.params) (E02.KR w.params) (E02.GC w.params) (E02.Io w.params) (E02.NQ w.params) (E02.Lh w.params) (E02.Lj w.params) (E02.Ol w.params) (E02.Kw w.params) (E02.UG w.params) (E02.K7 w.params) (E02.Ob w.params) (E02.Di w.params) (E02.Ds w.params) (E02.vV w.params) (E02.Qj w.params) (E02.Vr w.params) (E02.Yb w.params) (E02.Vj w.params) (E02.Le w.params) (E02.Jt w.params) (E02.K5 w.params) (E02.IW w.params) (E02.Iu w.params) (E02.GP w.params) (E02.G8 w.params) (E02.G6 w.params) (E02.vZ w.params) (E02.Hz w.params) (E02.Br w.params) (E02.Ir w.params) (E02.QZ w.params) (E02.G4 w.params) (E02.Xp w.params) (E02.DQ w.params) (E02.Bj w.params) (E02.J0 w.params) (E02.J9 w.params) (E02.xZ w.params) (E02.Hf w.params) (E02.Eb w.params) (E02.JH w.params) (E02.bl w.params) (E02.xf w.params)) (fun w=>E02.QZ w.params) (fun _ _ _ _ _ _ _=>rfl) E02.U7
