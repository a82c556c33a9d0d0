import PyProof.Rows.All
import Wide.All
import OpenK.AllK
import Wide.FinOn
import Lean
import PyProof.EqAt
import PyProof.EqKinds
import PyProof.TupleCall
import PyProof.NeKinds
import PyProof.DictRoadsH
import PyProof.CompFree
import PyProof.CompUse
import KE.KDictSum
import PyProof.Draws
import PyProof.EnumMake
import PyProof.EnumFor
import KE.KSortTup
import PyProof.TupleOfSeq
import KE.LcSums
import PyProof.ZipIter
import KE.KRevIter
import KE.KStateDown
import PyProof.ListRange
import KE.KLam
import PySem.Challenge.RW_pairtests_k05_missing
set_option Elab.async false
set_option linter.all false
set_option bootstrap.genMatcherCode false
set_option maxRecDepth 100000
set_option maxHeartbeats 4000000
namespace L2
open PySem PySem.Spec PyProof.Rows
noncomputable def fC (s:Stmt):Arguments:=match s with
 | .FunctionDef _ a _ _ _ _ _ _ _ _=>a
 | _=>{ posonlyargs:=[],args:=[],vararg:=none,kwonlyargs:=[],kw_defaults:=[],kwarg:=none,defaults:=[] }
noncomputable def cY (s:Stmt):List Stmt:=match s with
 | .FunctionDef _ _ b _ _ _ _ _ _ _=>b
 | _=>[]
noncomputable def aX (s:Stmt):Scope:=match s with
 | .FunctionDef _ _ _ _ _ _ sc _ _ _=>sc
 | _=>{ kind:=.function,names:=[],isGenerator:=false,isCoroutine:=false }
end L2
namespace Mi
open PySem L2
noncomputable abbrev gS (x:String) (k:Nat):Value:=.str (Str.ofString x) k
noncomputable abbrev gE (P:Params) (x:String) (k:Nat) (v:Value):DictEntry:=⟨PyData.keyHash P (Str.ofString x),.str (Str.ofString x) k,v⟩
noncomputable abbrev gF (st : Stmt) (x : String) (kV doc pm : Value) (an : Option Addr) (cdv ct : Value) (sl : Array (Option Value)) : Obj:=⟨.type "function", none, .func (PySem.W.fnOf x x (fC st) (cY st) (aX st) .none kV doc pm an cdv ct), sl⟩
end Mi
namespace E05
open PySem L2 Mi
noncomputable def top (i:Nat):Stmt:=PySem.Challenge.pw_pairtests_k05_missing.main.body.getD i (.Pass ⟨0,0,0,0⟩)
noncomputable def view:Program:={ PySem.Challenge.pw_pairtests_k05_missing with main:={ PySem.Challenge.pw_pairtests_k05_missing.main with body:=[top 1,top 2,top 3,top 4,top 6,top 7,top 8,top 9,top 10,top 11,top 12,top 13,top 14,top 15,top 16,top 17,top 18,top 19,top 20,top 21,top 22,top 23,top 24,top 25,top 27,top 28,top 29,top 30,top 31,top 32,top 33,top 35,top 36,top 37,top 38,top 39,top 40,top 41,top 42,top 44,top 45,top 46,top 47,top 48,top 49,top 50,top 51,top 52,top 53,top 54,top 55] } }
noncomputable def yV : Obj:=gF (top 11) "is_whole" .none .none (gS "pairtests.books" 264) none (.ref 76) .none #[]
noncomputable def z9 : Obj:=gF (top 12) "is_tuple" .none .none (gS "pairtests.books" 264) none (.ref 83) .none #[]
noncomputable def vB : Obj:=gF (top 13) "are_levels" .none .none (gS "pairtests.books" 264) none (.ref 90) .none #[]
noncomputable def vd : Obj:=gF (top 14) "is_setting" .none .none (gS "pairtests.books" 264) none (.ref 97) .none #[]
noncomputable def u9 : Obj:=gF (top 15) "is_meeting" .none .none (gS "pairtests.books" 264) none (.ref 104) .none #[]
noncomputable def CQ : Obj:=gF (top 16) "is_book" .none .none (gS "pairtests.books" 264) none (.ref 109) .none #[]
noncomputable def Cw : Obj:=gF (top 17) "checked" .none .none (gS "pairtests.books" 264) none (.ref 116) .none #[]
noncomputable def J2 : Obj:=gF (top 18) "meets" .none .none (gS "pairtests.books" 264) none (.ref 121) .none #[]
noncomputable def xM : Obj:=gF (top 19) "meets_any" .none .none (gS "pairtests.books" 264) none (.ref 126) .none #[]
noncomputable def Ac : Obj:=gF (top 20) "all_rows" .none .none (gS "pairtests.books" 264) none (.ref 131) .none #[]
noncomputable def xQ : Obj:=gF (top 21) "all_tests" .none .none (gS "pairtests.books" 264) none (.ref 136) .none #[]
noncomputable def Hz : Obj:=gF (top 22) "is_row" .none .none (gS "pairtests.books" 264) none (.ref 141) .none #[]
noncomputable def CZ : Obj:=gF (top 23) "is_test" .none .none (gS "pairtests.books" 264) none (.ref 148) .none #[]
noncomputable def uM : Obj:=gF (top 24) "check_list" .none .none (gS "pairtests.books" 264) none (.ref 155) .none #[]
noncomputable def uq : Obj:=gF (top 25) "check_tests" .none .none (gS "pairtests.books" 264) none (.ref 162) .none #[]
noncomputable def oU : Obj:=gF (top 27) "most_strength" .none .none (gS "pairtests.meetings" 391) none (.ref 169) .none #[]
noncomputable def gM : Obj:=gF (top 28) "check_book_and_strength" .none .none (gS "pairtests.meetings" 391) none (.ref 176) .none #[]
noncomputable def xg : Obj:=gF (top 29) "is_behind" .none .none (gS "pairtests.meetings" 391) none (.ref 183) .none #[]
noncomputable def oF : Obj:=gF (top 30) "meetings_among" .none .none (gS "pairtests.meetings" 391) none (.ref 188) .none #[]
noncomputable def uh : Obj:=gF (top 31) "meetings_of" .none .none (gS "pairtests.meetings" 391) none (.ref 195) .none #[]
noncomputable def Hi : Obj:=gF (top 32) "met_by" .none .none (gS "pairtests.meetings" 391) none (.ref 202) .none #[]
noncomputable def Af : Obj:=gF (top 33) "possible" .none .none (gS "pairtests.meetings" 391) none (.ref 209) .none #[]
noncomputable def xT : Obj:=gF (top 35) "check_all" .none .none (gS "pairtests.covers" 449) none (.ref 216) .none #[]
noncomputable def Ck : Obj:=gF (top 36) "missing" .none .none (gS "pairtests.covers" 449) none (.ref 221) .none #[]
noncomputable def Av : Obj:=gF (top 37) "is_cover" .none .none (gS "pairtests.covers" 449) none (.ref 228) .none #[]
noncomputable def xR : Obj:=gF (top 38) "times_met" .none .none (gS "pairtests.covers" 449) none (.ref 235) .none #[]
noncomputable def rJ : Obj:=gF (top 39) "meet_without" .none .none (gS "pairtests.covers" 449) none (.ref 240) .none #[]
noncomputable def Am : Obj:=gF (top 40) "needless" .none .none (gS "pairtests.covers" 449) none (.ref 245) .none #[]
noncomputable def u0 : Obj:=gF (top 41) "count_less" .none .none (gS "pairtests.covers" 449) none (.ref 252) .none #[]
noncomputable def Cj : Obj:=gF (top 42) "trimmed" .none .none (gS "pairtests.covers" 449) none (.ref 259) .none #[]
noncomputable def xJ : Obj:=gF (top 44) "_law_cell" .none .none (gS "law_pairtests_k05_missing" 520) none (.ref 266) .none #[]
noncomputable def zy : Obj:=gF (top 45) "_law_mix" .none .none (gS "law_pairtests_k05_missing" 520) none (.ref 273) .none #[]
noncomputable def xq : Obj:=gF (top 46) "_law_book" .none .none (gS "law_pairtests_k05_missing" 520) none (.ref 278) .none #[]
noncomputable def xO : Obj:=gF (top 47) "_law_rows" .none .none (gS "law_pairtests_k05_missing" 520) none (.ref 283) .none #[]
noncomputable def vg : Obj:=gF (top 48) "_law_meets" .none .none (gS "law_pairtests_k05_missing" 520) none (.ref 288) .none #[]
noncomputable def uG : Obj:=gF (top 49) "_law_tests" .none .none (gS "law_pairtests_k05_missing" 520) none (.ref 293) .none #[]
noncomputable def o9 : Obj:=gF (top 50) "_law_meetings" .none .none (gS "law_pairtests_k05_missing" 520) none (.ref 298) .none #[]
noncomputable def o7 : Obj:=gF (top 51) "_law_possible" .none .none (gS "law_pairtests_k05_missing" 520) none (.ref 303) .none #[]
noncomputable def w6 : Obj:=gF (top 52) "_law_left" .none .none (gS "law_pairtests_k05_missing" 520) none (.ref 308) .none #[]
noncomputable def uH : Obj:=gF (top 53) "_law_drawn" .none .none (gS "law_pairtests_k05_missing" 520) none (.ref 315) .none #[]
noncomputable def pC : Obj:=gF (top 54) "_law_strength" .none .none (gS "law_pairtests_k05_missing" 520) none (.ref 322) .none #[]
noncomputable def o_law : Obj:=gF (top 55) "law" .none .none (gS "law_pairtests_k05_missing" 520) none (.ref 329) .none #[]
noncomputable def heap (P : Params) : PySem.W.Frag:=[(3, ⟨.type "dict", none, .dict #[gE P "__name__" 165 (gS "law_pairtests_k05_missing" 520), gE P "__doc__" 166 .none, gE P "__package__" 167 .none, gE P "__loader__" 168 (.builtin "__main__.__loader__#opaque"), gE P "__spec__" 169 .none, gE P "__annotations__" 170 (.ref 6), gE P "__builtins__" 171 (.ref 4), gE P "__file__" 173 (gS "/claim/cut.py" 172), gE P "__cached__" 174 .none, gE P "TestError" 206 (.ref 24), gE P "BadBook" 222 (.ref 37), gE P "BadStrength" 238 (.ref 49), gE P "BadTests" 263 (.ref 68), gE P "MOST_THINGS" 267 (.int 6 266), gE P "MOST_SETTINGS" 269 (.int 4 268), gE P "MOST_ROWS" 271 (.int 400 270), gE P "MOST_BANS" 273 (.int 12 272), gE P "MOST_IN_MEETING" 275 (.int 3 274), gE P "is_whole" 284 (.ref 77), gE P "is_tuple" 293 (.ref 84), gE P "are_levels" 302 (.ref 91), gE P "is_setting" 310 (.ref 98), gE P "is_meeting" 320 (.ref 105), gE P "is_book" 326 (.ref 110), gE P "checked" 333 (.ref 117), gE P "meets" 339 (.ref 122), gE P "meets_any" 345 (.ref 127), gE P "all_rows" 351 (.ref 132), gE P "all_tests" 357 (.ref 137), gE P "is_row" 363 (.ref 142), gE P "is_test" 371 (.ref 149), gE P "check_list" 381 (.ref 156), gE P "check_tests" 390 (.ref 163), gE P "most_strength" 399 (.ref 170), gE P "check_book_and_strength" 407 (.ref 177), gE P "is_behind" 415 (.ref 184), gE P "meetings_among" 421 (.ref 189), gE P "meetings_of" 429 (.ref 196), gE P "met_by" 440 (.ref 203), gE P "possible" 448 (.ref 210), gE P "check_all" 459 (.ref 217), gE P "missing" 465 (.ref 222), gE P "is_cover" 474 (.ref 229), gE P "times_met" 485 (.ref 236), gE P "meet_without" 491 (.ref 241), gE P "needless" 497 (.ref 246), gE P "count_less" 506 (.ref 253), gE P "trimmed" 519 (.ref 260), gE P "_law_cell" 529 (.ref 267), gE P "_law_mix" 538 (.ref 274), gE P "_law_book" 544 (.ref 279), gE P "_law_rows" 550 (.ref 284), gE P "_law_meets" 556 (.ref 289), gE P "_law_tests" 562 (.ref 294), gE P "_law_meetings" 568 (.ref 299), gE P "_law_possible" 574 (.ref 304), gE P "_law_left" 580 (.ref 309), gE P "_law_drawn" 593 (.ref 316), gE P "_law_strength" 601 (.ref 323), gE P "law" 618 (.ref 330)] 60, #[]⟩), (23, ⟨(.type "dict"), none, .dict #[gE P "__module__" 196 (gS "pairtests.errors" 187), gE P "__firstlineno__" 200 (.int 2 199), gE P "__static_attributes__" 201 (.ref 22), gE P "__weakref__" 203 (.ref 25), gE P "__doc__" 204 .none] 3, #[]⟩), (24, ⟨(.type "type"), none, .cls { name:=(Str.ofString "TestError"), bases:=[(.type "ValueError")], mro:=[(.ref 24), (.type "ValueError"), (.type "Exception"), (.type "BaseException"), (.type "object")], ns:=23, qualname:=(Str.ofString "TestError"), hasDict:=true, slotNames:=[], subclasses:=[(.ref 37), (.ref 49), (.ref 68)], abstract:=false, collection:=none, hasDel:=false }, #[some (.ref 15), none, some (gS "TestError" 189), some (gS "TestError" 197), some (.builtin "ValueError.__new__"), some (.bool true)]⟩), (76, ⟨.type "code", none, .fields #[(gS "is_whole" 276), (gS "is_whole" 277), (gS "/claim/cut.py" 278), (.int 19 0), (.int 3 0), (.int 0 0), (.int 0 0), (.int 3 0), (.ref 71), (.bool true), (.int 181 0), (.ref 72), .none, (.ref 73), (.ref 74), (.ref 75), (.int 282 0), (.int 19 0), (gS "/claim/cut.py" 283)], #[]⟩), (77, yV), (83, ⟨.type "code", none, .fields #[(gS "is_tuple" 285), (gS "is_tuple" 286), (gS "/claim/cut.py" 287), (.int 21 0), (.int 3 0), (.int 0 0), (.int 0 0), (.int 3 0), (.ref 78), (.bool true), (.int 181 0), (.ref 79), .none, (.ref 80), (.ref 81), (.ref 82), (.int 291 0), (.int 21 0), (gS "/claim/cut.py" 292)], #[]⟩), (84, z9), (90, ⟨.type "code", none, .fields #[(gS "are_levels" 294), (gS "are_levels" 295), (gS "/claim/cut.py" 296), (.int 23 0), (.int 1 0), (.int 0 0), (.int 0 0), (.int 3 0), (.ref 85), (.bool true), (.int 181 0), (.ref 86), .none, (.ref 87), (.ref 88), (.ref 89), (.int 300 0), (.int 23 0), (gS "/claim/cut.py" 301)], #[]⟩), (91, vB), (97, ⟨.type "code", none, .fields #[(gS "is_setting" 303), (gS "is_setting" 304), (gS "/claim/cut.py" 305), (.int 32 0), (.int 2 0), (.int 0 0), (.int 0 0), (.int 3 0), (.ref 92), (.bool true), (.int 181 0), (.ref 93), .none, (.ref 94), (.ref 95), (.ref 96), (.int 308 0), (.int 32 0), (gS "/claim/cut.py" 309)], #[]⟩), (98, vd), (104, ⟨.type "code", none, .fields #[(gS "is_meeting" 311), (gS "is_meeting" 312), (gS "/claim/cut.py" 313), (.int 36 0), (.int 2 0), (.int 0 0), (.int 0 0), (.int 3 0), (.ref 99), (.bool true), (.int 181 0), (.ref 100), .none, (.ref 101), (.ref 102), (.ref 103), (.int 318 0), (.int 36 0), (gS "/claim/cut.py" 319)], #[]⟩), (105, u9), (109, ⟨.type "code", none, .fields #[(gS "is_book" 321), (gS "is_book" 322), (gS "/claim/cut.py" 323), (.int 45 0), (.int 1 0), (.int 0 0), (.int 0 0), (.int 3 0), (.ref 106), (.bool true), (.int 181 0), (.ref 107), .none, .none, .none, (.ref 108), (.int 324 0), (.int 45 0), (gS "/claim/cut.py" 325)], #[]⟩), (110, CQ), (116, ⟨.type "code", none, .fields #[(gS "checked" 327), (gS "checked" 328), (gS "/claim/cut.py" 329), (.int 49 0), (.int 1 0), (.int 0 0), (.int 0 0), (.int 3 0), (.ref 111), (.bool true), (.int 181 0), (.ref 112), .none, (.ref 113), (.ref 114), (.ref 115), (.int 331 0), (.int 49 0), (gS "/claim/cut.py" 332)], #[]⟩), (117, Cw), (121, ⟨.type "code", none, .fields #[(gS "meets" 334), (gS "meets" 335), (gS "/claim/cut.py" 336), (.int 53 0), (.int 2 0), (.int 0 0), (.int 0 0), (.int 3 0), (.ref 118), (.bool true), (.int 181 0), (.ref 119), .none, .none, .none, (.ref 120), (.int 337 0), (.int 53 0), (gS "/claim/cut.py" 338)], #[]⟩), (122, J2), (126, ⟨.type "code", none, .fields #[(gS "meets_any" 340), (gS "meets_any" 341), (gS "/claim/cut.py" 342), (.int 55 0), (.int 2 0), (.int 0 0), (.int 0 0), (.int 3 0), (.ref 123), (.bool true), (.int 181 0), (.ref 124), .none, .none, .none, (.ref 125), (.int 343 0), (.int 55 0), (gS "/claim/cut.py" 344)], #[]⟩), (127, xM), (131, ⟨.type "code", none, .fields #[(gS "all_rows" 346), (gS "all_rows" 347), (gS "/claim/cut.py" 348), (.int 57 0), (.int 1 0), (.int 0 0), (.int 0 0), (.int 3 0), (.ref 128), (.bool true), (.int 181 0), (.ref 129), .none, .none, .none, (.ref 130), (.int 349 0), (.int 57 0), (gS "/claim/cut.py" 350)], #[]⟩), (132, Ac), (136, ⟨.type "code", none, .fields #[(gS "all_tests" 352), (gS "all_tests" 353), (gS "/claim/cut.py" 354), (.int 65 0), (.int 1 0), (.int 0 0), (.int 0 0), (.int 3 0), (.ref 133), (.bool true), (.int 181 0), (.ref 134), .none, .none, .none, (.ref 135), (.int 355 0), (.int 65 0), (gS "/claim/cut.py" 356)], #[]⟩), (137, xQ), (141, ⟨.type "code", none, .fields #[(gS "is_row" 358), (gS "is_row" 359), (gS "/claim/cut.py" 360), (.int 68 0), (.int 2 0), (.int 0 0), (.int 0 0), (.int 3 0), (.ref 138), (.bool true), (.int 181 0), (.ref 139), .none, .none, .none, (.ref 140), (.int 361 0), (.int 68 0), (gS "/claim/cut.py" 362)], #[]⟩), (142, Hz), (148, ⟨.type "code", none, .fields #[(gS "is_test" 364), (gS "is_test" 365), (gS "/claim/cut.py" 366), (.int 72 0), (.int 2 0), (.int 0 0), (.int 0 0), (.int 3 0), (.ref 143), (.bool true), (.int 181 0), (.ref 144), .none, (.ref 145), (.ref 146), (.ref 147), (.int 369 0), (.int 72 0), (gS "/claim/cut.py" 370)], #[]⟩), (149, CZ), (155, ⟨.type "code", none, .fields #[(gS "check_list" 372), (gS "check_list" 373), (gS "/claim/cut.py" 374), (.int 74 0), (.int 2 0), (.int 0 0), (.int 0 0), (.int 3 0), (.ref 150), (.bool true), (.int 181 0), (.ref 151), .none, (.ref 152), (.ref 153), (.ref 154), (.int 379 0), (.int 74 0), (gS "/claim/cut.py" 380)], #[]⟩), (156, uM), (162, ⟨.type "code", none, .fields #[(gS "check_tests" 382), (gS "check_tests" 383), (gS "/claim/cut.py" 384), (.int 80 0), (.int 2 0), (.int 0 0), (.int 0 0), (.int 3 0), (.ref 157), (.bool true), (.int 181 0), (.ref 158), .none, (.ref 159), (.ref 160), (.ref 161), (.int 388 0), (.int 80 0), (gS "/claim/cut.py" 389)], #[]⟩), (163, uq), (169, ⟨.type "code", none, .fields #[(gS "most_strength" 393), (gS "most_strength" 394), (gS "/claim/cut.py" 395), (.int 83 0), (.int 1 0), (.int 0 0), (.int 0 0), (.int 3 0), (.ref 164), (.bool true), (.int 181 0), (.ref 165), .none, (.ref 166), (.ref 167), (.ref 168), (.int 397 0), (.int 83 0), (gS "/claim/cut.py" 398)], #[]⟩), (170, oU), (176, ⟨.type "code", none, .fields #[(gS "check_book_and_strength" 400), (gS "check_book_and_strength" 401), (gS "/claim/cut.py" 402), (.int 85 0), (.int 2 0), (.int 0 0), (.int 0 0), (.int 3 0), (.ref 171), (.bool true), (.int 181 0), (.ref 172), .none, (.ref 173), (.ref 174), (.ref 175), (.int 405 0), (.int 85 0), (gS "/claim/cut.py" 406)], #[]⟩), (177, gM), (183, ⟨.type "code", none, .fields #[(gS "is_behind" 408), (gS "is_behind" 409), (gS "/claim/cut.py" 410), (.int 89 0), (.int 2 0), (.int 0 0), (.int 0 0), (.int 3 0), (.ref 178), (.bool true), (.int 181 0), (.ref 179), .none, (.ref 180), (.ref 181), (.ref 182), (.int 413 0), (.int 89 0), (gS "/claim/cut.py" 414)], #[]⟩), (184, xg), (188, ⟨.type "code", none, .fields #[(gS "meetings_among" 416), (gS "meetings_among" 417), (gS "/claim/cut.py" 418), (.int 91 0), (.int 2 0), (.int 0 0), (.int 0 0), (.int 3 0), (.ref 185), (.bool true), (.int 181 0), (.ref 186), .none, .none, .none, (.ref 187), (.int 419 0), (.int 91 0), (gS "/claim/cut.py" 420)], #[]⟩), (189, oF), (195, ⟨.type "code", none, .fields #[(gS "meetings_of" 422), (gS "meetings_of" 423), (gS "/claim/cut.py" 424), (.int 99 0), (.int 2 0), (.int 0 0), (.int 0 0), (.int 3 0), (.ref 190), (.bool true), (.int 181 0), (.ref 191), .none, (.ref 192), (.ref 193), (.ref 194), (.int 427 0), (.int 99 0), (gS "/claim/cut.py" 428)], #[]⟩), (196, uh), (202, ⟨.type "code", none, .fields #[(gS "met_by" 430), (gS "met_by" 431), (gS "/claim/cut.py" 432), (.int 101 0), (.int 2 0), (.int 0 0), (.int 0 0), (.int 3 0), (.ref 197), (.bool true), (.int 181 0), (.ref 198), .none, (.ref 199), (.ref 200), (.ref 201), (.int 438 0), (.int 101 0), (gS "/claim/cut.py" 439)], #[]⟩), (203, Hi), (209, ⟨.type "code", none, .fields #[(gS "possible" 441), (gS "possible" 442), (gS "/claim/cut.py" 443), (.int 107 0), (.int 2 0), (.int 0 0), (.int 0 0), (.int 3 0), (.ref 204), (.bool true), (.int 181 0), (.ref 205), .none, (.ref 206), (.ref 207), (.ref 208), (.int 446 0), (.int 107 0), (gS "/claim/cut.py" 447)], #[]⟩), (210, Af), (216, ⟨.type "code", none, .fields #[(gS "check_all" 451), (gS "check_all" 452), (gS "/claim/cut.py" 453), (.int 111 0), (.int 3 0), (.int 0 0), (.int 0 0), (.int 3 0), (.ref 211), (.bool true), (.int 181 0), (.ref 212), .none, (.ref 213), (.ref 214), (.ref 215), (.int 457 0), (.int 111 0), (gS "/claim/cut.py" 458)], #[]⟩), (217, xT), (221, ⟨.type "code", none, .fields #[(gS "missing" 460), (gS "missing" 461), (gS "/claim/cut.py" 462), (.int 114 0), (.int 3 0), (.int 0 0), (.int 0 0), (.int 3 0), (.ref 218), (.bool true), (.int 181 0), (.ref 219), .none, .none, .none, (.ref 220), (.int 463 0), (.int 114 0), (gS "/claim/cut.py" 464)], #[]⟩), (222, Ck), (228, ⟨.type "code", none, .fields #[(gS "is_cover" 466), (gS "is_cover" 467), (gS "/claim/cut.py" 468), (.int 118 0), (.int 3 0), (.int 0 0), (.int 0 0), (.int 3 0), (.ref 223), (.bool true), (.int 181 0), (.ref 224), .none, (.ref 225), (.ref 226), (.ref 227), (.int 472 0), (.int 118 0), (gS "/claim/cut.py" 473)], #[]⟩), (229, Av), (235, ⟨.type "code", none, .fields #[(gS "times_met" 475), (gS "times_met" 476), (gS "/claim/cut.py" 477), (.int 120 0), (.int 2 0), (.int 0 0), (.int 0 0), (.int 3 0), (.ref 230), (.bool true), (.int 181 0), (.ref 231), .none, (.ref 232), (.ref 233), (.ref 234), (.int 483 0), (.int 120 0), (gS "/claim/cut.py" 484)], #[]⟩), (236, xR), (240, ⟨.type "code", none, .fields #[(gS "meet_without" 486), (gS "meet_without" 487), (gS "/claim/cut.py" 488), (.int 126 0), (.int 2 0), (.int 0 0), (.int 0 0), (.int 3 0), (.ref 237), (.bool true), (.int 181 0), (.ref 238), .none, .none, .none, (.ref 239), (.int 489 0), (.int 126 0), (gS "/claim/cut.py" 490)], #[]⟩), (241, rJ), (245, ⟨.type "code", none, .fields #[(gS "needless" 492), (gS "needless" 493), (gS "/claim/cut.py" 494), (.int 128 0), (.int 3 0), (.int 0 0), (.int 0 0), (.int 3 0), (.ref 242), (.bool true), (.int 181 0), (.ref 243), .none, .none, .none, (.ref 244), (.int 495 0), (.int 128 0), (gS "/claim/cut.py" 496)], #[]⟩), (246, Am), (252, ⟨.type "code", none, .fields #[(gS "count_less" 498), (gS "count_less" 499), (gS "/claim/cut.py" 500), (.int 132 0), (.int 2 0), (.int 0 0), (.int 0 0), (.int 3 0), (.ref 247), (.bool true), (.int 181 0), (.ref 248), .none, (.ref 249), (.ref 250), (.ref 251), (.int 504 0), (.int 132 0), (gS "/claim/cut.py" 505)], #[]⟩), (253, u0), (259, ⟨.type "code", none, .fields #[(gS "trimmed" 507), (gS "trimmed" 508), (gS "/claim/cut.py" 509), (.int 135 0), (.int 3 0), (.int 0 0), (.int 0 0), (.int 3 0), (.ref 254), (.bool true), (.int 181 0), (.ref 255), .none, (.ref 256), (.ref 257), (.ref 258), (.int 517 0), (.int 135 0), (gS "/claim/cut.py" 518)], #[]⟩), (260, Cj), (266, ⟨.type "code", none, .fields #[(gS "_law_cell" 522), (gS "_law_cell" 523), (gS "/claim/cut.py" 524), (.int 147 0), (.int 2 0), (.int 0 0), (.int 0 0), (.int 3 0), (.ref 261), (.bool true), (.int 181 0), (.ref 262), .none, (.ref 263), (.ref 264), (.ref 265), (.int 527 0), (.int 147 0), (gS "/claim/cut.py" 528)], #[]⟩), (267, xJ), (273, ⟨.type "code", none, .fields #[(gS "_law_mix" 530), (gS "_law_mix" 531), (gS "/claim/cut.py" 532), (.int 151 0), (.int 3 0), (.int 0 0), (.int 0 0), (.int 3 0), (.ref 268), (.bool true), (.int 181 0), (.ref 269), .none, (.ref 270), (.ref 271), (.ref 272), (.int 536 0), (.int 151 0), (gS "/claim/cut.py" 537)], #[]⟩), (274, zy), (278, ⟨.type "code", none, .fields #[(gS "_law_book" 539), (gS "_law_book" 540), (gS "/claim/cut.py" 541), (.int 153 0), (.int 2 0), (.int 0 0), (.int 0 0), (.int 3 0), (.ref 275), (.bool true), (.int 181 0), (.ref 276), .none, .none, .none, (.ref 277), (.int 542 0), (.int 153 0), (gS "/claim/cut.py" 543)], #[]⟩), (279, xq), (283, ⟨.type "code", none, .fields #[(gS "_law_rows" 545), (gS "_law_rows" 546), (gS "/claim/cut.py" 547), (.int 170 0), (.int 1 0), (.int 0 0), (.int 0 0), (.int 3 0), (.ref 280), (.bool true), (.int 181 0), (.ref 281), .none, .none, .none, (.ref 282), (.int 548 0), (.int 170 0), (gS "/claim/cut.py" 549)], #[]⟩), (284, xO), (288, ⟨.type "code", none, .fields #[(gS "_law_meets" 551), (gS "_law_meets" 552), (gS "/claim/cut.py" 553), (.int 178 0), (.int 2 0), (.int 0 0), (.int 0 0), (.int 3 0), (.ref 285), (.bool true), (.int 181 0), (.ref 286), .none, .none, .none, (.ref 287), (.int 554 0), (.int 178 0), (gS "/claim/cut.py" 555)], #[]⟩), (289, vg), (293, ⟨.type "code", none, .fields #[(gS "_law_tests" 557), (gS "_law_tests" 558), (gS "/claim/cut.py" 559), (.int 180 0), (.int 1 0), (.int 0 0), (.int 0 0), (.int 3 0), (.ref 290), (.bool true), (.int 181 0), (.ref 291), .none, .none, .none, (.ref 292), (.int 560 0), (.int 180 0), (gS "/claim/cut.py" 561)], #[]⟩), (294, uG), (298, ⟨.type "code", none, .fields #[(gS "_law_meetings" 563), (gS "_law_meetings" 564), (gS "/claim/cut.py" 565), (.int 186 0), (.int 2 0), (.int 0 0), (.int 0 0), (.int 3 0), (.ref 295), (.bool true), (.int 181 0), (.ref 296), .none, .none, .none, (.ref 297), (.int 566 0), (.int 186 0), (gS "/claim/cut.py" 567)], #[]⟩), (299, o9), (303, ⟨.type "code", none, .fields #[(gS "_law_possible" 569), (gS "_law_possible" 570), (gS "/claim/cut.py" 571), (.int 196 0), (.int 2 0), (.int 0 0), (.int 0 0), (.int 3 0), (.ref 300), (.bool true), (.int 181 0), (.ref 301), .none, .none, .none, (.ref 302), (.int 572 0), (.int 196 0), (gS "/claim/cut.py" 573)], #[]⟩), (304, o7), (308, ⟨.type "code", none, .fields #[(gS "_law_left" 575), (gS "_law_left" 576), (gS "/claim/cut.py" 577), (.int 203 0), (.int 2 0), (.int 0 0), (.int 0 0), (.int 3 0), (.ref 305), (.bool true), (.int 181 0), (.ref 306), .none, .none, .none, (.ref 307), (.int 578 0), (.int 203 0), (gS "/claim/cut.py" 579)], #[]⟩), (309, w6), (315, ⟨.type "code", none, .fields #[(gS "_law_drawn" 581), (gS "_law_drawn" 582), (gS "/claim/cut.py" 583), (.int 209 0), (.int 4 0), (.int 0 0), (.int 0 0), (.int 3 0), (.ref 310), (.bool true), (.int 181 0), (.ref 311), .none, (.ref 312), (.ref 313), (.ref 314), (.int 591 0), (.int 209 0), (gS "/claim/cut.py" 592)], #[]⟩), (316, uH), (322, ⟨.type "code", none, .fields #[(gS "_law_strength" 594), (gS "_law_strength" 595), (gS "/claim/cut.py" 596), (.int 216 0), (.int 2 0), (.int 0 0), (.int 0 0), (.int 3 0), (.ref 317), (.bool true), (.int 181 0), (.ref 318), .none, (.ref 319), (.ref 320), (.ref 321), (.int 599 0), (.int 216 0), (gS "/claim/cut.py" 600)], #[]⟩), (323, pC), (329, ⟨.type "code", none, .fields #[(gS "law" 602), (gS "law" 603), (gS "/claim/cut.py" 604), (.int 218 0), (.int 1 0), (.int 0 0), (.int 0 0), (.int 3 0), (.ref 324), (.bool true), (.int 181 0), (.ref 325), .none, (.ref 326), (.ref 327), (.ref 328), (.int 616 0), (.int 218 0), (gS "/claim/cut.py" 617)], #[]⟩), (330, o_law)]
noncomputable def aaL:List Addr:=[3,23,24,76,77,83,84,90,91,97,98,104,105,109,110,116,117,121,122,126,127,131,132,136,137,141,142,148,149,155,156,162,163,169,170,176,177,183,184,188,189,195,196,202,203,209,210,216,217,221,222,228,229,235,236,240,241,245,246,252,253,259,260,266,267,273,274,278,279,283,284,288,289,293,294,298,299,303,304,308,309,315,316,322,323,329,330]
noncomputable def hook:PySem.W.Hook:=PySem.W.kHook heap aaL (fun _=>rfl)
theorem left:PySem.W.LeftO PySem.Challenge.pw_pairtests_k05_missing view [] (fun s=>PySem.W.xlAt E05.view [] s && PySem.W.recOk (PySem.W.RowW.records (PySem.W.OpenRow.toRowW PySem.Challenge.rw_pairtests_k05_missing.row)) s) (PySem.W.Hook.obs hook) (PySem.W.Hook.val hook) 4474:=fun w=>by kernel_rfl
end E05
set_option genInjectivity false
set_option genSizeOfSpec false
namespace L2
open PySem PySem.Spec PyProof.Rows
noncomputable abbrev Key:=Sum Int Str
noncomputable def Uw:Key→Value→Bool
 | .inl k,v=>Value.isInt k v
 | .inr x,v=>Value.isStrOf x v
noncomputable def aaJ (w:World):Key→Int
 | .inl k=>hashInt k
 | .inr x=>hashStr w x
theorem dw:∀ {k:Key}{v:Value},Uw k v=true→(∃ i t,k=Sum.inl i∧v=Value.int i t)∨(∃ x t,k=Sum.inr x∧v=Value.str x t)
 | .inl i,v,h=>by
  obtain ⟨t,e⟩:=Value.isInt_shape (k:=i) (v:=v) h
  exact .inl ⟨i,t,rfl,e⟩
 | .inr x,v,h=>by
  obtain ⟨t,e⟩:=Value.isStrOf_shape (x:=x) (v:=v) h
  exact .inr ⟨x,t,rfl,e⟩
theorem YL (a b:Int):decide ((Sum.inl a:Key)=Sum.inl b)=(a == b):=by
 by_cases e:a=b
 ·subst e;simp
 ·have h:¬ (Sum.inl a:Key)=Sum.inl b:=fun q=>e (Sum.inl.inj q)
  rw [decide_eq_false h]
  exact (beq_eq_false_iff_ne.mpr e).symm
theorem Xu (a b:Str):decide ((Sum.inr a:Key)=Sum.inr b)=decide (a=b):=by
 by_cases e:a=b
 ·subst e;simp
 ·have h:¬ (Sum.inr a:Key)=Sum.inr b:=fun q=>e (Sum.inr.inj q)
  rw [decide_eq_false h,decide_eq_false e]
theorem Xk (a:Int) (b:Str):decide ((Sum.inl a:Key)=Sum.inr b)=false:=decide_eq_false (fun q=>nomatch q)
theorem XH (a:Str) (b:Int):decide ((Sum.inr a:Key)=Sum.inl b)=false:=decide_eq_false (fun q=>nomatch q)
noncomputable def JV (prog:Program) (w:World):PySem.KeyKind prog w Key where
 is:=Uw
 hash:=aaJ w
 inj:=fun v a b ha hb=>by
  rcases dw ha with ⟨i,t,rfl,rfl⟩ | ⟨x,t,rfl,rfl⟩
  ·rcases dw hb with ⟨j,u,rfl,e⟩ | ⟨y,u,rfl,e⟩
   ·injection e with e1 _;rw [e1]
   ·exact nomatch e
  ·rcases dw hb with ⟨j,u,rfl,e⟩ | ⟨y,u,rfl,e⟩
   ·exact nomatch e
   ·injection e with e1 _;rw [e1]
 byValue:=fun k v h=>by
  rcases dw h with ⟨i,t,rfl,rfl⟩ | ⟨x,t,rfl,rfl⟩ <;> rfl
 pyHash:=fun hv h=>by
  rcases dw hv with ⟨i,t,rfl,rfl⟩ | ⟨x,t,rfl,rfl⟩
  ·exact wpAny_pyHash_int h
  ·exact wpAny_pyHash_str h
 eqBool:=fun hu hv h=>by
  rcases dw hu with ⟨i,t,rfl,rfl⟩ | ⟨x,t,rfl,rfl⟩
  ·rcases dw hv with ⟨j,u,rfl,rfl⟩ | ⟨y,u,rfl,rfl⟩
   ·rw [YL] at h;exact wpAny_eqBool_int h
   ·rw [Xk] at h;exact SeqAt.EqAt.int_str i t y u _ _ _ _ h
  ·rcases dw hv with ⟨j,u,rfl,rfl⟩ | ⟨y,u,rfl,rfl⟩
   ·rw [XH] at h;exact SeqAt.EqAt.str_int x t j u _ _ _ _ h
   ·rw [Xu] at h;exact wpAny_eqBool_str h
 «strs»:=fun k x t v h=>by
  rcases dw h with ⟨i,u,rfl,e⟩ | ⟨y,u,rfl,e⟩
  ·exact nomatch e
  ·injection e with e1 _
   subst e1
   cases v <;> rfl
end L2
namespace L2
open PySem PySem.Spec PyProof.Rows
inductive V where
 | non | bl (b:Bool) | int (i:Int) | str (x:Str) | byt (b:Array UInt8) | flt (b:UInt64) | ref (a:Addr) | ty (n:String)
 deriving DecidableEq
noncomputable def RelV:V→Value→Prop
 | .non,u=>u=Value.none
 | .bl b,u=>u=Value.bool b
 | .int i,u=>∃ t,u=Value.int i t
 | .str x,u=>∃ t,u=Value.str x t
 | .byt b,u=>∃ t,u=Value.bytes b t
 | .flt b,u=>∃ t,u=Value.float b t
 | .ref a,u=>u=Value.ref a
 | .ty n,u=>u=Value.type n
noncomputable abbrev Vals:List V→List Value→Prop:=Paired RelV
theorem Vals.length {xs:List V}{us:List Value} (r:Vals xs us):xs.length=us.length:=Paired.length r
theorem Vals.get:∀ {xs:List V}{us:List Value}{i:Nat}{x:V},Vals xs us→xs[i]?=some x→∃ u,us[i]?=some u∧RelV x u
 | _,_,_,_,.nil,e=>by simp at e
 | _,_,0,_,.cons r _,e=>by simp at e;subst e;exact ⟨_,rfl,r⟩
 | _,_,i+1,x,.cons _ t,e=>by
  obtain ⟨u,h1,h2⟩:=Vals.get (i:=i) (x:=x) t (by simpa using e)
  exact ⟨u,by simpa using h1,h2⟩
theorem Vals.set {x:V}{u:Value} (r:RelV x u):∀ {xs:List V}{us:List Value} (i:Nat),Vals xs us→Vals (xs.set i x) (us.set i u)
 | _,_,_,.nil=>.nil
 | _,_,0,.cons _ t=>.cons r t
 | _,_,i+1,.cons q t=>.cons q (Vals.set r i t)
theorem Vals.append:∀ {xs ys:List V}{us ws:List Value},Vals xs us→Vals ys ws→Vals (xs++ys) (us++ws)
 | _,_,_,_,.nil,s=>s
 | _,_,_,_,.cons r t,s=>.cons r (Vals.append t s)
theorem Vals.take:∀ {xs:List V}{us:List Value} (n:Nat),Vals xs us→Vals (xs.take n) (us.take n)
 | _,_,0,_=>.nil
 | _,_,_+1,.nil=>.nil
 | _,_,n+1,.cons r t=>.cons r (Vals.take n t)
theorem Vals.drop:∀ {xs:List V}{us:List Value} (n:Nat),Vals xs us→Vals (xs.drop n) (us.drop n)
 | _,_,0,r=>r
 | _,_,_+1,.nil=>.nil
 | _,_,n+1,.cons _ t=>Vals.drop n t
noncomputable def SX:Option V→Option Value→Prop
 | some v,some u=>RelV v u
 | none,none=>True
 | _,_=>False
noncomputable def KV {κ:Type}:List (κ × V)→List (κ × Value)→Prop:=Paired fun (p:κ × V) (q:κ × Value)=>p.1=q.1∧RelV p.2 q.2
noncomputable def kV:Key→V
 | .inl i=>.int i
 | .inr x=>.str x
inductive HO where
 /-- a list -/
 | lst (xs:List V)
 /-- a tuple (never changes) -/
 | tup (xs:List V)
 /-- a dict whose keys are ints and texts;one whose keys are tuples of ints and texts (the empty one is both) -/
 | dK (kvs:List (Key × V)) | dT (kvs:List (List Key × V))
 /-- a set of ints: its members,its size -/
 | set (S:Int→Bool) (n:Nat)
 /-- an instance of the class at C,its dict at dx,its attributes -/
 | ins (C dx:Addr) (fs:List (Str × V))
 /-- the dict of the instance at x -/
 | own (x:Addr)
 /-- the dict of an exception -/
 | xd (fs:List (Str × V))
 /-- a bound method,f of x -/
 | met (f x:Addr)
 /-- a range object lo,lo+1,.. below hi -/
 | rng (lo hi:Int)
 /-- a thing that is known to the object (the script;a dict while a loop walks it): read,never written while it is so -/
 | frz (o:Obj) (u:HO)
 /-- a code object's table -/
 | tbl (ps:Array Value)
 /-- any other thing,by what is true of its one object (a def of one's own: SetO a S n:=HO.ext fun h=>..) -/
 | ext (φ:Heap→Prop)
noncomputable abbrev Hp:=Addr→Option HO
noncomputable def upd (H:Hp) (a:Addr) (o:HO):Hp:=fun b=>if b=a then some o else H b
theorem aC {H:Hp}{a:Addr}{o:HO}:upd H a o a=some o:=by unfold upd;rw [if_pos rfl]
theorem ao {H:Hp}{a b:Addr}{o:HO} (h:b≠a):upd H a o b=H b:=by unfold upd;rw [if_neg h]
theorem Bf {H:Hp}{a:Addr}{o u:HO}:upd (upd H a o) a u=upd H a u:=by
 funext b;unfold upd;split <;> rfl
theorem KZ {H:Hp}{a b:Addr}{o u:HO} (h:H a=some o) (h':H b=some u) (d:o≠u):a≠b:=by
 intro e;subst e;rw [h] at h';exact d (Option.some.inj h')
theorem ak {H:Hp}{a b:Addr}{o:HO} (h:H a=some o) (h':H b=none):a≠b:=by
 intro e;subst e;rw [h] at h';cases h'
noncomputable def dH : Str:=Str.ofString "check_tests.<locals>.<lambda>"
noncomputable def lamO (o:Obj):Prop:=∃ vs t,o.data=.fields vs∧vs[1]?=some (.str dH t)
section
variable (P:Program) (w:World)
noncomputable def cO (H:Hp) (h:Heap) (a:Addr):HO→Prop
 | .lst xs => xs.length ≤ sizeLine ∧ ∃ (its : List Value) (n : Nat), Vals xs its ∧ h.get? a = some { cls:=.type "list", data:=.seq its.toArray n }
 | .tup xs=>xs.length≤sizeLine∧∃ its:List Value,Vals xs its∧IsTup h a its.toArray
 | .dK kvs=>kvs.length≤sizeLine∧(a == sysModules)=false∧∃ vs,KV kvs vs∧h.DictOf (JV P w) a vs
 | .dT kvs=>kvs.length≤sizeLine∧(a == sysModules)=false∧∃ xs:List (List Key × Addr × Value),
   Paired (fun (p:List Key × V) (q:List Key × Addr × Value)=>p.1=q.1∧H q.2.1=some (.tup (p.1.map kV))∧RelV p.2 q.2.2) kvs xs ∧
   ∃ o es ep,h.get? a=some o∧o.ExactDict∧o.data=.dict es ep∧es.toList=xs.map (entryOfKey (tupleKind (JV P w)))∧(xs.map (·.1)).Nodup
 | .set S n=>h.SetOf (intKind P w) a S n
 | .ins C dx fs=>H dx=some (.own a)∧fs.length≤1000∧dx≠a∧h.get? a=some (PySem.W.instObj C dx) ∧
   ∃ mA,h.Ns1 dx mA∧(∀ f,SX (fs.lookup f) (mA f))∧PySem.Within mA (fs.map (·.1))
 | .own _=>∃ o,h.get? a=some o
 | .xd fs=>∃ mA,h.Ns1 a mA∧∀ f,SX (fs.lookup f) (mA f)
 | .rng lo hi => ∃ t u v, h.get? a = some { cls:=.type "range", data:=.fields #[.int lo t, .int hi u, .int 1 v] }
 | .frz o u=>h.get? a=some o∧cO H h a u
 | .tbl _=>∃ ps:Array Value,h.get? a=some { cls:=.none,data:=.fields ps }∧TriplesOk ps.toList∧∀ pos v,codeAmong pos ps.toList=some v→∃ c o,v=.ref c∧H c=some (.frz o (.ext fun _=>True))∧lamO o
 | .met f x=>h.get? a=some (PySem.W.methodObj (.ref f) (.ref x))
 | .ext φ=>φ h∧(∃ o,h.get? a=some o)∧∀ h1 h2:Heap,φ h1→(∀ o,h1.get? a=some o→h2.get? a=some o)→φ h2
noncomputable def HOk (H:Hp) (h:Heap):Prop:=∀ a o,H a=some o→cO P w H h a o
end
section
variable {P:Program}{w:World}{H H':Hp}{h h':Heap}{a:Addr}{o:HO}
theorem cO.lt (x:cO P w H h a o):a < h.objs.size:=by
 cases o with
 | lst xs=>obtain ⟨_,_,_,_,e⟩:=x;exact Heap.lt_size e
 | tup xs=>obtain ⟨_,_,_,p⟩:=x;exact p.lt
 | dK kvs=>obtain ⟨_,_,_,_,o,_,_,e,_⟩:=x;exact Heap.lt_size e
 | dT kvs=>obtain ⟨_,_,_,_,o,_,_,e,_⟩:=x;exact Heap.lt_size e
 | set S n=>obtain ⟨o,_,_,_,e,_⟩:=x;exact Heap.lt_size e
 | ins C dx fs=>obtain ⟨_,_,_,e,_⟩:=x;exact Heap.lt_size e
 | own y=>obtain ⟨_,e⟩:=x;exact Heap.lt_size e
 | xd fs=>obtain ⟨_,⟨_,_,_,e,_⟩,_⟩:=x;exact Heap.lt_size e
 | rng lo hi=>obtain ⟨_,_,_,e⟩:=x;exact Heap.lt_size e
 | frz ob u=>obtain ⟨e,_⟩:=x;exact Heap.lt_size e
 | tbl ps=>obtain ⟨_,e,_⟩:=x;exact Heap.lt_size e
 | met f y=>exact Heap.lt_size (show h.get? a=some _ from x)
 | ext φ=>obtain ⟨_,⟨_,e⟩,_⟩:=x;exact Heap.lt_size e
theorem Paired.mapP {α β:Type}{F G:α→β→Prop}:∀ {l₁:List α}{l₂:List β},Paired F l₁ l₂→(∀ a b,F a b→G a b)→Paired G l₁ l₂
 | _,_,.nil,_=>.nil
 | _,_,.cons r t,f=>.cons (f _ _ r) (Paired.mapP t f)
theorem cO.stay (x:cO P w H h a o) (k:∀ b u,(b=a∨H b=some (.own a))→h.get? b=some u→h'.get? b=some u)
  (ho:∀ b,H b=some (.own a)→H' b=some (.own a)) (ht:∀ b xs,H b=some (.tup xs)→H' b=some (.tup xs)) (hf:∀ b o,H b=some (.frz o (.ext fun _=>True))→lamO o→H' b=some (.frz o (.ext fun _=>True)):=by intro _ _ q _;exact q):cO P w H' h' a o:=by
 induction o with
 | lst xs=>obtain ⟨z,its,n,r,e⟩:=x;exact ⟨z,its,n,r,k _ _ (.inl rfl) e⟩
 | tup xs=>obtain ⟨z,its,r,ob,e,c⟩:=x;exact ⟨z,its,r,ob,k _ _ (.inl rfl) e,c⟩
 | dK kvs=>obtain ⟨z,y,vs,r,ob,es,ep,e,c⟩:=x;exact ⟨z,y,vs,r,ob,es,ep,k _ _ (.inl rfl) e,c⟩
 | dT kvs =>
  obtain ⟨z,y,xs,r,ob,es,ep,e,c⟩:=x
  exact ⟨z,y,xs,Paired.mapP r fun p q z=>⟨z.1,ht _ _ z.2.1,z.2.2⟩,ob,es,ep,k _ _ (.inl rfl) e,c⟩
 | set S n=>obtain ⟨ob,es,ep,t,e,c⟩:=x;exact ⟨ob,es,ep,t,k _ _ (.inl rfl) e,c⟩
 | ins C dx fs =>
  obtain ⟨d,z,ne,e,mA,⟨od,es,ep,e2,c⟩,r⟩:=x
  exact ⟨ho _ d,z,ne,k _ _ (.inl rfl) e,mA,⟨od,es,ep,k _ _ (.inr d) e2,c⟩,r⟩
 | own y=>obtain ⟨ob,e⟩:=x;exact ⟨ob,k _ _ (.inl rfl) e⟩
 | xd fs=>obtain ⟨mA,⟨od,es,ep,e,c⟩,r⟩:=x;exact ⟨mA,⟨od,es,ep,k _ _ (.inl rfl) e,c⟩,r⟩
 | rng lo hi=>obtain ⟨t,u,v,e⟩:=x;exact ⟨t,u,v,k _ _ (.inl rfl) e⟩
 | frz ob u ih=>obtain ⟨e,q⟩:=x;exact ⟨k _ _ (.inl rfl) e,ih q⟩
 | tbl qs =>
  obtain ⟨ps,e,tr,g⟩:=x
  refine ⟨ps,k a _ (.inl rfl) e,tr,fun pos v hc=>?_⟩
  obtain ⟨c,o,e1,g1,g2⟩:=g pos v hc
  exact ⟨c,o,e1,hf c o g1 g2,g2⟩
 | met f y =>
  have e:h.get? a=some (PySem.W.methodObj (.ref f) (.ref y)):=x
  show h'.get? a=some (PySem.W.methodObj (.ref f) (.ref y))
  exact k a _ (.inl rfl) e
 | ext φ=>obtain ⟨p,⟨o,e⟩,st⟩:=x;exact ⟨st _ _ p fun o q=>k _ _ (.inl rfl) q,⟨o,k _ _ (.inl rfl) e⟩,st⟩
theorem HOk.lt (x:HOk P w H h) (e:H a=some o):a < h.objs.size:=(x a o e).lt
theorem HOk.fresh (x:HOk P w H h) (e:h.objs.size≤a):H a=none:=by
 cases q:H a with
 | none=>rfl
 | some u=>exact absurd (Nat.lt_of_lt_of_le (x.lt q) e) (Nat.lt_irrefl _)
theorem HOk.kept (x:HOk P w H h) (k:∀ b u,h.get? b=some u→h'.get? b=some u):HOk P w H h':=fun a o e =>
 (x a o e).stay (fun b u _ q=>k b u q) (fun _ q=>q) fun _ _ q=>q
theorem HOk.laid (x:HOk P w H h) (k:∀ b u,h.get? b=some u→h'.get? b=some u) (hp:h.objs.size≤a) (new:cO P w (upd H a o) h' a o):HOk P w (upd H a o) h':=fun b u e=>by
 have hn:=x.fresh hp
 by_cases hb:b=a
 ·subst hb;rw [aC] at e;cases e;exact new
 ·rw [ao hb] at e
  exact (x b u e).stay (fun c v _ q=>k c v q) (fun c q=>by rw [ao (ak q hn)];exact q) (fun c xs q=>by rw [ao (ak q hn)];exact q) (fun c ob q _=>by rw [ao (ak q hn)];exact q)
end
noncomputable def Rd (H:Hp) (a:Addr) (u:HO):Prop:=H a=some u∨∃ o,H a=some (.frz o u)
theorem Rd.ok {P:Program}{w:World}{H:Hp}{h:Heap}{a:Addr}{u:HO} (r:Rd H a u) (x:HOk P w H h):cO P w H h a u:=by
 rcases r with r | ⟨o,r⟩
 ·exact x a u r
 ·obtain ⟨_,q⟩:=x a _ r
  exact q
noncomputable def Mut:Option HO→Prop
 | some (.lst _)=>True
 | some (.dK _)=>True
 | some (.dT _)=>True
 | some (.set _ _)=>True
 | some (.ins _ _ _)=>True
 | some (.ext _)=>True
 | _=>False
section
variable {P:Program}{w:World}{H:Hp}{h h':Heap}{x e:Addr}{o':HO}
theorem HOk.write (ok:HOk P w H h) (mu:Mut (H x)) (he:e=x∨H e=some (.own x)) (k:∀ b u,b≠e→h.get? b=some u→h'.get? b=some u) (heo:∃ u,h'.get? e=some u)
  (new:cO P w (upd H x o') h' x o'):HOk P w (upd H x o') h':=fun b u q=>by
 have nown:∀ c y,H c=some (.own y)→c≠x:=fun c y r z=>by subst z;rw [r] at mu;exact mu
 have ntup:∀ c xs,H c=some (.tup xs)→c≠x:=fun c xs r z=>by subst z;rw [r] at mu;exact mu
 by_cases hb:b=x
 ·subst hb;rw [aC] at q;cases q;exact new
 ·rw [ao hb] at q
  by_cases hbe:b=e
  ·have q':H b=some (.own x):=by
    rcases he with z | z
    ·exact absurd (hbe.trans z) hb
    ·rw [hbe];exact z
   rw [q] at q';cases q'
   obtain ⟨v,hv⟩:=heo
   exact ⟨v,by rw [hbe];exact hv⟩
  ·refine (ok b u q).stay (fun c v hc r=>k c v ?_ r) (fun c r=>by rw [ao (nown c b r)];exact r) (fun c xs r=>by rw [ao (ntup c xs r)];exact r) (fun c ob r _=>by rw [ao (fun z=>by subst z;rw [r] at mu;exact mu)];exact r)
   rcases hc with rfl | hc
   ·exact hbe
   ·rintro rfl
    rcases he with z | z
    ·exact nown c b hc z
    ·rw [hc] at z;cases z;exact hb rfl
end
structure Un (fs ex:List Addr) (H H':Hp) (h h':Heap):Prop where
 keep:∀ b o,h.get? b=some o→H b=none→b ∉ fs→b ∉ ex→h'.get? b=some o
 slot:∀ b o,h.get? b=some o→H b=none→b∈fs→b ∉ ex→∃ sl,h'.get? b=some { o with slots:=sl }
 free:∀ b o,h.get? b=some o→H b=none→b ∉ ex→H' b=none
 there:∀ b o,h.get? b=some o→b ∉ ex→∃ o',h'.get? b=some o'
 tups:∀ b xs,H b=some (.tup xs)→H' b=some (.tup xs)
 frzs:∀ b o u,H b=some (.frz o u)→H' b=some (.frz o u)
 tbls:∀ b ps,H b=some (.tbl ps)→∃ more,H' b=some (.tbl (ps++more))
section
variable {fs fs' ex ex':List Addr}{H H1 H2:Hp}{h h1 h2 h':Heap}{a x e:Addr}{o:HO}
theorem Un.any (u:Un fs ex H H1 h h1) {b:Addr}{ob:Obj} (q:h.get? b=some ob) (n:H b=none) (hx:b ∉ ex):∃ sl,h1.get? b=some { ob with slots:=sl }:=by
 by_cases hb:b∈fs
 ·exact u.slot b ob q n hb hx
 ·exact ⟨ob.slots,u.keep b ob q n hb hx⟩
theorem Un.kept (k:∀ b u,h.get? b=some u→h'.get? b=some u):Un fs ex H H h h' :=
 ⟨fun b ob q _ _ _=>k b ob q,fun b ob q _ _ _=>⟨ob.slots,k b ob q⟩,fun _ _ _ n _=>n,fun b ob q _=>⟨ob,k b ob q⟩,fun _ _ q=>q,fun _ _ _ q=>q,fun _ ps q=>⟨#[],by rw [q];simp⟩⟩
theorem Un.refl:Un fs ex H H h h:=Un.kept fun _ _ q=>q
theorem Un.laid (k:∀ b u,h.get? b=some u→h'.get? b=some u) (hp:h.objs.size≤a) (hn:H a=none):Un fs ex H (upd H a o) h h' where
 keep:=fun b u q _ _ _=>k b u q
 slot:=fun b u q _ _ _=>⟨u.slots,k b u q⟩
 free:=fun b u q n _=>by rw [ao (Nat.ne_of_lt (Nat.lt_of_lt_of_le (Heap.lt_size q) hp))];exact n
 there:=fun b u q _=>⟨u,k b u q⟩
 tups:=fun b xs q=>by rw [ao (ak q hn)];exact q
 frzs:=fun b u xs q=>by rw [ao (ak q hn)];exact q
 tbls:=fun b ps q=>⟨#[],by rw [ao (ak q hn),q];simp⟩
theorem Un.write (mu:Mut (H x)) (he:e=x∨H e=some (.own x)) (k:∀ b u,b≠e→h.get? b=some u→h'.get? b=some u) (heo:∃ u,h'.get? e=some u):Un fs ex H (upd H x o) h h':=by
 have hx:∀ b,H b=none→b≠x:=fun b n z=>by subst z;rw [n] at mu;exact mu
 have hb:∀ b,H b=none→b≠e:=fun b n z=>by
  subst z
  rcases he with r | r
  ·exact hx b n r
  ·rw [n] at r;cases r
 have hm:∀ b u,H b=some u→¬ Mut (some u)→b≠x:=fun b u q nm z=>by subst z;rw [q] at mu;exact nm mu
 refine ⟨fun b u q n _ _=>k b u (hb b n) q,fun b u q n _ _=>⟨u.slots,k b u (hb b n) q⟩,fun b u q n _=>by rw [ao (hx b n)];exact n,fun b u q _=>?_,
  fun b xs q=>by rw [ao (hm b _ q fun z=>z)];exact q,fun b u xs q=>by rw [ao (hm b _ q fun z=>z)];exact q,fun b ps q=>⟨#[],by rw [ao (hm b _ q fun z=>z),q];simp⟩⟩
 by_cases hbe:b=e
 ·subst hbe;exact heo
 ·exact ⟨u,k b u hbe q⟩
end
noncomputable def trk (h:Heap) (H:Hp):List Addr:=(List.range h.objs.size).filter fun a=>(H a).isSome
noncomputable def pN (h:Heap) (H:Hp):Heap:=PySem.W.hideAll h (trk h H)
theorem Oe (h:Heap) (H:Hp):(pN h H).objs.size=h.objs.size:=PySem.W.hideAll_size _ _
theorem R0 {h:Heap}{H:Hp}{b:Addr}{o:Obj} (e:h.get? b=some o) (n:H b=none):(pN h H).get? b=some o :=
 PySem.W.hideAll_get _ e fun hm=>by
  have q:(H b).isSome=true:=(List.mem_filter.mp hm).2
  rw [n] at q;simp at q
theorem Vt {h:Heap}{H:Hp}{b:Addr}{o:Obj} (e:(pN h H).get? b=some o):h.get? b=some o∧H b=none:=by
 have e':h.get? b=some o:=PySem.W.of_hideAll (trk h H) e
 refine ⟨e',?_⟩
 cases q:H b with
 | none=>rfl
 | some x =>
  have hm:b∈trk h H:=List.mem_filter.mpr ⟨List.mem_range.mpr (Heap.lt_size e'),by simp [q]⟩
  have z:(pN h H).get? b=none:=PySem.W.hideAll_none (trk h H) hm
  rw [z] at e;cases e
end L2
namespace L2
open PySem PySem.Spec PyProof.Rows
structure Mod (K:PySem.W.Frag) (mg:Str→Option Value) (base:Heap):Prop where
 kin:K.In base
 glob:base.Ns mainGlobals mg
 blt : ∃ mb, base.Ns builtinsNs mb ∧ ∀ x : Str, x ≠ "__name__" → mb x = bootBuiltins x
 nolimit:base.NoLimit
 bm : ∃ bm ob, mg "__builtins__" = some (.ref bm) ∧ bm ≠ builtinsNs ∧ bm ≠ mainGlobals ∧ base.get? bm = some ob ∧ ob.cls = .type "module" ∧ ob.dict = some builtinsNs ∧ ob.data = .plain
noncomputable def oX (K : PySem.W.Frag) (mg : Str → Option Value) (H : Hp) : Prop:=∀ a o fd c oc vs p, mg "check_tests" = some (.ref a) → K.lookup a = some o → o.data = .func fd → fd.code = .ref c → K.lookup c = some oc → oc.data = .fields vs → vs[11]? = some (.ref p) → ∃ q, H p = some (.tbl q)
theorem oX.un {K:PySem.W.Frag}{mg:Str→Option Value}{fs ex:List Addr}{H H':Hp}{h h':Heap} (x:oX K mg H) (u:Un fs ex H H' h h'):oX K mg H':=fun a o fd c oc vs p e1 e2 e3 e4 e5 e6 e7 =>
 let ⟨q,e⟩:=x a o fd c oc vs p e1 e2 e3 e4 e5 e6 e7
 let ⟨m,e'⟩:=u.tbls p q e
 ⟨_,e'⟩
structure Cx where
 prog:Program
 w:World
 K:PySem.W.Frag
 mg:Str→Option Value
 base:Heap
 A:Around
 N:List Str
 s₀:Shared
 H₀:Hp
 env:Env
 outer:List Env
 stack:List Env
 ex:List Addr
 fn:Str→Bool
 calm:Bool
 pn:List (Addr × Obj)
 xe:Value→Shared→Prop
noncomputable def frs (l:List Env):List Addr:=l.filterMap (·.frame)
noncomputable abbrev Cx.fs (X:Cx):List Addr:=frs X.outer
noncomputable def Vis (sc:Scope) (x:Str):Prop:=sc.names.lookup x=some .local∨sc.names.lookup x=some .cell∨sc.names.lookup x=some .free
noncomputable def Loc (sc:Scope) (x:Str):Prop:=sc.names.lookup x=some .local∨sc.names.lookup x=some .cell
noncomputable def Look (env:Env) (h:Heap) (m:Str→Option Value) (x:Str) (u:Value):Prop :=
 (env.kindOf x=some .local∧m x=some u)∨((env.kindOf x=some .cell∨env.kindOf x=some .free)∧∃ c,env.cells.lookup x=some c∧h.IsCell c (some u))
structure Cx.Ok (X:Cx):Prop where
 mod:Mod X.K X.mg X.base
 kind:X.env.scope.kind=.function
 glob:X.env.globals=mainGlobals
 blt:X.env.builtins=builtinsNs
 above:X.s₀.heap.objs.size≤X.env.locals
 inj:∀ x y c,X.env.cells.lookup x=some c→X.env.cells.lookup y=some c→x=y
 has:∀ x,(X.env.kindOf x=some .cell∨X.env.kindOf x=some .free)→∃ c,X.env.cells.lookup x=some c
 cab:∀ x c,X.fn x=true→X.env.cells.lookup x=some c→X.s₀.heap.objs.size≤c
 hd:X.calm=true→X.A.handled=none
 frames:X.A.frames=some X.stack
 stk:X.stack=X.outer∨(X.stack=X.env::X.outer∧X.env.frame=some X.env.locals)
 exf:∀ b∈X.ex,b≠X.env.locals∧∀ x c,X.env.cells.lookup x=some c→c≠b
 bs:∀ b o,X.base.get? b=some o→X.s₀.heap.get? b=some o∧X.H₀ b=none
 bsz:X.base.objs.size≤X.s₀.heap.objs.size
 noex:∀ b o,X.base.get? b=some o→b ∉ X.ex
 exfs:∀ b∈X.ex,b ∉ X.fs
 funs:X.s₀.heap.FunFrames X.base X.outer
 frf:∀ b∈X.fs,X.H₀ b=none
 tab:oX X.K X.mg X.H₀
structure Inv (X:Cx) (pins:List (Addr × Obj)) (σ:List (Option V)) (H:Hp) (s:Shared):Prop where
 ok:X.Ok
 os:s.os=X.s₀.os
 bare:AllBare s.gens
 base:Un X.fs X.ex X.H₀ H X.s₀.heap s.heap
 loc:∃ m,s.heap.Ns X.env.locals m∧∀ (i:Nat) (x:Str) (v:V),X.N[i]?=some x→σ[i]?=some (some v)→Vis X.env.scope x→∃ u,RelV v u∧Look X.env s.heap m x u
 cell:∀ x c,X.env.cells.lookup x=some c→∃ v,s.heap.IsCell c v
 free:H X.env.locals=none
 freeC:∀ x c,X.env.cells.lookup x=some c→H c=none
 pin:∀ p∈X.pn++pins,s.heap.get? p.1=some p.2∧H p.1=none∧p.1≠X.env.locals∧p.1 ∉ X.fs∧∀ v,p.2.data≠.cell v
 hok:HOk X.prog X.w H s.heap
 len:σ.length=X.N.length
section
variable {X:Cx}{pins:List (Addr × Obj)}{σ:List (Option V)}{H H':Hp}{s:Shared}{h':Heap}
theorem Cx.Ok.nofr (ok:X.Ok) {b:Addr}{o:Obj} (e:X.base.get? b=some o):b ∉ X.fs:=fun hb=>by
 have:=(ok.funs.mem hb).1
 rw [e] at this;cases this
theorem Inv.bs (I:Inv X pins σ H s):∀ b o,X.base.get? b=some o→s.heap.get? b=some o∧H b=none:=fun b o e =>
 ⟨I.base.keep b o (I.ok.bs b o e).1 (I.ok.bs b o e).2 (I.ok.nofr e) (I.ok.noex b o e),I.base.free b o (I.ok.bs b o e).1 (I.ok.bs b o e).2 (I.ok.noex b o e)⟩
theorem Inv.bk (I:Inv X pins σ H s):∀ b o,X.base.get? b=some o→s.heap.get? b=some o:=fun b o e=>(I.bs b o e).1
theorem Inv.mod (I:Inv X pins σ H s):Mod X.K X.mg X.base:=I.ok.mod
theorem Inv.kIn (I:Inv X pins σ H s):X.K.In s.heap:=I.ok.mod.kin.keeps I.bk
theorem Inv.fr (I:Inv X pins σ H s):∃ m,Fr X.base X.env.locals s.heap m :=
 let ⟨m,hn,_⟩:=I.loc
 ⟨m,hn,I.bk,Nat.le_trans I.ok.bsz I.ok.above⟩
theorem Inv.lt (I:Inv X pins σ H s):X.env.locals < s.heap.objs.size:=let ⟨_,hn,_⟩:=I.loc;hn.lt
theorem Inv.sz (I:Inv X pins σ H s):X.s₀.heap.objs.size≤s.heap.objs.size:=Nat.le_trans I.ok.above (Nat.le_of_lt I.lt)
theorem Inv.nofs (I:Inv X pins σ H s) {a:Addr} (h:s.heap.objs.size≤a):a ∉ X.fs:=fun hb=>by
 obtain ⟨_,o,ho,_⟩:=I.ok.funs.mem hb
 exact absurd (Nat.lt_of_lt_of_le (Heap.lt_size ho) (Nat.le_trans I.sz h)) (Nat.lt_irrefl _)
theorem Inv.cne (I:Inv X pins σ H s):∀ x c,X.env.cells.lookup x=some c→c≠X.env.locals:=fun x c e z=>by
 obtain ⟨v,o,ho,hd⟩:=I.cell x c e
 obtain ⟨m,⟨o',es,ep,ho',hd',_⟩,_⟩:=I.loc
 rw [z,ho'] at ho;cases ho;rw [hd'] at hd;cases hd
theorem Inv.funs (I:Inv X pins σ H s):s.heap.FunFrames X.base X.outer:=by
 have all:∀ (l:List Env),(∀ b∈frs l,b∈X.fs)→X.s₀.heap.FunFrames X.base l→s.heap.FunFrames X.base l:=by
  intro l
  induction l with
  | nil=>intro _ _;trivial
  | cons env r ih =>
   intro hs hl
   obtain ⟨hk,⟨L,o,hf,hn,ho,hd⟩,hr⟩:=hl
   have hL:L∈X.fs:=hs L (by unfold frs;rw [List.filterMap_cons,hf];exact List.mem_cons_self)
   obtain ⟨sl,e⟩:=I.base.slot L o ho (I.ok.frf L hL) hL fun z=>I.ok.exfs L z hL
   exact ⟨hk,⟨L,_,hf,hn,e,hd⟩,ih (fun b hb=>hs b (by unfold frs;rw [List.filterMap_cons,hf];exact List.mem_cons_of_mem _ hb)) hr⟩
 exact all X.outer (fun _ hb=>hb) I.ok.funs
theorem Inv.stack (I:Inv X pins σ H s):s.heap.FunFrames X.base X.stack:=by
 rcases I.ok.stk with e | ⟨e,hf⟩
 ·rw [e];exact I.funs
 ·rw [e]
  obtain ⟨m,hn,_⟩:=I.loc
  refine .cons (by rw [I.ok.kind];decide) hf hn ?_ I.funs
  exact Heap.get?_none_of_le (Nat.le_trans I.ok.bsz I.ok.above)
theorem Inv.stkSub (I:Inv X pins σ H s):∀ b∈frs X.stack,b∈X.env.locals::X.fs:=fun b hb=>by
 rcases I.ok.stk with e | ⟨e,hf⟩
 ·rw [e] at hb;exact List.mem_cons_of_mem _ hb
 ·rw [e] at hb
  unfold frs at hb
  rw [List.filterMap_cons,hf] at hb
  exact hb
theorem Inv.stkFree (I:Inv X pins σ H s):∀ b∈frs X.stack,H b=none:=fun b hb=>by
 rcases List.mem_cons.mp (I.stkSub b hb) with e | hb
 ·rw [e];exact I.free
 ·obtain ⟨_,o,ho,_⟩:=I.ok.funs.mem hb
  exact I.base.free b o ho (I.ok.frf b hb) fun z=>I.ok.exfs b z hb
theorem Inv.step {g':Array GenState}{t':Nat}{d':Drawn}{ch:List Addr} (I:Inv X pins σ H s)
  (hch:∀ b∈ch,(b∈X.ex∨X.s₀.heap.objs.size≤b)∧b≠X.env.locals∧(∀ x c,X.env.cells.lookup x=some c→c≠b)∧∀ p∈X.pn++pins,p.1≠b)
  (keep:∀ b o,b≠X.env.locals→b ∉ X.fs→b ∉ ch→s.heap.get? b=some o→H b=none→h'.get? b=some o)
  (slot:∀ b o,b≠X.env.locals→b∈X.fs→b ∉ ch→s.heap.get? b=some o→H b=none→∃ sl,h'.get? b=some { o with slots:=sl }) (free:∀ b o,b ∉ ch→s.heap.get? b=some o→H b=none→H' b=none)
  (there:∀ b o,b ∉ ch→s.heap.get? b=some o→∃ o',h'.get? b=some o')
  (tups:∀ b xs,H b=some (.tup xs)→H' b=some (.tup xs)) (frzs:∀ b o u,H b=some (.frz o u)→H' b=some (.frz o u)) (tbls:∀ b ps,H b=some (.tbl ps)→∃ more,H' b=some (.tbl (ps++more)))
  (ns:∀ m,s.heap.Ns X.env.locals m→h'.Ns X.env.locals m) (hok:HOk X.prog X.w H' h') (hg:AllBare g') :
  Inv X pins σ H' { s with heap:=h',gens:=g',drawn:=d',toks:=t' }:=by
 have neL:∀ b o,X.s₀.heap.get? b=some o→b≠X.env.locals:=fun b o e=>Nat.ne_of_lt (Nat.lt_of_lt_of_le (Heap.lt_size e) I.ok.above)
 have neC:∀ b o,X.s₀.heap.get? b=some o→b ∉ X.ex→b ∉ ch:=fun b o e hx hb=>by
  rcases (hch b hb).1 with z | z
  ·exact hx z
  ·exact absurd (Nat.lt_of_lt_of_le (Heap.lt_size e) z) (Nat.lt_irrefl _)
 have cellK:∀ x c,X.env.cells.lookup x=some c→∀ v,s.heap.IsCell c v→h'.IsCell c v:=fun x c e v ⟨o,ho,hd⟩=>by
  have nch:c ∉ ch:=fun z=>(hch c z).2.2.1 x c e rfl
  by_cases hc:c∈X.fs
  ·obtain ⟨sl,q⟩:=slot c o (I.cne x c e) hc nch ho (I.freeC x c e)
   exact ⟨_,q,hd⟩
  ·exact ⟨o,keep c o (I.cne x c e) hc nch ho (I.freeC x c e),hd⟩
 refine ⟨I.ok,I.os,hg,⟨fun b o e n hb hx=>?_,fun b o e n hb hx=>?_,fun b o e n hx=>?_,fun b o e hx=>?_,fun b xs e=>tups b xs (I.base.tups b xs e),fun b o xs e=>frzs b o xs (I.base.frzs b o xs e),fun b ps e=>?_⟩,?_,fun x c e=>?_,?_,fun x c e=>?_,fun p hp=>?_,hok,I.len⟩
 ·exact keep b o (neL b o e) hb (neC b o e hx) (I.base.keep b o e n hb hx) (I.base.free b o e n hx)
 ·obtain ⟨sl,e1⟩:=I.base.slot b o e n hb hx
  obtain ⟨sl',e2⟩:=slot b _ (neL b o e) hb (neC b o e hx) e1 (I.base.free b o e n hx)
  exact ⟨sl',e2⟩
 ·obtain ⟨o',e1⟩:=I.base.there b o e hx
  exact free b o' (neC b o e hx) e1 (I.base.free b o e n hx)
 ·obtain ⟨o',e1⟩:=I.base.there b o e hx
  exact there b o' (neC b o e hx) e1
 ·obtain ⟨m1,e1⟩:=I.base.tbls b ps e
  obtain ⟨m2,e2⟩:=tbls b _ e1
  exact ⟨m1++m2,by rw [e2,Array.append_assoc]⟩
 ·obtain ⟨m,hn,hl⟩:=I.loc
  refine ⟨m,ns m hn,fun i x v e1 e2 e3=>?_⟩
  obtain ⟨u,r,l⟩:=hl i x v e1 e2 e3
  refine ⟨u,r,?_⟩
  rcases l with l | ⟨k,c,e,z⟩
  ·exact .inl l
  ·exact .inr ⟨k,c,e,cellK x c e _ z⟩
 ·obtain ⟨v,z⟩:=I.cell x c e
  exact ⟨v,cellK x c e v z⟩
 ·obtain ⟨m,⟨o,_,_,ho,_⟩,_⟩:=I.loc
  exact free _ o (fun z=>(hch _ z).2.1 rfl) ho I.free
 ·obtain ⟨v,o,ho,hd⟩:=I.cell x c e
  exact free c o (fun z=>(hch c z).2.2.1 x c e rfl) ho (I.freeC x c e)
 ·obtain ⟨e,n,ne,nf,d⟩:=I.pin p hp
  have nch:p.1 ∉ ch:=fun z=>(hch p.1 z).2.2.2 p hp rfl
  exact ⟨keep p.1 p.2 ne nf nch e n,free p.1 p.2 nch e n,ne,nf,d⟩
theorem Inv.un {t':Nat} (I:Inv X pins σ H s) (u:Un X.fs [] H H' s.heap h') (hok:HOk X.prog X.w H' h'):Inv X pins σ H' { s with heap:=h',toks:=t' }:=by
 obtain ⟨m,⟨o,es,ep,ho,r⟩,_⟩:=id I.loc
 obtain ⟨sl,hL⟩:=u.any ho I.free (by simp)
 exact I.step (g':=s.gens) (d':=s.drawn) (ch:=[]) (fun _ z=>nomatch z) (fun b o _ hb _ e n=>u.keep b o e n hb (by simp)) (fun b o _ hb _ e n=>u.slot b o e n hb (by simp)) (fun b o _ e n=>u.free b o e n (by simp)) (fun b o _ e=>u.there b o e (by simp)) u.tups u.frzs u.tbls (fun m' hm=>by
  obtain ⟨o',es',ep',ho',r'⟩:=hm
  rw [ho] at ho';cases ho'
  exact ⟨_,es',ep',hL,r'⟩) hok I.bare
theorem Inv.call {g':Array GenState}{t':Nat}{d':Drawn}{ch:List Addr} (I:Inv X pins σ H s) (u:Un (frs X.stack) ch H H' s.heap h') (hok:HOk X.prog X.w H' h') (hg:AllBare g')
  (hch:∀ b∈ch,(b∈X.ex∨X.s₀.heap.objs.size≤b)∧b≠X.env.locals∧(∀ x c,X.env.cells.lookup x=some c→c≠b)∧∀ p∈X.pn++pins,p.1≠b) :
  Inv X pins σ H' { s with heap:=h',gens:=g',drawn:=d',toks:=t' }:=by
 obtain ⟨m,⟨o,es,ep,ho,r⟩,_⟩:=id I.loc
 obtain ⟨sl,hL⟩:=u.any ho I.free fun z=>(hch _ z).2.1 rfl
 exact I.step (ch:=ch) hch (fun b o hL hb hc e n=>u.keep b o e n (fun z=>(List.mem_cons.mp (I.stkSub b z)).elim hL hb) hc) (fun b o _ _ hc e n=>u.any e n hc) (fun b o hc e n=>u.free b o e n hc) (fun b o hc e=>u.there b o e hc) u.tups u.frzs u.tbls (fun m' hm=>by
  obtain ⟨o',es',ep',ho',r'⟩:=hm
  rw [ho] at ho';cases ho'
  exact ⟨_,es',ep',hL,r'⟩) hok hg
theorem Inv.turned {t':Nat}{it:Addr} (I:Inv X pins σ H s) (k:∀ b o,b≠it→s.heap.get? b=some o→h'.get? b=some o) (hn:H it=none) (hL:it≠X.env.locals)
  (h1:it∈X.ex∨X.s₀.heap.objs.size≤it) (h2:∀ x c,X.env.cells.lookup x=some c→c≠it) (h3:∀ p∈X.pn++pins,p.1≠it):Inv X pins σ H { s with heap:=h',toks:=t' }:=by
 have nit:∀ b u,H b=some u→b≠it:=fun b u e z=>by rw [z,hn] at e;cases e
 refine I.step (g':=s.gens) (d':=s.drawn) (ch:=[it]) (fun b hb=>?_) (fun b o _ _ hc e _=>k b o (fun z=>hc (by simp [z])) e) (fun b o _ _ hc e _=>⟨o.slots,k b o (fun z=>hc (by simp [z])) e⟩) (fun _ _ _ _ n=>n)
  (fun b o hc e=>⟨o,k b o (fun z=>hc (by simp [z])) e⟩) (fun _ _ e=>e) (fun _ _ _ e=>e) (fun b ps e=>⟨#[],by rw [e];simp⟩) (fun m hm=>?_) (fun b u e=>?_) I.bare
 ·have e:b=it:=by simpa using hb
  subst e
  exact ⟨h1,hL,h2,h3⟩
 ·obtain ⟨o,es,ep,ho,r⟩:=hm
  exact ⟨o,es,ep,k _ o (Ne.symm hL) ho,r⟩
 ·refine (I.hok b u e).stay (fun c v hc q=>k c v ?_ q) (fun _ q=>q) fun _ _ q=>q
  rcases hc with z | z
  ·rw [z];exact nit b u e
  ·exact nit c _ z
theorem Inv.tok (I:Inv X pins σ H s) (t:Nat):Inv X pins σ H { s with toks:=t }:=I.un (h':=s.heap) (t':=t) Un.refl I.hok
theorem Inv.kept {t':Nat} (I:Inv X pins σ H s) (k:∀ b u,s.heap.get? b=some u→h'.get? b=some u):Inv X pins σ H { s with heap:=h',toks:=t' }:=I.un (Un.kept k) (I.hok.kept k)
theorem Inv.laid {a:Addr}{o:HO}{t':Nat} (I:Inv X pins σ H s) (k:∀ b u,s.heap.get? b=some u→h'.get? b=some u) (hp:s.heap.objs.size≤a) (new:cO X.prog X.w (upd H a o) h' a o) :
  Inv X pins σ (upd H a o) { s with heap:=h',toks:=t' }:=I.un (Un.laid k hp (I.hok.fresh hp)) (I.hok.laid k hp new)
theorem Inv.write {x e:Addr}{o:HO}{t':Nat} (I:Inv X pins σ H s) (mu:Mut (H x)) (he:e=x∨H e=some (.own x)) (k:∀ b u,b≠e→s.heap.get? b=some u→h'.get? b=some u) (heo:∃ u,h'.get? e=some u)
  (new:cO X.prog X.w (upd H x o) h' x o):Inv X pins σ (upd H x o) { s with heap:=h',toks:=t' }:=I.un (Un.write mu he k heo) (I.hok.write mu he k heo new)
theorem Inv.weak {σ':List (Option V)} (I:Inv X pins σ H s) (hl:σ'.length=σ.length) (w:∀ (i:Nat) v,σ'[i]?=some (some v)→σ[i]?=some (some v)):Inv X pins σ' H s :=
 ⟨I.ok,I.os,I.bare,I.base,let ⟨m,hn,hl'⟩:=I.loc;⟨m,hn,fun i x v e1 e2 e3=>hl' i x v e1 (w i v e2) e3⟩,I.cell,I.free,I.freeC,I.pin,I.hok,hl.trans I.len⟩
theorem Inv.pins_of {pins':List (Addr × Obj)} (I:Inv X pins σ H s) (h:∀ p∈pins',s.heap.get? p.1=some p.2∧H p.1=none∧p.1≠X.env.locals∧p.1 ∉ X.fs∧∀ v,p.2.data≠.cell v):Inv X pins' σ H s :=
 ⟨I.ok,I.os,I.bare,I.base,I.loc,I.cell,I.free,I.freeC,fun p hp=>(List.mem_append.mp hp).elim (fun z=>I.pin p (List.mem_append_left _ z)) (h p),I.hok,I.len⟩
theorem G6 {N:List Str} (hN:N.Nodup) {i j:Nat}{x:Str} (a:N[i]?=some x) (b:N[j]?=some x):i=j:=by
 obtain ⟨h1,e1⟩:=List.getElem?_eq_some_iff.mp a
 obtain ⟨h2,e2⟩:=List.getElem?_eq_some_iff.mp b
 exact (List.getElem_inj hN).mp (e1.trans e2.symm)
theorem Dj {M:Model}{A:Around}{E:Value→Shared→Prop}{i:Nat}{x:Str}{v:V}{u:Value}{Q:Unit→Shared→Prop} (I:Inv X pins σ H s) (hN:X.N.Nodup) (hi:X.N[i]?=some x) (hx:Loc X.env.scope x) (r:RelV v u)
  (h:∀ s',Inv X pins (σ.set i (some v)) H s'→(∃ a,Heap.SameBut a s.heap s'.heap∧(a=X.env.locals∨X.env.cells.lookup x=some a))→Q () s') (hf:X.fn x=true∨X.env.scope.names.lookup x=some .local:=by first | exact .inl rfl | exact .inr rfl | assumption):wpAny M A (storeName X.env x u) Q E s:=by
 obtain ⟨m,hn,hl⟩:=id I.loc
 have hcls:(X.env.scope.kind == .class || (X.env.scope.kind == .module && X.env.locals != X.env.globals))=false:=by rw [I.ok.kind];rfl
 have hiσ:i < σ.length:=by rw [I.len];exact (List.getElem?_eq_some_iff.mp hi).1
 have cne:=I.cne
 have tracked:∀ {a:Addr}{h':Heap},(∃ o,s.heap.get? a=some o∧H a=none)→Heap.SameBut a s.heap h'→HOk X.prog X.w H h':=fun {a h'} ha hs b ob e=>by
  obtain ⟨_,_,hfree⟩:=ha
  refine (I.hok b ob e).stay (fun c w' hc q=>(hs.2 c ?_).trans q) (fun _ q=>q) fun _ _ q=>q
  rintro rfl
  rcases hc with rfl | hc
  ·rw [hfree] at e;cases e
  ·rw [hfree] at hc;cases hc
 rcases hx with hk | hk
 ·refine wpAny_storeName_local hk hn (fun h' hn' hs=>?_) hcls
  obtain ⟨oL,_,_,hoL,_⟩:=id hn
  refine h _ ⟨I.ok,I.os,I.bare,⟨fun b o e n hb hx=>?_,fun b o e n hb hx=>?_,I.base.free,fun b o e hx=>?_,I.base.tups,I.base.frzs,I.base.tbls⟩,⟨_,hn',fun j y v' e1 e2 e3=>?_⟩,fun y c e=>?_,I.free,I.freeC,fun p hp=>?_,tracked ⟨oL,hoL,I.free⟩ hs,by simpa using I.len⟩ ⟨_,hs,.inl rfl⟩
  ·exact (hs.2 b (Nat.ne_of_lt (Nat.lt_of_lt_of_le (Heap.lt_size e) I.ok.above))).trans (I.base.keep b o e n hb hx)
  ·obtain ⟨sl,e1⟩:=I.base.slot b o e n hb hx
   exact ⟨sl,(hs.2 b (Nat.ne_of_lt (Nat.lt_of_lt_of_le (Heap.lt_size e) I.ok.above))).trans e1⟩
  ·obtain ⟨o',e1⟩:=I.base.there b o e hx
   exact ⟨o',(hs.2 b (Nat.ne_of_lt (Nat.lt_of_lt_of_le (Heap.lt_size e) I.ok.above))).trans e1⟩
  ·by_cases hj:j=i
   ·subst hj
    rw [hi] at e1;cases e1
    rw [List.getElem?_set_self hiσ] at e2
    cases e2
    exact ⟨u,r,.inl ⟨hk,by simp⟩⟩
   ·rw [List.getElem?_set_ne (Ne.symm hj)] at e2
    obtain ⟨u',r',q⟩:=hl j y v' e1 e2 e3
    refine ⟨u',r',?_⟩
    rcases q with ⟨k,e⟩ | ⟨k,c,e,z⟩
    ·refine .inl ⟨k,?_⟩
     have:y≠x:=fun e=>hj (G6 hN e1 (e ▸ hi))
     simp [this,e]
    ·exact .inr ⟨k,c,e,z.sameBut hs (cne y c e)⟩
  ·obtain ⟨w',z⟩:=I.cell y c e
   exact ⟨w',z.sameBut hs (cne y c e)⟩
  ·obtain ⟨e,n,ne,nf,d⟩:=I.pin p hp
   exact ⟨(hs.2 p.1 ne).trans e,n,ne,nf,d⟩
 ·have hfn:X.fn x=true:=by
   rcases hf with z | z
   ·exact z
   ·rw [z] at hk;cases hk
  obtain ⟨c,hc⟩:=I.ok.has x (.inl hk)
  obtain ⟨w',z⟩:=I.cell x c hc
  refine wpAny_storeName_cell I.ok.kind hk hc z (fun h' hc' hs=>?_)
  obtain ⟨oc,hoc,hocd⟩:=id z
  refine h { s with heap:=h' } ⟨I.ok,I.os,I.bare,⟨fun b o e n hb hx=>?_,fun b o e n hb hx=>?_,I.base.free,fun b o e hx=>?_,I.base.tups,I.base.frzs,I.base.tbls⟩,⟨m,hn.sameBut hs (Ne.symm (cne x c hc)),fun j y v' e1 e2 e3=>?_⟩,fun y c' e=>?_,I.free,I.freeC,fun p hp=>?_,tracked ⟨oc,hoc,I.freeC x c hc⟩ hs,by simpa using I.len⟩ ⟨c,hs,.inr hc⟩
  ·exact (hs.2 b (Nat.ne_of_lt (Nat.lt_of_lt_of_le (Heap.lt_size e) (I.ok.cab x c hfn hc)))).trans (I.base.keep b o e n hb hx)
  ·obtain ⟨sl,e1⟩:=I.base.slot b o e n hb hx
   exact ⟨sl,(hs.2 b (Nat.ne_of_lt (Nat.lt_of_lt_of_le (Heap.lt_size e) (I.ok.cab x c hfn hc)))).trans e1⟩
  ·obtain ⟨o',e1⟩:=I.base.there b o e hx
   exact ⟨o',(hs.2 b (Nat.ne_of_lt (Nat.lt_of_lt_of_le (Heap.lt_size e) (I.ok.cab x c hfn hc)))).trans e1⟩
  ·by_cases hj:j=i
   ·subst hj
    rw [hi] at e1;cases e1
    rw [List.getElem?_set_self hiσ] at e2
    cases e2
    exact ⟨u,r,.inr ⟨.inl hk,c,hc,hc'⟩⟩
   ·rw [List.getElem?_set_ne (Ne.symm hj)] at e2
    obtain ⟨u',r',q⟩:=hl j y v' e1 e2 e3
    refine ⟨u',r',?_⟩
    rcases q with q | ⟨k,c',e,z'⟩
    ·exact .inl q
    ·refine .inr ⟨k,c',e,z'.sameBut hs ?_⟩
     rintro rfl
     exact hj (G6 hN e1 (I.ok.inj _ _ _ e hc ▸ hi))
  ·by_cases hcc:c'=c
   ·subst hcc;exact ⟨_,hc'⟩
   ·obtain ⟨w2,z2⟩:=I.cell y c' e
    exact ⟨w2,z2.sameBut hs hcc⟩
  ·obtain ⟨e,n,ne,nf,d⟩:=I.pin p hp
   refine ⟨(hs.2 p.1 ?_).trans e,n,ne,nf,d⟩
   intro q
   rw [q,hoc] at e
   have q':oc=p.2:=Option.some.inj e
   exact d w' (by rw [← q'];exact hocd)
theorem Rr {M:Model}{A:Around}{E:Value→Shared→Prop}{i:Nat}{x:Str}{v:V}{u:Value}{Q:Unit→Shared→Prop} (I:Inv X pins σ H s) (hN:X.N.Nodup) (hi:X.N[i]?=some x) (hx:Loc X.env.scope x) (r:RelV v u)
  (h:∀ s',Inv X pins (σ.set i (some v)) H s'→Q () s') (hf:X.fn x=true∨X.env.scope.names.lookup x=some .local:=by first | exact .inl rfl | exact .inr rfl | assumption):wpAny M A (storeName X.env x u) Q E s :=
 Dj I hN hi hx r (fun s' I' _=>h s' I') hf
theorem Inv.call' {s':Shared}{ch:List Addr} (I:Inv X pins σ H s) (ho:s'.os=s.os) (u:Un (frs X.stack) ch H H' s.heap s'.heap) (hok:HOk X.prog X.w H' s'.heap) (hg:AllBare s'.gens)
  (hch:∀ b∈ch,(b∈X.ex∨X.s₀.heap.objs.size≤b)∧b≠X.env.locals∧(∀ x c,X.env.cells.lookup x=some c→c≠b)∧∀ p∈X.pn++pins,p.1≠b):Inv X pins σ H' s':=by
 obtain ⟨h',g',d',t',o'⟩:=s'
 have e:o'=s.os:=ho
 subst e
 exact I.call (g':=g') (t':=t') (d':=d') u hok hg hch
end
noncomputable abbrev XK:=Value→Option Addr→Hp→Prop
noncomputable abbrev St:=List (Option V)
noncomputable abbrev VK:=V→Hp→Prop
noncomputable abbrev TE:=St→Hp→VK→Prop
noncomputable abbrev TT:=St→Hp→(Bool→Hp→Prop)→Prop
noncomputable abbrev TA:=St→Hp→(List V→Hp→Prop)→Prop
structure Ends where
 nx:St→Hp→Prop
 rt:VK
 bk:St→Hp→Prop:=fun _ _=>False
 ct:St→Hp→Prop:=fun _ _=>False
noncomputable abbrev TS:=Ends→St→Hp→Prop
noncomputable def EP (X:Cx) (pins:List (Addr × Obj)) (σ:St) (Q:VK) (u:Value) (s':Shared):Prop:=∃ v H',Inv X pins σ H' s'∧RelV v u∧Q v H'
noncomputable def TP (X:Cx) (pins:List (Addr × Obj)) (σ:St) (Q:Bool→Hp→Prop) (b:Bool) (s':Shared):Prop:=∃ H',Inv X pins σ H' s'∧Q b H'
noncomputable def AP (X:Cx) (pins:List (Addr × Obj)) (σ:St) (Q:List V→Hp→Prop) (us:List Value) (s':Shared):Prop:=∃ vs H',Inv X pins σ H' s'∧Vals vs us∧Q vs H'
noncomputable def SP (X:Cx) (pins:List (Addr × Obj)) (D:Ends) (f:Flow) (s':Shared):Prop :=
 match f with
 | .next=>∃ σ' H',Inv X pins σ' H' s'∧D.nx σ' H'
 | .brk=>∃ σ' H',Inv X pins σ' H' s'∧D.bk σ' H'
 | .cont=>∃ σ' H',Inv X pins σ' H' s'∧D.ct σ' H'
 | .ret u=>∃ v σ' H',Inv X pins σ' H' s'∧RelV v u∧D.rt v H'
noncomputable def PE (X:Cx) (e:Expr) (t:TE):Prop :=
 ∀ (pins:List (Addr × Obj)) (s:Shared) (σ:St) (H:Hp) (Q:VK),Inv X pins σ H s→t σ H Q→wpAny (model X.prog X.w) X.A (eval e X.env) (EP X pins σ Q) X.xe s
noncomputable def PT (X:Cx) (e:Expr) (t:TT):Prop :=
 ∀ (pins:List (Addr × Obj)) (s:Shared) (σ:St) (H:Hp) (Q:Bool→Hp→Prop),Inv X pins σ H s→t σ H Q→wpAny (model X.prog X.w) X.A (isTrue e X.env (eval e X.env)) (TP X pins σ Q) X.xe s
noncomputable def PW (X:Cx) (e:Expr) (t:TT):Prop :=
 ∀ (whole:Sem Value) (pins:List (Addr × Obj)) (s:Shared) (σ:St) (H:Hp) (Q:Bool→Hp→Prop),Inv X pins σ H s→t σ H Q→wpAny (model X.prog X.w) X.A (isTrue e X.env whole) (TP X pins σ Q) X.xe s
theorem PW.pt {X:Cx}{e:Expr}{t:TT} (h:PW X e t):PT X e t:=h _
noncomputable def PA (X:Cx) (es:List Expr) (t:TA):Prop :=
 ∀ (pos:Pos) (pins:List (Addr × Obj)) (s:Shared) (σ:St) (H:Hp) (Q:List V→Hp→Prop),Inv X pins σ H s→t σ H Q→wpAny (model X.prog X.w) X.A (spliced (backTo pos (starEach es X.env))) (AP X pins σ Q) X.xe s
noncomputable def PS (X:Cx) (st:Stmt) (t:TS):Prop :=
 ∀ (pins:List (Addr × Obj)) (s:Shared) (σ:St) (H:Hp) (D:Ends),Inv X pins σ H s→t D σ H→wpAny (model X.prog X.w) X.A (exec st X.env) (SP X pins D) X.xe s
noncomputable def PSs (X:Cx) (st:List Stmt) (t:TS):Prop :=
 ∀ (pins:List (Addr × Obj)) (s:Shared) (σ:St) (H:Hp) (D:Ends),Inv X pins σ H s→t D σ H→wpAny (model X.prog X.w) X.A (execs st X.env) (SP X pins D) X.xe s
theorem thn {α:Type}{t:Sem α}{Q Q':α→Shared→Prop}{M:Model}{A:Around}{E:Value→Shared→Prop}{s:Shared} (h:wpAny M A t Q E s) (hQ:∀ a s,Q a s→Q' a s):wpAny M A t Q' E s:=wpAny_mono h hQ fun _ _ x=>x
end L2
namespace L2
open PySem PySem.Spec PyProof.Rows
section
variable {X:Cx}
theorem bin {a b:Expr}{ta tb:TE} (ha:PE X a ta) (hb:PE X b tb) {pins:List (Addr × Obj)}{s:Shared}{σ:St}{H:Hp}{R:V→V→Hp→Prop} (I:Inv X pins σ H s) (h:ta σ H fun x H1=>tb σ H1 fun y H2=>R x y H2)
  {α:Type}{Q:α→Shared→Prop}{f:Value→Value→Sem α}
  (hf:∀ v u s2 x y H2,Inv X pins σ H2 s2→RelV x v→RelV y u→R x y H2→wpAny (model X.prog X.w) X.A (f v u) Q X.xe s2) :
  wpAny (model X.prog X.w) X.A (eval a X.env) (fun v s₁=>wpAny (model X.prog X.w) X.A (eval b X.env) (fun u s₂=>wpAny (model X.prog X.w) X.A (f v u) Q X.xe s₂) X.xe s₁) X.xe s:=by
 refine thn (ha pins s σ H _ I h) fun v s1 ⟨x,H1,I1,r1,q1⟩=>?_
 refine thn (hb pins s1 σ H1 _ I1 q1) fun u s2 ⟨y,H2,I2,r2,q2⟩=>?_
 exact hf v u s2 x y H2 I2 r1 r2 q2
noncomputable def Xn (i:Nat):TE:=fun σ H Q=>∃ v,σ[i]?=some (some v)∧Q v H
noncomputable def tC (v:V):TE:=fun _ H Q=>Q v H
theorem iw {i : Nat} {x : Str} {pos : Pos} (hN : X.N[i]? = some x) (hv : Vis X.env.scope x) (hd : (x == ("__debug__" : Str)) = false:=by decide) (hcd : (x == ("__classdict__" : Str)) = false:=by decide) : PE X (.Name x pos) (Xn i):=by
 intro pins s σ H Q I h
 obtain ⟨v,e,h⟩:=h
 obtain ⟨m,hn,hl⟩:=I.loc
 obtain ⟨u,r,l⟩:=hl i x v hN e hv
 have fin:EP X pins σ Q u s:=⟨v,H,I,r,h⟩
 rcases l with ⟨hk,hm⟩ | ⟨hk,c,hc,hcell⟩
 ·exact wpAny_Name (wpAny_loadName_local I.ok.kind hk hn hm fin) hd
 ·rcases hk with hk | hk
  ·exact wpAny_Name (wpAny_loadName_cell I.ok.kind hk hc hcell fin) hd
  ·exact wpAny_Name (wpAny_loadName_free I.ok.kind hk hc hcell fin hcd) hd
theorem Yt {i j pos}:PE X (.Constant (.int i) j pos) (tC (.int i)):=fun _ _ _ H _ I h=>wpAny_Constant_int ⟨.int i,H,I.tok _,⟨_,rfl⟩,h⟩
theorem ZC {b j pos}:PE X (.Constant (.bool b) j pos) (tC (.bl b)):=fun _ _ _ H _ I h=>Constant_bool ⟨.bl b,H,I,rfl,h⟩
theorem YZ {j pos}:PE X (.Constant .none j pos) (tC .non):=fun _ _ _ H _ I h=>Constant_none ⟨.non,H,I,rfl,h⟩
theorem Yy {x j pos}:PE X (.Constant (.str x) j pos) (tC (.str x)):=fun _ _ _ H _ I h=>Calls.Constant_str ⟨.str x,H,I.tok _,⟨_,rfl⟩,h⟩
noncomputable def Gl (X:Cx) (x:Str):Prop:=X.env.kindOf x=some .globalImplicit
theorem vD {E:Value→Shared→Prop}{pins:List (Addr × Obj)}{s:Shared}{σ:St}{H:Hp}{x:Str}{u:Value}{pos:Pos}{Q:Value→Shared→Prop} (I:Inv X pins σ H s) (hg:Gl X x) (hm:X.mg x=some u) (h:Q u s)
  (hd : (x == ("__debug__" : Str)) = false:=by decide) : wpAny (model X.prog X.w) X.A (eval (.Name x pos) X.env) Q E s :=
 Calls.Name_function_global I.ok.kind hg (Calls.loadGlobal_global (by rw [I.ok.glob];exact I.mod.glob.keeps I.bk) hm h) hd
theorem fL {E:Value→Shared→Prop}{pins:List (Addr × Obj)}{s:Shared}{σ:St}{H:Hp}{x:Str}{u:Value}{pos:Pos}{Q:Value→Shared→Prop} (I:Inv X pins σ H s) (hg:Gl X x) (hm:X.mg x=none) (hv:bootBuiltins x=some u) (h:Q u s)
  (hn : x ≠ "__name__":=by decide) (hd : (x == ("__debug__" : Str)) = false:=by decide) : wpAny (model X.prog X.w) X.A (eval (.Name x pos) X.env) Q E s:=by
 obtain ⟨mb,h1,h2⟩:=I.mod.blt
 exact Calls.Name_function_global I.ok.kind hg (Calls.loadGlobal_builtin (by rw [I.ok.glob];exact I.mod.glob.keeps I.bk) hm (by rw [I.ok.blt];exact h1.keeps I.bk) ((h2 x hn).trans hv) h) hd
theorem Wy {x : Str} {v : V} {u : Value} {pos : Pos} (hg : Gl X x) (hm : X.mg x = some u) (r : RelV v u) (hd : (x == ("__debug__" : Str)) = false:=by decide) : PE X (.Name x pos) (tC v) :=
 fun _ _ _ H _ I h=>vD I hg hm ⟨v,H,I,r,h⟩ hd
theorem rF {x : Str} {v : V} {u : Value} {pos : Pos} (hg : Gl X x) (hm : X.mg x = none) (hv : bootBuiltins x = some u) (r : RelV v u) (hn : x ≠ "__name__":=by decide) (hd : (x == ("__debug__" : Str)) = false:=by decide) : PE X (.Name x pos) (tC v) :=
 fun _ _ _ H _ I h=>fL I hg hm hv ⟨v,H,I,r,h⟩ hn hd
variable {a b:Expr}{ta tb:TE}{pos:Pos}
noncomputable def PC (X:Cx) (op:CmpOp) (a b:Expr) (t:TE):Prop :=
 ∀ (pins:List (Addr × Obj)) (s:Shared) (σ:St) (H:Hp) (Q:VK),Inv X pins σ H s→t σ H Q →
  wpAny (model X.prog X.w) X.A (eval a X.env) (fun v s₁=>wpAny (model X.prog X.w) X.A (eval b X.env) (fun u s₂=>wpAny (model X.prog X.w) X.A (compareOp op v u) (EP X pins σ Q) X.xe s₂) X.xe s₁) X.xe s
noncomputable def tB (t:TE):TT:=fun σ H Q=>t σ H fun x H1=>∃ c,x=.bl c∧Q c H1
theorem aaS {op:CmpOp}{t:TE} (h:PC X op a b t) (h1:behindInMarks op b=false:=by first | exact nobehind _ (by decide) (by decide) | rfl):PT X (.Compare a [op] [b] pos) (tB t):=by
 intro pins s σ H Q I hw
 refine wpAny_isTrue_Compare1 (thn (h pins s σ H _ I hw) fun v s1 h1=>thn h1 fun u s2 h2=>thn h2 fun c s3 ⟨x,H1,I1,r1,q1⟩=>?_) h1
 obtain ⟨d,rfl,q⟩:=q1
 cases r1
 exact wpAny_truthy_bool ⟨H1,I1,q⟩
theorem Qz {e:Expr}{t:TE} (h:PE X e t) (he:∀ whole,isTrue e X.env whole=(do let v ← whole;standAt e.pos;holding [v] (truthy v)):=by intro _;rfl):PT X e (tB t):=by
 intro pins s σ H Q I hw
 refine isTrue_plain (thn (h pins s σ H _ I hw) fun v s1 ⟨x,H1,I1,r1,q1⟩=>?_) (he _)
 obtain ⟨d,rfl,q⟩:=q1
 cases r1
 exact wpAny_truthy_bool ⟨H1,I1,q⟩
variable {tA tB':TT}{rest:List Expr}
noncomputable def aaM (t u:TT):TT:=fun σ H Q=>t σ H fun c H1=>if c=true then u σ H1 Q else Q false H1
noncomputable def tOr (t u:TT):TT:=fun σ H Q=>t σ H fun c H1=>if c=true then Q true H1 else u σ H1 Q
noncomputable def aat (t:TT):TT:=fun σ H Q=>t σ H fun c H1=>Q (!c) H1
theorem Wz (ha:PT X a tA):PW X (.BoolOp .And [a] pos) tA:=by
 intro wh pins s σ H Q I h
 refine isTrue_and (thn (ha pins s σ H Q I h) fun c s1 e=>?_)
 cases c with
 | true=>exact isTrue_and_nil e
 | false=>exact e
theorem Zc (ha:PT X a tA):PW X (.BoolOp .Or [a] pos) tA:=by
 intro wh pins s σ H Q I h
 refine isTrue_or (thn (ha pins s σ H Q I h) fun c s1 e=>?_)
 cases c with
 | false=>exact isTrue_or_nil e
 | true=>exact e
theorem Xo (ha:PT X a tA) (hb:PW X (.BoolOp .And (b::rest) pos) tB'):PW X (.BoolOp .And (a::b::rest) pos) (aaM tA tB'):=by
 intro wh pins s σ H Q I h
 refine isTrue_and (thn (ha pins s σ H _ I h) fun c s1 ⟨H1,I1,q1⟩=>?_)
 cases c with
 | true=>exact hb wh pins s1 σ H1 Q I1 q1
 | false=>exact ⟨H1,I1,q1⟩
theorem Z0 (ha:PT X a tA) (hb:PW X (.BoolOp .Or (b::rest) pos) tB'):PW X (.BoolOp .Or (a::b::rest) pos) (tOr tA tB'):=by
 intro wh pins s σ H Q I h
 refine isTrue_or (thn (ha pins s σ H _ I h) fun c s1 ⟨H1,I1,q1⟩=>?_)
 cases c with
 | true=>exact ⟨H1,I1,q1⟩
 | false=>exact hb wh pins s1 σ H1 Q I1 q1
theorem O8 (ha:PT X a tA):PT X (.UnaryOp .Not a pos) (aat tA):=by
 intro pins s σ H Q I h
 exact isTrue_not (ha pins s σ H (fun c H1=>Q (!c) H1) I h)
noncomputable def Z2 (ta tb:TE):TE:=fun σ H Q=>ta σ H fun x H1=>∃ c,x=.bl c∧if c=true then tb σ H1 Q else Q (.bl false) H1
noncomputable def aav (ta tb:TE):TE:=fun σ H Q=>ta σ H fun x H1=>∃ c,x=.bl c∧if c=true then Q (.bl true) H1 else tb σ H1 Q
noncomputable def Z6 (ta:TE):TE:=fun σ H Q=>ta σ H fun x H1=>∃ c,x=.bl c∧Q (.bl (!c)) H1
theorem Nt {op}{t:TE} (h:PE X a t):PE X (.BoolOp op [a] pos) t:=fun pins s σ H Q I hw=>BoolOp_one (h pins s σ H Q I hw)
theorem YS (ha:PE X a ta) (hb:PE X (.BoolOp .And (b::rest) pos) tb):PE X (.BoolOp .And (a::b::rest) pos) (Z2 ta tb):=by
 intro pins s σ H Q I h
 refine BoolOp_and (thn (ha pins s σ H _ I h) fun v s1 ⟨x,H1,I1,r1,q1⟩=>?_)
 obtain ⟨c,rfl,q1⟩:=q1
 cases r1
 refine wpAny_truthy_bool ?_
 cases c with
 | true=>exact hb pins s1 σ H1 Q I1 q1
 | false=>exact ⟨.bl false,H1,I1,rfl,q1⟩
theorem aag (ha:PE X a ta) (hb:PE X (.BoolOp .Or (b::rest) pos) tb):PE X (.BoolOp .Or (a::b::rest) pos) (aav ta tb):=by
 intro pins s σ H Q I h
 refine BoolOp_or (thn (ha pins s σ H _ I h) fun v s1 ⟨x,H1,I1,r1,q1⟩=>?_)
 obtain ⟨c,rfl,q1⟩:=q1
 cases r1
 refine wpAny_truthy_bool ?_
 cases c with
 | false=>exact hb pins s1 σ H1 Q I1 q1
 | true=>exact ⟨.bl true,H1,I1,rfl,q1⟩
theorem Za (ha:PE X a ta):PE X (.UnaryOp .Not a pos) (Z6 ta):=by
 intro pins s σ H Q I h
 refine UnaryOp_ (thn (ha pins s σ H _ I h) fun v s1 ⟨x,H1,I1,r1,q1⟩=>?_)
 obtain ⟨c,rfl,q1⟩:=q1
 cases r1
 exact not_of (wpAny_truthy_bool ⟨.bl (!c),H1,I1,rfl,q1⟩)
noncomputable def tIf (t:TT) (ta tb:TE):TE:=fun σ H Q=>t σ H fun c H1=>if c=true then ta σ H1 Q else tb σ H1 Q
theorem RZ {c:Expr} (hc:PT X c tA) (ha:PE X a ta) (hb:PE X b tb):PE X (.IfExp c a b pos) (tIf tA ta tb):=by
 intro pins s σ H Q I h
 refine wpAny_IfExp (thn (hc pins s σ H _ I h) fun d s1 ⟨H1,I1,q1⟩=>?_)
 cases d with
 | true=>exact ha pins s1 σ H1 Q I1 q1
 | false=>exact hb pins s1 σ H1 Q I1 q1
end
end L2
namespace L2
open PySem PySem.Spec PyProof.Rows
noncomputable def SqL (K:PySem.W.Frag) (H:Hp) (a:Addr) (xs:List V):Prop :=
 Rd H a (.lst xs) ∨
  ∃ (o : Obj) (its : Array Value) (n : Nat), K.lookup a = some o ∧ o.cls = .type "list" ∧ o.dict = none ∧ o.data = .seq its n ∧ its.size ≤ sizeLine ∧ Vals xs its.toList
noncomputable def SqT (K:PySem.W.Frag) (H:Hp) (a:Addr) (xs:List V):Prop :=
 Rd H a (.tup xs) ∨
  ∃ (o : Obj) (its : Array Value) (n : Nat), K.lookup a = some o ∧ o.cls = .type "tuple" ∧ o.data = .seq its n ∧ its.size ≤ sizeLine ∧ Vals xs its.toList
noncomputable def aaH:Value→Option V
 | .none=>some .non
 | .bool b=>some (.bl b)
 | .int i _=>some (.int i)
 | .str x _=>some (.str x)
 | .bytes b _=>some (.byt b)
 | .float b _=>some (.flt b)
 | .ref a=>some (.ref a)
 | .type n=>some (.ty n)
 | _=>none
theorem RelV.abs {x:V}{u:Value} (r:RelV x u):aaH u=some x:=by
 cases x with
 | non=>cases r;rfl
 | bl _=>cases r;rfl
 | int _=>obtain ⟨t,rfl⟩:=r;rfl
 | str _=>obtain ⟨t,rfl⟩:=r;rfl
 | byt _=>obtain ⟨t,rfl⟩:=r;rfl
 | flt _=>obtain ⟨t,rfl⟩:=r;rfl
 | ref _=>cases r;rfl
 | ty _=>cases r;rfl
theorem RelV.inj {x y:V}{u:Value} (r:RelV x u) (q:RelV y u):x=y:=Option.some.inj (r.abs.symm.trans q.abs)
theorem Vals.inj:∀ {xs ys:List V}{us:List Value},Vals xs us→Vals ys us→xs=ys
 | _,_,_,.nil,.nil=>rfl
 | _,_,_,.cons r t,.cons r' t'=>by rw [r.inj r',Vals.inj t t']
section
variable {X:Cx}{pins:List (Addr × Obj)}{σ:St}{H:Hp}{s:Shared}{a:Addr}{xs ys:List V}
theorem SqL.of {K:PySem.W.Frag} (h:H a=some (.lst xs)):SqL K H a xs:=.inl (.inl h)
theorem SqT.of {K:PySem.W.Frag} (h:H a=some (.tup xs)):SqT K H a xs:=.inl (.inl h)
theorem Inv.list (I:Inv X pins σ H s) (h:SqL X.K H a xs):∃ its:List Value,Vals xs its∧PlainL s.heap a its.toArray∧xs.length≤sizeLine:=by
 rcases h with h | ⟨o,its,n,hk,hc,hd,hs,hz,r⟩
 ·obtain ⟨z,its,n,r,e⟩:=h.ok I.hok
  exact ⟨its,r,⟨_,n,e,rfl,rfl,rfl⟩,z⟩
 ·refine ⟨its.toList,r,⟨o,n,I.kIn a o hk,hc,hd,by simpa using hs⟩,?_⟩
  have e:=r.length
  simp only [Array.length_toList] at e
  omega
theorem Inv.tuple (I:Inv X pins σ H s) (h:SqT X.K H a xs):∃ its:List Value,Vals xs its∧IsTup s.heap a its.toArray∧xs.length≤sizeLine:=by
 rcases h with h | ⟨o,its,n,hk,hc,hs,hz,r⟩
 ·obtain ⟨z,its,r,p⟩:=h.ok I.hok
  exact ⟨its,r,p,z⟩
 ·refine ⟨its.toList,r,⟨o,I.kIn a o hk,hc,n,by simpa using hs⟩,?_⟩
  have e:=r.length
  simp only [Array.length_toList] at e
  omega
theorem Inv.list_inj (I:Inv X pins σ H s) (h:SqL X.K H a xs) (h':SqL X.K H a ys):xs=ys:=by
 obtain ⟨its,r,⟨o,n,e,_,_,d⟩,_⟩:=I.list h
 obtain ⟨its',r',⟨o',n',e',_,_,d'⟩,_⟩:=I.list h'
 rw [e] at e';cases e'
 rw [d] at d'
 injection d' with d1 _
 have:its=its':=by simpa using congrArg Array.toList d1
 subst this
 exact r.inj r'
theorem Inv.tuple_inj (I:Inv X pins σ H s) (h:SqT X.K H a xs) (h':SqT X.K H a ys):xs=ys:=by
 obtain ⟨its,r,⟨o,e,_,n,d⟩,_⟩:=I.tuple h
 obtain ⟨its',r',⟨o',e',_,n',d'⟩,_⟩:=I.tuple h'
 rw [e] at e';cases e'
 rw [d] at d'
 injection d' with d1 _
 have:its=its':=by simpa using congrArg Array.toList d1
 subst this
 exact r.inj r'
end
noncomputable abbrev Cx.wish (X:Cx) (E:Value→Shared→Prop):Cx:={ X with xe:=E }
noncomputable abbrev Cx.nox (X:Cx):Cx:=X.wish fun _ _=>False
theorem Cx.Ok.wish {X:Cx} (ok:X.Ok) (E:Value→Shared→Prop):(X.wish E).Ok :=
 ⟨ok.mod,ok.kind,ok.glob,ok.blt,ok.above,ok.inj,ok.has,ok.cab,ok.hd,ok.frames,ok.stk,ok.exf,ok.bs,ok.bsz,ok.noex,ok.exfs,ok.funs,ok.frf,ok.tab⟩
theorem Cx.Ok.unwish {X:Cx}{E:Value→Shared→Prop} (ok:(X.wish E).Ok):X.Ok :=
 ⟨ok.mod,ok.kind,ok.glob,ok.blt,ok.above,ok.inj,ok.has,ok.cab,ok.hd,ok.frames,ok.stk,ok.exf,ok.bs,ok.bsz,ok.noex,ok.exfs,ok.funs,ok.frf,ok.tab⟩
section
variable {X:Cx}{pins:List (Addr × Obj)}{σ:St}{H:Hp}{s:Shared}{E:Value→Shared→Prop}
theorem Inv.wish (I:Inv X pins σ H s) (E:Value→Shared→Prop):Inv (X.wish E) pins σ H s:=⟨I.ok.wish E,I.os,I.bare,I.base,I.loc,I.cell,I.free,I.freeC,I.pin,I.hok,I.len⟩
theorem Inv.unwish (I:Inv (X.wish E) pins σ H s):Inv X pins σ H s:=⟨I.ok.unwish,I.os,I.bare,I.base,I.loc,I.cell,I.free,I.freeC,I.pin,I.hok,I.len⟩
theorem SP.unwish {D:Ends}{f:Flow}{s':Shared} (h:SP (X.wish E) pins D f s'):SP X pins D f s':=by
 cases f with
 | next=>obtain ⟨σ',H',I,q⟩:=h;exact ⟨σ',H',I.unwish,q⟩
 | brk=>obtain ⟨σ',H',I,q⟩:=h;exact ⟨σ',H',I.unwish,q⟩
 | cont=>obtain ⟨σ',H',I,q⟩:=h;exact ⟨σ',H',I.unwish,q⟩
 | ret u=>obtain ⟨v,σ',H',I,r,q⟩:=h;exact ⟨v,σ',H',I.unwish,r,q⟩
theorem PSs.nox {st:List Stmt}{t:TS} (h:PSs X.nox st t):PSs X st t:=fun pins s σ H D I hw =>
 wpAny_mono (h pins s σ H D (I.wish _) hw) (fun _ _ q=>q.unwish) fun _ _ z=>False.elim z
end
section
variable {X:Cx}{st:Stmt}{rest:List Stmt}{t u:TS}{e:Expr}{te:TE}{pos:Pos}
noncomputable def Uu:TS:=fun D σ H=>D.nx σ H
noncomputable def aaG (t u:TS):TS:=fun D σ H=>t { D with nx:=u D } σ H
theorem J5:PSs X [] Uu:=fun _ _ σ H _ I h=>wpAny_execs_nil ⟨σ,H,I,h⟩
theorem yc (h1:PS X st t) (h2:PSs X rest u):PSs X (st::rest) (aaG t u):=by
 intro pins s σ H D I h
 refine wpAny_execs_cons (thn (h1 pins s σ H { D with nx:=u D } I h) fun f s1 q=>?_)
 cases f with
 | next =>
  obtain ⟨σ',H',I',q⟩:=q
  exact h2 pins s1 σ' H' D I' q
 | ret v=>exact q
 | brk=>exact q
 | cont=>exact q
theorem Bx (h1:PS X st t):PSs X [st] t:=by
 intro pins s σ H D I h
 refine wpAny_execs_cons (thn (h1 pins s σ H D I h) fun f s1 q=>?_)
 cases f with
 | next=>exact wpAny_execs_nil q
 | ret v=>exact q
 | brk=>exact q
 | cont=>exact q
noncomputable def Yz:TS:=fun D σ H=>D.bk σ H
noncomputable def Zx:TS:=fun D σ H=>D.ct σ H
theorem UJ:PS X (.Pass pos) Uu:=fun _ _ σ H _ I h=>wpAny_Pass ⟨σ,H,I,h⟩
theorem R9:PS X (.Break pos) Yz:=fun _ _ σ H _ I h=>wpAny_Break ⟨σ,H,I,h⟩
theorem IV:PS X (.Continue pos) Zx:=fun _ _ σ H _ I h=>wpAny_Continue ⟨σ,H,I,h⟩
theorem Inv.quiet {pins:List (Addr × Obj)}{σ:St}{H:Hp}{s:Shared} (I:Inv X pins σ H s):interactive X.env=false:=by simp [interactive,I.ok.kind]
noncomputable def ZF (te:TE):TS:=fun D σ H=>te σ H fun _ H1=>D.nx σ H1
theorem nF (he:PE X e te) (hs:swapsWith e none pos.line X.env=pure false:=by rfl):PS X (.Expr e pos) (ZF te):=by
 intro pins s σ H D I h
 exact wpAny_Expr_any (thn (he pins s σ H _ I h) fun v s1 ⟨x,H1,I1,r1,q1⟩=>⟨σ,H1,I1,q1⟩) I.quiet hs
noncomputable def aaI (te:TE):TS:=fun D σ H=>te σ H D.rt
theorem O6 (he:PE X e te):PS X (.Return (some e) pos) (aaI te):=by
 intro pins s σ H D I h
 exact wpAny_Return_some (thn (he pins s σ H _ I h) fun v s1 ⟨x,H1,I1,r1,q1⟩=>⟨x,σ,H1,I1,r1,q1⟩)
noncomputable def aah:TS:=fun D _ H=>D.rt .non H
theorem WM:PS X (.Return none pos) aah:=fun _ _ σ H _ I h=>wpAny_Return_none ⟨.non,σ,H,I,rfl,h⟩
noncomputable def aaO (c:TT) (t u:TS):TS:=fun D σ H=>c σ H fun b H1=>if b=true then t D σ H1 else u D σ H1
theorem Uk {c:Expr}{a b:List Stmt}{tc:TT} (hc:PT X c tc) (ha:PSs X a t) (hb:PSs X b u):PS X (.If c a b pos) (aaO tc t u):=by
 intro pins s σ H D I h
 refine wpAny_If (thn (hc pins s σ H _ I h) fun d s1 ⟨H1,I1,q1⟩=>?_)
 cases d with
 | true=>exact ha pins s1 σ H1 D I1 q1
 | false=>exact hb pins s1 σ H1 D I1 q1
noncomputable def Hv:TS:=fun _ _ _=>False
theorem Sq:PS X st Hv:=fun _ _ _ _ _ _ h=>h.elim
theorem Dd {sts:List Stmt}:PSs X sts Hv:=fun _ _ _ _ _ _ h=>h.elim
end
noncomputable abbrev TG:=V→St→Hp→(St→Hp→Prop)→Prop
noncomputable abbrev TGs:=List V→St→Hp→(St→Hp→Prop)→Prop
noncomputable def PG (X:Cx) (target:Expr) (t:TG):Prop :=
 ∀ (pins:List (Addr × Obj)) (s:Shared) (σ:St) (H:Hp) (v:V) (u:Value) (Q:St→Hp→Prop),Inv X pins σ H s→RelV v u→t v σ H Q →
  wpAny (model X.prog X.w) X.A (assign target X.env u) (fun _ s'=>∃ σ' H',Inv X pins σ' H' s'∧Q σ' H') X.xe s
noncomputable def PGs (X:Cx) (ts:List Expr) (t:TGs):Prop :=
 ∀ (pins:List (Addr × Obj)) (s:Shared) (σ:St) (H:Hp) (vs:List V) (us:List Value) (Q:St→Hp→Prop),Inv X pins σ H s→Vals vs us→t vs σ H Q →
  wpAny (model X.prog X.w) X.A (assignInOrder ((assignEach ts X.env).map (·.2)) us) (fun _ s'=>∃ σ' H',Inv X pins σ' H' s'∧Q σ' H') X.xe s
noncomputable abbrev Lp:=V→V→V→Hp→(Hp→Prop)→Prop
noncomputable def Yp (X:Cx) (t:Lp):Prop :=
 ∀ (pins:List (Addr × Obj)) (s:Shared) (σ:St) (H:Hp) (o i v:V) (ov iv u:Value) (Q:Hp→Prop),Inv X pins σ H s→RelV o ov→RelV i iv→RelV v u→t o i v H Q →
  wpAny (model X.prog X.w) X.A (setItem ov iv u) (fun _ s'=>∃ H',Inv X pins σ H' s'∧Q H') X.xe s
section
variable {X:Cx}{pos:Pos}
noncomputable def yX (i:Nat):TG:=fun v σ H Q=>Q (σ.set i (some v)) H
theorem Bu {i:Nat}{x:Str} (hN:X.N.Nodup) (hi:X.N[i]?=some x) (hx:Loc X.env.scope x) (hf:X.fn x=true∨X.env.scope.names.lookup x=some .local:=by first | exact .inl rfl | exact .inr rfl | assumption):PG X (.Name x pos) (yX i):=by
 intro pins s σ H v u Q I r h
 exact wpAny_assign_Name (Rr I hN hi hx r (fun s' I'=>⟨_,H,I',h⟩) hf)
noncomputable def Y9:TGs:=fun vs σ H Q=>vs=[]∧Q σ H
noncomputable def K5 (t:TG) (u:TGs):TGs:=fun vs σ H Q=>∃ v r,vs=v::r∧t v σ H fun σ' H'=>u r σ' H' Q
theorem Vw:PGs X [] Y9:=by
 intro pins s σ H vs us Q I r h
 obtain ⟨e,h⟩:=h
 subst e
 cases r
 exact assignInOrder_nil ⟨σ,H,I,h⟩
theorem HN {e:Expr}{es:List Expr}{t:TG}{u:TGs} (h1:PG X e t) (h2:PGs X es u)
  (hs:(assignEach (e::es) X.env).map (·.2)=assign e X.env::(assignEach es X.env).map (·.2):=by rfl):PGs X (e::es) (K5 t u):=by
 intro pins s σ H vs us Q I r h
 obtain ⟨v,vr,e1,h⟩:=h
 subst e1
 cases r with
 | cons r rr =>
  rw [hs]
  refine assignInOrder_cons (thn (h1 pins s σ H _ _ _ I r h) fun _ s1 ⟨σ1,H1,I1,q1⟩=>?_)
  exact h2 pins s1 σ1 H1 _ _ Q I1 rr q1
noncomputable def Yw (K:PySem.W.Frag) (n:Nat) (t:TGs):TG:=fun v σ H Q=>∃ a xs,v=.ref a∧SqT K H a xs∧xs.length=n∧t xs σ H Q
theorem Zf {es:List Expr}{k:Nat}{t:TGs}{n:Nat} (hc:X.calm=true) (h:PGs X es t)
  (hn:(assignEach es X.env).length=n:=by rfl) (hst:(assignEach es X.env).findIdx? (·.1)=none:=by rfl):PG X (.Tuple es k pos) (Yw X.K n t):=by
 intro pins s σ H v u Q I r hw
 obtain ⟨a,xs,e1,hq,hl,hw⟩:=hw
 subst e1
 cases r
 obtain ⟨its,rv,ht,hz⟩:=I.tuple hq
 refine assign_Tuple_tuple (I.ok.hd hc) ht (by simp [hn,← hl,rv.length]) hst fun h' hx=>?_
 have I1:Inv X pins σ H { s with heap:=h' }:=I.kept (t':=s.toks) fun b o e=>hx b o (Nat.ne_of_lt (Heap.lt_size e)) e
 exact h pins _ σ H xs _ Q I1 (by simpa using rv) hw
noncomputable def aar (to ti:TE) (t:Lp):TG:=fun v σ H Q=>to σ H fun o H1=>ti σ H1 fun i H2=>t o i v H2 fun H3=>Q σ H3
theorem N7 {o i:Expr}{to ti:TE}{t:Lp} (ho:PE X o to) (hi:PE X i ti) (hs:Yp X t)
  (ha:∀ v,assign (.Subscript o i pos) X.env v=(do
   let ov ← holding [v] (eval o X.env)
   let iv ← holding [v,ov] (eval i X.env)
   standAt pos
   holding [v,ov,iv] (setItem ov iv v)
   release [v,ov,iv] []):=by intro _;rfl):PG X (.Subscript o i pos) (aar to ti t):=by
 intro pins s σ H v u Q I r h
 rw [ha]
 refine wpAny_bind (wpAny_holding (thn (ho pins s σ H _ I h) fun ov s1 ⟨x,H1,I1,r1,q1⟩=>?_))
 refine wpAny_bind (wpAny_holding (thn (hi pins s1 σ H1 _ I1 q1) fun iv s2 ⟨y,H2,I2,r2,q2⟩=>?_))
 refine wpAny_bind (wpAny_standAt (wpAny_bind (wpAny_holding (thn (hs pins s2 σ H2 x y v ov iv u _ I2 r1 r2 r q2) fun _ s3 ⟨H3,I3,q3⟩=>?_))))
 exact wpAny_release ⟨σ,H3,I3,q3⟩
noncomputable def Tc (te:TE) (g:TG):TS:=fun D σ H=>te σ H fun x H1=>g x σ H1 D.nx
theorem jf {tg e:Expr}{te:TE}{g:TG} (he:PE X e te) (hg:PG X tg g) (hs:swapsWithSole [tg] e pos.line X.env=pure false:=by rfl) (hw:swappedStores [tg] e X.env=pure none:=by rfl)
  (h1:(assignEach [tg] X.env).map (·.2)=[assign tg X.env]:=by rfl):PS X (.Assign [tg] e pos) (Tc te g):=by
 intro pins s σ H D I h
 refine wpAny_Assign_stores (thn (he pins s σ H _ I h) fun v s1 ⟨x,H1,I1,r1,q1⟩=>?_) hs hw
 rw [h1]
 exact thn (hg pins s1 σ H1 x v _ I1 r1 q1) fun _ s2 q=>q
end
section
variable {X:Cx}{pos:Pos}
end
structure It where
 go:Nat→Hp→Prop
 yld:Nat→Hp→V→Hp→Prop
 stop:Nat→Hp→Prop
noncomputable def iG (X:Cx) (pins:List (Addr × Obj)) (H:Hp) (b:Addr):Prop :=
 H b=none∧b≠X.env.locals∧b ∉ X.fs∧(b∈X.ex∨X.s₀.heap.objs.size≤b)∧(∀ x c,X.env.cells.lookup x=some c→c≠b)∧∀ p∈X.pn++pins,p.1≠b
theorem Inv.fpOk {X:Cx}{pins:List (Addr × Obj)}{σ:St}{H H':Hp}{s:Shared}{b:Addr} (I:Inv X pins σ H s) (hb:s.heap.objs.size≤b) (hn:H' b=none):iG X pins H' b:=by
 refine ⟨hn,Nat.ne_of_gt (Nat.lt_of_lt_of_le I.lt hb),I.nofs hb,.inr (Nat.le_trans I.sz hb),fun x c e z=>?_,fun p hp z=>?_⟩
 ·obtain ⟨v,q⟩:=I.cell x c e
  exact absurd (Nat.lt_of_lt_of_le q.lt (by rw [z];exact hb)) (Nat.lt_irrefl _)
 ·exact absurd (Nat.lt_of_lt_of_le (Heap.lt_size (I.pin p hp).1) (by rw [z];exact hb)) (Nat.lt_irrefl _)
structure Turn (P:Program) (w:World) (K:PySem.W.Frag) (tg:Expr) (J:It) (fp:List Addr) (it:Addr) (tn:Nat→Heap→Prop):Prop where
 mem:it∈fp
 obj:∀ i h,tn i h→∀ b∈fp,∃ o,h.get? b=some o∧∀ v,o.data≠.cell v
 keep:∀ i h h',tn i h→(∀ b∈fp,∀ o,h.get? b=some o→h'.get? b=some o)→tn i h'
 item:∀ (X:Cx),X.prog=P→X.w=w→X.K=K→X.calm=true→∀ (i:Nat) (pins:List (Addr × Obj)) (s:Shared) (σ:St) (H:Hp) (E:Value→Shared→Prop),Inv X pins σ H s→(∀ b∈fp,iG X pins H b)→tn i s.heap→J.go i H →
  wpAny (model P w) X.A (pyNext (.ref it)) (fun r s1=>∃ u,r=some u ∧
   wpAny (model P w) X.A (letOwnedTupleGo tg (.ref it) u) (fun _ s2=>∃ x H',Inv X pins σ H' s2∧RelV x u∧J.yld i H x H'∧tn (i+1) s2.heap∧∀ b∈fp,H' b=none) E s1) E s
 done:∀ (X:Cx),X.prog=P→X.w=w→X.K=K→X.calm=true→∀ (i:Nat) (pins:List (Addr × Obj)) (s:Shared) (σ:St) (H:Hp) (E:Value→Shared→Prop),Inv X pins σ H s→(∀ b∈fp,iG X pins H b)→tn i s.heap→J.stop i H →
  wpAny (model P w) X.A (pyNext (.ref it)) (fun r s1=>r=none∧Inv X pins σ H s1) E s
 self:∀ (A:Around) (i:Nat) (s:Shared) (Q:Value→Shared→Prop) (E:Value→Shared→Prop),tn i s.heap→Q (.ref it) s→wpAny (model P w) A (pyIter (.ref it)) Q E s
noncomputable abbrev TI:=St→Hp→(It→Hp→Prop)→Prop
noncomputable def PIE (X:Cx) (pins:List (Addr × Obj)) (σ:St) (tg:Expr) (R:It→Hp→Prop) (itv:Value) (s2:Shared):Prop :=
 ∃ (it:Addr) (fp:List Addr) (tn:Nat→Heap→Prop) (J:It) (H':Hp),itv=.ref it∧Inv X pins σ H' s2∧Turn X.prog X.w X.K tg J fp it tn∧tn 0 s2.heap∧(∀ b∈fp,iG X pins H' b)∧R J H'
noncomputable def PI (X:Cx) (tg iter:Expr) (wi:TI):Prop :=
 ∀ (pins:List (Addr × Obj)) (s:Shared) (σ:St) (H:Hp) (R:It→Hp→Prop),Inv X pins σ H s→wi σ H R →
  wpAny (model X.prog X.w) X.A (eval iter X.env) (fun v s1=>wpAny (model X.prog X.w) X.A (pyIter v) (PIE X pins σ tg R) X.xe s1) X.xe s
theorem Aq {M:Model}{A:Around}{E:Value→Shared→Prop}{s:Shared}{tg:Expr}{it:Addr}{u:Value}{o:Obj}{n:String}{vs:Array Value}{Q:Unit→Shared→Prop} (ho:s.heap.get? it=some o) (hc:o.cls=.type n) (hd:o.data=.fields vs)
  (hn : ["enumerate", "zip", "dict_itemiterator", "dict_reverseitemiterator", "odict_iterator", "itertools.zip_longest", "itertools.pairwise"].contains n = false) (hQ : Q () s) : wpAny M A (letOwnedTupleGo tg (.ref it) u) Q E s:=by
 unfold letOwnedTupleGo
 cases tg <;> first
  | exact wpAny_pure hQ
  | (cases u <;> first
    | exact wpAny_pure hQ
    | (refine wpAny_bind (wpAny_load ho ?_)
       rw [hc,hd]
       show wpAny M A (if (["enumerate", "zip", "dict_itemiterator", "dict_reverseitemiterator", "odict_iterator", "itertools.zip_longest", "itertools.pairwise"].contains n && vs[0]? == some (rawInt _)) = true then _ else _) Q E s
       rw [if_neg (by intro h;rw [hn,Bool.false_and] at h;cases h)]
       exact wpAny_pure hQ))
noncomputable def Itl (K:PySem.W.Frag) (a:Addr):It :=
 ⟨fun i H=>∃ xs x,SqL K H a xs∧xs[i]?=some x,fun i H x H'=>H'=H∧∀ xs,SqL K H a xs→xs[i]?=some x,fun i H=>∃ xs,SqL K H a xs∧xs.length≤i⟩
noncomputable def Itt (K:PySem.W.Frag) (a:Addr):It :=
 ⟨fun i H=>∃ xs x,SqT K H a xs∧xs[i]?=some x,fun i H x H'=>H'=H∧∀ xs,SqT K H a xs→xs[i]?=some x,fun i H=>∃ xs,SqT K H a xs∧xs.length≤i⟩
noncomputable def Itr (lo:Int) (n:Nat):It:=⟨fun i _=>i < n,fun i H x H'=>H'=H∧x=.int (lo+i),fun i _=>n≤i⟩
theorem O5 {P:Program}{w:World}{K:PySem.W.Frag}{tg:Expr} (a it:Addr):Turn P w K tg (Itl K a) [it] it (fun i h=>h.IsListIter it a i) where
 mem:=by simp
 obj:=fun i h st b hb=>by
  have e:b=it:=by simpa using hb
  subst e
  obtain ⟨o,e,c,d⟩:=st
  exact ⟨o,e,fun v z=>by rw [d] at z;cases z⟩
 keep:=fun i h h' st k=>st.at fun o e=>k it (by simp) o e
 item:=by
  intro X hP hw hK hc i pins s σ H E I hf st hg
  subst hP hw hK
  obtain ⟨xs,x,hq,hx⟩:=hg
  obtain ⟨its,rv,p,hz⟩:=I.list hq
  obtain ⟨u,hu,ru⟩:=rv.get hx
  obtain ⟨f0,f1,f2,f3,f4,f5⟩:=hf it (by simp)
  refine wpAny_pyNext_list_item st p.isList (x:=u) (by simpa using hu) fun h' st' sb=>?_
  have I1:Inv X pins σ H { s with heap:=h' }:=I.turned (t':=s.toks) (fun b o hb e=>(sb.2 b hb).trans e) f0 f1 f3 f4 f5
  obtain ⟨o,e,c,d⟩:=id st'
  exact ⟨u,rfl,Aq (s:={ s with heap:=h' }) e c d (by decide) ⟨x,H,I1,ru,⟨rfl,fun ys hy=>by rw [I.list_inj hy hq];exact hx⟩,st',fun b hb=>(hf b hb).1⟩⟩
 done:=by
  intro X hP hw hK hc i pins s σ H E I hf st hg
  subst hP hw hK
  obtain ⟨xs,hq,hx⟩:=hg
  obtain ⟨its,rv,p,hz⟩:=I.list hq
  obtain ⟨f0,f1,f2,f3,f4,f5⟩:=hf it (by simp)
  have hl:=rv.length
  exact wpAny_pyNext_list_end (I.ok.hd hc) st p.isList (by simp;omega) fun h' eb=>⟨rfl,I.turned (t':=s.toks) (fun b o hb e=>eb b o hb e) f0 f1 f3 f4 f5⟩
 self:=fun _ _ _ _ _ st h=>wpAny_pyIter_listiter st h
theorem KH {P:Program}{w:World}{K:PySem.W.Frag}{tg:Expr} (a it:Addr):Turn P w K tg (Itt K a) [it] it (fun i h=>h.IsTupleIter it a i) where
 mem:=by simp
 obj:=fun i h st b hb=>by
  have e:b=it:=by simpa using hb
  subst e
  obtain ⟨o,e,c,d⟩:=st
  exact ⟨o,e,fun v z=>by rw [d] at z;cases z⟩
 keep:=fun i h h' st k=>st.at fun o e=>k it (by simp) o e
 item:=by
  intro X hP hw hK hc i pins s σ H E I hf st hg
  subst hP hw hK
  obtain ⟨xs,x,hq,hx⟩:=hg
  obtain ⟨its,rv,p,hz⟩:=I.tuple hq
  obtain ⟨u,hu,ru⟩:=rv.get hx
  obtain ⟨f0,f1,f2,f3,f4,f5⟩:=hf it (by simp)
  refine wpAny_pyNext_tuple_item st (show s.heap.IsTuple a its.toArray from p) (x:=u) (by simpa using hu) fun h' st' sb=>?_
  have I1:Inv X pins σ H { s with heap:=h' }:=I.turned (t':=s.toks) (fun b o hb e=>(sb.2 b hb).trans e) f0 f1 f3 f4 f5
  obtain ⟨o,e,c,d⟩:=id st'
  exact ⟨u,rfl,Aq (s:={ s with heap:=h' }) e c d (by decide) ⟨x,H,I1,ru,⟨rfl,fun ys hy=>by rw [I.tuple_inj hy hq];exact hx⟩,st',fun b hb=>(hf b hb).1⟩⟩
 done:=by
  intro X hP hw hK hc i pins s σ H E I hf st hg
  subst hP hw hK
  obtain ⟨xs,hq,hx⟩:=hg
  obtain ⟨its,rv,p,hz⟩:=I.tuple hq
  obtain ⟨f0,f1,f2,f3,f4,f5⟩:=hf it (by simp)
  have hl:=rv.length
  exact wpAny_pyNext_tuple_end (I.ok.hd hc) st (show s.heap.IsTuple a its.toArray from p) (by simp;omega) fun h' eb=>⟨rfl,I.turned (t':=s.toks) (fun b o hb e=>eb b o hb e) f0 f1 f3 f4 f5⟩
 self:=fun _ _ _ _ _ st h=>wpAny_pyIter_tupleiter st h
theorem Ms {P:Program}{w:World}{K:PySem.W.Frag}{tg:Expr} (it:Addr) (lo:Int) (n:Nat):Turn P w K tg (Itr lo n) [it] it (fun i h=>IsRangeIter h it (lo+(i:Nat) * 1) ((n:Int) - (i:Nat)) 1) where
 mem:=by simp
 obj:=fun i h st b hb=>by
  have e:b=it:=by simpa using hb
  subst e
  exact ⟨_,st,fun v z=>by
   have z':Data.fields _=Data.cell v:=z
   cases z'⟩
 keep:=fun i h h' st k=>k it (by simp) _ st
 item:=by
  intro X hP hw hK hc i pins s σ H E I hf st hg
  subst hP hw hK
  obtain ⟨f0,f1,f2,f3,f4,f5⟩:=hf it (by simp)
  have W:=Walks.range (prog:=X.prog) (w:=X.w) (I.ok.hd hc) it lo 1 n
  refine W.item i s _ _ hg st fun v h' tk hv st' kk=>?_
  obtain ⟨t,rfl⟩:=hv
  have I1:Inv X pins σ H { s with heap:=h',toks:=tk }:=I.turned (fun b o hb e=>kk b o (by simpa using hb) e) f0 f1 f3 f4 f5
  refine ⟨_, rfl, Aq (s:={ s with heap:=h', toks:=tk }) (n:="range_iterator") st' rfl rfl (by decide) ⟨.int (lo + i), H, I1, ⟨t, ?_⟩, ⟨rfl, rfl⟩, st', fun b hb => (hf b hb).1⟩⟩
  rw [Int.mul_one]
 done:=by
  intro X hP hw hK hc i pins s σ H E I hf st hg
  subst hP hw hK
  obtain ⟨f0,f1,f2,f3,f4,f5⟩:=hf it (by simp)
  exact wpAny_pyNext_range_end (I.ok.hd hc) st (by have:n≤i:=hg;omega) fun h' eb=>⟨rfl,I.turned (t':=s.toks) (fun b o hb e=>eb b o hb e) f0 f1 f3 f4 f5⟩
 self:=fun _ _ _ _ _ st h=>wpAny_pyIter_rangeiter st h
end L2
namespace L2
open PySem PySem.Spec PyProof.Rows
section
variable {X:Cx}{tg:Expr}
noncomputable def aan (K:PySem.W.Frag) (tl:TE):TI:=fun σ H R=>tl σ H fun x H1=>∃ a,x=.ref a∧(∃ xs,SqL K H1 a xs)∧R (Itl K a) H1
noncomputable def aaD (K:PySem.W.Frag) (tl:TE):TI:=fun σ H R=>tl σ H fun x H1=>∃ a,x=.ref a∧(∃ xs,SqT K H1 a xs)∧R (Itt K a) H1
theorem VR {l:Expr}{tl:TE} (hl:PE X l tl):PI X tg l (aan X.K tl):=by
 intro pins s σ H R I h
 refine thn (hl pins s σ H _ I h) fun v s1 ⟨x,H1,I1,r1,q1⟩=>?_
 obtain ⟨a,e,⟨xs,hq⟩,q⟩:=q1
 subst e
 cases r1
 obtain ⟨its,rv,p,hz⟩:=I1.list hq
 refine wpAny_pyIter_list p.isList ?_
 refine ⟨s1.heap.objs.size,[s1.heap.objs.size],_,_,H1,rfl,I1.kept (t':=s1.toks) fun b o e=>Heap.get?_push_of_some _ e,O5 a _,⟨_,Heap.get?_push_size _ rfl,rfl,rfl⟩,fun b hb=>?_,q⟩
 have e:b=s1.heap.objs.size:=by simpa using hb
 subst e
 exact I1.fpOk (Nat.le_refl _) (I1.hok.fresh (Nat.le_refl _))
theorem W2 {l:Expr}{tl:TE} (hl:PE X l tl):PI X tg l (aaD X.K tl):=by
 intro pins s σ H R I h
 refine thn (hl pins s σ H _ I h) fun v s1 ⟨x,H1,I1,r1,q1⟩=>?_
 obtain ⟨a,e,⟨xs,hq⟩,q⟩:=q1
 subst e
 cases r1
 obtain ⟨its,rv,p,hz⟩:=I1.tuple hq
 refine wpAny_pyIter_tuple (show s1.heap.IsTuple a its.toArray from p) ?_
 refine ⟨s1.heap.objs.size,[s1.heap.objs.size],_,_,H1,rfl,I1.kept (t':=s1.toks) fun b o e=>Heap.get?_push_of_some _ e,KH a _,⟨_,Heap.get?_push_size _ rfl,rfl,rfl⟩,fun b hb=>?_,q⟩
 have e:b=s1.heap.objs.size:=by simpa using hb
 subst e
 exact I1.fpOk (Nat.le_refl _) (I1.hok.fresh (Nat.le_refl _))
theorem Ib {pins:List (Addr × Obj)}{σ:St}{H:Hp}{s:Shared}{R:It→Hp→Prop}{E:Value→Shared→Prop}{lo hi:Int}{t u v:Tok}{tk:Nat} (I:Inv X pins σ H s) (h1:-(2 ^ 62)≤lo) (h2:lo < 2 ^ 62) (h3:-(2 ^ 62)≤hi) (h4:hi < 2 ^ 62)
  (q : R (Itr lo (hi - lo).toNat) H) : wpAny (model X.prog X.w) X.A (pyIter (.ref s.heap.objs.size)) (PIE X pins σ tg R) E { s with heap:=s.heap.push { cls:=.type "range", data:=.fields #[.int lo t, .int hi u, .int 1 v] }, toks:=tk }:=by
 refine wpAny_pyIter_range (IsRange.new ..) (small_one h1 h2 h3 h4) ?_
 have I1 : Inv X pins σ H { s with heap:=s.heap.push { cls:=.type "range", data:=.fields #[.int lo t, .int hi u, .int 1 v] }, toks:=tk }:=I.kept fun b o e => Heap.get?_push_of_some _ e
 refine ⟨(s.heap.push { cls:=.type "range", data:=.fields #[.int lo t, .int hi u, .int 1 v] }).objs.size, [(s.heap.push { cls:=.type "range", data:=.fields #[.int lo t, .int hi u, .int 1 v] }).objs.size], _, _, H, rfl,
  I1.kept (t':=tk) fun b o e=>Heap.get?_push_of_some _ e,Ms _ lo (hi - lo).toNat,?_,fun b hb=>?_,q⟩
 ·have e1:lo+((0:Nat):Int) * 1=lo:=by simp
  have e2:(((hi - lo).toNat:Nat):Int) - ((0:Nat):Int)=Builtin.Range.rangeSize lo hi 1:=by rw [rangeSize_one];split <;> omega
  show IsRangeIter _ _ (lo+((0:Nat):Int) * 1) ((((hi - lo).toNat:Nat):Int) - ((0:Nat):Int)) 1
  rw [e1,e2]
  exact Heap.get?_push_size _ rfl
 ·have e : b = (s.heap.push { cls:=.type "range", data:=.fields #[.int lo t, .int hi u, .int 1 v] }).objs.size:=by simpa using hb
  subst e
  exact I1.fpOk (Nat.le_refl _) (I1.hok.fresh (Nat.le_refl _))
noncomputable def aak (ta:TA):TI:=fun σ H R=>ta σ H fun vs H1=>∃ j:Int,vs=[.int j]∧-(2 ^ 62)≤j∧j < 2 ^ 62∧R (Itr 0 j.toNat) H1
noncomputable def ZP (ta:TA):TI:=fun σ H R=>ta σ H fun vs H1=>∃ i j:Int,vs=[.int i,.int j]∧(-(2 ^ 62)≤i∧i < 2 ^ 62∧-(2 ^ 62)≤j∧j < 2 ^ 62)∧R (Itr i (j - i).toNat) H1
theorem Qg {a : Expr} {ta : TA} {p pos : Pos} (hg : Gl X "range") (hm : X.mg "range" = none) (ha : PA X [a] ta) (hs : starEach [a] X.env = [(false, eval a X.env)]:=by rfl) : PI X tg (.Call (.Name "range" p) [a] [] pos) (aak ta):=by
 intro pins s σ H R I h
 refine Call_ (fL I hg hm boot_range (PyProof.Rows.callWith_type1 (thn (ha pos pins s σ H _ I h) fun us s1 ⟨vs,H1,I1,r1,q1⟩=>?_) hs rfl))
 obtain ⟨j,e,q1,q2,q⟩:=q1
 subst e
 cases r1 with
 | cons r rr =>
  cases rr
  obtain ⟨t,rfl⟩:=r
  exact call_range_1 (Ib I1 (by omega) (by omega) q1 q2 (by simpa using q))
theorem Oa {a b : Expr} {ta : TA} {p pos : Pos} (hg : Gl X "range") (hm : X.mg "range" = none) (ha : PA X [a, b] ta) (hs : starEach [a, b] X.env = [(false, eval a X.env), (false, eval b X.env)]:=by rfl) (hs2 : starEach [b] X.env = [(false, eval b X.env)]:=by rfl) :
  PI X tg (.Call (.Name "range" p) [a, b] [] pos) (ZP ta):=by
 intro pins s σ H R I h
 refine Call_ (fL I hg hm boot_range (PyProof.Rows.callWith_type1 (thn (ha pos pins s σ H _ I h) fun us s1 ⟨vs,H1,I1,r1,q1⟩=>?_) (by rw [hs,hs2]) (by rw [hs2];rfl)))
 obtain ⟨i,j,e,⟨q1,q2,q3,q4⟩,q⟩:=q1
 subst e
 cases r1 with
 | cons r rr =>
  cases rr with
  | cons r' rr =>
   cases rr
   obtain ⟨t,rfl⟩:=r
   obtain ⟨t',rfl⟩:=r'
   exact call_range_2 (Ib I1 q1 q2 q3 q4 q)
noncomputable def aay (wi:TI) (g:TG) (tb:TS):TS:=fun D σ H=>wi σ H fun J H1=>∃ W:Nat→Nat→St→Hp→Prop,(∃ m,W 0 m σ H1)∧∀ i m σ H,W i m σ H →
 (J.stop i H∧D.nx σ H)∨(J.go i H∧∃ N:St→Hp→Prop,(∀ σ' H',N σ' H'→∃ m',m' < m∧W (i+1) m' σ' H')∧∀ x H',J.yld i H x H'→g x σ H' fun σ2 H2=>tb { D with nx:=N,ct:=N,bk:=D.nx } σ2 H2)
noncomputable def uV (fp:List Addr) (h:Heap):List (Addr × Obj):=fp.filterMap fun b=>(h.get? b).map fun o=>(b,o)
theorem nu {fp:List Addr}{h:Heap}{b:Addr}{o:Obj} (hb:b∈fp) (e:h.get? b=some o):(b,o)∈uV fp h:=List.mem_filterMap.mpr ⟨b,hb,by rw [e];rfl⟩
theorem Qt {fp:List Addr}{h:Heap}{p:Addr × Obj} (hp:p∈uV fp h):p.1∈fp∧h.get? p.1=some p.2:=by
 obtain ⟨b,hb,e⟩:=List.mem_filterMap.mp hp
 cases q:h.get? b with
 | none=>rw [q] at e;cases e
 | some o =>
  rw [q] at e
  have e':(b,o)=p:=Option.some.inj e
  subst e'
  exact ⟨hb,q⟩
theorem Inv.pinned {pins:List (Addr × Obj)}{σ:St}{H:Hp}{s:Shared}{fp:List Addr} (I:Inv X pins σ H s) (hf:∀ b∈fp,iG X pins H b) (ho:∀ b∈fp,∃ o,s.heap.get? b=some o∧∀ v,o.data≠.cell v):Inv X (pins++uV fp s.heap) σ H s :=
 I.pins_of fun p hp=>(List.mem_append.mp hp).elim (fun z=>I.pin p (List.mem_append_right _ z)) fun z=>by
  obtain ⟨hb,e⟩:=Qt z
  obtain ⟨f0,f1,f2,_⟩:=hf p.1 hb
  obtain ⟨o,e',d⟩:=ho p.1 hb
  rw [e] at e';cases e'
  exact ⟨e,f0,f1,f2,d⟩
theorem Inv.unpinned {pins pl:List (Addr × Obj)}{σ:St}{H:Hp}{s:Shared} (I:Inv X (pins++pl) σ H s):Inv X pins σ H s:=I.pins_of fun p hp=>I.pin p (List.mem_append_right _ (List.mem_append_left _ hp))
theorem YF {iter:Expr}{body:List Stmt}{wi:TI}{g:TG}{tb:TS}{pos:Pos} (hp:PassesOwn (model X.prog X.w) X.A X.env X.xe) (hc:X.calm=true) (hi:PI X tg iter wi) (hg:PG X tg g) (hb:PSs X body tb)
  (hs:∀ x,foldedSetIterable iter X.env x=pure x:=by intro _;rfl):PS X (.For tg iter body [] pos) (aay wi g tb):=by
 intro pins s σ H D I h
 refine wpAny_For (thn (hi pins s σ H _ I h) fun v s1 h1=>thn h1 fun itv s2 h2=>?_) hs
 obtain ⟨it,fp,tn,J,H2,e,I2,T,st2,f2,W,⟨m0,w0⟩,turn⟩:=h2
 subst e
 have stat:∀ {H':Hp},(∀ b∈fp,H' b=none)→∀ b∈fp,iG X pins H' b:=fun hn b hb=>⟨hn b hb,(f2 b hb).2⟩
 refine codeAny_forLoop_any (fun n s'=>∃ i σ' H',Inv X pins σ' H' s'∧tn i s'.heap∧(∀ b∈fp,H' b=none)∧W i n σ' H') ?_ m0 ⟨0,σ,H2,I2,st2,fun b hb=>(f2 b hb).1,w0⟩
 rintro n s3 ⟨i,σ3,H3,I3,st3,fr3,w3⟩
 rcases turn i n σ3 H3 w3 with ⟨stop,qn⟩ | ⟨go,N,hN,step⟩
 ·refine wpAny_passesOwn hp (thn (T.done X rfl rfl rfl hc i pins s3 σ3 H3 X.xe I3 (stat fr3) st3 stop) fun r s4 ⟨hr,I4⟩=>?_)
  subst hr
  exact wpAny_execs_nil ⟨σ3,H3,I4,qn⟩
 ·refine wpAny_passesOwn hp (thn (T.item X rfl rfl rfl hc i pins s3 σ3 H3 X.xe I3 (stat fr3) st3 go) fun r s4 ⟨u,hr,h4⟩=>?_)
  subst hr
  refine wpAny_passesOwn hp (thn h4 fun _ s5 ⟨x,H5,I5,r5,y5,st5,fr5⟩=>?_)
  have I5':=I5.pinned (stat fr5) (T.obj _ _ st5)
  refine wpAny_passesOwn hp (thn (hg _ s5 σ3 H5 x u _ I5' r5 (step x H5 y5)) fun _ s6 ⟨σ6,H6,I6,q6⟩=>?_)
  refine wpAny_passesOwn hp (thn (hb _ s6 σ6 H6 _ I6 q6) fun f s7 q7=>?_)
  have again:∀ {σ7:St}{H7:Hp},Inv X (pins++uV fp s5.heap) σ7 H7 s7→N σ7 H7→∃ m,m < n∧∃ i σ' H',Inv X pins σ' H' s7∧tn i s7.heap∧(∀ b∈fp,H' b=none)∧W i m σ' H':=fun {σ7 H7} I7 n7=>by
   obtain ⟨m',hm,w7⟩:=hN σ7 H7 n7
   refine ⟨m',hm,i+1,σ7,H7,I7.unpinned,T.keep _ _ _ st5 fun b hb o e=>(I7.pin (b,o) (List.mem_append_right _ (List.mem_append_right _ (nu hb e)))).1,fun b hb=>?_,w7⟩
   obtain ⟨o,e,d⟩:=T.obj _ _ st5 b hb
   exact (I7.pin (b,o) (List.mem_append_right _ (List.mem_append_right _ (nu hb e)))).2.1
  cases f with
  | next=>obtain ⟨σ7,H7,I7,n7⟩:=q7;exact again I7 n7
  | cont=>obtain ⟨σ7,H7,I7,n7⟩:=q7;exact again I7 n7
  | brk=>obtain ⟨σ7,H7,I7,q7⟩:=q7;exact ⟨σ7,H7,I7.unpinned,q7⟩
  | ret v=>obtain ⟨x7,σ7,H7,I7,r7,q7⟩:=q7;exact ⟨x7,σ7,H7,I7.unpinned,r7,q7⟩
end
end L2
namespace L2
open PySem PySem.Spec PyProof.Rows
noncomputable abbrev R2:=V→V→Hp→VK→Prop
noncomputable def OpR (X:Cx) (f:Value→Value→Sem Value) (r:R2):Prop :=
 ∀ (pins:List (Addr × Obj)) (s:Shared) (σ:St) (H:Hp) (x y:V) (v u:Value) (Q:VK),Inv X pins σ H s→RelV x v→RelV y u→r x y H Q →
  wpAny (model X.prog X.w) X.A (f v u) (EP X pins σ Q) X.xe s
noncomputable def UnR (X:Cx) (f:Value→Sem Value) (r:V→Hp→VK→Prop):Prop :=
 ∀ (pins:List (Addr × Obj)) (s:Shared) (σ:St) (H:Hp) (x:V) (v:Value) (Q:VK),Inv X pins σ H s→RelV x v→r x H Q →
  wpAny (model X.prog X.w) X.A (f v) (EP X pins σ Q) X.xe s
noncomputable def jx (X:Cx) (f:Value) (r:List V→Hp→VK→Prop):Prop :=
 ∀ (pins:List (Addr × Obj)) (s:Shared) (σ:St) (H:Hp) (xs:List V) (us:List Value) (Q:VK),Inv X pins σ H s→Vals xs us→r xs H Q →
  wpAny (model X.prog X.w) X.A (call f us) (EP X pins σ Q) X.xe s
noncomputable def tOp (r:R2) (ta tb:TE):TE:=fun σ H Q=>ta σ H fun x H1=>tb σ H1 fun y H2=>r x y H2 Q
noncomputable def tUn (r:V→Hp→VK→Prop) (ta:TE):TE:=fun σ H Q=>ta σ H fun x H1=>r x H1 Q
noncomputable def rI (C:Int→Int→Prop) (g:Int→Int→V):R2:=fun x y H Q=>∃ i j,x=.int i∧y=.int j∧C i j∧Q (g i j) H
noncomputable def rI0 (g:Int→Int→V):R2:=fun x y H Q=>∃ i j,x=.int i∧y=.int j∧Q (g i j) H
noncomputable def rU (g:Int→V):V→Hp→VK→Prop:=fun x H Q=>∃ i,x=.int i∧Q (g i) H
section
variable {X:Cx}{a b c:Expr}{ta tb tc:TE}{pos:Pos}
theorem Ro (ha:PE X a ta) (hb:PE X b tb) {pins:List (Addr × Obj)}{s:Shared}{σ:St}{H:Hp}{R:V→V→Hp→Prop} (I:Inv X pins σ H s)
  (h:ta σ H fun x H1=>tb σ H1 fun y H2=>R x y H2) {Q:Value→Shared→Prop}{f:Value→Value→Sem Value}
  (hf:∀ v u s2 x y H2,Inv X pins σ H2 s2→RelV x v→RelV y u→R x y H2→wpAny (model X.prog X.w) X.A (f v u) Q X.xe s2) :
  wpAny (model X.prog X.w) X.A (eval a X.env) (fun v s₁=>wpAny (model X.prog X.w) X.A (eval b X.env) (fun u s₂=>wpAny (model X.prog X.w) X.A (f v u) Q X.xe s₂) X.xe s₁) X.xe s:=by
 refine thn (ha pins s σ H _ I h) fun v s1 ⟨x,H1,I1,r1,q1⟩=>?_
 refine thn (hb pins s1 σ H1 _ I1 q1) fun u s2 ⟨y,H2,I2,r2,q2⟩=>?_
 exact hf v u s2 x y H2 I2 r1 r2 q2
theorem Z4 {op:Operator}{r:R2} (ho:OpR X (binaryOp op) r) (ha:PE X a ta) (hb:PE X b tb):PE X (.BinOp a op b pos) (tOp r ta tb):=by
 intro pins s σ H Q I h
 exact wpAny_BinOp (Ro ha hb I h fun v u s2 x y H2 I2 rx ry q=>ho pins s2 σ H2 x y v u Q I2 rx ry q)
theorem Z5 {op:UnaryOp}{r:V→Hp→VK→Prop} (ho:UnR X (unaryOp op) r) (ha:PE X a ta):PE X (.UnaryOp op a pos) (tUn r ta):=by
 intro pins s σ H Q I h
 exact UnaryOp_ (thn (ha pins s σ H _ I h) fun v s1 ⟨x,H1,I1,r1,q1⟩=>ho pins s1 σ H1 x v Q I1 r1 q1)
theorem opI {f:Value→Value→Sem Value}{C:Int→Int→Prop}{g:Int→Int→Int}
  (rule:∀ (i j:Int) (t u:Tok) (s:Shared) (Q:Value→Shared→Prop) (E:Value→Shared→Prop),C i j→Q (.int (g i j) s.toks) { s with toks:=s.toks+1 }→wpAny (model X.prog X.w) X.A (f (.int i t) (.int j u)) Q E s) :
  OpR X f (rI C fun i j=>.int (g i j)):=by
 intro pins s σ H x y v u Q I rx ry h
 obtain ⟨i,j,rfl,rfl,hc,q⟩:=h
 obtain ⟨t,rfl⟩:=rx
 obtain ⟨t',rfl⟩:=ry
 exact rule i j t t' s _ _ hc ⟨.int (g i j),H,I.tok _,⟨_,rfl⟩,q⟩
theorem Yi {f:Value→Value→Sem Value}{g:Int→Int→Int}
  (rule:∀ (i j:Int) (t u:Tok) (s:Shared) (Q:Value→Shared→Prop) (E:Value→Shared→Prop),Q (.int (g i j) s.toks) { s with toks:=s.toks+1 }→wpAny (model X.prog X.w) X.A (f (.int i t) (.int j u)) Q E s) :
  OpR X f (rI0 fun i j=>.int (g i j)):=by
 intro pins s σ H x y v u Q I rx ry h
 obtain ⟨i,j,rfl,rfl,q⟩:=h
 obtain ⟨t,rfl⟩:=rx
 obtain ⟨t',rfl⟩:=ry
 exact rule i j t t' s _ _ ⟨.int (g i j),H,I.tok _,⟨_,rfl⟩,q⟩
theorem Ma {f:Value→Value→Sem Value}{g:Int→Int→Bool}
  (rule:∀ (i j:Int) (t u:Tok) (s:Shared) (Q:Value→Shared→Prop) (E:Value→Shared→Prop),Q (.bool (g i j)) s→wpAny (model X.prog X.w) X.A (f (.int i t) (.int j u)) Q E s) :
  OpR X f (rI0 fun i j=>.bl (g i j)):=by
 intro pins s σ H x y v u Q I rx ry h
 obtain ⟨i,j,rfl,rfl,q⟩:=h
 obtain ⟨t,rfl⟩:=rx
 obtain ⟨t',rfl⟩:=ry
 exact rule i j t t' s _ _ ⟨.bl (g i j),H,I,rfl,q⟩
noncomputable def YG (i j:Int):Prop:=0 < j∧j < 1073741824
noncomputable def Lz (i j:Int):Prop:=(-(2 ^ 64) < i∧i < 2 ^ 64)∨(-(2 ^ 64) < j∧j < 2 ^ 64)
theorem Lz.ok {i j:Int} (h:Lz i j):IntMulOk i j:=by
 rcases h with ⟨h1,h2⟩ | ⟨h1,h2⟩
 ·exact .of_left (intBits_le_64 h1 h2)
 ·exact .of_right (intBits_le_64 h1 h2)
theorem Xe:OpR X (binaryOp .Add) (rI0 fun i j=>.int (i+j)):=Yi fun _ _ _ _ _ _ _ q=>add_int q
theorem YJ:OpR X (binaryOp .Sub) (rI0 fun i j=>.int (i - j)):=Yi fun _ _ _ _ _ _ _ q=>sub_int q
theorem X8:OpR X (binaryOp .Mult) (rI Lz fun i j=>.int (i * j)):=opI fun _ _ _ _ _ _ _ hc q=>mul_int q hc.ok
theorem Wr:OpR X (binaryOp .FloorDiv) (rI YG fun i j=>.int (i / j)):=opI fun i j _ _ _ _ _ hc q=>by
 have h1:(0:Int) < j:=hc.1
 have h2:j < 1073741824:=hc.2
 exact floordiv_int (by omega) (by rw [Int.fdiv_eq_ediv_of_nonneg i (by omega)];exact q) (.inl (PyProof.noPylong_small (by omega)))
theorem YM:OpR X (binaryOp .Mod) (rI (fun _ j=>0 < j) fun i j=>.int (i % j)):=opI fun i j _ _ _ _ _ hc q=>by
 have h1:(0:Int) < j:=hc
 exact mod_int' (by omega) (by rw [Int.fmod_eq_emod_of_nonneg i (by omega)];exact q)
theorem unI {f:Value→Sem Value}{g:Int→Int}
  (rule:∀ (i:Int) (t:Tok) (s:Shared) (Q:Value→Shared→Prop) (E:Value→Shared→Prop),Q (.int (g i) s.toks) { s with toks:=s.toks+1 }→wpAny (model X.prog X.w) X.A (f (.int i t)) Q E s) :
  UnR X f (rU fun i=>.int (g i)):=by
 intro pins s σ H x v Q I rx h
 obtain ⟨i,rfl,q⟩:=h
 obtain ⟨t,rfl⟩:=rx
 exact rule i t s _ _ ⟨.int (g i),H,I.tok _,⟨_,rfl⟩,q⟩
theorem Ye:UnR X (unaryOp .USub) (rU fun i=>.int (-i)):=unI fun _ _ _ _ _ q=>neg_int q
end
section
variable {X:Cx}{a b c:Expr}{ta tb tc:TE}{pos:Pos}
theorem aal:OpR X (compareOp .Lt) (rI0 fun i j=>.bl (decide (i < j))):=Ma fun _ _ _ _ _ _ _ q=>lt_int q
theorem Zt:OpR X (compareOp .LtE) (rI0 fun i j=>.bl (decide (i≤j))):=Ma fun _ _ _ _ _ _ _ q=>le_int q
theorem Zu:OpR X (compareOp .Gt) (rI0 fun i j=>.bl (decide (j < i))):=Ma fun _ _ _ _ _ _ _ q=>gt_int q
theorem Z9:OpR X (compareOp .GtE) (rI0 fun i j=>.bl (decide (j≤i))):=Ma fun _ _ _ _ _ _ _ q=>ge_int q
theorem OpR.or {f:Value→Value→Sem Value}{r r':R2} (h:OpR X f r) (h':OpR X f r'):OpR X f (fun x y H Q=>r x y H Q∨r' x y H Q):=by
 intro pins s σ H x y v u Q I rx ry q
 rcases q with q | q
 ·exact h pins s σ H x y v u Q I rx ry q
 ·exact h' pins s σ H x y v u Q I rx ry q
theorem VP {op:CmpOp}{r:R2} (ho:OpR X (compareOp op) r) (ha:PE X a ta) (hb:PE X b tb) (hm:behindInMarks op b=false):PE X (.Compare a [op] [b] pos) (tOp r ta tb):=by
 intro pins s σ H Q I h
 exact wpAny_Compare1 (Ro ha hb I h fun v u s2 x y H2 I2 rx ry q=>ho pins s2 σ H2 x y v u Q I2 rx ry q) hm
noncomputable def Um (t:TE):TT:=fun σ H Q=>t σ H fun x H'=>∃ k,x=.bl k∧Q k H'
theorem Wo {op:CmpOp}{r:R2} (ho:OpR X (compareOp op) r) (ha:PE X a ta) (hb:PE X b tb) (hm:behindInMarks op b=false):PT X (.Compare a [op] [b] pos) (Um (tOp r ta tb)):=by
 intro pins s σ H Q I h
 refine wpAny_isTrue_Compare1 (thn (ha pins s σ H _ I h) fun v s1 ⟨x,H1,I1,r1,q1⟩=>thn (hb pins s1 σ H1 _ I1 q1) fun u s2 ⟨y,H2,I2,r2,q2⟩ =>
  thn (ho pins s2 σ H2 x y v u _ I2 r1 r2 q2) fun c s3 ⟨z,H3,I3,r3,k,e,q3⟩=>?_) hm
 subst e
 cases r3
 exact wpAny_truthy_bool ⟨H3,I3,q3⟩
noncomputable def Ht (r r':R2) (ta tb tc:TE):TE:=fun σ H Q=>ta σ H fun x H1=>tb σ H1 fun y H2=>r x y H2 fun z H3=>∃ k,z=.bl k ∧
 (if k=true then tc σ H3 fun w' H4=>r' y w' H4 Q else Q (.bl false) H3)
theorem QL {op op':CmpOp}{r r':R2} (ho:OpR X (compareOp op) r) (ho':OpR X (compareOp op') r') (ha:PE X a ta) (hb:PE X b tb) (hc:PE X c tc)
  (hm:lastMarks [op,op'] [b,c]=false:=by with_unfolding_all rfl):PE X (.Compare a [op,op'] [b,c] pos) (Ht r r' ta tb tc):=by
 intro pins s σ H Q I h
 refine Compare_chain (thn (ha pins s σ H _ I h) fun v s1 ⟨x,H1,I1,r1,q1⟩=>chain_link (thn (hb pins s1 σ H1 _ I1 q1) fun u s2 ⟨y,H2,I2,r2,q2⟩ =>
  thn (ho pins s2 σ H2 x y v u _ I2 r1 r2 q2) fun d s3 ⟨z,H3,I3,r3,k,e,q3⟩=>?_)) hm
 subst e
 cases r3
 refine wpAny_truthy_bool ?_
 cases k with
 | false=>exact ite_ff ⟨.bl false,H3,I3,rfl,q3⟩
 | true=>exact ite_tt (chain_last (thn (hc pins s3 σ H3 _ I3 q3) fun w' s4 ⟨z',H4,I4,r4,q4⟩=>ho' pins s4 σ H4 y z' u w' Q I4 r2 r4 q4))
theorem Tr {op op':CmpOp}{r r':R2} (ho:OpR X (compareOp op) r) (ho':OpR X (compareOp op') r') (ha:PE X a ta) (hb:PE X b tb) (hc:PE X c tc)
  (hm:lastMarks [op,op'] [b,c]=false:=by with_unfolding_all rfl):PT X (.Compare a [op,op'] [b,c] pos) (Um (Ht r r' ta tb tc)):=by
 intro pins s σ H Q I h
 refine isTrue_chain (thn (ha pins s σ H _ I h) fun v s1 ⟨x,H1,I1,r1,q1⟩=>test_link (thn (hb pins s1 σ H1 _ I1 q1) fun u s2 ⟨y,H2,I2,r2,q2⟩ =>
  thn (ho pins s2 σ H2 x y v u _ I2 r1 r2 q2) fun d s3 ⟨z,H3,I3,r3,k,e,q3⟩=>?_)) hm
 subst e
 cases r3
 refine wpAny_truthy_bool ?_
 cases k with
 | false =>
  obtain ⟨k',e',q'⟩:=q3
  cases e'
  exact ite_ff ⟨H3,I3,q'⟩
 | true =>
  refine ite_tt (test_last (thn (hc pins s3 σ H3 _ I3 q3) fun w' s4 ⟨z',H4,I4,r4,q4⟩=>thn (ho' pins s4 σ H4 y z' u w' _ I4 r2 r4 q4) fun d' s5 ⟨z2,H5,I5,r5,k2,e2,q5⟩=>?_))
  subst e2
  cases r5
  exact wpAny_truthy_bool ⟨H5,I5,q5⟩
theorem Fw:(sizeLine:Nat) < 2 ^ 63:=by rw [sizeLine_eq];decide
theorem vals1 {x:V}{us:List Value} (r:Vals [x] us):∃ u,us=[u]∧RelV x u:=by
 cases r with
 | cons r1 r2=>cases r2;exact ⟨_,rfl,r1⟩
theorem vals2 {x y:V}{us:List Value} (r:Vals [x,y] us):∃ u w',us=[u,w']∧RelV x u∧RelV y w':=by
 cases r with
 | cons r1 r2 =>
  cases r2 with
  | cons r3 r4=>cases r4;exact ⟨_,_,rfl,r1,r3⟩
theorem Ql (hc : X.calm = true) : jx X (.builtin "max") (fun xs H Q => ∃ i j, xs = [.int i, .int j] ∧ Q (.int (if j > i then j else i)) H):=by
 intro pins s σ H xs us Q I r h
 obtain ⟨i,j,rfl,q⟩:=h
 obtain ⟨u,w',rfl,⟨t,rfl⟩,⟨t',rfl⟩⟩:=vals2 r
 refine max_two_ints (I.ok.hd hc) fun h' tk k=>⟨_,H,I.kept k,?_,q⟩
 by_cases hj:j > i
 ·rw [if_pos hj,if_pos hj];exact ⟨_,rfl⟩
 ·rw [if_neg hj,if_neg hj];exact ⟨_,rfl⟩
theorem Oh (hc : X.calm = true) : jx X (.builtin "min") (fun xs H Q => ∃ i j, xs = [.int i, .int j] ∧ Q (.int (if j < i then j else i)) H):=by
 intro pins s σ H xs us Q I r h
 obtain ⟨i,j,rfl,q⟩:=h
 obtain ⟨u,w',rfl,⟨t,rfl⟩,⟨t',rfl⟩⟩:=vals2 r
 refine min_two_ints (I.ok.hd hc) fun h' tk k=>⟨_,H,I.kept k,?_,q⟩
 by_cases hj:j < i
 ·rw [if_pos hj,if_pos hj];exact ⟨_,rfl⟩
 ·rw [if_neg hj,if_neg hj];exact ⟨_,rfl⟩
end
end L2
namespace L2
open PySem PySem.Spec PyProof.Rows
structure ObjM (h:Heap) (x dx C:Addr) (mA:Str→Option Value):Prop where
 obj:h.get? x=some (PySem.W.instObj C dx)
 ns:h.Ns1 dx mA
 ne:dx≠x
theorem PJ {h:Heap}{dx:Addr}{mA:Str→Option Value} (n:h.Ns1 dx mA):∃ od,h.get? dx=some od∧∀ name,PySem.W.lookIn name od=some (mA name):=by
 obtain ⟨o,es,ep,ho,hd,hk,_,hm⟩:=n
 refine ⟨o,ho,fun name=>?_⟩
 have e:=hm name
 unfold nsFind findBy at e
 rw [← Array.find?_toList] at e
 unfold PySem.W.lookIn
 rw [hd]
 dsimp only
 split
 ·rename_i y q
  rw [q] at e
  exact congrArg some e
 ·rename_i q
  rw [q] at e
  have a:es.toList.any (·.refKey)=false:=by
   rw [List.any_eq_false]
   intro y hy
   obtain ⟨z,t,hkey⟩:=hk y (Array.mem_toList_iff.mp hy)
   simp [DictEntry.refKey,hkey]
  have a':¬ es.toList.any (·.refKey)=true:=by rw [a];exact Bool.false_ne_true
  rw [if_neg a']
  exact congrArg some e
theorem ObjM.look {h:Heap}{x dx C:Addr}{mA:Str→Option Value} (I:ObjM h x dx C mA):∃ od,PySem.W.InstAt h x (PySem.W.instObj C dx) C (some od)∧∀ name,PySem.W.lookIn name od=some (mA name) :=
 let ⟨od,ho,hl⟩:=PJ I.ns
 ⟨od,⟨I.obj,rfl,rfl,ho⟩,hl⟩
section
variable {prog:Program}{w:World}{A:Around}{E:Value→Shared→Prop}{s:Shared}{K:PySem.W.Frag}{x dx C f:Addr}{mA:Str→Option Value}{name:Str}{v:Value}
end
section
variable {P:Program}{w:World}{H H':Hp}{h h':Heap}{a C dx:Addr}{fs fs':List (Str × V)}
theorem Wd (hok:HOk P w H h) (e:H a=some (.ins C dx fs)):∃ mA,ObjM h a dx C mA∧(∀ f,SX (fs.lookup f) (mA f))∧PySem.Within mA (fs.map (·.1))∧fs.length≤1000∧H dx=some (.own a):=by
 obtain ⟨d,z,ne,ob,mA,n,r,q⟩:=(show cO P w H h a (.ins C dx fs) from hok a _ e)
 exact ⟨mA,⟨ob,n,ne⟩,r,q,z,d⟩
end
structure Cls (K:PySem.W.Frag) (C:Addr):Prop where
 pg:PySem.W.plainGet K C Str.empty=true
 hd:PySem.W.hasDictIn K C=true
 po:PySem.W.plainOver K C=true
 sa : PySem.W.findIn K (.ref C) "__setattr__" = some (some (.builtin "object.__setattr__"))
theorem Cls.get {K:PySem.W.Frag}{C:Addr} (c:Cls K C) (f:Str):PySem.W.plainGet K C f=true:=c.pg
section
variable {X:Cx}{pins:List (Addr × Obj)}{σ:St}{H:Hp}{s:Shared}{a C dx:Addr}{fs:List (Str × V)}{f:Str}{v:V}{A:Around}{E:Value→Shared→Prop}
end
section
variable {X:Cx}{o e value:Expr}{f:Str}{pos pos' tpos:Pos}{ta tv:TE}
end
section
variable {X:Cx}{pins:List (Addr × Obj)}{σ:St}{H:Hp}{s:Shared}{A:Around}{E:Value→Shared→Prop}{Q:Value→Shared→Prop}{c:Value}{b:Bool}
inductive TyOf (K:PySem.W.Frag) (H:Hp):V→Value→Prop where
 | non : TyOf K H .non (.type "NoneType")
 | bl (x : Bool) : TyOf K H (.bl x) (.type "bool")
 | int (i : Int) : TyOf K H (.int i) (.type "int")
 | str (x : Str) : TyOf K H (.str x) (.type "str")
 | flt (x : UInt64) : TyOf K H (.flt x) (.type "float")
 | lst {a : Addr} {xs : List V} (e : H a = some (.lst xs)) : TyOf K H (.ref a) (.type "list")
 | frz {a : Addr} {o : Obj} {xs : List V} (e : H a = some (.frz o (.lst xs))) : TyOf K H (.ref a) (.type "list")
 | tup {a : Addr} {xs : List V} (e : H a = some (.tup xs)) : TyOf K H (.ref a) (.type "tuple")
 | dK {a : Addr} {kvs : List (Key × V)} (e : H a = some (.dK kvs)) : TyOf K H (.ref a) (.type "dict")
 | dT {a : Addr} {kvs : List (List Key × V)} (e : H a = some (.dT kvs)) : TyOf K H (.ref a) (.type "dict")
 | ins {a C dx : Addr} {fs : List (Str × V)} (e : H a = some (.ins C dx fs)) (cl : Cls K C) (ha : PySem.W.findIn K (.ref C) "__class__" = some (some (.builtin "object.__class__")))
   (hn : PySem.W.specialIn K (.builtin "object.__class__") "__get__" = some (some (.builtin "getset_descriptor.__get__"))) (htk : PySem.W.takesIn K (.builtin "object.__class__") = some true)
   (hm : PySem.W.mroIn K C (.type "object") = some true) : TyOf K H (.ref a) (.ref C)
theorem oR {x:V}{u t:Value} (I:Inv X pins σ H s) (rx:RelV x u) (ty:TyOf X.K H x t) (e:PySem.W.kitOne X.K t c=some b) (h:∀ tk,Q (.bool b) { s with toks:=tk }) :
  wpAny (model X.prog X.w) A (call (.builtin "isinstance") [u, c]) Q E s:=by
 cases ty with
 | non=>cases (show u=Value.none from rx);exact PySem.W.kia_one PySem.W.kitx_none I.kIn True.intro e (fun z=>nomatch z) h
 | bl y=>cases (show u=Value.bool y from rx);exact PySem.W.kia_one PySem.W.kitx_bool I.kIn True.intro e (fun z=>nomatch z) h
 | int i=>obtain ⟨t,q⟩:=(show ∃ t,u=Value.int i t from rx);cases q;exact PySem.W.kia_one PySem.W.kitx_int I.kIn True.intro e (fun z=>nomatch z) h
 | str y=>obtain ⟨t,q⟩:=(show ∃ t,u=Value.str y t from rx);cases q;exact PySem.W.kia_one PySem.W.kitx_str I.kIn True.intro e (fun z=>nomatch z) h
 | flt y=>obtain ⟨t,q⟩:=(show ∃ t,u=Value.float y t from rx);cases q;exact PySem.W.kia_one PySem.W.kitx_float I.kIn True.intro e (fun z=>nomatch z) h
 | @lst a xs ea =>
  cases (show u=Value.ref a from rx)
  obtain ⟨_,_,n,_,h1⟩:=(show cO X.prog X.w H s.heap a (.lst xs) from I.hok a _ ea)
  exact PySem.W.kia_one PySem.W.kitx_list I.kIn ⟨_,h1,rfl⟩ e (fun z=>nomatch z) h
 | @frz a ob xs ea =>
  cases (show u=Value.ref a from rx)
  obtain ⟨_,_,_,n,_,h1⟩:=(show cO X.prog X.w H s.heap a (.frz ob (.lst xs)) from I.hok a _ ea)
  exact PySem.W.kia_one PySem.W.kitx_list I.kIn ⟨_,h1,rfl⟩ e (fun z=>nomatch z) h
 | @tup a xs ea =>
  cases (show u=Value.ref a from rx)
  obtain ⟨_,_,_,p⟩:=(show cO X.prog X.w H s.heap a (.tup xs) from I.hok a _ ea)
  obtain ⟨o,h1,h2,_⟩:=p
  exact PySem.W.kia_one PySem.W.kitx_tuple I.kIn ⟨o,h1,h2⟩ e (fun z=>nomatch z) h
 | @dK a kvs ea =>
  cases (show u=Value.ref a from rx)
  obtain ⟨_,_,vs,_,p⟩:=(show cO X.prog X.w H s.heap a (.dK kvs) from I.hok a _ ea)
  obtain ⟨o,es,ep,h1,h2,_⟩:=p
  exact PySem.W.kia_one PySem.W.kitx_dict I.kIn ⟨o,h1,h2.1⟩ e (fun z=>nomatch z) h
 | @dT a kvs ea =>
  cases (show u=Value.ref a from rx)
  obtain ⟨_,_,xs,_,o,es,ep,h1,h2,_⟩:=(show cO X.prog X.w H s.heap a (.dT kvs) from I.hok a _ ea)
  exact PySem.W.kia_one PySem.W.kitx_dict I.kIn ⟨o,h1,h2.1⟩ e (fun z=>nomatch z) h
 | @ins a C dx fs ea cl ha hn htk hm =>
  cases (show u=Value.ref a from rx)
  obtain ⟨mA,O,_⟩:=Wd I.hok ea
  obtain ⟨od,J,_⟩:=O.look
  exact PySem.W.kia_one (PySem.W.kitx_own (cl.get _) cl.hd ha hn htk hm) I.kIn J e (fun z=>nomatch z) h
end
end L2
namespace L2
open PySem PySem.Spec PyProof.Rows
structure Room (k:Nat) (A:Around):Prop where
 hd:A.handled=none
 dp:A.depth+3 * k+5 < recursionLimit
 un:A.units+16 * k+200 < cLine
theorem Room.deeper {k:Nat}{A:Around} (r:Room (k+1) A) (env:Env):Room k (A.deeper env) :=
 ⟨r.hd,by have:=r.dp;show A.depth+1+3 * k+5 < _;omega,by have:=r.un;show A.units+3+16 * k+200 < _;omega⟩
theorem Room.depth {k:Nat}{A:Around} (r:Room k A):A.depth < recursionLimit:=by have:=r.dp;omega
noncomputable def Yl:TA:=fun _ H Q=>Q [] H
noncomputable def aad (ta:TE) (tr:TA):TA:=fun σ H Q=>ta σ H fun x H1=>tr σ H1 fun xs H2=>Q (x::xs) H2
section
variable {X:Cx}{e:Expr}{es:List Expr}{te:TE}{t:TA}{pos:Pos}
theorem lJ:PA X [] Yl:=fun _ _ _ _ H Q I h=>Calls.spliced_nil ⟨[],H,I,.nil,h⟩
theorem fW (ha:PE X e te) (hr:PA X es t) (hs:starEach (e::es) X.env=(false,eval e X.env)::starEach es X.env:=by rfl):PA X (e::es) (aad te t):=by
 intro pos pins s σ H Q I h
 rw [hs]
 show wpAny _ _ (spliced ((false,eval e X.env)::backTo pos (starEach es X.env))) _ _ s
 refine Calls.spliced_cons (thn (ha pins s σ H _ I h) fun u s1 ⟨x,H1,I1,r1,q1⟩=>?_)
 exact thn (hr pos pins s1 σ H1 _ I1 q1) fun us s2 ⟨xs,H2,I2,r2,q2⟩=>⟨x::xs,H2,I2,.cons r1 r2,q2⟩
noncomputable def aaN (t:TA):TE:=fun σ H Q=>t σ H fun xs H1=>xs.length≤sizeLine∧∀ p,H1 p=none→Q (.ref p) (upd H1 p (.tup xs))
noncomputable def aaF (t:TA):TE:=fun σ H Q=>t σ H fun xs H1=>xs.length≤sizeLine∧∀ p,H1 p=none→Q (.ref p) (upd H1 p (.lst xs))
theorem XJ {x1} (h:PA X es t):PE X (.Tuple es x1 pos) (aaN t):=by
 intro pins s σ H Q I hq
 refine wpAny_Tuple_spliced (thn (h pos pins s σ H _ I hq) fun us s1 ⟨xs,H1,I1,r,z,q⟩=>⟨by rw [← r.length];exact z,?_⟩)
 have hf:H1 s1.heap.objs.size=none:=I1.hok.fresh (Nat.le_refl _)
 refine ⟨.ref s1.heap.objs.size,upd H1 s1.heap.objs.size (.tup xs),I1.laid (t':=s1.toks) (fun b u e=>Heap.get?_push_of_some _ e) (Nat.le_refl _) ?_,rfl,q _ hf⟩
 exact ⟨z,us,r,⟨_,Heap.get?_push_size _ rfl,rfl,_,rfl⟩⟩
theorem Ot (h:PA X es t):PE X (.List es pos) (aaF t):=by
 intro pins s σ H Q I hq
 refine wpAny_List_spliced (thn (h pos pins s σ H _ I hq) fun us s1 ⟨xs,H1,I1,r,z,q⟩=>⟨by rw [← r.length];exact z,?_⟩)
 have hf:H1 s1.heap.objs.size=none:=I1.hok.fresh (Nat.le_refl _)
 refine ⟨.ref s1.heap.objs.size,upd H1 s1.heap.objs.size (.lst xs),I1.laid (t':=s1.toks) (fun b u e=>Heap.get?_push_of_some _ e) (Nat.le_refl _) ?_,rfl,q _ hf⟩
 exact ⟨z,us,0,r,Heap.get?_push_size _ rfl⟩
end
noncomputable abbrev Sp:=List V→Hp→VK→XK→Prop
noncomputable abbrev CXT:=List Env→Hp→Shared→XK→Value→Shared→Prop
structure Env0 (P:Program) (w:World) (K:PySem.W.Frag) (mg:Str→Option Value) (base:Heap) (A:Around) (outer:List Env) (s:Shared) (H:Hp):Prop where
 frames:A.frames=some outer
 mod:Mod K mg base
 bs:∀ b o,base.get? b=some o→s.heap.get? b=some o∧H b=none
 bsz:base.objs.size≤s.heap.objs.size
 funs:s.heap.FunFrames base outer
 frf:∀ b∈frs outer,H b=none
 hok:HOk P w H s.heap
 bare:AllBare s.gens
 tab:oX K mg H
noncomputable def CE (outer:List Env) (P:Program) (w:World) (H:Hp) (s:Shared) (Q:VK) (u:Value) (s':Shared):Prop :=
 ∃ v H',s'.os=s.os∧AllBare s'.gens∧Un (frs outer) [] H H' s.heap s'.heap∧HOk P w H' s'.heap∧RelV v u∧Q v H'
noncomputable def CR (CX:CXT) (outer:List Env) (P:Program) (w:World) (H:Hp) (s:Shared) (Q:VK) (E:XK) (r:Result) (s':Shared):Prop :=
 match r with
 | .ok (.ret u)=>CE outer P w H s Q u s'
 | .ok _=>False
 | .error e=>CX outer H s E e s'
structure FnOk (P:Program) (w:World) (K:PySem.W.Frag) (mg:Str→Option Value) (base:Heap) (CX:CXT) (k:Nat) (f:Addr) (fd:FuncData) (ps:List Str) (sp:Sp):Prop where
 len:∀ vs H Q E,sp vs H Q E→vs.length=ps.length
 run:∀ (A:Around) (outer:List Env) (s:Shared) (H:Hp) (args:Args) (us:List Value) (vs:List V) (Q:VK) (E:XK),Room k A→Env0 P w K mg base A outer s H→BindsTo s fd args (ps.zip us)→Vals vs us→sp vs H Q E →
  codeAny (model P w) A (.call (.ref f) args) (CR CX outer P w H s Q E) s
section
variable {X:Cx}{pins:List (Addr × Obj)}{σ:St}{H:Hp}{s s':Shared}
theorem Inv.env0 (I:Inv X pins σ H s):Env0 X.prog X.w X.K X.mg X.base X.A X.stack s H :=
 ⟨I.ok.frames,I.ok.mod,I.bs,Nat.le_trans I.ok.bsz I.sz,I.stack,I.stkFree,I.hok,I.bare,I.ok.tab.un I.base⟩
theorem Inv.after {Q:VK}{u:Value} (I:Inv X pins σ H s) (h:CE X.stack X.prog X.w H s Q u s'):EP X pins σ Q u s':=by
 obtain ⟨v,H',os,bare,un,hok,r,q⟩:=h
 obtain ⟨hh,g,d,t,os'⟩:=s'
 obtain rfl:os'=s.os:=os
 exact ⟨v,H',I.call (h':=hh) (g':=g) (d':=d) (t':=t) (ch:=[]) un hok bare (fun b z=>absurd z (by simp)),r,q⟩
end
noncomputable def Us (sp:Sp) (dvs:List V) (E:XK) (t:TA):TE:=fun σ H Q=>t σ H fun vs H1=>sp (vs++dvs) H1 Q E
noncomputable def Binds (K:PySem.W.Frag) (fd:FuncData) (ps:List Str) (ds:List Value):Prop :=
 ∀ (s:Shared) (us:List Value),K.In s.heap→(us++ds).length=ps.length→BindsTo s fd ⟨us,[]⟩ (ps.zip (us++ds))
theorem Binds.all {K:PySem.W.Frag}{fd:FuncData}{ps:List Str} (h:∀ us:List Value,us.length=ps.length→bindArgs fd ⟨us,[]⟩=pure (ps.zip us)):Binds K fd ps []:=fun s us _ hl=>by
 rw [List.append_nil] at hl ⊢
 exact .of_eq (h us hl)
noncomputable def Passes (CX:CXT) (X:Cx) (E:XK):Prop:=∀ (pins:List (Addr × Obj)) (σ:St) (H:Hp) (s:Shared) (e:Value) (s':Shared),Inv X pins σ H s→CX X.stack H s E e s'→X.xe e s'
section
variable {X:Cx}{CX:CXT}{k:Nat}{f C:Addr}{fd:FuncData}{ps:List Str}{sp:Sp}{dvs:List V}{ds:List Value}{E:XK}{x m:Str}{p pos apos:Pos}{e o:Expr}{es:List Expr}{ta:TE}{t:TA}
theorem Ol {pins:List (Addr × Obj)}{σ:St}{H:Hp}{s:Shared}{Q:VK}{us:List Value}{vs:List V} (F:FnOk X.prog X.w X.K X.mg X.base CX k f fd ps sp) (hr:Room k X.A) (hb:Binds X.K fd ps ds) (hd:Vals dvs ds) (hx:Passes CX X E)
  (I:Inv X pins σ H s) (r:Vals vs us) (h:sp (vs++dvs) H Q E):wpAny (model X.prog X.w) X.A (call (.ref f) us) (EP X pins σ Q) X.xe s:=by
 have r2:Vals (vs++dvs) (us++ds):=r.append hd
 have hl:(us++ds).length=ps.length:=by rw [← r2.length];exact F.len _ _ _ _ h
 refine wpAny_call (codeAny_mono (F.run X.A X.stack s H ⟨us,[]⟩ (us++ds) (vs++dvs) Q E hr I.env0 (hb s us I.kIn hl) r2 h) fun r s' hq=>?_)
 cases r with
 | error e=>exact hx pins σ H s e s' I hq
 | ok fl =>
  cases fl with
  | ret u=>exact I.after hq
  | next=>exact False.elim hq
  | brk=>exact False.elim hq
  | cont=>exact False.elim hq
theorem Bj (F:FnOk X.prog X.w X.K X.mg X.base CX k f fd ps sp) (hr:Room k X.A) (hg:Gl X x) (hm:X.mg x=some (.ref f)) (hk:PySem.W.keepIn X.K (.ref f)=true) (hb:Binds X.K fd ps ds) (hd:Vals dvs ds) (hx:Passes CX X E)
  (ha : PA X (e :: es) t) (hdb : (x == ("__debug__" : Str)) = false:=by decide) (he : starEach (e :: es) X.env = (false, eval e X.env) :: starEach es X.env:=by rfl) (hpl : (backTo pos (starEach es X.env)).any (·.1) = false:=by rfl) :
  PE X (.Call (.Name x p) (e::es) [] pos) (Us sp dvs E t):=by
 intro pins s σ H Q I h
 refine wpAny_Call_Name_kw (vD I hg hm ?_ hdb)
 refine PySem.W.callWith_K (h₀:=X.base) I.ok.mod.kin hk (thn (ha pos pins s σ H _ I h) fun us s1 ⟨vs,H1,I1,r,q⟩=>⟨I1.kIn,?_⟩) he hpl
 exact Ol F hr hb hd hx I1 r q
theorem Uj (F:FnOk X.prog X.w X.K X.mg X.base CX k f fd ps sp) (hr:Room k X.A) (hg:Gl X x) (hm:X.mg x=some (.ref f)) (hk:PySem.W.keepIn X.K (.ref f)=true) (hb:Binds X.K fd ps ds) (hd:Vals dvs ds) (hx:Passes CX X E)
  (hdb : (x == ("__debug__" : Str)) = false:=by decide) : PE X (.Call (.Name x p) [] [] pos) (Us sp dvs E Yl):=by
 intro pins s σ H Q I h
 refine wpAny_Call_Name_kw (vD I hg hm ?_ hdb)
 exact PySem.W.callWith_K0 I.kIn hk (Ol (us:=[]) F hr hb hd hx I .nil h)
end
section
variable {X:Cx}{CX:CXT}{k:Nat}{f C:Addr}{fd:FuncData}{ps ks:List Str}{sp:Sp}{E:XK}{x m:Str}{p pos apos kpos:Pos}{e o:Expr}{es:List Expr}{kws:List Keyword}{te ta:TE}{t tk:TA}{nm:Option Str}
variable {g:List Value→List Value→List Value}{gV:List V→List V→List V}
end
structure FnScope (N P:List Str) (sc:Scope):Prop where
 kind:sc.kind=.function
 co:sc.isCoroutine=false
 gen:sc.isGenerator=false
 nd:N.Nodup
 pre:N.take P.length=P
 par:∀ x∈P,sc.names.lookup x=some .local∨sc.names.lookup x=some .cell
 nofree:∀ y∈sc.names,y.2≠.free
theorem CK {kindOf:Str→Option NameKind}{x:Str}:∀ {binds:List (Str × Value)}{m:Str→Option Value},(∀ v,(x,v) ∉ binds)→bindL kindOf binds m x=m x
 | [],_,_=>rfl
 | (n,v)::r,m,h=>by
  unfold bindL
  rw [CK fun w hw=>h w (List.mem_cons_of_mem _ hw)]
  split
  ·have:x≠n:=by rintro rfl;exact h v List.mem_cons_self
   simp [this]
  ·rfl
theorem Ce {kindOf:Str→Option NameKind}{x:Str}:∀ {binds:List (Str × Value)}{m:Str→Option Value},(∀ v,(x,v) ∉ binds)→bindC kindOf binds m x=m x
 | [],_,_=>rfl
 | (n,v)::r,m,h=>by
  unfold bindC
  rw [Ce fun w hw=>h w (List.mem_cons_of_mem _ hw)]
  split
  ·rfl
  ·have:x≠n:=by rintro rfl;exact h v List.mem_cons_self
   simp [this]
theorem Cp {kindOf:Str→Option NameKind}{x:Str}{v:Value}:∀ {P:List Str}{vs:List Value}{i:Nat}{m:Str→Option Value},P.Nodup→P[i]?=some x→vs[i]?=some v→kindOf x=some .local →
  bindL kindOf (P.zip vs) m x=some v
 | [],_,_,_,_,h,_,_=>by simp at h
 | _::_,[],_,_,_,_,h,_=>by simp at h
 | p::P,w::vs,0,m,nd,h1,h2,hk=>by
  simp at h1 h2;subst h1;subst h2
  show bindL kindOf ((p,w)::P.zip vs) m p=_
  unfold bindL
  rw [CK fun v hv=>(List.nodup_cons.mp nd).1 (List.of_mem_zip hv).1,if_pos hk]
  simp
 | p::P,w::vs,i+1,m,nd,h1,h2,hk=>by
  show bindL kindOf ((p,w)::P.zip vs) m x=_
  unfold bindL
  exact Cp (i:=i) (List.nodup_cons.mp nd).2 (by simpa using h1) (by simpa using h2) hk
theorem BX {kindOf:Str→Option NameKind}{x:Str}{v:Value}:∀ {P:List Str}{vs:List Value}{i:Nat}{m:Str→Option Value},P.Nodup→P[i]?=some x→vs[i]?=some v→kindOf x≠some .local →
  bindC kindOf (P.zip vs) m x=some v
 | [],_,_,_,_,h,_,_=>by simp at h
 | _::_,[],_,_,_,_,h,_=>by simp at h
 | p::P,w::vs,0,m,nd,h1,h2,hk=>by
  simp at h1 h2;subst h1;subst h2
  show bindC kindOf ((p,w)::P.zip vs) m p=_
  unfold bindC
  rw [Ce fun v hv=>(List.nodup_cons.mp nd).1 (List.of_mem_zip hv).1,if_neg hk]
  simp
 | p::P,w::vs,i+1,m,nd,h1,h2,hk=>by
  show bindC kindOf ((p,w)::P.zip vs) m x=_
  unfold bindC
  exact BX (i:=i) (List.nodup_cons.mp nd).2 (by simpa using h1) (by simpa using h2) hk
noncomputable def start (N:List Str) (vs:List V):St:=vs.map some++List.replicate (N.length - vs.length) none
noncomputable def gH (CX:CXT) (P:Program) (w:World) (K:PySem.W.Frag) (mg:Str→Option Value) (base:Heap) (N:List Str) (qual:Str) (scope:Scope) (f:Addr) (cd:Value) (A:Around) (outer:List Env) (s:Shared) (H:Hp) (E:XK):Cx where
 prog:=P
 w:=w
 K:=K
 mg:=mg
 base:=base
 A:=A.deeper (envOfC qual scope s.heap.objs.size f cd)
 N:=N
 s₀:=s
 H₀:=H
 env:=envOfC qual scope s.heap.objs.size f cd
 outer:=outer
 stack:=envOfC qual scope s.heap.objs.size f cd::outer
 ex:=[]
 calm:=true
 fn:=fun _=>true
 pn:=[]
 xe:=fun e s'=>wpAny (model P w) (A.deeper (envOfC qual scope s.heap.objs.size f cd)) (leaving (envOfC qual scope s.heap.objs.size f cd) e) (fun _ s''=>CX outer H s E e s'') (fun e' s''=>CX outer H s E e' s'') s'
theorem Ik {sc:Scope}{n:Nat}{x:Str} (h:sc.names.lookup x=some .cell):∃ c,(cellsFrom n sc.names []).lookup x=some c:=by
 have q:=PySem.W.cellsFrom_some sc.names n [] (.inl h)
 exact Option.isSome_iff_exists.mp q
theorem Cg {CX:CXT}{P:Program}{w:World}{K:PySem.W.Frag}{mg:Str→Option Value}{base:Heap}{N ps:List Str}{qual:Str}{scope:Scope}{f:Addr}{cd:Value}{A:Around}{outer:List Env}{s s1:Shared}{H:Hp}{E:XK}{us:List Value}{vs:List V}
  (S:FnScope N ps scope) (hd:A.handled=none) (e0:Env0 P w K mg base A outer s H) (hl:vs.length=ps.length) (r:Vals vs us)
  (x:InCallC s s.heap.objs.size (bindL (envOfC qual scope s.heap.objs.size f cd).kindOf (ps.zip us) fun _=>none) (cellsFrom (s.heap.objs.size+1) scope.names []) (bindC (envOfC qual scope s.heap.objs.size f cd).kindOf (ps.zip us) fun _=>none) s1) :
  Inv (gH CX P w K mg base N qual scope f cd A outer s H E) [] (start N vs) H s1:=by
 have hpl:ps.length≤N.length:=by have:=congrArg List.length S.pre;rw [List.length_take] at this;omega
 obtain ⟨h1,tk,rfl,hk⟩:=x.done
 have noA:∀ b:Addr,b ∉ (gH CX P w K mg base N qual scope f cd A outer s H E).ex:=fun b z=>absurd (show b∈([]:List Addr) from z) (by simp)
 refine ⟨⟨e0.mod,S.kind,rfl,rfl,Nat.le_refl _,fun y z c h1 h2=>?_,fun y hy=>?_,fun y c _ h=>?_,fun _=>hd,Around.frames_deeper e0.frames,.inr ⟨rfl,rfl⟩,fun b z=>absurd z (noA b),e0.bs,e0.bsz,fun b _ _=>noA b,fun b z=>absurd z (noA b),e0.funs,e0.frf,e0.tab⟩,
  rfl,e0.bare,Un.kept hk,⟨_,x.toInCall.ns,fun i y v h1 h2 h3=>?_⟩,fun y c h=>⟨_,x.cell y c h⟩,e0.hok.fresh (Nat.le_refl _),fun y c h=>?_,fun p hp=>absurd (show p∈([]:List (Addr × Obj)) from hp) (by simp),e0.hok.kept hk,?_⟩
 ·exact name_of_addr x.apart (PySem.mem_of_lookup h1) (PySem.mem_of_lookup h2)
 ·have hy:scope.names.lookup y=some .cell∨scope.names.lookup y=some .free:=hy
  rcases hy with hy | hy
  ·exact Ik hy
  ·exact absurd rfl (S.nofree _ (PySem.mem_of_lookup hy))
 ·exact Nat.le_of_lt (x.above y c (PySem.mem_of_lookup h))
 ·have hi:i < vs.length:=by
   unfold start at h2
   by_cases hi:i < vs.length
   ·exact hi
   ·rw [List.getElem?_append_right (by simpa using hi)] at h2
    rw [List.getElem?_replicate] at h2
    split at h2 <;> cases h2
  have ha:vs[i]?=some v:=by
   unfold start at h2
   rw [List.getElem?_append_left (by simpa using hi),List.getElem?_map] at h2
   cases e:vs[i]? with
   | none=>rw [e] at h2;cases h2
   | some a=>rw [e] at h2;cases h2;rfl
  obtain ⟨u,hu,rv⟩:=r.get ha
  have hp:ps[i]?=some y:=by
   rw [← S.pre,List.getElem?_take_of_lt (by omega)];exact h1
  have ndP:ps.Nodup:=by rw [← S.pre];exact S.nd.sublist (List.take_sublist _ _)
  refine ⟨u,rv,?_⟩
  rcases S.par y (List.mem_of_getElem? hp) with k | k
  ·exact .inl ⟨k,Cp ndP hp hu k⟩
  ·obtain ⟨c,e⟩:=Ik (n:=s.heap.objs.size+1) k
   refine .inr ⟨.inl k,c,e,?_⟩
   have q:=x.cell y c e
   rw [BX ndP hp hu (by show scope.names.lookup y≠_;rw [k];decide)] at q
   exact q
 ·exact e0.hok.fresh (Nat.le_of_lt (x.above y c (PySem.mem_of_lookup h)))
 ·unfold start
  show _=N.length
  rw [List.length_append,List.length_map,List.length_replicate]
  omega
theorem ZV {CX:CXT}{P:Program}{w:World}{K:PySem.W.Frag}{mg:Str→Option Value}{base:Heap}{k:Nat}{f:Addr}{name qual:Str}{params:Arguments}{body:List Stmt}{scope:Scope}{dV kV doc pm cdv ct oc:Value}{an od:Option Addr}
  {osl:Array (Option Value)}{N ps:List Str}{sp:Sp} (lk:K.lookup f=some ⟨oc,od,.func (PySem.W.fnOf name qual params body scope dV kV doc pm an cdv ct),osl⟩) (hcd:PySem.W.codeIn K cdv qual=true) (S:FnScope N ps scope)
  (len:∀ vs H Q E,sp vs H Q E→vs.length=ps.length)
  (hbody:∀ (A:Around) (outer:List Env) (s:Shared) (H:Hp) (vs:List V) (Q:VK) (E:XK),Room k (A.deeper (envOfC qual scope s.heap.objs.size f cdv))→sp vs H Q E →
   ∃ t,PSs (gH CX P w K mg base N qual scope f cdv A outer s H E) body t∧t { nx:=fun _ H'=>Q .non H',rt:=Q } (start N vs) H) :
  FnOk P w K mg base CX (k+1) f (PySem.W.fnOf name qual params body scope dV kV doc pm an cdv ct) ps sp:=by
 refine ⟨len,fun A outer s H args us vs Q E hr e0 hb r hsp=>?_⟩
 have hl:=len _ _ _ _ hsp
 have KX:K.In s.heap:=e0.mod.kin.keeps fun b o e=>(e0.bs b o e).1
 have lim:s.heap.NoLimit:=e0.mod.nolimit.keeps fun b o e=>(e0.bs b o e).1
 have hkind:∀ y∈ps.zip us,scope.names.lookup y.1=some .local∨(scope.names.lookup y.1=some .cell∧((cellsFrom (s.heap.objs.size+1) scope.names []).lookup y.1).isSome=true):=fun ⟨n,v⟩ hy=>by
  rcases S.par n (List.of_mem_zip hy).1 with q | q
  ·exact .inl q
  ·exact .inr ⟨q,PySem.W.cellsFrom_some _ _ _ (.inl q)⟩
 refine codeAny_call_function hr.depth (KX _ _ lk) rfl S.co S.gen rfl (PySem.W.codeRec_of KX hcd) (hb _ _ _ _ ?_)
 refine wpAny_newFunctionEnv_cells S.kind hkind fun env he s1 x=>?_
 subst he
 refine ⟨lim.keeps x.toInCall.keep,codeAny_func ?_⟩
 obtain ⟨t,ht,hq⟩:=hbody A outer s H vs Q E (hr.deeper _) hsp
 have I:Inv (gH CX P w K mg base N qual scope f cdv A outer s H E) [] (start N vs) H s1:=Cg S hr.hd e0 hl r x
 refine wpAny_mono (ht [] s1 (start N vs) H _ I hq) (fun fl s' hs=>?_) fun e s' hs=>hs
 have fin:∀ {σ':St}{H':Hp}{v:V}{u:Value},Inv (gH CX P w K mg base N qual scope f cdv A outer s H E) [] σ' H' s'→RelV v u→Q v H'→CE outer P w H s Q u s' :=
  fun {σ' H' v u} J rv q=>⟨v,H',J.os,J.bare,J.base,J.hok,rv,q⟩
 cases fl with
 | ret u =>
  obtain ⟨v,σ',H',J,rv,q⟩:=hs
  exact fin J rv q
 | next =>
  obtain ⟨σ',H',J,q⟩:=hs
  exact fin (v:=V.non) (u:=Value.none) J rfl q
 | brk =>
  obtain ⟨_,_,_,q⟩:=hs
  exact False.elim q
 | cont =>
  obtain ⟨_,_,_,q⟩:=hs
  exact False.elim q
end L2
namespace L2
open PySem PySem.Spec PyProof.Rows
section
variable {X:Cx}{x:Str}{p pos:Pos}{e:Expr}{es:List Expr}{t:TA}{id T:String}{r:List V→Hp→VK→Prop}
noncomputable def tCB (r:List V→Hp→VK→Prop) (t:TA):TE:=fun σ H Q=>t σ H fun vs H1=>r vs H1 Q
theorem jo (hc : jx X (.builtin id) r) (hg : Gl X x) (hm : X.mg x = none) (hv : bootBuiltins x = some (.builtin id)) (ha : PA X (e :: es) t) (hn : x ≠ "__name__":=by decide) (hdb : (x == ("__debug__" : Str)) = false:=by decide)
  (he:starEach (e::es) X.env=(false,eval e X.env)::starEach es X.env:=by rfl) (hpl:(backTo pos (starEach es X.env)).any (·.1)=false:=by rfl):PE X (.Call (.Name x p) (e::es) [] pos) (tCB r t):=by
 intro pins s σ H Q I h
 refine wpAny_Call_Name_kw (fL I hg hm hv ?_ hn hdb)
 exact PyProof.Rows.callWith_builtin1 (thn (ha pos pins s σ H _ I h) fun us s1 ⟨vs,H1,I1,r1,q1⟩=>hc pins s1 σ H1 vs us Q I1 r1 q1) he hpl
theorem ux (hc : jx X (.type T) r) (hg : Gl X x) (hm : X.mg x = none) (hv : bootBuiltins x = some (.type T)) (ha : PA X (e :: es) t) (hn : x ≠ "__name__":=by decide) (hdb : (x == ("__debug__" : Str)) = false:=by decide)
  (he:starEach (e::es) X.env=(false,eval e X.env)::starEach es X.env:=by rfl) (hpl:(backTo pos (starEach es X.env)).any (·.1)=false:=by rfl):PE X (.Call (.Name x p) (e::es) [] pos) (tCB r t):=by
 intro pins s σ H Q I h
 refine wpAny_Call_Name_kw (fL I hg hm hv ?_ hn hdb)
 exact PyProof.Rows.callWith_type1 (thn (ha pos pins s σ H _ I h) fun us s1 ⟨vs,H1,I1,r1,q1⟩=>hc pins s1 σ H1 vs us Q I1 r1 q1) he hpl
end
end L2
namespace HT
open PySem PyProof.Rows
theorem Rq (A:Around) (s:Shared) (a:Int) (t:Tok) (c:Int) (u:Tok) (prog:Program) (w:World) (E:Value→Shared→Prop) (Q:Value→Shared→Prop) (h:Q (.bool (decide (a < c))) s) :
  wpAny (model prog w) A (richCompare .Lt (.int a t) (.int c u)) Q E s :=
 (PyProof.Rows.lt_int h:wpAny (model prog w) A (compareOp .Lt (.int a t) (.int c u)) Q E s)
section
open PySem.SeqAt
open PySem.AutoSeq1 (wpAny_loadPart')
open PySem.MeetsSeq PySem.MeetsSeq2 PySem.MeetsSeq3
end
section
variable {prog:Program}{w:World}{A:Around}{E:Value→Shared→Prop}{s:Shared}
theorem V8 {t b:Addr}{vs ws:List Value}{Q:Value→Shared→Prop} (ht:IsTup s.heap t vs.toArray) (hb:IsTup s.heap b ws.toArray) (hv:vs≠[])
  (h1 : ws = [] → Q (.ref t) s) (h2 : ws ≠ [] → Q (.ref s.heap.objs.size) { s with heap:=s.heap.push { cls:=.type "tuple", data:=.seq (vs ++ ws).toArray } })
  (hsz:vs.length+ws.length≤sizeLine):wpAny (model prog w) A (binaryOp .Add (.ref t) (.ref b)) Q E s:=by
 obtain ⟨⟨cls,dd,data,sl⟩,ho,hc,n,hd⟩:=id ht
 obtain ⟨⟨cls2,dd2,data2,sl2⟩,ho2,hc2,n2,hd2⟩:=id hb
 simp only at hc hd hc2 hd2
 subst hc hd hc2 hd2
 have e:vs.toArray++ws.toArray=(vs++ws).toArray:=by simp
 by_cases hw:ws=[]
 ·exact concat_meets ⟨_,ho,rfl⟩ ⟨_,ho2,rfl⟩ noFill_tuple_add seq_tuple_add PySem.F.slot_tuple_add PySem.F.entry_tuple_add (PySem.F.args_tuple_add_2 _ _)
   (tuple_addW1 t b vs.toArray ws.toArray n n2 dd dd2 sl sl2 (by simpa using hv) (by simp [hw])) ⟨ho,ho2,h1 hw⟩
 ·refine concat_meets ⟨_,ho,rfl⟩ ⟨_,ho2,rfl⟩ noFill_tuple_add seq_tuple_add PySem.F.slot_tuple_add PySem.F.entry_tuple_add (PySem.F.args_tuple_add_2 _ _)
   (tuple_addW2 t b vs.toArray ws.toArray n n2 dd dd2 sl sl2 (by simpa using hv) (by simpa using hw) (by rw [List.size_toArray,List.size_toArray];exact hsz)) ⟨ho,ho2,?_⟩
  rw [e]
  exact h2 hw
noncomputable def sIx (n d:Nat):Option Int→Nat
 | none=>d
 | some v=>if v < 0 then (v+(n:Int)).toNat else min v.toNat n
theorem RP (n d:Nat):sIx n d none=d:=rfl
theorem V7 (n d k:Nat):sIx n d (some (k:Int))=min k n:=by
 show (if (k:Int) < 0 then ((k:Int)+(n:Int)).toNat else min (k:Int).toNat n)=min k n
 rw [if_neg (by omega),Int.toNat_natCast]
theorem Yv (n d:Nat) (hd:d≤n) (o:Option Int):sIx n d o≤n:=by
 cases o with
 | none=>exact hd
 | some v =>
  show (if v < 0 then (v+(n:Int)).toNat else min v.toNat n)≤n
  by_cases hv:v < 0
  ·rw [if_pos hv];omega
  ·rw [if_neg hv];exact Nat.min_le_right _ _
theorem Kg (v:Int) (n d:Nat):(if v < 0 then max (v+(n:Int)) 0 else min v (n:Int))=((sIx n d (some v):Nat):Int):=by
 show (if v < 0 then max (v+(n:Int)) 0 else min v (n:Int))=(((if v < 0 then (v+(n:Int)).toNat else min v.toNat n):Nat):Int)
 by_cases hv:v < 0
 ·simp only [if_pos hv];omega
 ·simp only [if_neg hv];omega
theorem KJ (lo hi:Option Int) (n:Nat):Builtin.Slice.sliceAdjust lo hi 1 (n:Int)=(((sIx n 0 lo:Nat):Int),((sIx n n hi:Nat):Int)):=by
 have h1:¬ ((1:Int) < 0):=by omega
 unfold Builtin.Slice.sliceAdjust
 simp only [h1,if_false]
 refine Prod.ext ?_ ?_
 ·cases lo with
  | none=>rfl
  | some v=>exact Kg v n 0
 ·cases hi with
  | none=>rfl
  | some v=>exact Kg v n n
theorem KC (i j:Nat):Builtin.Slice.slicePlaces (i:Int) (j:Int) 1=j - i:=by
 unfold Builtin.Slice.slicePlaces
 have h1:(1:Int) > 0:=by omega
 simp only [h1,if_true,Int.ediv_one]
 split <;> omega
theorem zx {v:Value}{o:Option Int}{Q:Option Int→Shared→Prop} (p:IsPart v o) (h:Q o s):wpAny (model prog w) A (Builtin.Slice.slicePartIndex v) Q E s:=by
 cases p with
 | none=>exact slicePart_none h
 | int i t=>exact slicePart_int h
theorem yO {sl:Addr}{vl vu:Value}{lo hi:Option Int}{n:Nat}{Q:Int × Int × Nat→Shared→Prop} (hs:s.heap.IsSliceOf sl vl vu .none) (pl:IsPart vl lo) (pu:IsPart vu hi)
  (h:Q (((sIx n 0 lo:Nat):Int),1,sIx n n hi - sIx n 0 lo) s):wpAny (model prog w) A (Builtin.Slice.sliceApplied (.ref sl) (pure (n:Int))) Q E s:=by
 obtain ⟨os,hos,hcs,hds⟩:=id hs
 unfold Builtin.Slice.sliceApplied Builtin.Slice.sliceFields
 refine wpAny_bind (wpAny_bind (wpAny_field hos hds (x:=vl) rfl (wpAny_bind (wpAny_field hos hds (x:=vu) rfl (wpAny_bind (wpAny_field hos hds (x:=.none) rfl (wpAny_pure ?_)))))))
 refine wpAny_bind (slicePart_none ?_)
 show wpAny _ _ (if ((1:Int) == 0)=true then _ else _) _ _ s
 rw [if_neg (by decide)]
 refine wpAny_bind (zx pl (wpAny_bind (zx pu (wpAny_bind (wpAny_pure ?_)))))
 show wpAny _ _ (match Builtin.Slice.sliceAdjust lo hi 1 (n:Int) with | (lo,hi)=>pure (lo,(1:Int),Builtin.Slice.slicePlaces lo hi 1)) _ _ s
 rw [KJ lo hi n]
 show wpAny _ _ (pure (((sIx n 0 lo:Nat):Int),(1:Int),Builtin.Slice.slicePlaces ((sIx n 0 lo:Nat):Int) ((sIx n n hi:Nat):Int) 1)) _ _ s
 rw [KC]
 exact wpAny_pure h
theorem Rt (xs:Array Value) (i k:Nat):((List.range k).filterMap fun (m:Nat)=>xs[((i:Int)+(m:Int) * 1).toNat]?).toArray=((xs.toList.drop i).take k).toArray:=by
 have e:(fun (m:Nat)=>xs[((i:Int)+(m:Int) * 1).toNat]?)=fun m=>xs[i+m]?:=by
  funext m
  have:((i:Int)+(m:Int) * 1).toNat=i+m:=by omega
  rw [this]
 rw [e]
 have:=pick_run xs i k
 rw [List.filterMap_map] at this
 have e2:((fun x=>xs[x]?) ∘ fun x=>i+x)=fun m=>xs[i+m]?:=rfl
 rw [e2] at this
 rw [this]
theorem v8 {t sl:Addr}{items:Array Value}{vl vu:Value}{lo hi:Option Int}{Q:Value→Shared→Prop} (ht:IsTup s.heap t items) (hs:s.heap.IsSliceOf sl vl vu .none) (pl:IsPart vl lo) (pu:IsPart vu hi)
  (hw:¬ (sIx items.size 0 lo=0∧sIx items.size items.size hi=items.size))
  (h : Q (.ref s.heap.objs.size) { s with heap:=s.heap.push { cls:=.type "tuple", data:=.seq ((items.toList.drop (sIx items.size 0 lo)).take (sIx items.size items.size hi - sIx items.size 0 lo)).toArray } })
  (hsz:items.size≤sizeLine):wpAny (model prog w) A (getItem (.ref t) (.ref sl)) Q E s:=by
 have htake:sizeOk (.seq ((items.toList.drop (sIx items.size 0 lo)).take (sIx items.size items.size hi - sIx items.size 0 lo)).toArray):=by
  show ((items.toList.drop (sIx items.size 0 lo)).take (sIx items.size items.size hi - sIx items.size 0 lo)).toArray.size≤sizeLine
  rw [List.size_toArray,List.length_take,List.length_drop,Array.length_toList]
  omega
 have hj:sIx items.size items.size hi≤items.size:=Yv _ _ (Nat.le_refl _) hi
 obtain ⟨os,hos,hcs,hds⟩:=id hs
 have hTs : s.TypeIs (.ref sl) "slice":=⟨os, hos, hcs⟩
 unfold getItem
 try with_reducible refine wpAny_holding ?_
 first | refine wpAny_bind (wpAny_pure ?_) | skip
 refine wpAny_bind (wpAny_sequenceKey ht.typeIs (by decide) ?_)
 refine wpAny_bind (wpAny_callSpecial?_slot (name:=Str.ofString "__getitem__") ht.typeIs PyProof.Rows.slot_tuple_getitem
  (wpAny_call_entry PyProof.Rows.slot_tuple_getitem ht.typeIs entry_tuple_getitem ?_ (args_tuple_getitem _ _)))
 show wpAny _ _ (Builtin.Tuple.tupleItemsOf (.ref t) >>= _) _ _ s
 refine wpAny_bind (tupleItemsOf_ ht ?_)
 refine wpAny_bind (wpAny_typeOf hTs ?_)
 rw [if_pos (by decide)]
 refine wpAny_bind (yO hs pl pu ?_)
 have hno:¬ ((((sIx items.size 0 lo:Nat):Int) == 0 && (1:Int) == 1 && (sIx items.size items.size hi - sIx items.size 0 lo) == items.size)=true):=by
  intro q
  rw [Bool.and_eq_true,Bool.and_eq_true] at q
  have q1:((sIx items.size 0 lo:Nat):Int)=0:=eq_of_beq q.1.1
  have q2:sIx items.size items.size hi - sIx items.size 0 lo=items.size:=eq_of_beq q.2
  exact hw ⟨by omega,by omega⟩
 show wpAny _ _ (if (((sIx items.size 0 lo:Nat):Int) == 0 && (1:Int) == 1 && (sIx items.size items.size hi - sIx items.size 0 lo) == items.size)=true then _ else _) _ _ s
 rw [if_neg hno,Rt]
 first
  | exact wpAny_bind (m:=Builtin.Tuple.tupleExact _) (wpAny_newObj_type (wpAny_pure ⟨_,rfl,wpAny_pure h⟩) htake)
  | exact wpAny_bind (m:=Builtin.Tuple.tupleExact _) (wpAny_newObj_type (wpAny_bind (wpAny_pure (wpAny_pure ⟨_,rfl,wpAny_pure h⟩))) htake)
  | exact wpAny_bind (wpAny_bind (m:=Builtin.Tuple.tupleExact _) (wpAny_newObj_type (wpAny_pure (wpAny_pure ⟨_,rfl,wpAny_pure h⟩)) htake))
  | exact wpAny_bind (wpAny_bind (m:=Builtin.Tuple.tupleExact _) (wpAny_newObj_type (wpAny_pure ⟨_,rfl,wpAny_pure h⟩) htake))
end
end HT
namespace L2
open PySem PySem.Spec PyProof.Rows
noncomputable abbrev TO:=St→Hp→(Option Int→Hp→Prop)→Prop
noncomputable def PO (X:Cx) (e:Option Expr) (t:TO):Prop :=
 ∀ (pins:List (Addr × Obj)) (s:Shared) (σ:St) (H:Hp) (Q:Option Int→Hp→Prop),Inv X pins σ H s→t σ H Q →
  wpAny (model X.prog X.w) X.A (evalPart e X.env) (fun u s'=>∃ o H',Inv X pins σ H' s'∧IsPart u o∧Q o H') X.xe s
noncomputable def Vp:TO:=fun _ H Q=>Q none H
noncomputable def ZL (t:TE):TO:=fun σ H Q=>t σ H fun x H1=>∃ i,x=.int i∧Q (some i) H1
section
variable {X:Cx}{e:Expr}{te:TE}{lo hi:Option Expr}{tl th:TO}{pos p2:Pos}
theorem Vz:PO X none Vp:=by
 intro pins s σ H Q I h
 rw [evalPart_none]
 exact wpAny_pure ⟨none,H,I,.none,h⟩
theorem V9 (h:PE X e te):PO X (some e) (ZL te):=by
 intro pins s σ H Q I hw
 rw [evalPart_some]
 refine thn (h pins s σ H _ I hw) fun u s1 ⟨x,H1,I1,r1,q1⟩=>?_
 obtain ⟨i,rfl,q⟩:=q1
 obtain ⟨t,rfl⟩:=r1
 exact ⟨some i,H1,I1,.int i t,q⟩
noncomputable def SlR (X:Cx) (r:V→Option Int→Option Int→Hp→VK→Prop):Prop :=
 ∀ (pins:List (Addr × Obj)) (s:Shared) (σ:St) (H:Hp) (x:V) (v vl vu:Value) (lo hi:Option Int) (sl:Addr) (Q:VK),Inv X pins σ H s→RelV x v→s.heap.IsSliceOf sl vl vu .none→IsPart vl lo→IsPart vu hi→r x lo hi H Q →
  ∃ T id, typeLookup (.type T) "__getitem__" = pure (some (.builtin id)) ∧ s.TypeIs v T ∧ wpAny (model X.prog X.w) X.A (getItem v (.ref sl)) (EP X pins σ Q) X.xe s
theorem SlR.or {r r':V→Option Int→Option Int→Hp→VK→Prop} (h:SlR X r) (h':SlR X r'):SlR X (fun x lo hi H Q=>r x lo hi H Q∨r' x lo hi H Q):=by
 intro pins s σ H x v vl vu lo hi sl Q I rx hs pl pu q
 rcases q with q | q
 ·exact h pins s σ H x v vl vu lo hi sl Q I rx hs pl pu q
 ·exact h' pins s σ H x v vl vu lo hi sl Q I rx hs pl pu q
noncomputable def tSl (r:V→Option Int→Option Int→Hp→VK→Prop) (te:TE) (tl th:TO):TE:=fun σ H Q=>te σ H fun x H1=>tl σ H1 fun l H2=>th σ H2 fun u H3=>r x l u H3 Q
theorem Ri {r:V→Option Int→Option Int→Hp→VK→Prop} (hr:SlR X r) (he:PE X e te) (hl:PO X lo tl) (hu:PO X hi th):PE X (.Subscript e (.Slice lo hi none p2) pos) (tSl r te tl th):=by
 intro pins s σ H Q I h
 refine Subscript_ (thn (he pins s σ H _ I h) fun v s1 ⟨x,H1,I1,r1,q1⟩=>?_)
 refine wpAny_Slice (thn (hl pins s1 σ H1 _ I1 q1) fun vl s2 ⟨l,H2,I2,pl,q2⟩=>thn (hu pins s2 σ H2 _ I2 q2) fun vu s3 ⟨u,H3,I3,pu,q3⟩=>?_)
 rw [evalPart_none]
 refine wpAny_pure ?_
 have I4 : Inv X pins σ H3 { s3 with heap:=s3.heap.push { cls:=.type "slice", data:=.fields #[vl, vu, .none] } }:=I3.kept (t':=s3.toks) fun b ob q => Heap.get?_push_of_some _ q
 obtain ⟨T, id, hT, ht, hg⟩:=hr pins { s3 with heap:=s3.heap.push { cls:=.type "slice", data:=.fields #[vl, vu, .none] } } σ H3 x v vl vu l u s3.heap.objs.size Q I4 r1 (Heap.IsSliceOf.new ..) pl pu q3
 show wpAny (model X.prog X.w) X.A (subscriptTail e (.Slice lo hi none p2) v (.ref s3.heap.objs.size)) (EP X pins σ Q) X.xe { s3 with heap:=s3.heap.push { cls:=.type "slice", data:=.fields #[vl, vu, .none] } }
 exact tail_any (ops:=[.ref s3.heap.objs.size,v]) ht hT hg (by with_unfolding_all rfl)
noncomputable def uL (xs:List V) (lo hi:Option Int):List V:=(xs.drop (HT.sIx xs.length 0 lo)).take (HT.sIx xs.length xs.length hi - HT.sIx xs.length 0 lo)
theorem xP (xs:List V) (lo hi:Option Int):(uL xs lo hi).length≤xs.length:=by
 unfold uL
 rw [List.length_take,List.length_drop]
 omega
noncomputable def Xy (K:PySem.W.Frag):V→Option Int→Option Int→Hp→VK→Prop:=fun x lo hi H Q=>∃ a xs,x=.ref a∧SqT K H a xs ∧
 ¬ (HT.sIx xs.length 0 lo=0∧HT.sIx xs.length xs.length hi=xs.length)∧∀ p,H p=none→Q (.ref p) (upd H p (.tup (uL xs lo hi)))
theorem Yk:SlR X (Xy X.K):=by
 intro pins s σ H x v vl vu lo hi sl Q I rx hs pl pu h
 obtain ⟨a,xs,rfl,hx,hw,q⟩:=h
 cases rx
 obtain ⟨its,r,ht,hz⟩:=I.tuple hx
 have hlen:its.toArray.size=xs.length:=by rw [List.size_toArray];exact r.length.symm
 refine ⟨"tuple", _, PyProof.Rows.slot_tuple_getitem.lookup, ht.typeIs, ?_⟩
 refine HT.v8 ht hs pl pu (by rw [hlen];exact hw) ?_ (by rw [hlen];exact hz)
 rw [hlen]
 refine ⟨.ref s.heap.objs.size,_,I.laid (t':=s.toks) (o:=.tup (uL xs lo hi)) (fun b ob q=>Heap.get?_push_of_some _ q) (Nat.le_refl _) ?_,rfl,q _ (I.hok.fresh (Nat.le_refl _))⟩
 exact ⟨Nat.le_trans (xP xs lo hi) hz,_,(r.drop (HT.sIx xs.length 0 lo)).take (HT.sIx xs.length xs.length hi - HT.sIx xs.length 0 lo),IsTup.new _ _⟩
noncomputable def Uo (K:PySem.W.Frag):R2:=fun x y H Q=>∃ a b xs ys,x=.ref a∧y=.ref b∧SqT K H a xs∧SqT K H b ys∧xs≠[]∧xs.length+ys.length≤sizeLine ∧
 (ys=[]→Q (.ref a) H)∧(ys≠[]→∀ p,H p=none→Q (.ref p) (upd H p (.tup (xs++ys))))
theorem Vals.nil_iff {xs:List V}{us:List Value} (r:Vals xs us):us=[]↔xs=[]:=by
 cases r with
 | nil=>simp
 | cons _ _=>simp
theorem Vg:OpR X (binaryOp .Add) (Uo X.K):=by
 intro pins s σ H x y v u Q I rx ry h
 obtain ⟨a,b,xs,ys,rfl,rfl,ha,hb,hx,hz,q1,q2⟩:=h
 cases rx
 cases ry
 obtain ⟨its,r1,p1,_⟩:=I.tuple ha
 obtain ⟨its2,r2,p2,_⟩:=I.tuple hb
 refine HT.V8 p1 p2 (fun z=>hx (r1.nil_iff.mp z)) (fun z=>⟨.ref a,H,I,rfl,q1 (r2.nil_iff.mp z)⟩) (fun z=>?_) (by rw [← r1.length,← r2.length];exact hz)
 refine ⟨.ref s.heap.objs.size,_,I.laid (t':=s.toks) (o:=.tup (xs++ys)) (fun b ob q=>Heap.get?_push_of_some _ q) (Nat.le_refl _) ?_,rfl,q2 (fun w=>z (r2.nil_iff.mpr w)) _ (I.hok.fresh (Nat.le_refl _))⟩
 exact ⟨by rw [List.length_append];exact hz,_,r1.append r2,IsTup.new _ _⟩
end
end L2
namespace L2
open PySem PySem.Spec PyProof.Rows
noncomputable def ixN (n:Nat) (i:Int):Option Nat:=if 0≤i then (if i < n then some i.toNat else none) else if -(n:Int)≤i then some (i+n).toNat else none
noncomputable def atI {α:Type} (xs:List α) (i:Int):Option α:=(ixN xs.length i).bind fun j=>xs[j]?
theorem JZ {n:Nat}{i:Int}{j:Nat} (h:ixN n i=some j):seqIndex? i n=some j∧j < n∧-(n:Int)≤i∧i < n:=by
 unfold ixN at h
 by_cases h0:0≤i
 ·rw [if_pos h0] at h
  by_cases h1:i < n
  ·rw [if_pos h1] at h
   have e:i.toNat=j:=Option.some.inj h
   exact ⟨by rw [seqIndex_of h0 h1,e],by omega,by omega,h1⟩
  ·rw [if_neg h1] at h;cases h
 ·rw [if_neg h0] at h
  by_cases h1:-(n:Int)≤i
  ·rw [if_pos h1] at h
   have e:(i+n).toNat=j:=Option.some.inj h
   exact ⟨by rw [seqIndex_neg (by omega) h1,e],by omega,h1,by omega⟩
  ·rw [if_neg h1] at h;cases h
theorem JW {α:Type}{xs:List α}{i:Int}{v:α} (h:atI xs i=some v):∃ j,seqIndex? i xs.length=some j∧xs[j]?=some v∧j < xs.length∧-(xs.length:Int)≤i∧i < xs.length:=by
 unfold atI at h
 cases e:ixN xs.length i with
 | none=>rw [e] at h;cases h
 | some j =>
  rw [e] at h
  obtain ⟨h1,h2,h3,h4⟩:=JZ e
  exact ⟨j,h1,h,h2,h3,h4⟩
noncomputable def JG (b:Expr):Prop:=∀ o i,subscripted b false o i=operate [o,i] (getItem o i)
noncomputable def IxR (X:Cx) (r:R2):Prop :=
 ∀ (value slice:Expr) (pins:List (Addr × Obj)) (s:Shared) (σ:St) (H:Hp) (x y:V) (v u:Value) (Q:VK),Inv X pins σ H s→RelV x v→RelV y u→r x y H Q →
  subscripted slice false v u=operate [v,u] (getItem v u)→wpAny (model X.prog X.w) X.A (subscriptTail value slice v u) (EP X pins σ Q) X.xe s
noncomputable def MtR (X:Cx) (id:String) (r:V→List V→Hp→VK→Prop):Prop :=
 ∀ (pins:List (Addr × Obj)) (s:Shared) (σ:St) (H:Hp) (x:V) (xs:List V) (v:Value) (us:List Value) (Q:VK),Inv X pins σ H s→RelV x v→Vals xs us→r x xs H Q →
  wpAny (model X.prog X.w) X.A (call (.builtin id) (v::us)) (EP X pins σ Q) X.xe s
section
variable {X:Cx}{a b:Expr}{ta tb:TE}{pos:Pos}
theorem IxR.or {r r':R2} (h:IxR X r) (h':IxR X r'):IxR X (fun x y H Q=>r x y H Q∨r' x y H Q):=by
 intro value slice pins s σ H x y v u Q I rx ry q hs
 rcases q with q | q
 ·exact h value slice pins s σ H x y v u Q I rx ry q hs
 ·exact h' value slice pins s σ H x y v u Q I rx ry q hs
theorem Z8 {r:R2} (hr:IxR X r) (ha:PE X a ta) (hb:PE X b tb) (hs:JG b):PE X (.Subscript a b pos) (tOp r ta tb):=by
 intro pins s σ H Q I h
 exact Subscript_ (Ro ha hb I h fun v u s2 x y H2 I2 rx ry q=>hr a b pins s2 σ H2 x y v u Q I2 rx ry q (hs _ _))
noncomputable def Zh (K:PySem.W.Frag):R2:=fun x y H Q=>∃ p xs i v,x=.ref p∧y=.int i∧SqL K H p xs∧atI xs i=some v∧Q v H
noncomputable def YW (K:PySem.W.Frag):R2:=fun x y H Q=>∃ p xs i v,x=.ref p∧y=.int i∧SqT K H p xs∧atI xs i=some v∧Q v H
theorem U7:IxR X (Zh X.K):=by
 intro value slice pins s σ H x y v u Q I rx ry h hs
 obtain ⟨p,xs,i,z,rfl,rfl,hq,he,q⟩:=h
 cases rx
 obtain ⟨t,rfl⟩:=ry
 obtain ⟨its,r,pl,hz⟩:=I.list hq
 obtain ⟨j,h1,h2,h3,h4,h5⟩:=JW he
 obtain ⟨w,ew,rw'⟩:=r.get h2
 have hl:=r.length
 have hn:=Fw
 have fin:EP X pins σ Q w s:=⟨z,H,I,rw',q⟩
 by_cases h0:0≤i
 ·have hj:i.toNat=j:=by
   rw [seqIndex_of h0 h5] at h1
   exact Option.some.inj h1
  exact item_listR pl.isList h0 (by omega) (by rw [hj];simpa using ew) fin hs
 ·have hj:(i+(its.toArray.size:Int)).toNat=j:=by
   rw [seqIndex_neg (by omega) h4] at h1
   rw [List.size_toArray,← hl]
   exact Option.some.inj h1
  exact subscriptTail_builtinR (x:=w) pl.isList.typeIs slot_list_getitem.lookup
   (wpAny_getItem_list_neg (Q:=fun r s'=>r=w∧EP X pins σ Q r s') pl.isList (by omega) (by rw [List.size_toArray] <;> omega) (by omega) (by rw [hj];simpa using ew) ⟨rfl,fin⟩) hs
theorem Zj:IxR X (YW X.K):=by
 intro value slice pins s σ H x y v u Q I rx ry h hs
 obtain ⟨p,xs,i,z,rfl,rfl,hq,he,q⟩:=h
 cases rx
 obtain ⟨t,rfl⟩:=ry
 obtain ⟨its,r,pl,hz⟩:=I.tuple hq
 obtain ⟨j,h1,h2,h3,h4,h5⟩:=JW he
 obtain ⟨w,ew,rw'⟩:=r.get h2
 have hl:=r.length
 have hn:=Fw
 have fin:EP X pins σ Q w s:=⟨z,H,I,rw',q⟩
 exact subscriptTail_builtinR (x:=w) pl.typeIs slot_tuple_getitem.lookup
  (getItem_tuple (j:=j) (Q:=fun r s'=>r=w∧EP X pins σ Q r s') pl (by omega) (by omega) (by rw [List.size_toArray,← hl];exact h1) (by simpa using ew) ⟨rfl,fin⟩) hs
theorem Gh (lo hi:Option Int) (n:Nat):(sliceBounds lo hi none n).1=((HT.sIx n 0 lo:Nat):Int)∧(sliceBounds lo hi none n).2.1=((HT.sIx n n hi:Nat):Int)∧(sliceBounds lo hi none n).2.2=1:=by
 refine ⟨?_,?_,rfl⟩
 ·cases lo with
  | none=>simp [sliceBounds,HT.sIx]
  | some i =>
   simp only [sliceBounds,HT.sIx,Option.getD_none,show (1:Int) > 0 by decide,if_true]
   by_cases h:i < 0
   ·simp only [h,if_true] <;> omega
   ·simp only [h,if_false] <;> omega
 ·cases hi with
  | none=>simp [sliceBounds,HT.sIx]
  | some i =>
   simp only [sliceBounds,HT.sIx,Option.getD_none,show (1:Int) > 0 by decide,if_true]
   by_cases h:i < 0
   ·simp only [h,if_true] <;> omega
   ·simp only [h,if_false] <;> omega
theorem Dr (its:List Value) (lo hi:Option Int):slicePick its.toArray lo hi none=((its.drop (HT.sIx its.length 0 lo)).take (HT.sIx its.length its.length hi - HT.sIx its.length 0 lo)).toArray:=by
 obtain ⟨h1,h2,h3⟩:=Gh lo hi its.toArray.size
 unfold slicePick
 rw [h1,h2,h3]
 simp only [sliceRange_one,pick_run,List.size_toArray] <;> rfl
noncomputable def Xp (K:PySem.W.Frag):V→Option Int→Option Int→Hp→VK→Prop:=fun x lo hi H Q=>∃ a xs,x=.ref a∧SqL K H a xs∧∀ p,H p=none→Q (.ref p) (upd H p (.lst (uL xs lo hi)))
theorem Vr:SlR X (Xp X.K):=by
 intro pins s σ H x v vl vu lo hi sl Q I rx hs pl pu h
 obtain ⟨a,xs,rfl,hx,q⟩:=h
 cases rx
 obtain ⟨its,r,ht,hz⟩:=I.list hx
 have hlen:=r.length
 refine ⟨"list", _, slot_list_getitem.lookup, ht.isList.typeIs, ?_⟩
 refine wpAny_getItem_list_slice ht.isList hs pl pu .none (by simp) ?_ (by rw [List.size_toArray] <;> omega)
 rw [Dr,← hlen]
 refine ⟨.ref s.heap.objs.size,_,I.laid (t':=s.toks) (o:=.lst (uL xs lo hi)) (fun b ob q=>Heap.get?_push_of_some _ q) (Nat.le_refl _) ?_,rfl,q _ (I.hok.fresh (Nat.le_refl _))⟩
 exact ⟨Nat.le_trans (xP xs lo hi) hz,_,0,(r.drop (HT.sIx xs.length 0 lo)).take (HT.sIx xs.length xs.length hi - HT.sIx xs.length 0 lo),Heap.get?_push_size _ rfl⟩
theorem G8 : jx X (.builtin "len") (fun xs H Q => ∃ p ys, xs = [.ref p] ∧ (SqL X.K H p ys ∨ SqT X.K H p ys) ∧ Q (.int ys.length) H):=by
 intro pins s σ H xs us Q I r h
 obtain ⟨p,ys,rfl,hq,q⟩:=h
 obtain ⟨u,rfl,rx⟩:=vals1 r
 cases rx
 have hn:=Fw
 rcases hq with hq | hq
 ·obtain ⟨its,r',pl,hz⟩:=I.list hq
  have hlen:=r'.length
  exact Calls.call_len_list pl.isList (by simp only [List.size_toArray] <;> omega) ⟨.int ys.length,H,I.tok _,⟨s.toks+1,by rw [List.size_toArray,hlen]⟩,q⟩
 ·obtain ⟨its,r',pl,hz⟩:=I.tuple hq
  have hlen:=r'.length
  exact len_tuple pl (by simp only [List.size_toArray] <;> omega) ⟨.int ys.length,H,I.tok _,⟨s.toks+1,by rw [List.size_toArray,hlen]⟩,q⟩
theorem uZ : jx X (.type "list") (fun xs H Q => ∃ p ys, xs = [.ref p] ∧ (SqL X.K H p ys ∨ SqT X.K H p ys) ∧ ∀ l, H l = none → Q (.ref l) (upd H l (.lst ys))):=by
 intro pins s σ H xs us Q I r h
 obtain ⟨p,ys,rfl,hq,q⟩:=h
 obtain ⟨u,rfl,rx⟩:=vals1 r
 cases rx
 have fin:∀ (its:List Value),Vals ys its→ys.length≤sizeLine→∀ (h':Heap) (c':Nat),(∀ b o',s.heap.get? b=some o'→h'.get? b=some o') →
   h'.get? s.heap.objs.size = some { cls:=.type "list", dict:=none, data:=.seq its.toArray c', slots:=#[] } → EP X pins σ Q (.ref s.heap.objs.size) { s with heap:=h' }:=fun its r' hz h' c' kp e =>
  ⟨.ref s.heap.objs.size,_,I.laid (t':=s.toks) kp (Nat.le_refl _) (show cO X.prog X.w _ h' _ (.lst ys) from ⟨hz,its,c',r',e⟩),rfl,q _ (I.hok.fresh (Nat.le_refl _))⟩
 rcases hq with hq | hq
 ·obtain ⟨its,r',pl,hz⟩:=I.list hq
  have hlen:=r'.length
  obtain ⟨o,ho,hc,n,hd⟩:=pl.isList
  exact call_list_seq p (.inl rfl) ho hc hd (fun h' c' kp e=>fin its r' hz h' c' kp e) (by simp only [List.size_toArray] <;> omega)
 ·obtain ⟨its,r',pl,hz⟩:=I.tuple hq
  have hlen:=r'.length
  obtain ⟨o,ho,hc,n,hd⟩:=pl
  exact call_list_seq p (.inr rfl) ho hc hd (fun h' c' kp e=>fin its r' hz h' c' kp e) (by simp only [List.size_toArray] <;> omega)
theorem DG : jx X (.type "tuple") (fun xs H Q => ∃ p ys, xs = [.ref p] ∧ ((SqL X.K H p ys ∧ ∀ l, H l = none → Q (.ref l) (upd H l (.tup ys))) ∨ (SqT X.K H p ys ∧ Q (.ref p) H))):=by
 intro pins s σ H xs us Q I r h
 obtain ⟨p,ys,rfl,h⟩:=h
 obtain ⟨u,rfl,rx⟩:=vals1 r
 cases rx
 rcases h with ⟨hq,q⟩ | ⟨hq,q⟩
 ·obtain ⟨its,r',pl,hz⟩:=I.list hq
  have hlen:=r'.length
  refine call_tuple_list pl.isList (fun h' kp=>?_) (by simp only [List.size_toArray] <;> omega)
  have I1:Inv X pins σ H { s with heap:=h' }:=I.kept (t':=s.toks) kp
  have I2 : Inv X pins σ (upd H h'.objs.size (.tup ys)) { s with heap:=h'.push { cls:=.type "tuple", data:=.seq its.toArray } } :=
   I1.laid (t':=s.toks) (fun b o e=>Heap.get?_push_of_some _ e) (Nat.le_refl _) (show cO X.prog X.w _ _ _ (.tup ys) from ⟨hz,its,r',IsTup.new _ _⟩)
  exact ⟨.ref h'.objs.size,_,I2,rfl,q _ (I1.hok.fresh (Nat.le_refl _))⟩
 ·obtain ⟨its,r',pl,hz⟩:=I.tuple hq
  exact call_tuple_same pl ⟨.ref p,H,I,rfl,q⟩
noncomputable def tyV (K:PySem.W.Frag) (T:String) (x:V) (H:Hp):Prop:=match x with
 | .str _ => T = "str"
 | .int _ => T = "int"
 | .ref p => (T = "list" ∧ ∃ xs, SqL K H p xs) ∨ (T = "tuple" ∧ ∃ o, K.lookup p = some o ∧ o.cls = .type "tuple" ∧ o.dict = none) ∨
   (T = "dict" ∧ ((∃ kvs, H p = some (.dK kvs)) ∨ ∃ kvs, H p = some (.dT kvs))) ∨ (T = "set" ∧ ∃ S n, H p = some (.set S n))
 | _=>False
theorem YB {pins:List (Addr × Obj)}{σ:St}{H:Hp}{s:Shared}{T:String}{x:V}{v:Value} (I:Inv X pins σ H s) (r:RelV x v) (ty:tyV X.K T x H) :
  s.TypeIs v T∧∀ a,v=.ref a→∃ ob,s.heap.get? a=some ob∧ob.dict=none:=by
 cases x with
 | str z =>
  obtain ⟨t,rfl⟩:=r
  cases (show T = "str" from ty)
  exact ⟨typeIs_str s z t,fun _ e=>nomatch e⟩
 | int i =>
  obtain ⟨t,rfl⟩:=r
  cases (show T = "int" from ty)
  exact ⟨typeIs_int s i t,fun _ e=>nomatch e⟩
 | ref p =>
  cases r
  rcases ty with ⟨rfl,xs,hq⟩ | ⟨rfl,o,hk,hc,hd⟩ | ⟨rfl,hk⟩ | ⟨rfl,S,n,hk⟩
  ·obtain ⟨its,_,pl,_⟩:=I.list hq
   refine ⟨pl.isList.typeIs,fun a e=>?_⟩
   cases e
   obtain ⟨o,n,e,c,hd,_⟩:=pl
   exact ⟨o,e,hd⟩
  ·refine ⟨⟨o,I.kIn p o hk,hc⟩,fun a e=>?_⟩
   cases e
   exact ⟨o,I.kIn _ o hk,hd⟩
  ·have z:∃ o,s.heap.get? p=some o∧o.ExactDict:=by
    rcases hk with ⟨kvs,hk⟩ | ⟨kvs,hk⟩
    ·obtain ⟨_,_,_,_,o,_,_,e,ex,_⟩:=I.hok p _ hk
     exact ⟨o,e,ex⟩
    ·obtain ⟨_,_,_,_,o,_,_,e,ex,_⟩:=I.hok p _ hk
     exact ⟨o,e,ex⟩
   obtain ⟨o,e,ex⟩:=z
   refine ⟨⟨o,e,ex.1⟩,fun a e2=>?_⟩
   cases e2
   exact ⟨o,e,ex.2.1⟩
  ·obtain ⟨o,_,_,_,e,ex,_⟩:=I.hok p _ hk
   refine ⟨⟨o,e,ex.1⟩,fun a e2=>?_⟩
   cases e2
   exact ⟨o,e,ex.2.1⟩
 | _=>exact False.elim ty
noncomputable def tBM (K:PySem.W.Frag) (T:String) (r:V→List V→Hp→VK→Prop) (to:TE) (t:TA):TE:=fun σ H Q=>to σ H fun x H1=>tyV K T x H1∧t σ H1 fun xs H2=>r x xs H2 Q
variable {o e:Expr}{es:List Expr}{to:TE}{t:TA}{name:Str}{apos cpos:Pos}{T id:String}{r:V→List V→Hp→VK→Prop}
theorem K1 (pa : PlainAttrs T) (slot : Slot T name id) (hty : typeOf (.builtin id) = pure (.type "method_descriptor")) (hm : MtR X id r) (ho : PE X o to) (ha : PA X (e :: es) t)
  (hbase:attributeBase o name X.env (eval o X.env)=eval o X.env:=by rfl)
  (hfew:((backTo cpos (starEach (e::es) X.env)).all (fun x=>!x.1) && (backToKw cpos (keywordEach [] X.env)).all (fun x=>x.1.isSome)
   && decide ((e::es).length+([]:List Keyword).length+(if ([]:List Keyword).isEmpty then 0 else 1) < 30))=true:=by rfl)
  (hline:(apos.endLine == cpos.line)=true:=by rfl) (hs:starEach (e::es) X.env=(false,eval e X.env)::starEach es X.env:=by rfl) (hplain:(backTo cpos (starEach es X.env)).any (·.1)=false:=by rfl) :
  PE X (.Call (.Attribute o name apos) (e::es) [] cpos) (tBM X.K T r to t):=by
 intro pins s σ H Q I h
 refine wpAny_Call_method_late hbase hfew hline rfl (thn (ho pins s σ H _ I h) fun v s1 ⟨x,H1,I1,r1,ty,q1⟩=>?_)
 obtain ⟨h1,h2⟩:=YB I1 r1 ty
 refine ⟨T,id,pa,slot,hty,h1,h2,?_⟩
 have hA:=ha cpos pins s1 σ H1 _ I1 q1
 rw [hs] at hA ⊢
 refine Calls.callWith_builtin (by show (false || (backTo cpos (starEach es X.env)).any (·.1))=false;rw [hplain] <;> rfl) (Calls.evalArgs_plain ?_)
 exact thn hA fun us s2 ⟨vs,H2,I2,r2,q2⟩=>hm pins s2 σ H2 x vs v us Q I2 r1 r2 q2
end
end L2
namespace L2
open PySem PySem.Spec PyProof.Rows
noncomputable def MtM (X:Cx) (id:String) (r:V→List V→Hp→VK→Prop):Prop :=
 ∀ (pins:List (Addr × Obj)) (s:Shared) (σ:St) (H:Hp) (x:V) (xs:List V) (v:Value) (us:List Value) (Q:VK),Inv X pins σ H s→RelV x v→Vals xs us→r x xs H Q →
  wpAny (model X.prog X.w) X.A (call (.builtin id) (v::us)) (EP X pins σ Q) X.xe s
theorem Vals.one:∀ {x:V}{us:List Value},Vals [x] us→∃ u,us=[u]∧RelV x u
 | _,_,.cons r .nil=>⟨_,rfl,r⟩
theorem Vals.eraseIdx:∀ {xs:List V}{us:List Value} (i:Nat),Vals xs us→Vals (xs.eraseIdx i) (us.eraseIdx i)
 | _,_,_,.nil=>.nil
 | _,_,0,.cons _ t=>t
 | _,_,i+1,.cons r t=>.cons r (Vals.eraseIdx i t)
theorem Vals.reverse {xs:List V}{us:List Value} (h:Vals xs us):Vals xs.reverse us.reverse:=by
 induction h with
 | nil=>exact .nil
 | cons r t ih=>rw [List.reverse_cons,List.reverse_cons];exact Vals.append ih (.cons r .nil)
theorem CG {α:Type}:∀ (l:List α) (i:Nat),(l.eraseIdx i).length≤l.length
 | [],_=>Nat.le_refl _
 | _::_,0=>Nat.le_succ _
 | _::r,i+1=>Nat.succ_le_succ (CG r i)
section
variable {X:Cx}{pins:List (Addr × Obj)}{σ:St}{H:Hp}{s:Shared}{l b:Addr}{xs ys zs:List V}
theorem Inv.lset {its its':List Value}{n:Nat}{f:Array Value→Array Value}{t':Nat} (I:Inv X pins σ H s) (hH:H l=some (.lst xs))
  (e : s.heap.get? l = some { cls:=.type "list", data:=.seq its.toArray n }) (hf : f its.toArray = its'.toArray) (hv : Vals ys its') (hz : ys.length ≤ sizeLine) :
  Inv X pins σ (upd H l (.lst ys)) { s with heap:=s.heap.update l (Obj.mapSeq f),toks:=t' }:=by
 have q:=PySem.IsL.update e f
 rw [hf] at q
 refine I.write (x:=l) (e:=l) (by rw [hH];exact trivial) (.inl rfl) (fun b' u hb hu=>(Heap.get?_update_other s.heap (Obj.mapSeq f) (Ne.symm hb)).trans hu) ⟨_,q⟩ ?_
 exact ⟨hz,its',_,hv,q⟩
theorem Inv.lnew {its:List Value}{t':Nat} (I:Inv X pins σ H s) (hv:Vals ys its) (hz:ys.length≤sizeLine) :
  Inv X pins σ (upd H s.heap.objs.size (.lst ys)) { s with heap:=s.heap.push { cls:=.type "list", data:=.seq its.toArray }, toks:=t' } :=
 I.laid (fun _ _ q=>Heap.get?_push_of_some _ q) (Nat.le_refl _) ⟨hz,its,0,hv,Heap.get?_push_size _ rfl⟩
theorem Inv.fresh (I:Inv X pins σ H s):H s.heap.objs.size=none:=I.hok.fresh (Nat.le_refl _)
theorem Inv.lstM (I : Inv X pins σ H s) (hH : H l = some (.lst xs)) : xs.length ≤ sizeLine ∧ ∃ (its : List Value) (n : Nat), Vals xs its ∧ xs.length = its.length ∧ s.heap.get? l = some { cls:=.type "list", data:=.seq its.toArray n }:=by
 obtain ⟨z,its,n,r,e⟩:=I.hok l _ hH
 exact ⟨z,its,n,r,r.length,e⟩
theorem R8 {n:Nat} (h:n≤sizeLine):Builtin.List.listTooLong n=false:=by
 unfold Builtin.List.listTooLong
 exact decide_eq_false (by omega)
end
section
variable {X:Cx}
noncomputable def U4:V→List V→Hp→VK→Prop:=fun x vs H Q=>∃ l xs y,x=.ref l∧vs=[y]∧H l=some (.lst xs)∧xs.length < sizeLine∧Q .non (upd H l (.lst (xs++[y])))
theorem CP : MtM X "list.append" U4:=by
 intro pins s σ H x vs v us Q I rx rv h
 obtain ⟨l,xs,y,rfl,rfl,hH,hz,q⟩:=h
 cases rx
 obtain ⟨u,rfl,ru⟩:=rv.one
 obtain ⟨z,its,n,r,hl,e⟩:=I.lstM hH
 refine call_meets F.slot_list_append ⟨_,e,rfl⟩ F.entry_list_append (F.args_list_append_2 _ _) (PySem.list_append l its.toArray n u (by rw [List.size_toArray];omega)) ⟨e,?_⟩
 refine ⟨.non,_,I.lset (its':=its++[u]) hH e (by simp) (r.append (.cons ru .nil)) ?_,rfl,q⟩
 rw [List.length_append,List.length_singleton]
 omega
noncomputable def Y8:V→List V→Hp→VK→Prop:=fun x vs H Q=>∃ l xs i k y,x=.ref l∧vs=[.int i]∧H l=some (.lst xs)∧-(2 ^ 63)≤i∧i < 2 ^ 63∧seqIndex? i xs.length=some k∧xs[k]?=some y∧Q y (upd H l (.lst (xs.eraseIdx k)))
theorem S8 : MtM X "list.pop" Y8:=by
 intro pins s σ H x vs v us Q I rx rv h
 obtain ⟨l,xs,i,k,y,rfl,rfl,hH,h1,h2,hk,hy,q⟩:=h
 cases rx
 obtain ⟨u,rfl,ru⟩:=rv.one
 obtain ⟨t,rfl⟩:=ru
 obtain ⟨z,its,n,r,hl,e⟩:=I.lstM hH
 obtain ⟨w,hw,rw'⟩:=r.get hy
 refine call_meets F.slot_list_pop ⟨_,e,rfl⟩ F.entry_list_pop (F.args_list_pop_2 _ _)
  (MeetsSeq.list_pop_at l its.toArray n i t k w (fitsIndex_both h1 h2) (by rw [List.size_toArray,← hl];exact hk) (by rw [← Array.getElem?_toList];exact hw) (by rw [List.size_toArray];omega)) ⟨e,?_⟩
 refine ⟨y,_,I.lset (its':=its.eraseIdx k) hH e ?_ (r.eraseIdx k) ?_,rw',q⟩
 ·show its.toArray.eraseIdxIfInBounds k=(its.eraseIdx k).toArray
  rw [List.eraseIdxIfInBounds_toArray]
 ·have:=CG xs k
  omega
end
section
variable {prog:Program}{w:World}{A:Around}{E:Value→Shared→Prop}{s:Shared}
end
section
variable {X:Cx}
end
end L2
namespace L2
open PySem PySem.Spec PyProof.Rows
section
variable {κ:Type} [DecidableEq κ]
end
section
variable {P:Program}{w:World}{H:Hp}{h:Heap}{a:Addr}
end
section
variable {X:Cx}{pins:List (Addr × Obj)}{σ:St}{H:Hp}{s:Shared}{a:Addr}{y v:V}{u r:Value}{o:Option V}{A:Around}{E:Value→Shared→Prop}
theorem Inv.big (I:Inv X pins σ H s):sysModules < s.heap.objs.size:=by
 have h:mainGlobals < s.heap.objs.size:=(I.mod.glob.keeps I.bk).lt
 exact Nat.lt_trans (by decide) h
end
section
variable {X:Cx}{pins:List (Addr × Obj)}{σ:St}{H:Hp}{s:Shared}{a:Addr}{kvs:List (Key × V)}{k:Key}{u:Value}{A:Around}{E:Value→Shared→Prop}
end
section
variable {X:Cx}{o i e value:Expr}{pos pos' tpos:Pos}{td ty tv:TE}
end
section
variable {X:Cx}{pos:Pos}
end
structure M2 (X:Cx) (o:Expr) (m:Str) (apos:Pos) (e f:Expr) (cpos:Pos):Prop where
 base:attributeBase o m X.env (eval o X.env)=eval o X.env
 few:((backTo cpos (starEach [e,f] X.env)).all (fun x=>!x.1) && (backToKw cpos (keywordEach [] X.env)).all (fun x=>x.1.isSome)
  && decide (([e,f]:List Expr).length+([]:List Keyword).length+(if ([]:List Keyword).isEmpty then 0 else 1) < 30))=true
 line:(apos.endLine == cpos.line)=true
 trees:backTo cpos (starEach [e,f] X.env)=[(false,eval e X.env),(false,eval f X.env)]
section
variable {X:Cx}{pins:List (Addr × Obj)}{σ:St}{H:Hp}{s:Shared}{a:Addr}{y d:V}{u r:Value}{o:Option V}{A:Around}{E:Value→Shared→Prop}
end
section
variable {X:Cx}{o e f:Expr}{apos cpos:Pos}{td ty tx:TE}
end
section
variable {X:Cx}{pins:List (Addr × Obj)}{σ:St}{H:Hp}{s:Shared}{a:Addr}{kvs:List (Key × V)}{A:Around}{E:Value→Shared→Prop}
end
section
variable {X:Cx}{pins:List (Addr × Obj)}{σ:St}{H:Hp}{s:Shared}{a:Addr}{y:V}{u:Value}{A:Around}{E:Value→Shared→Prop}
end
end L2
namespace Att
open PySem PySem.W PySem.Calls PyProof.Rows
theorem Bb {P:Params}{h:Heap}:∀ (ns:List Int) (vs:List Value),WellAll P h vs (ns.map WData.int)→IntsAre vs ns:=by
 intro ns
 induction ns with
 | nil =>
  intro vs w
  rw [List.map_nil] at w
  cases w
  exact .nil
 | cons n ns ih =>
  intro vs w
  rw [List.map_cons] at w
  cases w with
  | cons a b =>
   cases a
   exact .cons _ _ (ih _ b)
theorem Qw {l:OpenLaw}{n:Nat} (hn:l.most=some n) {P:Params}{h:Heap}{args:List WData}{vals:List Value}
  (hpre:l.row.toRowW.claim.pre args=true) (hwl:WellAll P h vals args) :
  ∃ a vs ns, vals = [Value.ref a] ∧ args = [WData.list (ns.map WData.int)] ∧ h.get? a = some { cls:=.type "list", data:=.seq vs.toArray } ∧ IntsAre vs ns ∧ ns.length ≤ n:=by
 have hsh:WShape.hasAll [] args [.list .int]=true:=(pre_splitW hpre).1
 have hc:l.pre.holds [] { args:=args }=true:=(pre_splitW hpre).2
 obtain ⟨d,r,rfl,h1,h2⟩:=hasAllW_cons hsh
 obtain rfl:=hasAllW_nil h2
 obtain ⟨xs,rfl,h3⟩:=hasW_list h1
 obtain ⟨ns,rfl⟩:=items_int h3
 have hlen:ns.length≤n:=by
  unfold OpenLaw.pre at hc
  have h4:(WTm.not (.lt (.lit (.int (n:Int))) (.len (.arg 0)))).holds [] { args:=[.list (ns.map .int)] }=true:=by
   have h4:=(holds_andW hc).1
   rw [hn] at h4
   exact h4
  have h5:=condW_of h4 (w_not (w_lt w_lit (w_len_list (w_arg rfl))))
  rw [List.length_map] at h5
  refine Nat.le_of_not_lt fun q=>?_
  have q':(n:Int) < ((ns.length:Nat):Int):=by omega
  first
   | (rw [decide_eq_true q'] at h5;exact absurd h5 (by decide))
   | (simp at h5;omega)
 cases hwl with
 | cons w1 w2 =>
  cases w2
  cases w1 with
  | list ho hall=>exact ⟨_,_,ns,rfl,rfl,ho,Bb ns _ hall,hlen⟩
theorem Ob (l:OpenLaw) (args:List WData):l.row.toRowW.claim.post args (.bool true) args=true :=
 postW_of (r:=l.row.toRowW) (X:=(true == true))
  (show WShape.has [] (.bool true) .bool=true by first | rfl | decide | simp [WShape.has,WShape.arms,WShape.armsAll])
  (show (WTm.eq .res (.lit (.bool true))).value [] { args:=args,res:=some (.bool true),after:=args }=some (.bool (true == true)) from w_eq_bool (w_res rfl) w_lit) rfl
theorem JF {l:OpenLaw}{n:Nat}{q:Program}{loose:List Str}{XP:(Str→Option Value)→Heap→Prop}{YP:World→Heap→Prop}{d:DefRec}
  (hn:l.most=some n) (hdf:d.params.defaults=[])
  (call:∀ (w:World) (s₀ s₁:Shared) (mg mb:Str→Option Value) (fa:Addr) (o:Obj) (pm cd doc:Value) (a:Addr) (vs:List Value) (ns:List Int),
   Ground q loose [] XP w s₀ mg mb s₁.heap→YP w s₁.heap →
   s₁.heap.get? fa=some o→o.data=.func (docDef d.name d.params d.body d.scope pm cd doc)→s₁.heap.CodeRec cd d.name→mg d.name=some (.ref fa) →
   s₁.heap.get? a = some { cls:=.type "list", data:=.seq vs.toArray } → IntsAre vs ns → ns.length ≤ n → s₁.gens = #[] →
   codeAny (model l.prog w) callerA (.call (.ref fa) ⟨[.ref a],[]⟩) (fun r s'=>r=.ok (.ret (.bool true))∧OldK s₁.heap s'.heap∧s'.os=s₁.os∧AllBare s'.gens) s₁) :
  WalkO q loose XP YP l.row.toRowW d [] (fun f vs=>PySem.call f vs):=by
 intro w s₀ s₁ mg mb G Y fa o pm cd doc dV kV ho hd hcd hD hmg hg args vals as hpre hlay hrd hwl hlo
 obtain rfl:dV=.none:=Dflts.none hD hdf
 obtain rfl:kV=.none:=Dflts.noKw hD
 obtain ⟨a,vs,ns,rfl,rfl,hobj,hints,hlen⟩:=Qw hn hpre hwl
 refine enter_call (codeAny_mono (call w s₀ s₁ mg mb fa o pm cd doc a vs ns G Y ho (fd_plain hd) hcd hmg hobj hints hlen hg) fun r s' hq=>?_)
 obtain ⟨rfl,h2,h3,h4⟩:=hq
 exact ⟨.inl ⟨.bool true,.bool true,[],rfl,fun _=>rfl,.bool true,Ob l _,fun _=>⟨List.Pairwise.nil,fun _ hm=>(nomatch hm)⟩⟩,h2,h3,h4⟩
section
variable {prog:Program}{w:World}{A:Around}{E:Value→Shared→Prop}{s:Shared}{K:Frag}
end
end Att
namespace L2
open PySem PySem.Spec PyProof.Rows
theorem Cy:∀ {vs:List Value}{ns:List Int},IntsAre vs ns→Vals (ns.map V.int) vs
 | _,_,.nil=>.nil
 | _,_,.cons n t h=>.cons ⟨t,rfl⟩ (Cy h)
noncomputable def Only (H:Hp):Prop:=∀ b,H b=none∨(∃ o xs,H b=some (.frz o (.lst xs)))∨H b=some (.tbl #[])
noncomputable def Az (mg:Str→Option Value) (h:Heap) (tP:Option Addr):Prop:=match tP with
 | none => ∀ a, mg "check_tests" ≠ some (.ref a)
 | some P => ∃ zb ot fdt ct, mg "check_tests" = some (.ref zb) ∧ h.get? zb = some ot ∧ ot.data = .func fdt ∧ fdt.code = .ref ct ∧ h.TableAt ct P #[]
theorem RK {P:Program}{w:World}{K:PySem.W.Frag}{mg mb:Str→Option Value}{CX:CXT}{k:Nat}{fa a:Addr}{fd:FuncData}{x:Str}{sp:Sp}{s₁:Shared}{vs:List Value}{ns:List Int}{tP:Option Addr}
  (KX : K.In s₁.heap) (hns : s₁.heap.Ns mainGlobals mg) (hb : s₁.heap.Ns builtinsNs mb) (hbb : ∀ x : Str, x ≠ "__name__" → mb x = bootBuiltins x) (hlim : s₁.heap.NoLimit) (hg : s₁.gens = #[])
  (hbm : ∃ bm ob, mg "__builtins__" = some (.ref bm) ∧ bm ≠ builtinsNs ∧ s₁.heap.get? bm = some ob ∧ ob.cls = .type "module" ∧ ob.dict = some builtinsNs ∧ ob.data = .plain) (hT : Az mg s₁.heap tP) (hKc : ∀ b o, K.lookup b = some o → o.cls ≠ .none)
  (ha : s₁.heap.get? a = some { cls:=.type "list", data:=.seq vs.toArray }) (hi : IntsAre vs ns) (hl : ns.length ≤ sizeLine) (hr : Room k callerA)
  (F:∀ base:Heap,K.In base→base.Ns mainGlobals mg→FnOk P w K mg base CX k fa fd [x] sp) (hbind:∀ (s:Shared) (u:Value),BindsTo s fd ⟨[u],[]⟩ [(x,u)])
  (hsp:∀ H:Hp,Only H→SqL K H a (ns.map V.int)→sp [.ref a] H (fun v _=>v=.bl true) fun _ _ _=>False)
  (hCX:∀ H e s',CX [] H s₁ (fun _ _ _=>False) e s'→False) :
  codeAny (model P w) callerA (.call (.ref fa) ⟨[.ref a],[]⟩) (fun r s'=>r=.ok (.ret (.bool true))∧OldK s₁.heap s'.heap∧s'.os=s₁.os∧AllBare s'.gens) s₁:=by
 have rv:=Cy hi
 have lenV:=hi.length
 have tabP:∀ p,tP=some p→∃ ct,s₁.heap.TableAt ct p #[]:=fun p e=>by
  subst e
  obtain ⟨_,_,_,ct,_,_,_,_,q⟩:=hT
  exact ⟨ct,q⟩
 have tne:∀ p,tP=some p→p≠a:=fun p e z=>by
  obtain ⟨ct,_,q⟩:=tabP p e
  rw [z,ha] at q
  cases q
 have core : ∀ H : Hp, Only H → SqL K H a (ns.map V.int) → (∀ b, H b ≠ none → b = a ∨ (tP = some b ∧ H b = some (.tbl #[]))) → (H a ≠ none → K.lookup a = none ∧ ∃ xs : List V, xs.length ≤ sizeLine ∧ Vals xs vs ∧ H a = some (.frz { cls:=.type "list", data:=.seq vs.toArray } (.lst xs))) → (∀ p, tP = some p → H p = some (.tbl #[])) →
   codeAny (model P w) callerA (.call (.ref fa) ⟨[.ref a],[]⟩) (fun r s'=>r=.ok (.ret (.bool true))∧OldK s₁.heap s'.heap∧s'.os=s₁.os∧AllBare s'.gens) s₁:=by
  intro H hO hS hA hK hTb
  have hok:HOk P w H s₁.heap:=fun b u z=>by
   rcases hA b (by rw [z];simp) with rfl | ⟨e,e2⟩
   ·obtain ⟨_,xs,h1,h2,h3⟩:=hK (by rw [z];simp)
    rw [z] at h3
    cases h3
    exact ⟨ha,h1,vs,_,h2,ha⟩
   ·rw [z] at e2
    cases e2
    obtain ⟨ct,_,q⟩:=tabP b e
    exact ⟨#[],q,trivial,fun pos v hc=>by cases hc⟩
  have base_of:∀ {b:Addr}{o:Obj},s₁.heap.get? b=some o→H b=none→(pN s₁.heap H).get? b=some o:=fun e n=>R0 e n
  have noT:∀ {b:Addr}{o:Obj},s₁.heap.get? b=some o→(∀ us n,o.data≠.seq us n)→(∀ us,o.data≠.fields us)→H b=none:=fun {b o} e d1 d2=>by
   cases q:H b with
   | none=>rfl
   | some u =>
    rcases hA b (by rw [q];simp) with e' | ⟨e',_⟩
    ·subst e'
     rw [ha] at e;cases e
     exact absurd rfl (d1 _ _)
    ·obtain ⟨ct,_,q'⟩:=tabP b e'
     rw [q'] at e;cases e
     exact absurd rfl (d2 _)
  have noA:∀ {b:Addr}{o:Obj}{es:Array DictEntry}{ep:Nat},s₁.heap.get? b=some o→o.data=.dict es ep→H b=none:=fun {b o es ep} e d=>noT e (fun us n z=>by rw [d] at z;cases z) fun us z=>by rw [d] at z;cases z
  have nsK:∀ {b:Addr}{m:Str→Option Value},s₁.heap.Ns b m→(pN s₁.heap H).Ns b m:=fun {b m} ⟨o,es,ep,e,d,r⟩=>⟨o,es,ep,base_of e (noA e d),d,r⟩
  have hKb:K.In (pN s₁.heap H):=fun b o e=>base_of (KX b o e) (by
   cases q:H b with
   | none=>rfl
   | some u =>
    rcases hA b (by rw [q];simp) with e' | ⟨e',_⟩
    ·subst e'
     rw [(hK (by rw [q];simp)).1] at e;cases e
    ·obtain ⟨ct,_,q'⟩:=tabP b e'
     have e2:=KX b o e
     rw [q'] at e2;cases e2
     exact absurd rfl (hKc b _ e))
  have hB : ∃ bm ob, mg "__builtins__" = some (.ref bm) ∧ bm ≠ builtinsNs ∧ bm ≠ mainGlobals ∧ (pN s₁.heap H).get? bm = some ob ∧ ob.cls = .type "module" ∧ ob.dict = some builtinsNs ∧ ob.data = .plain:=by
   obtain ⟨bm,ob,b1,b2,b3,b4,b5,b6⟩:=hbm
   refine ⟨bm,ob,b1,b2,fun q=>?_,base_of b3 (noT b3 (fun us n z=>by rw [b6] at z;cases z) fun us z=>by rw [b6] at z;cases z),b4,b5,b6⟩
   obtain ⟨o,es,ep,e,hd,_⟩:=hns
   rw [q,e] at b3;cases b3;rw [hd] at b6;cases b6
  have hM:Mod K mg (pN s₁.heap H):=⟨hKb,nsK hns,⟨mb,nsK hb,hbb⟩,let ⟨mc,h1,h2⟩:=hlim;⟨mc,nsK h1,h2⟩,hB⟩
  have hTI:oX K mg H:=fun a' o fd' c oc us p e1 e2 e3 e4 e5 e6 e7=>by
   cases tP with
   | none=>exact absurd e1 (hT a')
   | some p' =>
    obtain ⟨zb,ot,fdt,ct,t1,t2,t3,t4,⟨o',vs',t5,_,t6,t7⟩,_⟩:=hT
    rw [e1] at t1;cases t1
    rw [KX _ _ e2] at t2;cases t2
    rw [e3] at t3;cases t3
    rw [e4] at t4;cases t4
    rw [KX _ _ e5] at t5;cases t5
    rw [e6] at t6;cases t6
    rw [e7] at t7;cases t7
    exact ⟨_,hTb _ rfl⟩
  have e0:Env0 P w K mg (pN s₁.heap H) callerA [] s₁ H:=⟨rfl,hM,fun b o e=>Vt e,Nat.le_of_eq (Oe _ _),trivial,fun b hb=>absurd (show b∈([]:List Addr) from hb) (by simp),hok,.of_eq hg,hTI⟩
  refine codeAny_mono ((F _ hKb (nsK hns)).run callerA [] s₁ H ⟨[.ref a],[]⟩ [.ref a] [.ref a] _ _ hr e0 (hbind s₁ (.ref a)) (.cons rfl .nil) (hsp H hO hS)) fun r s' h=>?_
  cases r with
  | error e=>exact (hCX H e s' h).elim
  | ok fl =>
   cases fl with
   | next=>exact False.elim h
   | brk=>exact False.elim h
   | cont=>exact False.elim h
   | ret u =>
    obtain ⟨v,H',os,bare,un,hok',r',q⟩:=h
    have q':v=.bl true:=q
    subst q'
    obtain rfl:u=Value.bool true:=r'
    refine ⟨rfl,⟨fun b o e=>?_,fun b o e=>un.there b o e (by simp)⟩,os,bare⟩
    cases q:H b with
    | none=>exact .inl (un.keep b o e q (by intro z;exact absurd (show b∈([]:List Addr) from z) (by simp)) (by simp))
    | some u =>
     rcases hO b with z | ⟨ob,xs,z⟩ | z
     ·rw [q] at z;cases z
     ·have z2:=un.frzs b ob _ z
      obtain ⟨e1,_⟩:=hok b _ z
      obtain ⟨e2,_⟩:=hok' b _ z2
      rw [e] at e1;cases e1
      exact .inl e2
     ·rcases hA b (by rw [z];simp) with rfl | ⟨e',_⟩
      ·obtain ⟨_,xs,_,_,h3⟩:=hK (by rw [z];simp)
       rw [z] at h3;cases h3
      ·obtain ⟨m,z2⟩:=un.tbls b _ z
       obtain ⟨ps,e2,_⟩:=hok' b _ z2
       obtain ⟨ct,qt⟩:=tabP b e'
       have e3:=qt.2
       rw [e] at e3;cases e3
       exact .inr (.inl ⟨qt.isCodeTable,rfl,#[],ps,rfl,by simpa using e2⟩)
 cases hk:K.lookup a with
 | some o =>
  have e:=KX a o hk
  rw [ha] at e
  cases e
  refine core (fun b=>if tP=some b then some (.tbl #[]) else none) (fun b=>?_) (.inr ⟨_,vs.toArray,_,hk,rfl,rfl,rfl,by rw [List.size_toArray,lenV];exact hl,by simpa using rv⟩) (fun b z=>?_) (fun z=>?_) fun p e=>if_pos e
  ·by_cases hb:tP=some b
   ·exact .inr (.inr (if_pos hb))
   ·exact .inl (if_neg hb)
  ·by_cases hb:tP=some b
   ·exact .inr ⟨hb,if_pos hb⟩
   ·exact absurd (if_neg hb) z
  ·exact absurd (if_neg fun e=>tne a e rfl) z
 | none =>
  refine core (fun b => if b = a then some (.frz { cls:=.type "list", data:=.seq vs.toArray } (.lst (ns.map V.int))) else if tP = some b then some (.tbl #[]) else none) (fun b => ?_) (.inl (.inr ⟨{ cls:=.type "list", data:=.seq vs.toArray }, if_pos rfl⟩)) (fun b z => ?_) (fun z => ⟨hk, ns.map V.int, by rw [List.length_map]; exact hl, rv, if_pos rfl⟩) fun p e => ?_
  ·by_cases hb:b=a
   ·exact .inr (.inl ⟨_,_,if_pos hb⟩)
   ·by_cases hb2:tP=some b
    ·exact .inr (.inr ((if_neg hb).trans (if_pos hb2)))
    ·exact .inl ((if_neg hb).trans (if_neg hb2))
  ·by_cases hb:b=a
   ·exact .inl hb
   ·by_cases hb2:tP=some b
    ·exact .inr ⟨hb2,(if_neg hb).trans (if_pos hb2)⟩
    ·exact absurd ((if_neg hb).trans (if_neg hb2)) z
  ·exact (if_neg (tne p e)).trans (if_pos e)
end L2
namespace L2
open PySem PySem.Spec PyProof.Rows
theorem Vm {l:PySem.W.OpenLaw}{n k:Nat}{q:Program}{loose:List Str}{XP:(Str→Option Value)→Heap→Prop}{YP:World→Heap→Prop}{d:DefRec}{K:Params→PySem.W.Frag}{CX:World→CXT}{sp:World→Sp}{x:Str}
  (hn:l.most=some n) (hn2:n≤sizeLine) (hdf:d.params.defaults=[]) (hr:Room k callerA)
  (hY:∀ (w:World) (h:Heap),YP w h→(K w.params).In h) (hKc:∀ (p:Params) (b:Addr) (o:Obj),(K p).lookup b=some o→o.cls≠.none) (hT:∀ (w:World) (s₀:Shared) (mg mb:Str→Option Value) (h:Heap),PySem.W.Ground q loose [] XP w s₀ mg mb h→YP w h→∃ tP,Az mg h tP)
  (F:∀ (w:World) (mg:Str→Option Value) (fa:Addr) (h:Heap),(K w.params).In h→h.Ns mainGlobals mg→mg d.name=some (.ref fa) →
   ∃ fd:FuncData,(∀ (s:Shared) (u:Value),BindsTo s fd ⟨[u],[]⟩ [(x,u)]) ∧
    ∀ base:Heap,(K w.params).In base→base.Ns mainGlobals mg→FnOk l.prog w (K w.params) mg base (CX w) k fa fd [x] (sp w))
  (hsp:∀ (w:World) (H:Hp) (a:Addr) (ns:List Int),ns.length≤n→Only H→SqL (K w.params) H a (ns.map V.int)→sp w [.ref a] H (fun v _=>v=.bl true) fun _ _ _=>False)
  (hCX:∀ (w:World) (H:Hp) (s:Shared) (e:Value) (s':Shared),CX w [] H s (fun _ _ _=>False) e s'→False) :
  PySem.W.WalkO q loose XP YP l.row.toRowW d [] (fun f vs=>PySem.call f vs):=by
 refine Att.JF hn hdf fun w s₀ s₁ mg mb fa o pm cd doc a vs ns G Y ho hd hcd hmg hobj hints hlen hg=>?_
 have KX:=hY w _ Y
 obtain ⟨fd,hb,hF⟩:=F w mg fa _ KX G.T.g hmg
 obtain ⟨tP,hTP⟩:=hT w s₀ mg mb _ G Y
 exact RK KX G.T.g G.T.b G.T.builtins G.T.nolimit hg G.T.bmain hTP (hKc w.params) hobj hints (Nat.le_trans hlen hn2) hr hF hb (fun H hO hS=>hsp w H a ns hlen hO hS) fun H e s'=>hCX w H s₁ e s'
end L2
namespace L2
open PySem PySem.Spec PyProof.Rows
noncomputable abbrev CX0:CXT:=fun _ _ _ _ _ _=>False
noncomputable abbrev E0:XK:=fun _ _ _=>False
theorem Ej {X:Cx}:Passes CX0 X E0:=fun _ _ _ _ _ _ _ h=>h.elim
structure Fun (K:PySem.W.Frag) (x qual:Str) (st:Stmt) (f:Addr) (fd:FuncData):Prop where
 ex:∃ (oc:Value) (od:Option Addr) (kV doc pm:Value) (an:Option Addr) (cdv ct:Value) (osl:Array (Option Value)),
  fd=PySem.W.fnOf x qual (fC st) (cY st) (aX st) .none kV doc pm an cdv ct∧K.lookup f=some ⟨oc,od,.func fd,osl⟩∧PySem.W.codeIn K cdv qual=true
 kp:PySem.W.keepIn K (.ref f)=true
section
variable {P:Program}{w:World}{K:PySem.W.Frag}{mg:Str→Option Value}{base:Heap}
theorem Fun.ok {x qual:Str}{st:Stmt}{f:Addr}{fd:FuncData}{N ps:List Str}{k:Nat}{sp:Sp} (F:Fun K x qual st f fd) (S:FnScope N ps (aX st)) (len:∀ vs H Q E,sp vs H Q E→vs.length=ps.length)
  (hbody:∀ (cdv:Value) (A:Around) (outer:List Env) (s:Shared) (H:Hp) (vs:List V) (Q:VK) (E:XK),Room k (A.deeper (envOfC qual (aX st) s.heap.objs.size f cdv))→sp vs H Q E →
   ∃ t,PSs (gH CX0 P w K mg base N qual (aX st) f cdv A outer s H E).nox (cY st) t∧t { nx:=fun _ H'=>Q .non H',rt:=Q } (start N vs) H):FnOk P w K mg base CX0 (k+1) f fd ps sp:=by
 obtain ⟨oc,od,kV,doc,pm,an,cdv,ct,osl,rfl,lk,hcd⟩:=F.ex
 refine ZV lk hcd S len fun A outer s H vs Q E hr hsp=>?_
 obtain ⟨t,h,q⟩:=hbody cdv A outer s H vs Q E hr hsp
 exact ⟨t,h.nox,q⟩
theorem Fun.binds {x qual:Str}{st:Stmt}{f:Addr}{fd:FuncData}{ps:List Str} (F:Fun K x qual st f fd)
  (h:∀ (kV doc pm:Value) (an:Option Addr) (cdv ct:Value) (us:List Value),us.length=ps.length→bindArgs (PySem.W.fnOf x qual (fC st) (cY st) (aX st) .none kV doc pm an cdv ct) ⟨us,[]⟩=pure (ps.zip us)):Binds K fd ps []:=by
 obtain ⟨oc,od,kV,doc,pm,an,cdv,ct,osl,rfl,lk,hcd⟩:=F.ex
 exact .all (h kV doc pm an cdv ct)
theorem PL {x qual:Str}{st:Stmt}{f:Addr}{oc:Value}{od an:Option Addr}{osl:Array (Option Value)}{kV doc pm cdv ct:Value} (l:K.lookup f=some ⟨oc,od,.func (PySem.W.fnOf x qual (fC st) (cY st) (aX st) .none kV doc pm an cdv ct),osl⟩)
  (c:PySem.W.codeIn K cdv qual=true) (k:PySem.W.keepIn K (.ref f)=true):Fun K x qual st f (PySem.W.fnOf x qual (fC st) (cY st) (aX st) .none kV doc pm an cdv ct):=⟨⟨oc,od,kV,doc,pm,an,cdv,ct,osl,rfl,l,c⟩,k⟩
end
section
variable {X:Cx}
end
noncomputable def Same (H H':Hp):Prop:=∀ b o,H b=some o→H' b=some o
theorem Same.refl (H:Hp):Same H H:=fun _ _ h=>h
theorem Same.trans {H H1 H2:Hp} (a:Same H H1) (b:Same H1 H2):Same H H2:=fun c o h=>b c o (a c o h)
theorem Same.free {H H':Hp} (e:Same H H') {l:Addr} (h:H' l=Option.none):H l=Option.none:=by
 cases q:H l with
 | none=>rfl
 | some o =>
  rw [e l o q] at h
  cases h
theorem Same.seq {K:PySem.W.Frag}{H H':Hp}{a:Addr}{xs:List V} (e:Same H H') (h:SqL K H a xs):SqL K H' a xs:=by
 rcases h with (h | ⟨o,h⟩) | h
 ·exact .inl (.inl (e _ _ h))
 ·exact .inl (.inr ⟨o,e _ _ h⟩)
 ·exact .inr h
end L2
set_option genInjectivity true
set_option genSizeOfSpec true
namespace Mi
open PySem L2 PyProof.Rows
inductive D where
 | non | bl (b:Bool) | int (i:Int) | str (x:Str) | tup (ds:List D) | lst (ds:List D) | dct (ks vs:List D)
mutual
noncomputable def pR:D→D→Bool
 | .non,.non=>true
 | .bl a,.bl b=>a == b
 | .int a,.int b=>a == b
 | .str a,.str b=>decide (a=b)
 | .tup a,.tup b=>mZ a b
 | .lst a,.lst b=>mZ a b
 | .dct a b,.dct c d=>mZ a c && mZ b d
 | _,_=>false
noncomputable def mZ:List D→List D→Bool
 | [],[]=>true
 | a::as,b::bs=>pR a b && mZ as bs
 | _,_=>false
end
mutual
theorem Bq:∀ (a b:D),pR a b=true↔a=b
 | .non,b=>by cases b <;> simp [pR]
 | .bl x,b=>by cases b <;> simp [pR]
 | .int x,b=>by cases b <;> simp [pR]
 | .str x,b=>by cases b <;> simp [pR]
 | .tup x,b=>by cases b <;> simp [pR,nU x]
 | .lst x,b=>by cases b <;> simp [pR,nU x]
 | .dct x y,b=>by cases b <;> simp [pR,nU x,nU y]
theorem nU:∀ (a b:List D),mZ a b=true↔a=b
 | [],b=>by cases b <;> simp [mZ]
 | x::xs,b=>by
  cases b with
  | nil=>simp [mZ]
  | cons y ys=>simp [mZ,Bq x y,nU xs ys]
end
noncomputable instance:DecidableEq D:=fun a b=>if h:pR a b=true then isTrue ((Bq a b).mp h) else isFalse fun e=>h ((Bq a b).mpr e)
noncomputable def b2i (b:Bool):Int:=if b then 1 else 0
mutual
noncomputable def au:D→D→Bool
 | .non,.non=>true
 | .bl a,.bl b=>a == b
 | .bl a,.int b=>b2i a == b
 | .int a,.bl b=>a == b2i b
 | .int a,.int b=>a == b
 | .str a,.str b=>a == b
 | .tup a,.tup b=>eV a b
 | .lst a,.lst b=>eV a b
 | _,_=>false
noncomputable def eV:List D→List D→Bool
 | [],[]=>true
 | a::as,b::bs=>au a b && eV as bs
 | _,_=>false
end
mutual
noncomputable def dep:D→Nat
 | .tup ds=>deps ds+1
 | .lst ds=>deps ds+1
 | .dct _ _=>1000
 | _=>0
noncomputable def deps:List D→Nat
 | []=>0
 | d::ds=>max (dep d) (deps ds)
end
mutual
noncomputable def RpV (h:Heap):D→Value→Prop
 | .non,u=>u=.none
 | .bl b,u=>u=.bool b
 | .int i,u=>∃ t,u=.int i t
 | .str x,u=>∃ t,u=.str x t
 | .tup ds,u=>∃ a its,u=.ref a∧h.IsTuple a (List.toArray its)∧aD h ds its
 | .lst ds,u=>∃ a its,u=.ref a∧h.IsList a (List.toArray its)∧aD h ds its
 | .dct _ _,_=>False
noncomputable def aD (h:Heap):List D→List Value→Prop
 | [],us=>us=[]
 | d::ds,us=>∃ y ys,us=y::ys∧RpV h d y∧aD h ds ys
end
theorem aD.length {h:Heap}:∀ {ds:List D}{us:List Value},aD h ds us→ds.length=us.length
 | [],us,r=>by rw [aD] at r;subst r;rfl
 | d::ds,us,r=>by
  rw [aD] at r
  obtain ⟨y,ys,rfl,_,r⟩:=r
  simp [aD.length r]
theorem aD.get {h:Heap}:∀ {ds:List D}{us:List Value}{i:Nat} (h1:i < ds.length) (h2:i < us.length),aD h ds us→RpV h ds[i] us[i]
 | [],us,i,h1,h2,r=>by simp at h1
 | d::ds,us,i,h1,h2,r=>by
  rw [aD] at r
  obtain ⟨y,ys,rfl,r0,r⟩:=r
  cases i with
  | zero=>exact r0
  | succ i=>exact aD.get (ds:=ds) (us:=ys) (i:=i) (by simpa using h1) (by simpa using h2) r
theorem cD:∀ {ds:List D}{i:Nat} (h:i < ds.length),dep ds[i]≤deps ds
 | [],i,h=>by simp at h
 | d::ds,0,h=>by simp only [deps,List.getElem_cons_zero];omega
 | d::ds,i+1,h=>by
  have:=cD (ds:=ds) (i:=i) (by simpa using h)
  simp only [deps,List.getElem_cons_succ];omega
theorem gY:∀ (as bs:List D),eV as bs=((List.range (min as.length bs.length)).all (fun j=>au (as.getD j .non) (bs.getD j .non)) && as.length == bs.length)
 | [],[]=>by simp [eV]
 | [],b::bs=>by simp [eV]
 | a::as,[]=>by simp [eV]
 | a::as,b::bs=>by
  rw [eV,gY as bs]
  have e:min (a::as).length (b::bs).length=min as.length bs.length+1:=by simp only [List.length_cons];omega
  rw [e,List.range_succ_eq_map,List.all_cons,List.all_map]
  simp [Function.comp_def,Bool.and_assoc]
mutual
theorem RpV.inj {h:Heap}:∀ {d e:D}{u:Value},RpV h d u→RpV h e u→d=e
 | .non,e,u,r,q=>by
  rw [RpV] at r;subst r
  cases e <;> simp [RpV] at q ⊢
 | .bl b,e,u,r,q=>by
  rw [RpV] at r;subst r
  cases e <;> simp [RpV] at q ⊢
  exact q
 | .int b,e,u,r,q=>by
  rw [RpV] at r;obtain ⟨t,rfl⟩:=r
  cases e <;> simp [RpV] at q ⊢
  exact q
 | .str b,e,u,r,q=>by
  rw [RpV] at r;obtain ⟨t,rfl⟩:=r
  cases e <;> simp [RpV] at q ⊢
  exact q
 | .tup ds,e,u,r,q=>by
  rw [RpV] at r;obtain ⟨a,its,rfl,⟨o,ho,hc,n,hd⟩,rs⟩:=r
  cases e <;> simp only [RpV] at q
  ·cases q
  ·cases q
  ·obtain ⟨_,q⟩:=q;cases q
  ·obtain ⟨_,q⟩:=q;cases q
  ·obtain ⟨a',its',z,⟨o',ho',hc',n',hd'⟩,qs⟩:=q
   cases z
   rw [ho] at ho';cases ho'
   rw [hd] at hd'
   injection hd' with z _
   have z':its=its':=by simpa using z
   subst z'
   rw [aD.inj rs qs]
  ·obtain ⟨a',its',z,⟨o',ho',hc',n',hd'⟩,qs⟩:=q
   cases z
   rw [ho] at ho';cases ho'
   rw [hc] at hc'
   exact absurd hc' (by simp)
 | .lst ds,e,u,r,q=>by
  rw [RpV] at r;obtain ⟨a,its,rfl,⟨o,ho,hc,n,hd⟩,rs⟩:=r
  cases e <;> simp only [RpV] at q
  ·cases q
  ·cases q
  ·obtain ⟨_,q⟩:=q;cases q
  ·obtain ⟨_,q⟩:=q;cases q
  ·obtain ⟨a',its',z,⟨o',ho',hc',n',hd'⟩,qs⟩:=q
   cases z
   rw [ho] at ho';cases ho'
   rw [hc] at hc'
   exact absurd hc' (by simp)
  ·obtain ⟨a',its',z,⟨o',ho',hc',n',hd'⟩,qs⟩:=q
   cases z
   rw [ho] at ho';cases ho'
   rw [hd] at hd'
   injection hd' with z _
   have z':its=its':=by simpa using z
   subst z'
   rw [aD.inj rs qs]
 | .dct ks vs,e,u,r,q=>by rw [RpV] at r;exact r.elim
theorem aD.inj {h:Heap}:∀ {ds es:List D}{us:List Value},aD h ds us→aD h es us→ds=es
 | [],es,us,r,q=>by
  rw [aD] at r;subst r
  cases es with
  | nil=>rfl
  | cons e es=>rw [aD] at q;obtain ⟨_,_,z,_⟩:=q;cases z
 | d::ds,es,us,r,q=>by
  rw [aD] at r;obtain ⟨y,ys,rfl,r0,rs⟩:=r
  cases es with
  | nil=>rw [aD] at q;cases q
  | cons e es =>
   rw [aD] at q;obtain ⟨y',ys',z,q0,qs⟩:=q
   cases z
   rw [RpV.inj r0 q0,aD.inj rs qs]
end
mutual
theorem Oi {h:Heap}:∀ {d:D}{u:Value},RpV h d u→au d d=true
 | .non,_,_=>by simp [au]
 | .bl b,_,_=>by simp [au]
 | .int b,_,_=>by simp [au]
 | .str b,_,_=>by simp [au]
 | .tup ds,_,r=>by
  rw [RpV] at r;obtain ⟨_,_,_,_,rs⟩:=r
  rw [au];exact mQ rs
 | .lst ds,_,r=>by
  rw [RpV] at r;obtain ⟨_,_,_,_,rs⟩:=r
  rw [au];exact mQ rs
 | .dct _ _,_,r=>by rw [RpV] at r;exact r.elim
theorem mQ {h:Heap}:∀ {ds:List D}{us:List Value},aD h ds us→eV ds ds=true
 | [],_,_=>by simp [eV]
 | d::ds,_,r=>by
  rw [aD] at r;obtain ⟨_,_,_,r0,rs⟩:=r
  rw [eV,Oi r0,mQ rs];rfl
end
theorem Al {h:Heap} (ds es:List D) {us:List Value} (r:aD h ds us) (q:aD h es us):eV ds es=true:=by
 rw [aD.inj r q];exact mQ q
section
open PySem.SeqAt
theorem iZ:∀ (d e:D) {A:Around}{s:Shared}{u v:Value},RpV s.heap d u→RpV s.heap e v→A.units+dep d < cLine→A.units+dep e < cLine→EqAt A s u v (au d e)
 | .non,e,A,s,u,v,r,q,hd,he=>by
  rw [RpV] at r;subst r
  have hu:A.units < cLine:=by omega
  cases e <;> simp only [RpV] at q
  ·subst q;rw [au];exact EqAt.same _
  ·subst q;rw [au];exact EqAt.none_bool _;all_goals simp
  ·obtain ⟨t,rfl⟩:=q;rw [au];exact EqAt.none_int _ _;all_goals simp
  ·obtain ⟨t,rfl⟩:=q;rw [au];exact EqAt.none_str _ _;all_goals simp
  ·obtain ⟨a,its,rfl,q,_⟩:=q;rw [au];exact EqAt.none_tuple q hu;all_goals simp
  ·obtain ⟨a,its,rfl,q,_⟩:=q;rw [au];exact EqAt.none_list q hu;all_goals simp
 | .bl b,e,A,s,u,v,r,q,hd,he=>by
  rw [RpV] at r;subst r
  have hu:A.units < cLine:=by omega
  cases e <;> simp only [RpV] at q
  ·subst q;rw [au];exact EqAt.bool_none _;all_goals simp
  ·subst q;rw [au];exact EqAt.bool_bool _ _
  ·obtain ⟨t,rfl⟩:=q;rw [au];exact EqAt.bool_int _ _ _
  ·obtain ⟨t,rfl⟩:=q;rw [au];exact EqAt.bool_str _ _ _;all_goals simp
  ·obtain ⟨a,its,rfl,q,_⟩:=q;rw [au];exact EqAt.bool_tuple _ q hu;all_goals simp
  ·obtain ⟨a,its,rfl,q,_⟩:=q;rw [au];exact EqAt.bool_list _ q hu;all_goals simp
 | .int b,e,A,s,u,v,r,q,hd,he=>by
  rw [RpV] at r;obtain ⟨t0,rfl⟩:=r
  have hu:A.units < cLine:=by omega
  cases e <;> simp only [RpV] at q
  ·subst q;rw [au];exact EqAt.int_none _ _;all_goals simp
  ·subst q;rw [au];exact EqAt.int_bool _ _ _
  ·obtain ⟨t,rfl⟩:=q;rw [au];exact EqAt.int_int _ _ _ _
  ·obtain ⟨t,rfl⟩:=q;rw [au];exact EqAt.int_str _ _ _ _;all_goals simp
  ·obtain ⟨a,its,rfl,q,_⟩:=q;rw [au];exact EqAt.int_tuple _ _ q hu;all_goals simp
  ·obtain ⟨a,its,rfl,q,_⟩:=q;rw [au];exact EqAt.int_list _ _ q hu;all_goals simp
 | .str b,e,A,s,u,v,r,q,hd,he=>by
  rw [RpV] at r;obtain ⟨t0,rfl⟩:=r
  have hu:A.units < cLine:=by omega
  cases e <;> simp only [RpV] at q
  ·subst q;rw [au];exact EqAt.str_none _ _;all_goals simp
  ·subst q;rw [au];exact EqAt.str_bool _ _ _;all_goals simp
  ·obtain ⟨t,rfl⟩:=q;rw [au];exact EqAt.str_int _ _ _ _;all_goals simp
  ·obtain ⟨t,rfl⟩:=q;rw [au];exact EqAt.str_str _ _ _ _
  ·obtain ⟨a,its,rfl,q,_⟩:=q;rw [au];exact EqAt.str_tuple _ _ q hu;all_goals simp
  ·obtain ⟨a,its,rfl,q,_⟩:=q;rw [au];exact EqAt.str_list _ _ q hu;all_goals simp
 | .tup ds,e,A,s,u,v,r,q,hd,he=>by
  rw [RpV] at r;obtain ⟨a0,its0,rfl,r,rs⟩:=r
  rw [dep] at hd
  have hu:A.units < cLine:=by omega
  cases e <;> simp only [RpV] at q
  ·subst q;rw [au];exact EqAt.tuple_none r hu;all_goals simp
  ·subst q;rw [au];exact EqAt.tuple_bool _ r hu;all_goals simp
  ·obtain ⟨t,rfl⟩:=q;rw [au];exact EqAt.tuple_int _ _ r hu;all_goals simp
  ·obtain ⟨t,rfl⟩:=q;rw [au];exact EqAt.tuple_str _ _ r hu;all_goals simp
  ·rename_i es
   obtain ⟨a,its,rfl,q,qs⟩:=q
   rw [dep] at he
   have l1:=rs.length
   have l2:=qs.length
   rw [au]
   have items:∀ j (h1:j < its0.toArray.size) (h2:j < its.toArray.size),EqAt A.in1 s its0.toArray[j] its.toArray[j] (au (ds.getD j .non) (es.getD j .non)):=fun j h1 h2=>by
    have k1:j < ds.length:=by simp at h1;omega
    have k2:j < es.length:=by simp at h2;omega
    have e1:ds.getD j .non=ds[j]:=by simp [k1]
    have e2:es.getD j .non=es[j]:=by simp [k2]
    rw [e1,e2]
    have w1:=cD k1
    have w2:=cD k2
    have hin:A.in1.units=A.units+1:=rfl
    exact iZ ds[j] es[j] (aD.get k1 (by omega) rs) (aD.get k2 (by omega) qs) (by omega) (by omega)
   by_cases hab:a0=a
   ·subst hab
    have ei:its0=its:=by
     obtain ⟨o,ho,_,n,hd1⟩:=r
     obtain ⟨o',ho',_,n',hd2⟩:=q
     rw [ho] at ho';cases ho'
     rw [hd1] at hd2
     injection hd2 with z _
     simpa using z
    subst ei
    have hQ:eV ds es=true:=by
     exact Al ds es rs qs
    rw [hQ]
    exact EqAt.same _
   ·refine EqAt.of_refs hab ?_
    have rc:=RcAt.tuples (e:=fun j=>au (ds.getD j .non) (es.getD j .non)) r q hu items
    rw [gY,l1,l2]
    simpa using rc
  ·obtain ⟨a,its,rfl,q,_⟩:=q;rw [au];exact EqAt.tuple_list r q hu;all_goals simp
 | .lst ds,e,A,s,u,v,r,q,hd,he=>by
  rw [RpV] at r;obtain ⟨a0,its0,rfl,r,rs⟩:=r
  rw [dep] at hd
  have hu:A.units < cLine:=by omega
  cases e <;> simp only [RpV] at q
  ·subst q;rw [au];exact EqAt.list_none r hu;all_goals simp
  ·subst q;rw [au];exact EqAt.list_bool _ r hu;all_goals simp
  ·obtain ⟨t,rfl⟩:=q;rw [au];exact EqAt.list_int _ _ r hu;all_goals simp
  ·obtain ⟨t,rfl⟩:=q;rw [au];exact EqAt.list_str _ _ r hu;all_goals simp
  ·obtain ⟨a,its,rfl,q,_⟩:=q;rw [au];exact EqAt.list_tuple r q hu;all_goals simp
  ·rename_i es
   obtain ⟨a,its,rfl,q,qs⟩:=q
   rw [dep] at he
   have l1:=rs.length
   have l2:=qs.length
   rw [au]
   have items:∀ j (h1:j < its0.toArray.size) (h2:j < its.toArray.size),EqAt A.in1 s its0.toArray[j] its.toArray[j] (au (ds.getD j .non) (es.getD j .non)):=fun j h1 h2=>by
    have k1:j < ds.length:=by simp at h1;omega
    have k2:j < es.length:=by simp at h2;omega
    have e1:ds.getD j .non=ds[j]:=by simp [k1]
    have e2:es.getD j .non=es[j]:=by simp [k2]
    rw [e1,e2]
    have w1:=cD k1
    have w2:=cD k2
    have hin:A.in1.units=A.units+1:=rfl
    exact iZ ds[j] es[j] (aD.get k1 (by omega) rs) (aD.get k2 (by omega) qs) (by omega) (by omega)
   by_cases hab:a0=a
   ·subst hab
    have ei:its0=its:=by
     obtain ⟨o,ho,_,n,hd1⟩:=r
     obtain ⟨o',ho',_,n',hd2⟩:=q
     rw [ho] at ho';cases ho'
     rw [hd1] at hd2
     injection hd2 with z _
     simpa using z
    subst ei
    rw [Al ds es rs qs]
    exact EqAt.same _
   ·refine EqAt.of_refs hab ?_
    rw [gY]
    by_cases hs:ds.length=es.length
    ·have rc:=RcAt.lists (e:=fun j=>au (ds.getD j .non) (es.getD j .non)) r q (by simp;omega) hu items
     have e1:min ds.length es.length=its0.toArray.size:=by simp;omega
     rw [e1]
     simpa [hs] using rc
    ·have rc:=RcAt.lists_lengths r q (by simp;omega) hu
     have e0:(ds.length == es.length)=false:=by simpa using hs
     rw [e0,Bool.and_false]
     exact rc
 | .dct ks vs,e,A,s,u,v,r,q,hd,he=>by rw [RpV] at r;exact r.elim
termination_by d=>sizeOf d
decreasing_by
 all_goals
  have:=List.sizeOf_lt_of_mem (List.getElem_mem (by assumption:j < ds.length))
  simp only [D.tup.sizeOf_spec,D.lst.sizeOf_spec]
  omega
theorem Zd:∀ (d e:D) {A:Around}{s:Shared}{u v:Value},RpV s.heap d u→RpV s.heap e v→A.units+dep d < cLine→A.units+dep e < cLine→RcAt A s u v (au d e)
 | .non,e,A,s,u,v,r,q,hd,he=>by
  rw [RpV] at r;subst r
  have hu:A.units < cLine:=by omega
  cases e <;> simp only [RpV] at q
  ·subst q;rw [au];exact RcAt.none_none
  ·subst q;rw [au];exact RcAt.none_bool _;all_goals simp
  ·obtain ⟨t,rfl⟩:=q;rw [au];exact RcAt.none_int _ _;all_goals simp
  ·obtain ⟨t,rfl⟩:=q;rw [au];exact RcAt.none_str _ _;all_goals simp
  ·obtain ⟨a,its,rfl,q,qs⟩:=q;rw [au];exact RcAt.none_tuple q hu;all_goals simp
  ·obtain ⟨a,its,rfl,q,qs⟩:=q;rw [au];exact RcAt.none_list q hu;all_goals simp
 | .bl b,e,A,s,u,v,r,q,hd,he=>by
  rw [RpV] at r;subst r
  have hu:A.units < cLine:=by omega
  cases e <;> simp only [RpV] at q
  ·subst q;rw [au];exact RcAt.bool_none _;all_goals simp
  ·subst q;rw [au];exact RcAt.bool_bool _ _
  ·obtain ⟨t,rfl⟩:=q;rw [au];exact RcAt.bool_int _ _ _
  ·obtain ⟨t,rfl⟩:=q;rw [au];exact RcAt.bool_str _ _ _;all_goals simp
  ·obtain ⟨a,its,rfl,q,qs⟩:=q;rw [au];exact RcAt.bool_tuple _ q hu;all_goals simp
  ·obtain ⟨a,its,rfl,q,qs⟩:=q;rw [au];exact RcAt.bool_list _ q hu;all_goals simp
 | .int b,e,A,s,u,v,r,q,hd,he=>by
  rw [RpV] at r;obtain ⟨t0,rfl⟩:=r
  have hu:A.units < cLine:=by omega
  cases e <;> simp only [RpV] at q
  ·subst q;rw [au];exact RcAt.int_none _ _;all_goals simp
  ·subst q;rw [au];exact RcAt.int_bool _ _ _
  ·obtain ⟨t,rfl⟩:=q;rw [au];exact RcAt.int_int _ _ _ _
  ·obtain ⟨t,rfl⟩:=q;rw [au];exact RcAt.int_str _ _ _ _;all_goals simp
  ·obtain ⟨a,its,rfl,q,qs⟩:=q;rw [au];exact RcAt.int_tuple _ _ q hu;all_goals simp
  ·obtain ⟨a,its,rfl,q,qs⟩:=q;rw [au];exact RcAt.int_list _ _ q hu;all_goals simp
 | .str b,e,A,s,u,v,r,q,hd,he=>by
  rw [RpV] at r;obtain ⟨t0,rfl⟩:=r
  have hu:A.units < cLine:=by omega
  cases e <;> simp only [RpV] at q
  ·subst q;rw [au];exact RcAt.str_none _ _;all_goals simp
  ·subst q;rw [au];exact RcAt.str_bool _ _ _;all_goals simp
  ·obtain ⟨t,rfl⟩:=q;rw [au];exact RcAt.str_int _ _ _ _;all_goals simp
  ·obtain ⟨t,rfl⟩:=q;rw [au];exact RcAt.str_str _ _ _ _
  ·obtain ⟨a,its,rfl,q,qs⟩:=q;rw [au];exact RcAt.str_tuple _ _ q hu;all_goals simp
  ·obtain ⟨a,its,rfl,q,qs⟩:=q;rw [au];exact RcAt.str_list _ _ q hu;all_goals simp
 | .tup ds,e,A,s,u,v,r,q,hd,he=>by
  rw [RpV] at r;obtain ⟨a0,its0,rfl,r,rs⟩:=r
  rw [dep] at hd
  have hu:A.units < cLine:=by omega
  cases e <;> simp only [RpV] at q
  ·subst q;rw [au];exact RcAt.tuple_none r hu;all_goals simp
  ·subst q;rw [au];exact RcAt.tuple_bool _ r hu;all_goals simp
  ·obtain ⟨t,rfl⟩:=q;rw [au];exact RcAt.tuple_int _ _ r hu;all_goals simp
  ·obtain ⟨t,rfl⟩:=q;rw [au];exact RcAt.tuple_str _ _ r hu;all_goals simp
  ·rename_i es
   obtain ⟨a,its,rfl,q,qs⟩:=q
   rw [dep] at he
   have l1:=rs.length
   have l2:=qs.length
   rw [au]
   have items:∀ j (h1:j < its0.toArray.size) (h2:j < its.toArray.size),EqAt A.in1 s its0.toArray[j] its.toArray[j] (au (ds.getD j .non) (es.getD j .non)):=fun j h1 h2=>by
    have k1:j < ds.length:=by simp at h1;omega
    have k2:j < es.length:=by simp at h2;omega
    have e1:ds.getD j .non=ds[j]:=by simp [k1]
    have e2:es.getD j .non=es[j]:=by simp [k2]
    rw [e1,e2]
    have w1:=cD k1
    have w2:=cD k2
    have hin:A.in1.units=A.units+1:=rfl
    exact iZ ds[j] es[j] (aD.get k1 (by omega) rs) (aD.get k2 (by omega) qs) (by omega) (by omega)
   have rc:=RcAt.tuples (e:=fun j=>au (ds.getD j .non) (es.getD j .non)) r q hu items
   rw [gY,l1,l2]
   simpa using rc
  ·obtain ⟨a,its,rfl,q,qs⟩:=q;rw [au];exact RcAt.tuple_list r q hu;all_goals simp
 | .lst ds,e,A,s,u,v,r,q,hd,he=>by
  rw [RpV] at r;obtain ⟨a0,its0,rfl,r,rs⟩:=r
  rw [dep] at hd
  have hu:A.units < cLine:=by omega
  cases e <;> simp only [RpV] at q
  ·subst q;rw [au];exact RcAt.list_none r hu;all_goals simp
  ·subst q;rw [au];exact RcAt.list_bool _ r hu;all_goals simp
  ·obtain ⟨t,rfl⟩:=q;rw [au];exact RcAt.list_int _ _ r hu;all_goals simp
  ·obtain ⟨t,rfl⟩:=q;rw [au];exact RcAt.list_str _ _ r hu;all_goals simp
  ·obtain ⟨a,its,rfl,q,qs⟩:=q;rw [au];exact RcAt.list_tuple r q hu;all_goals simp
  ·rename_i es
   obtain ⟨a,its,rfl,q,qs⟩:=q
   rw [dep] at he
   have l1:=rs.length
   have l2:=qs.length
   rw [au]
   have items:∀ j (h1:j < its0.toArray.size) (h2:j < its.toArray.size),EqAt A.in1 s its0.toArray[j] its.toArray[j] (au (ds.getD j .non) (es.getD j .non)):=fun j h1 h2=>by
    have k1:j < ds.length:=by simp at h1;omega
    have k2:j < es.length:=by simp at h2;omega
    have e1:ds.getD j .non=ds[j]:=by simp [k1]
    have e2:es.getD j .non=es[j]:=by simp [k2]
    rw [e1,e2]
    have w1:=cD k1
    have w2:=cD k2
    have hin:A.in1.units=A.units+1:=rfl
    exact iZ ds[j] es[j] (aD.get k1 (by omega) rs) (aD.get k2 (by omega) qs) (by omega) (by omega)
   rw [gY]
   by_cases hs:ds.length=es.length
   ·have rc:=RcAt.lists (e:=fun j=>au (ds.getD j .non) (es.getD j .non)) r q (by simp;omega) hu items
    have e1:min ds.length es.length=its0.toArray.size:=by simp;omega
    rw [e1]
    simpa [hs] using rc
   ·have rc:=RcAt.lists_lengths r q (by simp;omega) hu
    have e0:(ds.length == es.length)=false:=by simpa using hs
    rw [e0,Bool.and_false]
    exact rc
 | .dct ks vs,e,A,s,u,v,r,q,hd,he=>by rw [RpV] at r;exact r.elim
theorem U5:∀ (d e:D) {A:Around}{s:Shared}{u v:Value},RpV s.heap d u→RpV s.heap e v→A.units+dep d < cLine→A.units+dep e < cLine→RcNeAt A s u v (!au d e)
 | .non,e,A,s,u,v,r,q,hd,he=>by
  rw [RpV] at r;subst r
  have hu:A.units < cLine:=by omega
  cases e <;> simp only [RpV] at q
  ·subst q;rw [au];exact RcNeAt.none_none
  ·subst q;rw [au];exact RcNeAt.none_bool _;all_goals simp
  ·obtain ⟨t,rfl⟩:=q;rw [au];exact RcNeAt.none_int _ _;all_goals simp
  ·obtain ⟨t,rfl⟩:=q;rw [au];exact RcNeAt.none_str _ _;all_goals simp
  ·obtain ⟨a,its,rfl,q,qs⟩:=q;rw [au];exact RcNeAt.none_tuple q hu;all_goals simp
  ·obtain ⟨a,its,rfl,q,qs⟩:=q;rw [au];exact RcNeAt.none_list q hu;all_goals simp
 | .bl b,e,A,s,u,v,r,q,hd,he=>by
  rw [RpV] at r;subst r
  have hu:A.units < cLine:=by omega
  cases e <;> simp only [RpV] at q
  ·subst q;rw [au];exact RcNeAt.bool_none _;all_goals simp
  ·subst q;rw [au];exact RcNeAt.bool_bool _ _
  ·obtain ⟨t,rfl⟩:=q;rw [au];exact RcNeAt.bool_int _ _ _
  ·obtain ⟨t,rfl⟩:=q;rw [au];exact RcNeAt.bool_str _ _ _;all_goals simp
  ·obtain ⟨a,its,rfl,q,qs⟩:=q;rw [au];exact RcNeAt.bool_tuple _ q hu;all_goals simp
  ·obtain ⟨a,its,rfl,q,qs⟩:=q;rw [au];exact RcNeAt.bool_list _ q hu;all_goals simp
 | .int b,e,A,s,u,v,r,q,hd,he=>by
  rw [RpV] at r;obtain ⟨t0,rfl⟩:=r
  have hu:A.units < cLine:=by omega
  cases e <;> simp only [RpV] at q
  ·subst q;rw [au];exact RcNeAt.int_none _ _;all_goals simp
  ·subst q;rw [au];exact RcNeAt.int_bool _ _ _
  ·obtain ⟨t,rfl⟩:=q;rw [au];exact RcNeAt.int_int _ _ _ _
  ·obtain ⟨t,rfl⟩:=q;rw [au];exact RcNeAt.int_str _ _ _ _;all_goals simp
  ·obtain ⟨a,its,rfl,q,qs⟩:=q;rw [au];exact RcNeAt.int_tuple _ _ q hu;all_goals simp
  ·obtain ⟨a,its,rfl,q,qs⟩:=q;rw [au];exact RcNeAt.int_list _ _ q hu;all_goals simp
 | .str b,e,A,s,u,v,r,q,hd,he=>by
  rw [RpV] at r;obtain ⟨t0,rfl⟩:=r
  have hu:A.units < cLine:=by omega
  cases e <;> simp only [RpV] at q
  ·subst q;rw [au];exact RcNeAt.str_none _ _;all_goals simp
  ·subst q;rw [au];exact RcNeAt.str_bool _ _ _;all_goals simp
  ·obtain ⟨t,rfl⟩:=q;rw [au];exact RcNeAt.str_int _ _ _ _;all_goals simp
  ·obtain ⟨t,rfl⟩:=q;rw [au];exact RcNeAt.str_str _ _ _ _
  ·obtain ⟨a,its,rfl,q,qs⟩:=q;rw [au];exact RcNeAt.str_tuple _ _ q hu;all_goals simp
  ·obtain ⟨a,its,rfl,q,qs⟩:=q;rw [au];exact RcNeAt.str_list _ _ q hu;all_goals simp
 | .tup ds,e,A,s,u,v,r,q,hd,he=>by
  rw [RpV] at r;obtain ⟨a0,its0,rfl,r,rs⟩:=r
  rw [dep] at hd
  have hu:A.units < cLine:=by omega
  cases e <;> simp only [RpV] at q
  ·subst q;rw [au];exact RcNeAt.tuple_none r hu;all_goals simp
  ·subst q;rw [au];exact RcNeAt.tuple_bool _ r hu;all_goals simp
  ·obtain ⟨t,rfl⟩:=q;rw [au];exact RcNeAt.tuple_int _ _ r hu;all_goals simp
  ·obtain ⟨t,rfl⟩:=q;rw [au];exact RcNeAt.tuple_str _ _ r hu;all_goals simp
  ·rename_i es
   obtain ⟨a,its,rfl,q,qs⟩:=q
   rw [dep] at he
   have l1:=rs.length
   have l2:=qs.length
   rw [au]
   have items:∀ j (h1:j < its0.toArray.size) (h2:j < its.toArray.size),EqAt A.in1 s its0.toArray[j] its.toArray[j] (au (ds.getD j .non) (es.getD j .non)):=fun j h1 h2=>by
    have k1:j < ds.length:=by simp at h1;omega
    have k2:j < es.length:=by simp at h2;omega
    have e1:ds.getD j .non=ds[j]:=by simp [k1]
    have e2:es.getD j .non=es[j]:=by simp [k2]
    rw [e1,e2]
    have w1:=cD k1
    have w2:=cD k2
    have hin:A.in1.units=A.units+1:=rfl
    exact iZ ds[j] es[j] (aD.get k1 (by omega) rs) (aD.get k2 (by omega) qs) (by omega) (by omega)
   have rc:=RcNeAt.tuples (e:=fun j=>au (ds.getD j .non) (es.getD j .non)) r q hu items
   rw [gY,l1,l2]
   simpa using rc
  ·obtain ⟨a,its,rfl,q,qs⟩:=q;rw [au];exact RcNeAt.tuple_list r q hu;all_goals simp
 | .lst ds,e,A,s,u,v,r,q,hd,he=>by
  rw [RpV] at r;obtain ⟨a0,its0,rfl,r,rs⟩:=r
  rw [dep] at hd
  have hu:A.units < cLine:=by omega
  cases e <;> simp only [RpV] at q
  ·subst q;rw [au];exact RcNeAt.list_none r hu;all_goals simp
  ·subst q;rw [au];exact RcNeAt.list_bool _ r hu;all_goals simp
  ·obtain ⟨t,rfl⟩:=q;rw [au];exact RcNeAt.list_int _ _ r hu;all_goals simp
  ·obtain ⟨t,rfl⟩:=q;rw [au];exact RcNeAt.list_str _ _ r hu;all_goals simp
  ·obtain ⟨a,its,rfl,q,qs⟩:=q;rw [au];exact RcNeAt.list_tuple r q hu;all_goals simp
  ·rename_i es
   obtain ⟨a,its,rfl,q,qs⟩:=q
   rw [dep] at he
   have l1:=rs.length
   have l2:=qs.length
   rw [au]
   have items:∀ j (h1:j < its0.toArray.size) (h2:j < its.toArray.size),EqAt A.in1 s its0.toArray[j] its.toArray[j] (au (ds.getD j .non) (es.getD j .non)):=fun j h1 h2=>by
    have k1:j < ds.length:=by simp at h1;omega
    have k2:j < es.length:=by simp at h2;omega
    have e1:ds.getD j .non=ds[j]:=by simp [k1]
    have e2:es.getD j .non=es[j]:=by simp [k2]
    rw [e1,e2]
    have w1:=cD k1
    have w2:=cD k2
    have hin:A.in1.units=A.units+1:=rfl
    exact iZ ds[j] es[j] (aD.get k1 (by omega) rs) (aD.get k2 (by omega) qs) (by omega) (by omega)
   rw [gY]
   by_cases hs:ds.length=es.length
   ·have rc:=RcNeAt.lists (e:=fun j=>au (ds.getD j .non) (es.getD j .non)) r q (by simp;omega) hu items
    have e1:min ds.length es.length=its0.toArray.size:=by simp;omega
    rw [e1]
    simpa [hs] using rc
   ·have rc:=RcNeAt.lists_lengths r q (by simp;omega) hu
    have e0:(ds.length == es.length)=false:=by simpa using hs
    rw [e0,Bool.and_false]
    exact rc
 | .dct ks vs,e,A,s,u,v,r,q,hd,he=>by rw [RpV] at r;exact r.elim
end
end Mi
namespace Mi
open PySem L2 PyProof.Rows
mutual
noncomputable def vP (w:World):D→Int
 | .int i=>hashInt i
 | .str x=>hashStr w x
 | .tup ds=>reduceHash (Builtin.Tuple.tupleHashOf (fG w ds))
 | _=>0
noncomputable def fG (w:World):List D→List Int
 | []=>[]
 | d::ds=>vP w d::fG w ds
end
mutual
noncomputable def rT:D→Nat
 | .int _=>1
 | .str _=>1
 | .tup ds=>fu ds+1
 | _=>0
noncomputable def fu:List D→Nat
 | []=>0
 | d::ds=>rT d+fu ds
end
mutual
noncomputable def keyOk:D→Bool
 | .int _=>true
 | .str _=>true
 | .tup ds=>bw ds
 | _=>false
noncomputable def bw:List D→Bool
 | []=>true
 | d::ds=>keyOk d && bw ds
end
mutual
theorem sZ:∀ {d e:D},keyOk d=true→keyOk e=true→au d e=decide (d=e)
 | .non,e,h,_=>by simp [keyOk] at h
 | .bl _,e,h,_=>by simp [keyOk] at h
 | .int a,e,h,g=>by cases e <;> simp [keyOk] at g <;> simp [au];rw [Bool.eq_iff_iff];simp
 | .str a,e,h,g=>by cases e <;> simp [keyOk] at g <;> simp [au];rw [Bool.eq_iff_iff];simp
 | .tup ds,e,h,g=>by
  cases e <;> simp [keyOk] at g <;> simp [au]
  exact uP (by simpa [keyOk] using h) g
 | .lst _,e,h,_=>by simp [keyOk] at h
 | .dct _ _,e,h,_=>by simp [keyOk] at h
theorem uP:∀ {ds es:List D},bw ds=true→bw es=true→eV ds es=decide (ds=es)
 | [],es,h,g=>by cases es <;> simp [eV]
 | d::ds,[],h,g=>by simp [eV]
 | d::ds,e::es,h,g=>by
  rw [bw,Bool.and_eq_true] at h g
  rw [eV,sZ h.1 g.1,uP h.2 g.2]
  rw [Bool.eq_iff_iff];simp
end
theorem mF (w:World):∀ (a b:List D),fG w (a++b)=fG w a++fG w b
 | [],b=>rfl
 | d::ds,b=>by rw [List.cons_append,fG,fG,mF w ds b,List.cons_append]
theorem jZ:∀ (a b:List D),fu (a++b)=fu a+fu b
 | [],b=>by simp [fu]
 | d::ds,b=>by rw [List.cons_append,fu,fu,jZ ds b];omega
theorem tY:∀ (a b:List D),bw (a++b)=(bw a && bw b)
 | [],b=>by simp [bw]
 | d::ds,b=>by rw [List.cons_append,bw,bw,tY ds b,Bool.and_assoc]
theorem Qa {P:Program}{w:World}:∀ (d:D) {A:Around}{E:Value→Shared→Prop}{s:Shared}{u:Value}{Q:Int→Shared→Prop},keyOk d=true→RpV s.heap d u→A.units+dep d < cLine →
  Q (vP w d) { s with toks:=s.toks+rT d }→wpAny (model P w) A (pyHash u) Q E s
 | .non,A,E,s,u,Q,hk,r,hu,h=>by simp [keyOk] at hk
 | .bl _,A,E,s,u,Q,hk,r,hu,h=>by simp [keyOk] at hk
 | .int i,A,E,s,u,Q,hk,r,hu,h=>by
  rw [RpV] at r;obtain ⟨t,rfl⟩:=r
  rw [vP,rT] at h
  exact wpAny_pyHash_int h
 | .str x,A,E,s,u,Q,hk,r,hu,h=>by
  rw [RpV] at r;obtain ⟨t,rfl⟩:=r
  rw [vP,rT] at h
  exact wpAny_pyHash_str h
 | .lst _,A,E,s,u,Q,hk,r,hu,h=>by simp [keyOk] at hk
 | .dct _ _,A,E,s,u,Q,hk,r,hu,h=>by simp [keyOk] at hk
 | .tup ks,A,E,s,u,Q,hk,r,hu,h=>by
  rw [RpV] at r
  obtain ⟨a,its,rfl,⟨o,ho,hc,n,hd⟩,hi⟩:=r
  rw [keyOk] at hk
  rw [vP,rT] at h
  rw [dep] at hu
  have hT : s.TypeIs (.ref a) "tuple":=⟨o, ho, hc⟩
  unfold pyHash
  first | unfold pyHashByItsType | skip
  first | refine wpAny_bind (wpAny_cRoomFor_or (.inr (by omega)) ?_) | skip
  refine wpAny_bind (wpAny_specialOf hT F.slot_tuple_hash.lookup ?_)
  show wpAny _ _ (if (some (Value.builtin "tuple.__hash__") == some Value.none) = true then _ else _) Q E s
  rw [if_neg (by rw [beq_builtin_none];exact Bool.false_ne_true)]
  refine wpAny_bind (wpAny_specialOf hT F.slot_tuple_hash.lookup ?_)
  show wpAny _ _ (callSpecialIfBoundUnlessNone? (.ref a) "__hash__" _ >>= _) Q E s
  refine wpAny_bind (wpAny_callSpecialIfBoundUnlessNone?_slot hT F.slot_tuple_hash (wpAny_call_entry F.slot_tuple_hash hT F.entry_tuple_hash ?_ (F.args_tuple_hash_1 _)))
  show wpAny _ _ (Builtin.Tuple.tupleItemsOf (.ref a) >>= _) _ _ s
  refine wpAny_bind (wpAny_tupleItemsOf ho hd ?_)
  refine wpAny_bind ?_
  rw [← Array.forIn_toList]
  refine wpAny_forIn_list _
   (fun rest (b:Array Int) s'=>∃ done left,ks=done++left∧aD s.heap left rest∧b.toList=fG w done∧s'={ s with toks:=s.toks+fu done })
   _ ?_ ?_ _ _ ⟨[],ks,rfl,by simpa using hi,rfl,rfl⟩
  ·rintro x rest b s' ⟨done,left,hks,hl,hb,rfl⟩
   cases left with
   | nil=>rw [aD] at hl;cases hl
   | cons k ks' =>
    rw [aD] at hl
    obtain ⟨y,ys,z,h1,hl'⟩:=hl
    cases z
    have hmem:k∈ks:=by rw [hks];simp
    have hlt:=List.sizeOf_lt_of_mem hmem
    have hko:keyOk k=true:=by
     rw [hks,tY,bw] at hk
     simp at hk
     exact hk.2.1
    have hdep:dep k≤deps ks:=by
     obtain ⟨i,hi2,e⟩:=List.getElem_of_mem hmem
     rw [← e];exact cD hi2
    refine wpAny_bind (Qa k (s:={ s with toks:=s.toks+fu done }) hko h1 (by first | (show A.in1.units+dep k < cLine;show A.units+1+dep k < cLine;omega) | (show A.in1.in1.units+dep k < cLine;show A.units+1+1+dep k < cLine;omega)) ?_)
    first
     | exact wpAny_pure ⟨done++[k],ks',by simp [hks],hl',by simp [hb,mF,fG],by simp [jZ,fu,Nat.add_assoc]⟩
     | exact wpAny_bind (wpAny_pure (wpAny_pure ⟨done++[k],ks',by simp [hks],hl',by simp [hb,mF,fG],by simp [jZ,fu,Nat.add_assoc]⟩))
  ·rintro b s' ⟨done,left,hks,hl,hb,rfl⟩
   cases left with
   | cons k ks'=>rw [aD] at hl;obtain ⟨y,ys,z,_⟩:=hl;cases z
   | nil =>
    rw [List.append_nil] at hks
    subst hks
    show wpAny _ _ (retInt (Builtin.Tuple.tupleHashOf b.toList)) _ _ _
    rw [hb]
    refine wpAny_ret_mkInt ?_
    show wpAny _ _ (if (decide (-(2:Int) ^ 63≤Builtin.Tuple.tupleHashOf (fG w ks)) && decide (Builtin.Tuple.tupleHashOf (fG w ks) < 2 ^ 63))=true then _ else _) Q E _
    unfold reduceHash at h
    by_cases hr:(decide (-(2:Int) ^ 63≤Builtin.Tuple.tupleHashOf (fG w ks)) && decide (Builtin.Tuple.tupleHashOf (fG w ks) < 2 ^ 63))=true
    ·rw [if_pos hr]
     rw [if_pos hr] at h
     exact wpAny_pure (by simpa [Nat.add_assoc] using h)
    ·rw [if_neg hr]
     rw [if_neg hr] at h
     exact wpAny_bind (wpAny_rule (wpAny_pure (by simpa [Nat.add_assoc] using h)))
termination_by d=>sizeOf d
decreasing_by
 simp only [D.tup.sizeOf_spec]
 omega
theorem Wi {P:Program}{w:World}:∀ (m:Nat) (d:D) {A:Around}{E:Value→Shared→Prop}{s:Shared}{u:Value}{Q:Bool→Shared→Prop},keyOk d=true→dep d≤m→RpV s.heap d u→Q true s →
  wpAny (model P w) A (eqIsQuiet m u) Q E s:=by
 intro m
 induction m with
 | zero =>
  intro d A E s u Q hk hm r h
  cases d <;> simp [keyOk,dep] at hk hm
  ·rw [RpV] at r;obtain ⟨t,rfl⟩:=r
   rw [eqIsQuiet_byValue _ (by rfl)];exact wpAny_pure h
  ·rw [RpV] at r;obtain ⟨t,rfl⟩:=r
   rw [eqIsQuiet_byValue _ (by rfl)];exact wpAny_pure h
 | succ m ih =>
  intro d A E s u Q hk hm r h
  cases d with
  | non=>simp [keyOk] at hk
  | bl _=>simp [keyOk] at hk
  | lst _=>simp [keyOk] at hk
  | dct _ _=>simp [keyOk] at hk
  | int _ =>
   rw [RpV] at r;obtain ⟨t,rfl⟩:=r
   rw [eqIsQuiet_byValue _ (by rfl)];exact wpAny_pure h
  | str _ =>
   rw [RpV] at r;obtain ⟨t,rfl⟩:=r
   rw [eqIsQuiet_byValue _ (by rfl)];exact wpAny_pure h
  | tup ks =>
   rw [RpV] at r
   obtain ⟨a,its,rfl,⟨o,ho,hc,n,hd⟩,hi⟩:=r
   rw [keyOk] at hk
   rw [dep] at hm
   have hT : s.TypeIs (.ref a) "tuple":=⟨o, ho, hc⟩
   unfold eqIsQuiet
   refine wpAny_bind (wpAny_specialOf hT F.slot_tuple_eq.lookup ?_)
   show wpAny _ _ (isInstance (.ref a) (.type "tuple") >>= _) _ _ s
   refine wpAny_bind (wpAny_isInstance hT isSubtype_tuple_tuple ?_)
   simp only [Bool.not_true,Bool.false_eq_true,if_false]
   refine wpAny_bind (wpAny_seqItems ho hd ?_)
   refine wpAny_bind ?_
   show wpAny _ _ (forIn its.toArray _ _) _ _ s
   rw [← Array.forIn_toList]
   refine wpAny_forIn_list _ (fun rest r s'=>r.1=none∧s'=s∧∃ left,aD s.heap left rest∧bw left=true∧deps left≤m) _ ?_ ?_ _ _ ⟨rfl,rfl,ks,by simpa using hi,hk,by omega⟩
   ·rintro v rest r s' ⟨hr,rfl,left,hl,hok,hdp⟩
    cases left with
    | nil=>rw [aD] at hl;cases hl
    | cons k ks' =>
     rw [aD] at hl
     obtain ⟨y,ys,z,h1,hl'⟩:=hl
     cases z
     rw [bw,Bool.and_eq_true] at hok
     rw [deps] at hdp
     refine wpAny_bind (ih k hok.1 (by omega) h1 ?_)
     simp only [Bool.not_true,Bool.false_eq_true,if_false]
     exact wpAny_pure ⟨rfl,rfl,ks',hl',hok.2,by omega⟩
   ·rintro ⟨r1,r2⟩ s' ⟨hr,rfl,_⟩
    simp only at hr
    subst hr
    exact wpAny_pure h
mutual
theorem RpV.keep {h h':Heap}:∀ {d:D}{u:Value},(∀ a o,h.get? a=some o→(∀ es ep,o.data≠.dict es ep)→h'.get? a=some o)→RpV h d u→RpV h' d u
 | .non,u,k,r=>by rw [RpV] at r ⊢;exact r
 | .bl _,u,k,r=>by rw [RpV] at r ⊢;exact r
 | .int _,u,k,r=>by rw [RpV] at r ⊢;exact r
 | .str _,u,k,r=>by rw [RpV] at r ⊢;exact r
 | .tup ds,u,k,r=>by
  rw [RpV] at r ⊢
  obtain ⟨a,its,rfl,⟨o,ho,hc,n,hd⟩,rs⟩:=r
  exact ⟨a,its,rfl,⟨o,k a o ho (by intro es ep z;rw [hd] at z;cases z),hc,n,hd⟩,aD.keep k rs⟩
 | .lst ds,u,k,r=>by
  rw [RpV] at r ⊢
  obtain ⟨a,its,rfl,⟨o,ho,hc,n,hd⟩,rs⟩:=r
  exact ⟨a,its,rfl,⟨o,k a o ho (by intro es ep z;rw [hd] at z;cases z),hc,n,hd⟩,aD.keep k rs⟩
 | .dct _ _,u,k,r=>by rw [RpV] at r;exact r.elim
theorem aD.keep {h h':Heap}:∀ {ds:List D}{us:List Value},(∀ a o,h.get? a=some o→(∀ es ep,o.data≠.dict es ep)→h'.get? a=some o)→aD h ds us→aD h' ds us
 | [],us,k,r=>by rw [aD] at r ⊢;exact r
 | d::ds,us,k,r=>by
  rw [aD] at r ⊢
  obtain ⟨y,ys,rfl,r0,rs⟩:=r
  exact ⟨y,ys,rfl,RpV.keep k r0,aD.keep k rs⟩
end
noncomputable def Zy (h:Heap) (d:D) (a:Addr):Prop:=keyOk d=true∧dep d≤6∧RpV h d (.ref a)
noncomputable def iz (P:Program) (w:World):HeapKind P w D where
 is:=Zy
 hash:=vP w
 draws:=rT
 room:=fun A=>A.units+10 < cLine
 inj:=fun hx hy=>RpV.inj hx.2.2 hy.2.2
 keeps:=fun x ho hd hs=>⟨x.1,x.2.1,x.2.2.keep fun b ob hb hnd=>(hs.2 b (by
  rintro rfl
  rw [ho] at hb;cases hb
  exact hnd _ _ hd)).trans hb⟩
 pyHash:=fun hu hk h=>Qa _ hk.1 hk.2.2 (by have:=hk.2.1;omega) h
 eqBool:=fun hu hx hy h=>by
  have e:=sZ hx.1 hy.1
  exact iZ _ _ hx.2.2 hy.2.2 (by have:=hx.2.1;omega) (by have:=hy.2.1;omega) _ _ _ _ (by rw [e];exact h)
 quiet:=fun hk h=>Wi 8 _ hk.1 (by have:=hk.2.1;omega) hk.2.2 h
end Mi
namespace Mi
open PySem L2 PyProof.Rows
structure Xc where
 cls:Str
 val:D
inductive R (α:Type) where
 | ok (a:α) | exc (x:Xc) | stuck
noncomputable def R.bind {α β:Type}:R α→(α→R β)→R β
 | .ok a,f=>f a
 | .exc x,_=>.exc x
 | .stuck,_=>.stuck
noncomputable instance:Monad R where
 pure:=R.ok
 bind:=R.bind
@[simp] theorem qR {α β:Type} (a:α) (f:α→R β):(R.ok a >>= f)=f a:=rfl
@[simp] theorem QS {α β:Type} (x:Xc) (f:α→R β):((R.exc x:R α) >>= f)=.exc x:=rfl
@[simp] theorem Mu {α β:Type} (f:α→R β):((R.stuck:R α) >>= f)=.stuck:=rfl
@[simp] theorem aaR {α:Type} (a:α):(pure a:R α)=.ok a:=rfl
inductive BO where | add | sub | mul | mod | fdiv
inductive CO where | eq | ne | lt | le | gt | ge | in_ | notin
 deriving DecidableEq
inductive Ty where | int | bool | str | tuple | list
inductive BI where | len | min2 | max2 | all | any | sorted | list | tuple | listEnum | listRev
 deriving DecidableEq
inductive IK where | seq | rng | enum | zip | rev
inductive Tg where
 | one (i:Nat) | two (i j:Nat)
noncomputable abbrev En:=List (Option D)
noncomputable def lim:Nat:=100000
theorem lG:lim≤sizeLine:=by decide
noncomputable def lZ:D→D→R D
 | .int a,.int b=>.ok (.int (a+b))
 | .lst a,.lst b=>if a.length+b.length≤lim then .ok (.lst (a++b)) else .stuck
 | .tup a,.tup b=>if a.length+b.length≤lim then .ok (.tup (a++b)) else .stuck
 | _,_=>.stuck
noncomputable def jN:Int→Bool
 | .ofNat n=>Nat.ble n 18446744073709551615
 | .negSucc n=>Nat.ble n 18446744073709551614
noncomputable def jm:BO→D→D→R D
 | .add,a,b=>lZ a b
 | .sub,.int a,.int b=>.ok (.int (a - b))
 | .mul,.int a,.int b=>if jN a || jN b then .ok (.int (a * b)) else .stuck
 | .mod,.int a,.int b=>if 0 < b then .ok (.int (a % b)) else .stuck
 | .fdiv,.int a,.int b=>if 0 < b∧b < 1073741824 then .ok (.int (a / b)) else .stuck
 | _,_,_=>.stuck
noncomputable def bU (a b:D):Bool:=decide (dep a≤30) && decide (dep b≤30)
noncomputable def inD (x:D) (c:D):R Bool:=match c with
 | .lst ds=>if ds.all (fun d=>bU d x) && decide (dep x≤30) then .ok (ds.any fun d=>au d x) else .stuck
 | .tup ds=>if ds.all (fun d=>bU d x) && decide (dep x≤30) then .ok (ds.any fun d=>au d x) else .stuck
 | .dct ks _=>if keyOk x && decide (dep x≤6) && (match x with | .tup _=>true | _=>false) then .ok (decide (x∈ks)) else .stuck
 | _=>.stuck
noncomputable def bF:CO→D→D→R Bool
 | .eq,a,b=>if bU a b then .ok (au a b) else .stuck
 | .ne,a,b=>if bU a b then .ok (!au a b) else .stuck
 | .lt,.int a,.int b=>.ok (decide (a < b))
 | .le,.int a,.int b=>.ok (decide (a≤b))
 | .gt,.int a,.int b=>.ok (decide (b < a))
 | .ge,.int a,.int b=>.ok (decide (b≤a))
 | .in_,a,b=>inD a b
 | .notin,a,b=>do let r ← inD a b;.ok (!r)
 | _,_,_=>.stuck
noncomputable def jy:List D→List D→D→Option D
 | k'::ks,v::vs,k=>if k'=k then some v else jy ks vs k
 | _,_,_=>none
noncomputable def keyB (k:D):Bool:=keyOk k && decide (dep k≤6) && (match k with | .tup _=>true | _=>false)
noncomputable def ixD:D→D→R D
 | .dct ks vs,k=>if keyB k then (match jy ks vs k with | some d=>.ok d | none=>.stuck) else .stuck
 | .lst ds,.int i=>match ixN ds.length i with | some k=>(match ds[k]? with | some d=>.ok d | none=>.stuck) | none=>.stuck
 | .tup ds,.int i=>match ixN ds.length i with | some k=>(match ds[k]? with | some d=>.ok d | none=>.stuck) | none=>.stuck
 | _,_=>.stuck
noncomputable def Eo:D→R (List D)
 | .lst ds=>.ok ds
 | .tup ds=>.ok ds
 | .dct ks _=>.ok ks
 | _=>.stuck
noncomputable def aZ (n:Nat):List D→List D
 | []=>[]
 | d::ds=>.tup [.int n,d]::aZ (n+1) ds
noncomputable def pX:List D→List D→List D
 | a::as,b::bs=>.tup [a,b]::pX as bs
 | _,_=>[]
noncomputable def itemsOf:IK→List D→R (List D)
 | .seq,[.lst ds]=>.ok ds
 | .seq,[.tup ds]=>.ok ds
 | .enum,[.tup ds]=>.ok (aZ 0 ds)
 | .enum,[.lst ds]=>.ok (aZ 0 ds)
 | .zip,[.tup as,.tup bs]=>.ok (pX as bs)
 | .rev,[.lst ds]=>.ok ds.reverse
 | .rng,[.int a,.int b,.int c]=>if c=-1∧-(lim:Int)≤a∧a≤lim∧-(lim:Int)≤b∧b≤lim then .ok ((List.range (a - b).toNat).map fun (k:Nat)=>D.int (a - (k:Int))) else .stuck
 | .rng,[.int n]=>if -(lim:Int)≤n∧n≤lim then .ok ((List.range n.toNat).map fun (k:Nat)=>D.int (k:Int)) else .stuck
 | .rng,[.int a,.int b]=>if -(lim:Int)≤a∧a≤lim∧-(lim:Int)≤b∧b≤lim then .ok ((List.range (b - a).toNat).map fun (k:Nat)=>D.int (a+(k:Int))) else .stuck
 | _,_=>.stuck
noncomputable def boolsOf:List D→Option (List Bool)
 | []=>some []
 | .bl b::ds=>(boolsOf ds).map (b::·)
 | _=>none
mutual
noncomputable def ltD:D→D→Bool
 | .int a,.int b=>decide (a < b)
 | .tup a,.tup b=>bJ a b
 | _,_=>false
noncomputable def bJ:List D→List D→Bool
 | [],[]=>false
 | [],_::_=>true
 | _::_,[]=>false
 | a::as,b::bs=>if a=b then bJ as bs else ltD a b
end
end Mi
namespace Mi
open PySem L2
open PyProof.Rows hiding St
noncomputable def gB (env:Env):List (Str × NameKind)→List (Str × Addr)→List (Str × Addr)
 | [],acc=>acc
 | (n,k)::r,acc=>if k == .free then (match env.cells.lookup n with | some a=>gB env r ((n,a)::acc) | none=>gB env r acc) else gB env r acc
theorem Cd (env:Env) (f:Str × NameKind→List (Str × Addr)→Sem (ForInStep (List (Str × Addr))))
  (hf:∀ n k cs,f (n,k) cs=if k == .free then (do let a ← cellOf env n;pure (.yield ((n,a)::cs))) else pure (.yield cs)) :
  ∀ (l:List (Str × NameKind)) (acc:List (Str × Addr)),(∀ x∈l,x.2=.free→∃ c,env.cells.lookup x.1=some c)→forIn l acc f=(pure (gB env l acc):Sem _)
 | [],acc,_=>by rw [List.forIn_nil];rfl
 | (n,k)::r,acc,h=>by
  rw [List.forIn_cons,hf]
  have ih:=fun acc=>Cd env f hf r acc fun x hx=>h x (List.mem_cons_of_mem _ hx)
  unfold gB
  by_cases hk:(k == NameKind.free)=true
  ·obtain ⟨c,hc⟩:=h (n,k) List.mem_cons_self (by simpa using hk)
   have hc':env.cells.lookup n=some c:=hc
   rw [if_pos hk,if_pos hk,hc']
   have e:cellOf env n=pure c:=by unfold cellOf;rw [hc']
   rw [e]
   simp only [pure_bind]
   exact ih _
  ·rw [if_neg hk,if_neg hk]
   simp only [pure_bind]
   exact ih _
theorem Mr {env:Env}{scope:Scope} (h:∀ x∈scope.names,x.2=.free→∃ c,env.cells.lookup x.1=some c):closureFor scope env=pure (gB env scope.names []):=by
 simp only [closureFor]
 rw [Cd env _ (fun n k cs=>by cases hk:k == NameKind.free <;> simp [hk]) scope.names [] h]
 rfl
theorem pJ {env:Env}:∀ {l:List (Str × NameKind)}{acc:List (Str × Addr)}{p:Str × Addr},p∈gB env l acc→p∈acc∨((p.1,NameKind.free)∈l∧env.cells.lookup p.1=some p.2)
 | [],acc,p,h=>.inl h
 | (n,k)::r,acc,p,h=>by
  unfold gB at h
  split at h
  ·rename_i hk
   split at h
   ·rename_i a ha
    rcases pJ h with h | h
    ·rcases List.mem_cons.mp h with e | h
     ·right
      subst e
      have:k=.free:=by simpa using hk
      subst this
      exact ⟨List.mem_cons_self,ha⟩
     ·exact .inl h
    ·exact .inr ⟨List.mem_cons_of_mem _ h.1,h.2⟩
   ·rcases pJ h with h | h
    ·exact .inl h
    ·exact .inr ⟨List.mem_cons_of_mem _ h.1,h.2⟩
  ·rcases pJ h with h | h
   ·exact .inl h
   ·exact .inr ⟨List.mem_cons_of_mem _ h.1,h.2⟩
theorem jC {env:Env}{x:Str}{c:Addr} (hc:env.cells.lookup x=some c):∀ {l:List (Str × NameKind)}{acc:List (Str × Addr)},((x,NameKind.free)∈l∨acc.lookup x=some c)→(gB env l acc).lookup x=some c
 | [],acc,h=>by
  rcases h with h | h
  ·simp at h
  ·exact h
 | (n,k)::r,acc,h=>by
  unfold gB
  split
  ·rename_i hk
   have hk':k=.free:=by simpa using hk
   split
   ·rename_i a ha
    apply jC hc
    by_cases hx:x=n
    ·subst hx
     rw [hc] at ha
     cases ha
     right
     simp [List.lookup_cons]
    ·rcases h with h | h
     ·rcases List.mem_cons.mp h with e | h
      ·cases e;exact absurd rfl hx
      ·exact .inl h
     ·right
      have:(x == n)=false:=beq_eq_false_iff_ne.mpr hx
      rw [List.lookup_cons,this]
      exact h
   ·rename_i ha
    apply jC hc
    rcases h with h | h
    ·rcases List.mem_cons.mp h with e | h
     ·cases e;rw [hc] at ha;cases ha
     ·exact .inl h
    ·exact .inr h
  ·rename_i hk
   apply jC hc
   rcases h with h | h
   ·rcases List.mem_cons.mp h with e | h
    ·cases e;exact absurd (by rfl) hk
    ·exact .inl h
   ·exact .inr h
noncomputable def dJ (scope:Scope) (C:Addr) (env:Env):Env :=
 { scope:=relabel scope env,locals:=C,globals:=env.globals,cells:=cellsFrom (C+1) scope.names (gB env scope.names []),qual:=env.qual,func:=none,code:=env.code,frame:=env.frame,builtins:=env.builtins }
theorem XC {M:Model}{A:Around}{E:Value→Shared→Prop}{s:Shared}{env:Env}{scope:Scope}{cl:List (Str × Addr)}{Q:Env→Shared→Prop}
  (h:Q { scope:=scope,locals:=s.heap.objs.size,globals:=env.globals,cells:=cellsFrom (s.heap.objs.size+1) scope.names cl,qual:=env.qual,func:=none,code:=env.code,frame:=env.frame,builtins:=env.builtins }
   { s with heap:=pushCells (s.heap.push { cls:=.type "dict", data:=.dict #[] }) scope.names }) :
  wpAny M A (newFunctionEnv scope env.globals cl [] env.qual none .none (some env)) Q E s:=by
 simp only [newFunctionEnv,Option.isSome_some,if_true]
 refine wpAny_bind (wpAny_alloc ?_)
 refine wpAny_bind (wpAny_layCells _ (fun name kind cells=>by cases hkc:kind == NameKind.cell <;> simp [hkc]) _ _ _ _ ?_)
 rw [show ({ s with heap:=s.heap.push { cls:=.type "dict", data:=.dict #[] } } : Shared).heap.objs.size = s.heap.objs.size + 1 from Heap.size_push ..]
 simp only [List.forIn_nil,pure_bind]
 exact wpAny_pure h
theorem mj:∀ {l:List (Str × NameKind)}{n:Nat}{acc:List (Str × Addr)}{p:Str × Addr},p∈cellsFrom n l acc→p∈acc∨(n≤p.2∧(p.1,NameKind.cell)∈l)
 | [],n,acc,p,h=>.inl h
 | (x,k)::r,n,acc,p,h=>by
  unfold cellsFrom at h
  split at h
  ·rename_i hk
   have hk':k=.cell:=by simpa using hk
   subst hk'
   rcases mj h with h | h
   ·rcases List.mem_cons.mp h with e | h
    ·subst e;exact .inr ⟨Nat.le_refl _,List.mem_cons_self⟩
    ·exact .inl h
   ·exact .inr ⟨by omega,List.mem_cons_of_mem _ h.2⟩
  ·rcases mj h with h | h
   ·exact .inl h
   ·exact .inr ⟨h.1,List.mem_cons_of_mem _ h.2⟩
theorem mC:∀ {l:List (Str × NameKind)}{n:Nat}{acc:List (Str × Addr)},(∀ p∈acc,p.2 < n)→(∀ p∈acc,∀ q∈acc,p.2=q.2→p.1=q.1)→∀ p∈cellsFrom n l acc,∀ q∈cellsFrom n l acc,p.2=q.2→p.1=q.1
 | [],n,acc,h1,h2=>h2
 | (x,k)::r,n,acc,h1,h2=>by
  unfold cellsFrom
  split
  ·refine mC (fun p hp=>?_) fun p hp q hq e=>?_
   ·rcases List.mem_cons.mp hp with e | hp
    ·subst e;exact Nat.lt_succ_self _
    ·exact Nat.lt_succ_of_lt (h1 p hp)
   ·rcases List.mem_cons.mp hp with e1 | hp
    ·rcases List.mem_cons.mp hq with e2 | hq
     ·rw [e1,e2]
     ·subst e1
      have:=h1 q hq
      have e':n=q.2:=e
      exact absurd (e' ▸ this) (Nat.lt_irrefl _)
    ·rcases List.mem_cons.mp hq with e2 | hq
     ·subst e2
      have:=h1 p hp
      have e':p.2=n:=e
      exact absurd (e' ▸ this) (Nat.lt_irrefl _)
     ·exact h2 p hp q hq e
  ·exact mC h1 h2
theorem jl {x:Str}:∀ {l:List (Str × NameKind)}{n:Nat}{acc:List (Str × Addr)},(x,NameKind.cell) ∉ l→(cellsFrom n l acc).lookup x=acc.lookup x
 | [],n,acc,h=>rfl
 | (y,k)::r,n,acc,h=>by
  have h':(x,NameKind.cell) ∉ r:=fun z=>h (List.mem_cons_of_mem _ z)
  unfold cellsFrom
  split
  ·rename_i hk
   have hk':k=.cell:=by simpa using hk
   subst hk'
   rw [jl h']
   have hne:x≠y:=fun e=>h (by rw [e];exact List.mem_cons_self)
   have:(x == y)=false:=beq_eq_false_iff_ne.mpr hne
   rw [List.lookup_cons,this]
  ·exact jl h'
theorem j8:∀ {l:List (Str × NameKind)}{h:Heap}{acc:List (Str × Addr)}{p:Str × Addr},p∈cellsFrom h.objs.size l acc→p∈acc∨(pushCells h l).IsCell p.2 none
 | [],h,acc,p,q=>.inl q
 | (y,k)::r,h,acc,p,q=>by
  unfold cellsFrom at q
  unfold pushCells
  split at q
  ·rename_i hk
   rw [if_pos hk]
   have e : (h.push { cls:=.type "cell", data:=.cell none }).objs.size = h.objs.size + 1:=Heap.size_push ..
   rw [← e] at q
   rcases j8 q with q | q
   ·rcases List.mem_cons.mp q with z | q
    ·subst z
     right
     exact Heap.IsCell.keeps ⟨_,Heap.get?_push_size _ rfl,rfl⟩ (pushCells_keeps r _)
    ·exact .inl q
   ·exact .inr q
  ·rename_i hk
   rw [if_neg hk]
   exact j8 q
theorem fD {α:Type}:∀ {l:List (Str × α)}{x:Str}{k:α},(l.map (·.1)).Nodup→(x,k)∈l→l.lookup x=some k
 | (y,j)::r,x,k,nd,h=>by
  rw [List.map_cons,List.nodup_cons] at nd
  rcases List.mem_cons.mp h with e | h
  ·cases e;simp [List.lookup_cons]
  ·have hne:x≠y:=fun e=>nd.1 (by rw [← e];exact List.mem_map.mpr ⟨_,h,rfl⟩)
   have:(x == y)=false:=beq_eq_false_iff_ne.mpr hne
   rw [List.lookup_cons,this]
   exact fD nd.2 h
theorem zm {env:Env}{x:Str}:∀ {names:List (Str × NameKind)},
  (names.map fun (n,k)=>if (k == NameKind.free && env.scope.kind == .function && env.kindOf n == some .cell) then (n,NameKind.cell) else (n,k)).lookup x =
   (names.lookup x).map fun k=>if (k == NameKind.free && env.scope.kind == .function && env.kindOf x == some .cell) then NameKind.cell else k
 | []=>rfl
 | (n,k)::r=>by
  have ih:=zm (env:=env) (x:=x) (names:=r)
  rw [List.map_cons]
  cases hx:x == n with
  | true =>
   have e:x=n:=by simpa using hx
   subst e
   by_cases hc:(k == NameKind.free && env.scope.kind == .function && env.kindOf x == some .cell)=true
   ·simp only [hc,if_true,List.lookup_cons,hx,Option.map_some]
   ·simp only [hc,Bool.false_eq_true,if_false,List.lookup_cons,hx,Option.map_some]
  | false =>
   by_cases hc:(k == NameKind.free && env.scope.kind == .function && env.kindOf n == some .cell)=true
   ·simp only [hc,if_true,List.lookup_cons,hx];exact ih
   ·simp only [hc,Bool.false_eq_true,if_false,List.lookup_cons,hx];exact ih
theorem ou (scope:Scope) (env:Env) (x:Str):(relabel scope env).names.lookup x=(scope.names.lookup x).map fun k=>if (k == NameKind.free && env.scope.kind == .function && env.kindOf x == some .cell) then NameKind.cell else k:=zm
structure ScOk (around:Scope) (scope:Scope):Prop where
 kind:scope.kind=.function
 nd:(scope.names.map (·.1)).Nodup
 cap:∀ x,scope.names.lookup x=some .free→around.names.lookup x=some .cell∨around.names.lookup x=some .free
noncomputable def cC (N:List Str) (scope:Scope):List Bool:=N.map fun x=>decide (scope.names.lookup x=some .free)
noncomputable def bf {α:Type}:List Bool→List (Option α)→List (Option α)
 | b::bs,v::vs=>(if b then v else none)::bf bs vs
 | [],vs=>vs.map fun _=>none
 | _,[]=>[]
theorem jU {α:Type}:∀ (bs:List Bool) (vs:List (Option α)),(bf bs vs).length=vs.length
 | [],vs=>by simp [bf]
 | _::_,[]=>rfl
 | _::bs,_::vs=>by simp [bf,jU bs vs]
theorem oK {α:Type}:∀ {bs:List Bool}{vs:List (Option α)}{i:Nat}{v:α},(bf bs vs)[i]?=some (some v)→bs[i]?=some true∧vs[i]?=some (some v)
 | [],vs,i,v,h=>by
  simp only [bf,List.getElem?_map] at h
  cases e:vs[i]? <;> simp [e] at h
 | _::_,[],i,v,h=>by simp [bf] at h
 | b::bs,w::vs,0,v,h=>by
  cases b <;> simp [bf] at h ⊢
  exact h
 | b::bs,w::vs,i+1,v,h=>by
  simp only [bf,List.getElem?_cons_succ] at h ⊢
  exact oK h
theorem Dl {α:Type}:∀ {bs:List Bool}{vs:List (Option α)}{i:Nat}{v:α},bs[i]?=some true→vs[i]?=some (some v)→(bf bs vs)[i]?=some (some v)
 | b::bs,w::vs,0,v,h,g=>by
  simp at h g
  subst h g
  simp [bf]
 | b::bs,w::vs,i+1,v,h,g=>by
  simp only [bf,List.getElem?_cons_succ] at h g ⊢
  exact Dl h g
 | [],vs,i,v,h,g=>by simp at h
 | _::_,[],i,v,h,g=>by simp at g
noncomputable def cU (X:Cx) (scope:Scope) (s₃:Shared) (H₃:Hp) (fp:List Addr) (xe:Value→Shared→Prop):Cx :=
 { X with s₀:=s₃,H₀:=H₃,env:=dJ scope s₃.heap.objs.size X.env,outer:=X.stack,stack:=X.stack,ex:=fp,fn:=fun x=>decide (scope.names.lookup x=some .cell),pn:=[],xe:=xe }
section
variable {X:Cx}{pins:List (Addr × Obj)}{σ:St}{H:Hp}{s:Shared}
theorem VD {scope:Scope}{fp:List Addr}{xe:Value→Shared→Prop} (I:Inv X pins σ H s) (S:ScOk X.env.scope scope) (hf:∀ b∈fp,iG X pins H b) (ho:∀ b∈fp,∃ o,s.heap.get? b=some o) :
  Inv (cU X scope s H fp xe) [] (bf (cC X.N scope) σ) H { s with heap:=pushCells (s.heap.push { cls:=.type "dict", data:=.dict #[] }) scope.names }:=by
 have keep : ∀ b o, s.heap.get? b = some o → (pushCells (s.heap.push { cls:=.type "dict", data:=.dict #[] }) scope.names).get? b = some o:=fun b o e => pushCells_keeps _ _ b o (Heap.get?_push_of_some _ e)
 have hsz : (s.heap.push { cls:=.type "dict", data:=.dict #[] }).objs.size = s.heap.objs.size + 1:=Heap.size_push ..
 have clo:∀ p∈gB X.env scope.names [],scope.names.lookup p.1=some .free∧X.env.cells.lookup p.1=some p.2:=fun p hp=>by
  rcases pJ hp with h | h
  ·simp at h
  ·exact ⟨fD S.nd h.1,h.2⟩
 have clt:∀ p∈gB X.env scope.names [],p.2 < s.heap.objs.size:=fun p hp=>by
  obtain ⟨v,q⟩:=I.cell _ _ (clo p hp).2
  exact q.lt
 have memc:∀ {x c},(dJ scope s.heap.objs.size X.env).cells.lookup x=some c→(x,c)∈cellsFrom (s.heap.objs.size+1) scope.names (gB X.env scope.names []):=fun h=>mem_of_lookup h
 have cases2:∀ {x c},(dJ scope s.heap.objs.size X.env).cells.lookup x=some c→(scope.names.lookup x=some .free∧X.env.cells.lookup x=some c)∨(s.heap.objs.size+1≤c∧scope.names.lookup x=some .cell):=fun {x c} h=>by
  rcases mj (memc h) with q | q
  ·exact .inl (clo _ q)
  ·exact .inr ⟨q.1,fD S.nd q.2⟩
 have free_has:∀ {x},scope.names.lookup x=some .free→∃ c,X.env.cells.lookup x=some c:=fun {x} h=>I.ok.has x (S.cap x h)
 have lookF:∀ {x c},scope.names.lookup x=some .free→X.env.cells.lookup x=some c→(dJ scope s.heap.objs.size X.env).cells.lookup x=some c:=fun {x c} h1 h2=>by
  have ncell:(x,NameKind.cell) ∉ scope.names:=fun z=>by
   have:=fD S.nd z
   rw [h1] at this;cases this
  show (cellsFrom (s.heap.objs.size+1) scope.names (gB X.env scope.names [])).lookup x=some c
  rw [jl ncell]
  exact jC h2 (.inl (mem_of_lookup h1))
 have kindB:∀ {x},(Env.kindOf (dJ scope s.heap.objs.size X.env) x=some .cell∨Env.kindOf (dJ scope s.heap.objs.size X.env) x=some .free)→scope.names.lookup x=some .cell∨scope.names.lookup x=some .free:=fun {x} h=>by
  have e:Env.kindOf (dJ scope s.heap.objs.size X.env) x=_:=ou scope X.env x
  rw [e] at h
  cases q:scope.names.lookup x with
  | none=>rw [q] at h;simp at h
  | some k =>
   rw [q] at h
   cases k <;> simp at h ⊢
 have ok:(cU X scope s H fp xe).Ok:=by
  refine ⟨I.ok.mod,S.kind,I.ok.glob,I.ok.blt,Nat.le_refl _,fun x y c h1 h2=>?_,fun x h=>?_,fun x c h1 h2=>?_,I.ok.hd,I.ok.frames,.inl rfl,fun b hb=>⟨?_,fun x c h=>?_⟩,I.bs,Nat.le_trans I.ok.bsz I.sz,fun b o e hb=>?_,fun b hb z=>?_,I.stack,I.stkFree,I.ok.tab.un I.base⟩
  ·exact mC (fun p hp=>Nat.lt_succ_of_lt (clt p hp)) (fun p hp q hq e=>I.ok.inj _ _ _ (clo p hp).2 (by rw [e];exact (clo q hq).2)) _ (memc h1) _ (memc h2) rfl
  ·rcases kindB h with h | h
   ·exact Option.isSome_iff_exists.mp (PySem.W.cellsFrom_some scope.names (s.heap.objs.size+1) _ (.inl h))
   ·obtain ⟨c,hc⟩:=free_has h
    exact ⟨c,lookF h hc⟩
  ·rcases cases2 h2 with ⟨q,_⟩ | ⟨q,_⟩
   ·have h1':scope.names.lookup x=some .cell:=of_decide_eq_true h1
    rw [q] at h1';cases h1'
   ·exact Nat.le_of_succ_le q
  ·obtain ⟨o,e⟩:=ho b hb
   exact Nat.ne_of_lt (Heap.lt_size e)
  ·rcases cases2 h with ⟨_,q⟩ | ⟨q,_⟩
   ·exact (hf b hb).2.2.2.2.1 x c q
   ·obtain ⟨o,e⟩:=ho b hb
    have:=Heap.lt_size e
    intro z
    subst z
    exact Nat.lt_irrefl _ (Nat.lt_trans this (Nat.lt_of_succ_le q))
  ·obtain ⟨_,_,_,q,_⟩:=hf b hb
   rcases q with q | q
   ·exact I.ok.noex b o e q
   ·exact absurd (Nat.lt_of_lt_of_le (Heap.lt_size e) (Nat.le_trans I.ok.bsz q)) (Nat.lt_irrefl _)
  ·obtain ⟨_,q1,q2,_⟩:=hf b hb
   rcases List.mem_cons.mp (I.stkSub b z) with e | e
   ·exact q1 e
   ·exact q2 e
 refine ⟨ok, rfl, I.bare, Un.kept keep, ⟨fun _ => none, (Heap.Ns.new s.heap (.type "dict")).keeps (pushCells_keeps _ _), fun i x v h1 h2 h3 => ?_⟩, fun x c h => ?_, I.hok.fresh (Nat.le_refl _), fun x c h => ?_, fun p hp => absurd (show p ∈ ([] : List (Addr × Obj)) from hp) (by simp), I.hok.kept keep, ?_⟩
 ·obtain ⟨g1,g2⟩:=oK h2
  have hx:X.N[i]?=some x:=h1
  have hfr:scope.names.lookup x=some .free:=by
   unfold cC at g1
   rw [List.getElem?_map,hx] at g1
   simpa using g1
  have hcap:=S.cap x hfr
  obtain ⟨m,hn,hl⟩:=I.loc
  obtain ⟨u,r,l⟩:=hl i x v hx g2 (by rcases hcap with h | h;exact .inr (.inl h);exact .inr (.inr h))
  refine ⟨u,r,?_⟩
  rcases l with ⟨hk,_⟩ | ⟨_,c,hc,hcell⟩
  ·have hk':X.env.scope.names.lookup x=some .local:=hk
   rcases hcap with h | h <;> rw [hk'] at h <;> cases h
  ·refine .inr ⟨?_,c,lookF hfr hc,hcell.keeps keep⟩
   have e:Env.kindOf (dJ scope s.heap.objs.size X.env) x=_:=ou scope X.env x
   show Env.kindOf (dJ scope s.heap.objs.size X.env) x=some .cell∨Env.kindOf (dJ scope s.heap.objs.size X.env) x=some .free
   rw [e,hfr]
   simp only [Option.map_some]
   split
   ·exact .inl rfl
   ·exact .inr rfl
 ·rcases cases2 h with ⟨_,q⟩ | ⟨_,q⟩
  ·obtain ⟨v,z⟩:=I.cell x c q
   exact ⟨v,z.keeps keep⟩
  ·have hm:=memc h
   rw [← hsz] at hm
   rcases j8 hm with z | z
   ·have:=(clo _ z).1
    rw [q] at this;cases this
   ·exact ⟨none,z⟩
 ·rcases cases2 h with ⟨_,q⟩ | ⟨q,_⟩
  ·exact I.freeC x c q
  ·exact I.hok.fresh (Nat.le_of_succ_le q)
 ·rw [jU]
  exact I.len
theorem J7 {scope:Scope}{fp:List Addr}{xe:Value→Shared→Prop}{pins':List (Addr × Obj)}{σ':St}{H':Hp}{s':Shared}{h':Heap} (I:Inv X pins σ H s) (hf:∀ b∈fp,iG X pins H b)
  (J:Inv (cU X scope s H fp xe) pins' σ' H' s') (hs:Heap.SameBut s.heap.objs.size s'.heap h'):Inv X pins σ H' { s' with heap:=h' }:=by
 have ne:∀ b o,s.heap.get? b=some o→b≠s.heap.objs.size:=fun b o e=>Nat.ne_of_lt (Heap.lt_size e)
 have eq:∀ b,b≠s.heap.objs.size→h'.get? b=s'.heap.get? b:=fun b hb=>hs.2 b hb
 have U:Un (frs X.stack) fp H H' s.heap s'.heap:=J.base
 have U':Un (frs X.stack) fp H H' s.heap h' :=
  ⟨fun b o e n hb hx=>by rw [eq b (ne b o e)];exact U.keep b o e n hb hx,fun b o e n hb hx=>by rw [eq b (ne b o e)];exact U.slot b o e n hb hx,U.free,fun b o e hx=>by rw [eq b (ne b o e)];exact U.there b o e hx,U.tups,U.frzs,U.tbls⟩
 have hC:H' s.heap.objs.size=none:=J.free
 have hok:HOk X.prog X.w H' h':=fun a o e=>by
  have neH:∀ {b u},H' b=some u→b≠s.heap.objs.size:=fun {b u} q z=>by rw [z,hC] at q;cases q
  refine (J.hok a o e).stay (fun b u hb q=>?_) (fun _ q=>q) fun _ _ q=>q
  have hbn:b≠s.heap.objs.size:=by
   rcases hb with rfl | hb
   ·exact neH e
   ·exact neH hb
  rw [eq b hbn]
  exact q
 refine I.call' (s':={ s' with heap:=h' }) (ch:=fp) J.os U' hok J.bare fun b hb=>?_
 obtain ⟨_,f1,f2,f3,f4,f5⟩:=hf b hb
 exact ⟨f3,f1,f4,f5⟩
end
noncomputable def PTs (X:Cx) (ifs:List Expr) (tt:TT):Prop :=
 ∀ (pins:List (Addr × Obj)) (s:Shared) (σ:St) (H:Hp) (Q:Bool→Hp→Prop),Inv X pins σ H s→tt σ H Q →
  wpAny (model X.prog X.w) X.A (forIn ifs true fun c r=>if r=true then do let ok ← isTrue c X.env (eval c X.env);pure (ForInStep.yield ok) else pure (ForInStep.yield r)) (TP X pins σ Q) X.xe s
theorem Kc {X:Cx}:PTs X [] (fun _ H Q=>Q true H):=fun _ _ _ H _ I h=>wpAny_tests_nil ⟨H,I,h⟩
theorem JH {X:Cx}{c:Expr}{tt:TT} (h:PT X c tt):PTs X [c] tt:=fun pins s σ H Q I q=>wpAny_tests_one (h pins s σ H Q I q)
noncomputable def W8 (a b:St):Prop:=b.length=a.length∧∀ (i:Nat) v,a[i]?=some (some v)→b[i]?=some (some v)
noncomputable def Bd (wi:TI) (g:TG) (tt:TT) (te:TE) (mk:St→St):TE:=fun σ H Q=>wi σ H fun J H1=>∀ D,H1 D=none →
 ∃ W:Nat→Nat→List V→Hp→Prop,(∃ m,W 0 m [] (upd H1 D (.lst [])))∧∀ i m ys H',W i m ys H' →
  (J.stop i H'∧Q (.ref D) H')∨(J.go i H'∧∀ x H2,J.yld i H' x H2→g x (mk σ) H2 fun σ2 H3=>W8 (mk σ) σ2∧tt σ2 H3 fun b H4 =>
   if b=true then te σ2 H4 fun y H5=>H5 D=some (.lst ys)∧ys.length < sizeLine∧∃ m',m' < m∧W (i+1) m' (ys++[y]) (upd H5 D (.lst (ys++[y])))
   else ∃ m',m' < m∧W (i+1) m' ys H4)
theorem ur {X:Cx}{elt tg iter:Expr}{ifs:List Expr}{scope:Scope}{pos pos':Pos}{wi:TI}{g:TG}{tt:TT}{te:TE}{use:Option (Value→Sem Unit)}{Qv:Value→Shared→Prop}{pins:List (Addr × Obj)}{s:Shared}{σ:St}{H:Hp}{Q:VK}
  (I:Inv X pins σ H s) (h:Bd wi g tt te (bf (cC X.N scope)) σ H Q)
  (hfin:∀ {s3:Shared}{H3:Hp}{fp:List Addr}{xe:Value→Shared→Prop}{s6:Shared}{H5:Hp}{D:Addr},Inv X pins σ H3 s3→(∀ b∈fp,iG X pins H3 b)→Inv (cU X scope s3 H3 fp xe) [] (bf (cC X.N scope) σ) H5 s6→Q (.ref D) H5→compPost (model X.prog X.w) X.A X.xe use Qv (.ref D) s3.heap.objs.size (.ok .next) s6)
  (hc:X.calm=true) (hi:PI X tg iter wi) (S:ScOk X.env.scope scope)
  (hblk:∀ s₃ H₃ fp xe,PG (cU X scope s₃ H₃ fp xe) tg g∧PTs (cU X scope s₃ H₃ fp xe) ifs tt∧PE (cU X scope s₃ H₃ fp xe) elt te)
  (hs:∀ x,foldedSetIterable iter X.env x=pure x:=by intro _;rfl) :
  wpAny (model X.prog X.w) X.A (comprehension (.ListComp elt [⟨tg,iter,ifs,0⟩] scope pos) scope X.env pos' (newList []) false (eval iter X.env) use) Qv X.xe s:=by
 have hcl:=Mr (env:=X.env) (scope:=scope) fun x hx hk=>I.ok.has x.1 (S.cap x.1 (fD S.nd (by rw [← hk];exact hx)))
 refine wpAny_comprehension_free (use:=use) rfl hs hcl S.kind (fun x hx hk=>fD S.nd (by rw [← hk];exact hx)) ?_
 refine thn (hi pins s σ H _ I h) fun v s1 h1=>thn h1 fun itv s2 h2=>?_
 obtain ⟨it,fp,tn,J,H2,rfl,I2,T,st2,f2,hR⟩:=h2
 refine wpAny_newList ?_
 have hD:H2 s2.heap.objs.size=none:=I2.hok.fresh (Nat.le_refl _)
 obtain ⟨W,⟨m0,w0⟩,turn⟩:=hR s2.heap.objs.size hD
 have keep3 : ∀ b o, s2.heap.get? b = some o → (s2.heap.push { cls:=.type "list", data:=.seq ([] : List Value).toArray }).get? b = some o:=fun b o e => Heap.get?_push_of_some _ e
 have I3 : Inv X pins σ (upd H2 s2.heap.objs.size (.lst [])) { s2 with heap:=s2.heap.push { cls:=.type "list", data:=.seq ([] : List Value).toArray } } :=
  I2.laid (t':=s2.toks) keep3 (Nat.le_refl _) ⟨by simp,[],0,.nil,Heap.get?_push_size _ rfl⟩
 generalize hs3 : ({ s2 with heap:=s2.heap.push { cls:=.type "list", data:=.seq ([] : List Value).toArray } } : Shared) = s3 at I3
 have h3 : s3.heap = s2.heap.push { cls:=.type "list", data:=.seq ([] : List Value).toArray }:=by rw [← hs3]
 have obj2:∀ b∈fp,∃ o,s2.heap.get? b=some o:=fun b hb=>by
  obtain ⟨o,e,_⟩:=T.obj 0 _ st2 b hb
  exact ⟨o,e⟩
 have obj3:∀ b∈fp,∃ o,s3.heap.get? b=some o:=fun b hb=>by
  obtain ⟨o,e⟩:=obj2 b hb
  exact ⟨o,by rw [h3];exact keep3 b o e⟩
 have neD:∀ b∈fp,b≠s2.heap.objs.size:=fun b hb=>by
  obtain ⟨o,e⟩:=obj2 b hb
  exact Nat.ne_of_lt (Heap.lt_size e)
 have f3:∀ b∈fp,iG X pins (upd H2 s2.heap.objs.size (.lst [])) b:=fun b hb=>by
  obtain ⟨g0,g1⟩:=f2 b hb
  exact ⟨by rw [ao (neD b hb)];exact g0,g1⟩
 refine XC ?_
 generalize hE:(fun e s'=>notedBy (model X.prog X.w) X.A (dJ scope s3.heap.objs.size X.env) (fun e s'=>compPost (model X.prog X.w) X.A X.xe use Qv (.ref s2.heap.objs.size) s3.heap.objs.size (.error e) s') e s')=xe
 have J4 : Inv (cU X scope s3 (upd H2 s2.heap.objs.size (.lst [])) fp xe) [] (bf (cC X.N scope) σ) (upd H2 s2.heap.objs.size (.lst [])) { s3 with heap:=pushCells (s3.heap.push { cls:=.type "dict", data:=.dict #[] }) scope.names }:=VD I3 S f3 obj3
 obtain ⟨hg,ht,he⟩:=hblk s3 (upd H2 s2.heap.objs.size (.lst [])) fp xe
 generalize hX:cU X scope s3 (upd H2 s2.heap.objs.size (.lst [])) fp xe=X' at J4 hg ht he
 have eP:X'.prog=X.prog:=by rw [← hX];rfl
 have eW:X'.w=X.w:=by rw [← hX];rfl
 have eK:X'.K=X.K:=by rw [← hX];rfl
 have eA:X'.A=X.A:=by rw [← hX];rfl
 have eC:X'.calm=true:=by rw [← hX];exact hc
 have eEnv:X'.env=dJ scope s3.heap.objs.size X.env:=by rw [← hX];rfl
 have eX:X'.xe=xe:=by rw [← hX];rfl
 have eFp:∀ {pins':List (Addr × Obj)}{H':Hp},(∀ b∈fp,H' b=none)→pins'=[]→∀ b∈fp,iG X' pins' H' b:=fun {pins' H'} hn hp b hb=>by
  subst hp
  have q:=(J4.ok.exf b (by rw [← hX];exact hb))
  refine ⟨hn b hb,q.1,J4.ok.exfs b (by rw [← hX];exact hb),.inl (by rw [← hX];exact hb),q.2,fun p hp=>?_⟩
  rw [← hX] at hp
  exact absurd (show p∈([]:List (Addr × Obj)) from hp) (by simp)
 have tn4 : tn 0 (pushCells (s3.heap.push { cls:=.type "dict", data:=.dict #[] }) scope.names):=T.keep _ _ _ st2 fun b hb o e => pushCells_keeps _ _ b o (Heap.get?_push_of_some _ (by rw [h3]; exact keep3 b o e))
 have loop : ∀ s5 : Shared, s5 = { s3 with heap:=pushCells (s3.heap.push { cls:=.type "dict", data:=.dict #[] }) scope.names } →
   codeAny (model X.prog X.w) X.A (.compLoop (.ListComp elt [⟨tg,iter,ifs,0⟩] scope pos) 0 (.ref it) (.ref s2.heap.objs.size) (dJ scope s3.heap.objs.size X.env))
    (compPost (model X.prog X.w) X.A X.xe use Qv (.ref s2.heap.objs.size) s3.heap.objs.size) s5:=by
  rintro s5 rfl
  refine codeAny_loop rfl (fun n s'=>∃ i ys H',Inv X' [] (bf (cC X.N scope) σ) H' s'∧tn i s'.heap∧(∀ b∈fp,H' b=none)∧W i n ys H') (fun n s5 hI=>?_) m0
   ⟨0,[],_,J4,tn4,fun b hb=>by rw [ao (neD b hb)];exact (f2 b hb).1,w0⟩
  obtain ⟨i,ys,H5,I5,st5,fr5,w5⟩:=hI
  show wpAny _ X.A ((compTurn (.ListComp elt [⟨tg,iter,ifs,0⟩] scope pos) 0 (.ref it) (.ref s2.heap.objs.size) (dJ scope s3.heap.objs.size X.env)).onRaise (fun x=>do noteFrame x (dJ scope s3.heap.objs.size X.env);theTreesLotGoes x)) _ _ s5
  refine wpAny_noted ?_
  rw [compTurn_list]
  refine wpAny_bind (wpAny_standAt (wpAny_bind ?_))
  have eN:notedBy (model X.prog X.w) X.A (dJ scope s3.heap.objs.size X.env) (fun e s'=>compPost (model X.prog X.w) X.A X.xe use Qv (.ref s2.heap.objs.size) s3.heap.objs.size (.error e) s')=X'.xe:=by rw [eX,← hE]
  rw [eN]
  rcases turn i n ys H5 w5 with ⟨stop,qn⟩ | ⟨go,step⟩
  ·have dn:=T.done X' eP eW eK eC i [] s5 _ H5 X'.xe I5 (eFp fr5 rfl) st5 stop
   rw [eA] at dn
   refine thn dn fun r s6 ⟨hr,I6⟩=>?_
   subst hr
   refine wpAny_pure ?_
   rw [← hX] at I6
   exact hfin I3 f3 I6 qn
  ·have itm:=T.item X' eP eW eK eC i [] s5 _ H5 X'.xe I5 (eFp fr5 rfl) st5 go
   rw [eA] at itm
   refine thn itm fun r s6 ⟨u,hr,h6⟩=>?_
   subst hr
   refine wpAny_bind (thn h6 fun _ s7 ⟨x,H7,I7,r7,y7,st7,fr7⟩=>?_)
   have I7':=I7.pinned (eFp fr7 rfl) (T.obj _ _ st7)
   have as7:=hg _ s7 _ H7 x u _ I7' r7 (step x H7 y7)
   rw [eP,eW,eA,eEnv] at as7
   refine wpAny_bind (thn as7 fun _ s8 ⟨σ8,H8,I8,ex8,q8⟩=>?_)
   have again:∀ {s9:Shared}{H9:Hp}{ys':List V},Inv X' ([]++uV fp s7.heap) σ8 H9 s9→(∃ m',m' < n∧W (i+1) m' ys' H9) →
     ∃ m,m < n∧∃ i ys H',Inv X' [] (bf (cC X.N scope) σ) H' s9∧tn i s9.heap∧(∀ b∈fp,H' b=none)∧W i m ys H':=fun {s9 H9 ys'} I9 ⟨m',hm,w9⟩=>by
    refine ⟨m',hm,i+1,ys',H9,?_,T.keep _ _ _ st7 fun b hb o e=>(I9.pin (b,o) (List.mem_append_right _ (List.mem_append_right _ (nu hb e)))).1,fun b hb=>?_,w9⟩
    ·exact (I9.weak ex8.1.symm ex8.2).unpinned
    ·obtain ⟨o,e,d⟩:=T.obj _ _ st7 b hb
     exact (I9.pin (b,o) (List.mem_append_right _ (List.mem_append_right _ (nu hb e)))).2.1
   have te8:=ht _ s8 σ8 H8 _ I8 q8
   rw [eP,eW,eA,eEnv] at te8
   refine wpAny_bind (thn te8 fun ok s9 ⟨H9,I9,q9⟩=>?_)
   cases ok with
   | false =>
    rw [if_neg Bool.false_ne_true] at q9
    exact wpAny_pure ⟨rfl,again I9 q9⟩
   | true =>
    rw [if_pos rfl] at q9
    have el9:=he _ s9 σ8 H9 _ I9 q9
    rw [eP,eW,eA,eEnv] at el9
    refine wpAny_bind (wpAny_bind (thn el9 fun y s10 ⟨v10,H10,I10,r10,hl10,hz10,q10⟩=>?_))
    have ap:=CP (X:=X') _ s10 σ8 H10 (.ref s2.heap.objs.size) [v10] (.ref s2.heap.objs.size) [y] (fun _ H'=>H'=upd H10 s2.heap.objs.size (.lst (ys++[v10]))) I10 rfl (.cons r10 .nil) ⟨s2.heap.objs.size,ys,v10,rfl,rfl,hl10,hz10,rfl⟩
    rw [eP,eW,eA] at ap
    refine wpAny_bind (thn ap fun _ s11 ⟨_,H11,I11,_,e11⟩=>?_)
    subst e11
    exact wpAny_pure (wpAny_pure ⟨rfl,again I11 q10⟩)
 refine codeAny_compStart_list (loop _ rfl) ?_
 have tself:=T.self X.A 0 { s3 with heap:=pushCells (s3.heap.push { cls:=.type "dict", data:=.dict #[] }) scope.names }
  (fun it' s'=>codeAny (model X.prog X.w) X.A (.compLoop (.ListComp elt [⟨tg,iter,ifs,0⟩] scope pos) 0 it' (.ref s2.heap.objs.size) (dJ scope s3.heap.objs.size X.env)) (compPost (model X.prog X.w) X.A X.xe use Qv (.ref s2.heap.objs.size) s3.heap.objs.size) s')
 exact tself _ tn4 (loop _ rfl)
theorem xH {X:Cx}{elt tg iter:Expr}{ifs:List Expr}{scope:Scope}{pos:Pos}{wi:TI}{g:TG}{tt:TT}{te:TE}
  (hc:X.calm=true) (hi:PI X tg iter wi) (S:ScOk X.env.scope scope)
  (hblk:∀ s₃ H₃ fp xe,PG (cU X scope s₃ H₃ fp xe) tg g∧PTs (cU X scope s₃ H₃ fp xe) ifs tt∧PE (cU X scope s₃ H₃ fp xe) elt te)
  (hs:∀ x,foldedSetIterable iter X.env x=pure x:=by intro _;rfl) :
  PE X (.ListComp elt [⟨tg,iter,ifs,0⟩] scope pos) (Bd wi g tt te (bf (cC X.N scope))):=by
 intro pins s σ H Q I h
 rw [eval_ListComp]
 refine ur (use:=none) I h (fun {s3 H3 fp xe s6 H5 D} I3 f3 I6 qn=>?_) hc hi S hblk hs
 obtain ⟨m,hn,_⟩:=id I6.loc
 exact ⟨m,hn,fun h' hsb=>⟨.ref D,H5,J7 I3 f3 I6 hsb,rfl,qn⟩⟩
theorem T3 {X:Cx}{pins:List (Addr × Obj)}{σ:St}{H:Hp}{s:Shared}{C:Addr}{h':Heap} (I:Inv X pins σ H s) (hC:H C=none) (hb:X.s₀.heap.objs.size≤C) (hl:C≠X.env.locals) (hcl:∀ x c,X.env.cells.lookup x=some c→c≠C) (hp:∀ p∈X.pn++pins,p.1≠C)
  (hs:Heap.SameBut C s.heap h'):Inv X pins σ H { s with heap:=h' }:=by
 have hok:HOk X.prog X.w H h':=fun b ob e=>by
  refine (I.hok b ob e).stay (fun c w' hc q=>(hs.2 c ?_).trans q) (fun _ q=>q) fun _ _ q=>q
  rintro rfl
  rcases hc with rfl | hc
  ·rw [hC] at e;cases e
  ·rw [hC] at hc;cases hc
 refine I.call' (s':={ s with heap:=h' }) (ch:=[C]) rfl ⟨fun b o e n hb hx=>?_,fun b o e n hb hx=>?_,fun b o e n hx=>n,fun b o e hx=>?_,fun b xs q=>q,fun b o u q=>q,fun b ps q=>⟨#[],by rw [Array.append_empty];exact q⟩⟩ hok I.bare fun b hbm=>?_
 ·exact (hs.2 b fun z=>hx (by rw [z];simp)).trans e
 ·exact ⟨o.slots,(hs.2 b fun z=>hx (by rw [z];simp)).trans e⟩
 ·exact ⟨o,(hs.2 b fun z=>hx (by rw [z];simp)).trans e⟩
 ·rw [List.mem_singleton.mp hbm]
  exact ⟨.inr hb,hl,hcl,hp⟩
theorem LC {X:Cx}{elt tg iter:Expr}{ifs:List Expr}{scope:Scope}{pos pos' spos:Pos}{wi:TI}{g:TG}{tt:TT}{te:TE}{i:Nat}{x:Str}
  (hN:X.N.Nodup) (hi':X.N[i]?=some x) (hx:L2.Loc X.env.scope x) (hf:X.fn x=true∨X.env.scope.names.lookup x=some .local)
  (hsw:X.env.scope.kind=.function→swapsWith (.ListComp elt [⟨tg,iter,ifs,0⟩] scope pos) (some (.Name x pos')) spos.line X.env=pure true)
  (hc:X.calm=true) (hi:PI X tg iter wi) (S:ScOk X.env.scope scope)
  (hblk:∀ s₃ H₃ fp xe,PG (cU X scope s₃ H₃ fp xe) tg g∧PTs (cU X scope s₃ H₃ fp xe) ifs tt∧PE (cU X scope s₃ H₃ fp xe) elt te)
  (hs:∀ x,foldedSetIterable iter X.env x=pure x:=by intro _;rfl) :
  PS X (.Assign [.Name x pos'] (.ListComp elt [⟨tg,iter,ifs,0⟩] scope pos) spos) (Tc (Bd wi g tt te (bf (cC X.N scope))) (yX i)):=by
 intro pins s σ H D I h
 rw [exec_Assign_Name_used x pos' _ spos (hsw I.ok.kind)]
 refine wpAny_bind (wpAny_standAt (wpAny_bind ?_))
 show wpAny _ _ (do let _ ← comprehension (.ListComp elt [⟨tg,iter,ifs,0⟩] scope pos) scope X.env iter.pos (newList []) false (eval iter X.env) (some (assign (.Name x pos') X.env));pure ()) _ _ s
 refine wpAny_bind (ur (use:=some (assign (.Name x pos') X.env)) I h (fun {s3 H3 fp xe s6 H5 Da} I3 f3 I6 qn=>?_) hc hi S hblk hs)
 have I':Inv X pins σ H5 s6:=J7 I3 f3 I6 (h':=s6.heap) ⟨rfl,fun _ _=>rfl⟩
 have hlt:X.env.locals < s3.heap.objs.size:=I3.lt
 have cells:∀ y c,X.env.cells.lookup y=some c→c < s3.heap.objs.size:=fun y c e=>by
  obtain ⟨v,q⟩:=I3.cell y c e
  exact q.lt
 refine wpAny_assign_Name (Dj I' hN hi' hx (v:=.ref Da) rfl (fun s'' I'' ⟨a,sb,ha⟩=>?_) hf)
 obtain ⟨m,hn,_⟩:=id I6.loc
 have hCa:s3.heap.objs.size≠a:=by
  rcases ha with rfl | ha
  ·exact Nat.ne_of_gt hlt
  ·exact Nat.ne_of_gt (cells x a ha)
 refine ⟨m,hn.sameBut sb hCa,fun h' hsb=>?_⟩
 refine wpAny_pure (wpAny_pure ⟨_,H5,?_,qn⟩)
 exact T3 I'' (C:=s3.heap.objs.size) I6.free I3.sz (Nat.ne_of_gt hlt) (fun y c e=>Nat.ne_of_lt (cells y c e)) (fun p hp=>Nat.ne_of_lt (Heap.lt_size (I3.pin p hp).1)) hsb
end Mi
namespace Mi
open PySem
section
variable {prog:Program}{w:World}{A:Around}{E:Value→Shared→Prop}{s:Shared}
noncomputable def jh (h:Heap) (d:Addr) (es:Array DictEntry) (ep:Nat):Prop:=∃ o,h.get? d=some o∧o.ExactDict∧o.data=.dict es ep
theorem jh.keep {h h':Heap}{d:Addr}{es:Array DictEntry}{ep:Nat} (x:jh h d es ep) (k:∀ o,h.get? d=some o→h'.get? d=some o):jh h' d es ep :=
 let ⟨o,e,r⟩:=x;⟨o,k o e,r⟩
theorem jh.lt {h:Heap}{d:Addr}{es:Array DictEntry}{ep:Nat} (x:jh h d es ep):d < h.objs.size:=let ⟨_,e,_⟩:=x;Heap.lt_size e
theorem jh.ty {d : Addr} {es : Array DictEntry} {ep : Nat} (x : jh s.heap d es ep) : s.TypeIs (.ref d) "dict":=let ⟨o, e, c, _⟩:=x; ⟨o, e, c.1⟩
theorem Tv {d:Addr}{es:Array DictEntry}{ep:Nat}{Q:Value→Shared→Prop} (hd:(d == sysModules)=false) (hm:jh s.heap d es ep)
  (hQ : Q (.ref s.heap.objs.size) { s with heap:=s.heap.push { cls:=.type "dict_keyiterator", data:=.fields #[.ref d, .int 0 0, .int es.size 0, .int ep 0] } }) :
  wpAny (model prog w) A (pyIter (.ref d)) Q E s:=by
 have hT:=hm.ty
 obtain ⟨o,ho,hc,hdat⟩:=id hm
 refine wpAny_pyIter_slot hT F.slot_dict_iter (wpAny_call_entry F.slot_dict_iter hT F.entry_dict_iter ?_ (F.args_dict_iter_1 _))
 unfold Builtin.«dict.__iter__»
 refine wpAny_bind ?_
 unfold Builtin.Dict.dictSlotNone
 refine wpAny_bind (wpAny_notOrdered_dict hT ?_)
 show wpAny _ _ (pure (Value.ref d)) _ _ s
 refine wpAny_pure ?_
 show wpAny _ _ (Builtin.Dict.showsAll d >>= _) _ _ s
 unfold Builtin.Dict.showsAll
 rw [if_neg (by rw [hd];exact Bool.false_ne_true)]
 refine wpAny_bind (wpAny_pure ?_)
 refine wpAny_bind (wpAny_dictEntries ho hdat ?_)
 refine wpAny_bind (wpAny_dictEpoch ho hdat ?_)
 refine wpAny_bind (wpAny_newObj_type (wpAny_pure ⟨_, rfl, "dict_keyiterator", _, ⟨_, Heap.get?_push_size _ rfl, rfl⟩, F.slot_dict_keyiterator_next.lookup, ?_⟩))
 simpa [rawInt] using hQ
theorem RT {it d:Addr}{i ep:Nat}{es:Array DictEntry}{Q:Option Value→Shared→Prop} (hit:s.heap.IsKeyIter it d i es.size ep)
  (hm:jh s.heap d es ep) (hlt':i < es.size)
  (hQ:∀ h',h'.IsKeyIter it d (i+1) es.size ep→Heap.SameBut it s.heap h'→Q (some es[i].key) { s with heap:=h' }) :
  wpAny (model prog w) A (pyNext (.ref it)) Q E s:=by
 obtain ⟨o,ho,hc,hd⟩:=id hit
 obtain ⟨od,hod,hcd,hdd⟩:=id hm
 unfold pyNext
 refine wpAny_bind (wpAny_attempt (wpAny_callSpecial?_slot (name:=Str.ofString "__next__") hit.typeIs F.slot_dict_keyiterator_next
  (wpAny_call_entry F.slot_dict_keyiterator_next hit.typeIs F.entry_dict_keyiterator_next ?_ (F.args_dict_keyiterator_next_1 _))))
 refine wpAny_bind (wpAny_pure ?_)
 refine wpAny_bind ?_
 refine wpAny_bind ?_
 first | refine wpAny_bind (wpAny_typeNameOfWhole_keyiter hit.typeIs (wpAny_pure ?_)) | refine wpAny_bind (wpAny_typeNameOf_keyiter hit.typeIs (wpAny_pure ?_))
 refine wpAny_bind (wpAny_fieldsOf ho hd ?_)
 have hown : Builtin.Dict_items.ownsTuple "dict_keyiterator" = false:=by decide
 simp only [hown,Bool.false_eq_true,if_false]
 show wpAny _ _ (if (Value.ref d == Value.none)=true then _ else _) _ _ s
 rw [if_neg (show ¬ ((Value.ref d == Value.none)=true) from Bool.false_ne_true)]
 refine wpAny_bind (wpAny_pure ?_)
 refine wpAny_bind (wpAny_dictEntries hod hdd ?_)
 rw [if_neg (by simp)]
 refine wpAny_bind (wpAny_pure ?_)
 refine wpAny_bind (wpAny_dictEpoch hod hdd ?_)
 rw [if_neg (by simp)]
 refine wpAny_pure ?_
 simp only [show ¬ ((i:Int) < 0) from by omega,if_false,Int.toNat_natCast,Array.getElem?_eq_getElem hlt']
 refine wpAny_bind ?_
 first | refine wpAny_bind (wpAny_typeNameOfWhole_keyiter hit.typeIs (wpAny_pure ?_)) | refine wpAny_bind (wpAny_typeNameOf_keyiter hit.typeIs (wpAny_pure ?_))
 refine wpAny_bind (wpAny_isOneOf_keyiter hit.typeIs ?_)
 show wpAny _ _ (setField (.ref it) 1 (rawInt ((i:Int)+1)) >>= _) _ _ s
 refine wpAny_bind (wpAny_setField ho hd (by simp) ?_)
 have hit':(s.heap.update it (Obj.mapFields (·.setIfInBounds 1 (rawInt ((i:Int)+1))))).IsKeyIter it d (i+1) es.size ep :=
  ⟨_,Heap.get?_update_self _ ho (Obj.isFreed_of_fields (Obj.data_mapFields hd _)),(Obj.cls_mapFields ..).trans hc,by rw [Obj.data_mapFields hd];simp [rawInt]⟩
 refine wpAny_bind (wpAny_holding ?_)
 refine wpAny_bind (wpAny_isOneOf_keyiter (s:={ s with heap:=s.heap.update it (Obj.mapFields (·.setIfInBounds 1 (rawInt ((i:Int)+1)))) }) hit'.typeIs ?_)
 show wpAny _ _ (pure es[i].key) _ _ _
 exact wpAny_pure (wpAny_pure ⟨_,rfl,wpAny_pure (hQ _ hit' (Heap.SameBut.update ..))⟩)
theorem U9 {it d:Addr}{i ep:Nat}{es:Array DictEntry}{Q:Option Value→Shared→Prop} (hh:A.handled=none) (hit:s.heap.IsKeyIter it d i es.size ep)
  (hm:jh s.heap d es ep) (hge:es.size≤i)
  (hQ:∀ h',Heap.ExtBut it s.heap h'→Q none { s with heap:=h' }):wpAny (model prog w) A (pyNext (.ref it)) Q E s:=by
 obtain ⟨o,ho,hc,hd⟩:=id hit
 obtain ⟨od,hod,hcd,hdd⟩:=id hm
 unfold pyNext
 refine wpAny_bind (wpAny_attempt (wpAny_callSpecial?_slot (name:=Str.ofString "__next__") hit.typeIs F.slot_dict_keyiterator_next
  (wpAny_call_entry F.slot_dict_keyiterator_next hit.typeIs F.entry_dict_keyiterator_next ?_ (F.args_dict_keyiterator_next_1 _))))
 refine wpAny_bind (wpAny_pure ?_)
 refine wpAny_bind ?_
 refine wpAny_bind ?_
 first | refine wpAny_bind (wpAny_typeNameOfWhole_keyiter hit.typeIs (wpAny_pure ?_)) | refine wpAny_bind (wpAny_typeNameOf_keyiter hit.typeIs (wpAny_pure ?_))
 refine wpAny_bind (wpAny_fieldsOf ho hd ?_)
 have hown : Builtin.Dict_items.ownsTuple "dict_keyiterator" = false:=by decide
 simp only [hown,Bool.false_eq_true,if_false]
 show wpAny _ _ (if (Value.ref d == Value.none)=true then _ else _) _ _ s
 rw [if_neg (show ¬ ((Value.ref d == Value.none)=true) from Bool.false_ne_true)]
 refine wpAny_bind (wpAny_pure ?_)
 refine wpAny_bind (wpAny_dictEntries hod hdd ?_)
 rw [if_neg (by simp)]
 refine wpAny_bind (wpAny_pure ?_)
 refine wpAny_bind (wpAny_dictEpoch hod hdd ?_)
 rw [if_neg (by simp)]
 refine wpAny_pure ?_
 simp only [show ¬ ((i:Int) < 0) from by omega,if_false,Int.toNat_natCast,Array.getElem?_eq_none hge]
 refine wpAny_bind ?_
 first | refine wpAny_bind (wpAny_typeNameOfWhole_keyiter hit.typeIs (wpAny_pure ?_)) | refine wpAny_bind (wpAny_typeNameOf_keyiter hit.typeIs (wpAny_pure ?_))
 show wpAny _ _ (setField (.ref it) 0 .none >>= _) _ _ s
 refine wpAny_bind (wpAny_setField ho hd (by simp) ?_)
 show wpAny _ _ (newExc (.type "StopIteration") [] >>= _) _ _ _
 refine wpAny_bind ?_
 simp only [newExc,newTuple]
 refine wpAny_bind (wpAny_newObj_type ?_ (by size_fits))
 refine wpAny_bind (m:=firstArgMember _ _) (wpAny_of_eq (a:=Value.none) (by first | rfl | (simp only [firstArgMember];rfl)) ?_)
 refine wpAny_newObj_type ?_ (by size_fits)
 simp only [raiseNew]
 refine wpAny_bind (wpAny_handled ?_)
 rw [show A.in1.handled=none from hh]
 refine wpAny_bind (wpAny_pure (wpAny_throw ?_))
 refine wpAny_bind (wpAny_isInstance (T:="StopIteration") (b:=true) ⟨_, Heap.get?_push_size _ rfl, rfl⟩ isSubtype_stop ?_)
 exact wpAny_pure (hQ _ (((Heap.SameBut.update ..).extBut.push _).push _))
theorem QW (hh:A.handled=none) (I d:Addr) (hne:d≠I) (es:Array DictEntry) (ep:Nat) :
  Walks prog w A I [I,d] [I] es.size (fun i v=>∃ h:i < es.size,v=es[i].key) (fun i h=>h.IsKeyIter I d i es.size ep∧jh h d es ep) where
 sub:=fun b hb=>by simp at hb;simp [hb]
 frame:=fun _ _ _ st hk=>⟨st.1.at fun o e=>hk I (by simp) o e,st.2.keep fun o e=>hk d (by simp) o e⟩
 item:=fun i s Q E hi st hQ=>by
  refine RT st.1 st.2 hi fun h' hit' hs'=>?_
  exact hQ _ h' s.toks ⟨hi,rfl⟩ ⟨hit',st.2.keep fun o e=>hs'.extBut d o hne e⟩ fun b o hb e=>hs'.extBut b o (fun h=>hb (by simp [h])) e
 done:=fun s Q E st hQ=>U9 hh st.1 st.2 (Nat.le_refl _) fun h' he'=>hQ h' s.toks fun b o hb e=>he' b o (fun h=>hb (by simp [h])) e
 self:=fun _ _ _ _ st hQ=>wpAny_pyIter_keyiter st.1 hQ
theorem Ve {d : Addr} {es : Array DictEntry} {ep : Nat} (lo : (d == sysModules) = false) : PySem.W.KdlSrc prog w "dict" d d es.size (fun i v => ∃ h : i < es.size, v = es[i].key) (fun h => jh h d es ep) where
 type:=fun _ hm=>hm.ty
 there:=fun _ hm=>⟨hm.lt,hm.lt⟩
 keep:=fun _ _ hm hk=>hm.keep fun o e=>hk d (.inl rfl) o e
 notList:=by decide
 notTuple:=by decide
 hint:=fun _ _ _ _ hm hq=>PySem.W.kdl_hint_dict hm.ty hq
 iter:=fun _ _ hh hm=>⟨_,_,(fun _ _ hq=>Tv lo hm hq),QW hh _ d (Nat.ne_of_lt hm.lt) es ep,⟨⟨_,Heap.get?_push_size _ rfl,rfl,rfl⟩,hm.keep fun _ e=>Heap.get?_push_of_some _ e⟩⟩
end
end Mi
namespace Mi
open PySem L2
open PyProof.Rows hiding St
open PySem.AutoSeq1 (wpAny_loadPart')
section
variable {prog:Program}{w:World}{A:Around}{E:Value→Shared→Prop}{s:Shared}
theorem mU {it l:Addr}{i:Nat}{items}{x:Value}{Q:Value→Shared→Prop} (hit:s.heap.IsTupleIter it l i)
  (hl:s.heap.IsTuple l items) (hx:items[i]?=some x)
  (hQ:∀ h',h'.IsTupleIter it l (i+1)→Heap.SameBut it s.heap h'→Q x { s with heap:=h' }) :
  wpAny (model prog w) A (Builtin.SmallTypes.nextOf (.ref it)) Q E s:=by
 obtain ⟨o,ho,hc,hd⟩:=id hit
 obtain ⟨ol,hol,_,nl,hdl⟩:=hl
 unfold Builtin.SmallTypes.nextOf
 refine wpAny_bind (wpAny_callSpecial?_slot (name:=Str.ofString "__next__") hit.typeIs F.slot_tuple_iterator_next
  (wpAny_call_entry F.slot_tuple_iterator_next hit.typeIs F.entry_tuple_iterator_next ?_ (F.args_tuple_iterator_next_1 _)))
 show wpAny _ _ (field (.ref it) 0 >>= _) _ _ s
 refine wpAny_bind (wpAny_field ho hd (x:=.ref l) rfl ?_)
 show wpAny _ _ (if (Value.ref l == Value.none)=true then _ else _) _ _ s
 rw [if_neg (show ¬ ((Value.ref l == Value.none)=true) from Bool.false_ne_true)]
 show wpAny _ _ (field (.ref it) 1 >>= _) _ _ s
 refine wpAny_bind (wpAny_field ho hd (x:=.int i 0) rfl ?_)
 show wpAny _ _ (seqItems? (.ref l) >>= _) _ _ s
 refine wpAny_bind (wpAny_seqItems hol hdl ?_)
 simp only [Int.toNat_natCast,hx]
 refine wpAny_bind (wpAny_setField ho hd (by simp) (wpAny_pure ⟨x,rfl,wpAny_pure (hQ _ ?_ (Heap.SameBut.update ..))⟩))
 exact ⟨_,Heap.get?_update_self _ ho (Obj.isFreed_of_fields (Obj.data_mapFields hd _)),(Obj.cls_mapFields ..).trans hc,by
  rw [Obj.data_mapFields hd];simp [rawInt]⟩
theorem vq {it l:Addr}{i:Nat}{items}{Q:Value→Shared→Prop} (hh:A.handled=none)
  (hit:s.heap.IsTupleIter it l i) (hl:s.heap.IsTuple l items) (hx:items[i]?=none)
  (hE : ∀ h' e, Heap.ExtBut it s.heap h' → (∃ o, h'.get? e = some o ∧ o.cls = .type "StopIteration") → E (.ref e) { s with heap:=h' }) :
  wpAny (model prog w) A (Builtin.SmallTypes.nextOf (.ref it)) Q E s:=by
 obtain ⟨o,ho,hc,hd⟩:=id hit
 obtain ⟨ol,hol,_,nl,hdl⟩:=hl
 unfold Builtin.SmallTypes.nextOf
 refine wpAny_bind (wpAny_callSpecial?_slot (name:=Str.ofString "__next__") hit.typeIs F.slot_tuple_iterator_next
  (wpAny_call_entry F.slot_tuple_iterator_next hit.typeIs F.entry_tuple_iterator_next ?_ (F.args_tuple_iterator_next_1 _)))
 show wpAny _ _ (field (.ref it) 0 >>= _) _ _ s
 refine wpAny_bind (wpAny_field ho hd (x:=.ref l) rfl ?_)
 show wpAny _ _ (if (Value.ref l == Value.none)=true then _ else _) _ _ s
 rw [if_neg (show ¬ ((Value.ref l == Value.none)=true) from Bool.false_ne_true)]
 show wpAny _ _ (field (.ref it) 1 >>= _) _ _ s
 refine wpAny_bind (wpAny_field ho hd (x:=.int i 0) rfl ?_)
 show wpAny _ _ (seqItems? (.ref l) >>= _) _ _ s
 refine wpAny_bind (wpAny_seqItems hol hdl ?_)
 simp only [Int.toNat_natCast,hx]
 refine wpAny_bind (wpAny_rule (wpAny_bind (wpAny_setField ho hd (by simp) ?_)))
 show wpAny _ _ (newExc (.type "StopIteration") [] >>= _) _ _ _
 refine wpAny_bind ?_
 simp only [newExc,newTuple]
 refine wpAny_bind (wpAny_newObj_type ?_ (by size_fits))
 refine wpAny_bind (m:=firstArgMember _ _) (wpAny_of_eq (a:=Value.none) (by first | rfl | (simp only [firstArgMember];rfl)) ?_)
 refine wpAny_newObj_type ?_ (by size_fits)
 simp only [raiseNew]
 refine wpAny_bind (wpAny_handled ?_)
 first | rw [show A.in1.handled=none from hh] | rw [hh]
 refine wpAny_bind (wpAny_pure (wpAny_throw ?_))
 exact hE _ _ (((Heap.SameBut.update ..).extBut.push _).push _) ⟨_,Heap.get?_push_size _ rfl,rfl⟩
theorem Ax {prog:Program}{w:World}{A:Around} (hh:A.handled=none) (it l:Addr) (hne:l≠it) (items:Array Value) :
  Draws prog w A it [it,l] items.size (fun i v=>items[i]?=some v) (fun i h=>h.IsTupleIter it l i∧h.IsTuple l items) where
 live:=fun _ _ st=>let ⟨o,ho,_⟩:=st.1;⟨o,ho⟩
 frame:=fun _ _ _ st hk=>⟨let ⟨o,e,r⟩:=st.1;⟨o,hk it (by simp) o e,r⟩,let ⟨o,e,r⟩:=st.2;⟨o,hk l (by simp) o e,r⟩⟩
 item:=fun i s Q E hi st hQ=>by
  refine mU st.1 st.2 (x:=items[i]) (by simp [hi]) fun h' hit' hs'=>?_
  exact hQ _ h' s.toks (by simp [hi]) ⟨hit',st.2.extBut hs'.extBut hne⟩ hs'
 done:=fun s Q E st hE=>vq hh st.1 st.2 (by simp) hE
end
theorem Qc (l:Addr) (items:Array Value) (n:Nat) (dct:Option Addr) (sl:Array (Option Value)) :
  Meets (Builtin.«enumerate.__new__» ⟨[.type "enumerate", .ref l], []⟩) (fun _ R s => s.heap.get? l = some { cls:=.type "tuple", dict:=dct, data:=.seq items n, slots:=sl } ∧
   R (.ok (.ret (.ref (s.heap.push { cls:=.type "tuple_iterator", data:=.fields #[.ref l, .int 0 0] }).objs.size)))
    { s with heap:=(s.heap.push { cls:=.type "tuple_iterator", data:=.fields #[.ref l, .int 0 0] }).push { cls:=.type "enumerate", data:=.fields #[.none, .bool false, .ref s.heap.objs.size, rawInt 0, .none, .none] } }) :=
 .of_wp fun prog w A R s h=>by
  obtain ⟨hp,g,d,tk,os⟩:=s;obtain ⟨hl,h⟩:=h
  have hsub:=sub_enumerate
  have hL:Heap.IsTuple (Shared.heap ⟨hp,g,d,tk,os⟩) l items:=⟨_,hl,rfl,n,rfl⟩
  wp_walk using wpAny_loadPart' hl
  refine wpAny_stack_any fun st=>wpAny_pure ?_
  split
  ·rename_i c _ _ _ _ _
   cases (c == Value.type "enumerate")
   ·wp_walk using wpAny_loadPart' hl,wpAny_pyIter_tuple hL
    exact ⟨_,rfl,h⟩
   ·wp_walk using wpAny_loadPart' hl,wpAny_pyIter_tuple hL
    exact ⟨_,rfl,h⟩
  ·wp_walk using wpAny_loadPart' hl,wpAny_pyIter_tuple hL
   exact ⟨_,rfl,h⟩
section
variable {prog:Program}{w:World}{A:Around}{E:Value→Shared→Prop}{s:Shared}
theorem Bc {l:Addr}{items:Array Value}{Q:Value→Shared→Prop} (hL:s.heap.IsTuple l items)
  (h:∀ h',IsEnum h' (s.heap.objs.size+1) s.heap.objs.size 0 .none→h'.IsTupleIter s.heap.objs.size l 0→h'.objs.size=s.heap.objs.size+2 →
   (∀ b o,s.heap.get? b=some o→h'.get? b=some o)→Q (.ref (s.heap.objs.size+1)) { s with heap:=h' }) :
  wpAny (model prog w) A (call (.type "enumerate") [.ref l]) Q E s:=by
 obtain ⟨⟨c,dct,dt,sl⟩,hl,hc,n,hd⟩:=hL
 replace hc : c = .type "tuple":=hc
 replace hd:dt=.seq items n:=hd
 subst hc hd
 refine callType_new F.called_enumerate (by decide) (F.typeCall_enumerate_1 _) (F.newCall_enumerate_1 _) (fun obj=>F.args_object_init_2 obj _) F.entry_enumerate_new
  (Qc l items n dct sl) ⟨hl,?_⟩
 have hz : (s.heap.push { cls:=.type "tuple_iterator", data:=.fields #[.ref l, .int 0 0] }).objs.size = s.heap.objs.size + 1:=Heap.size_push ..
 show _∧_
 rw [hz]
 have he : IsEnum ((s.heap.push { cls:=.type "tuple_iterator", data:=.fields #[.ref l, .int 0 0] }).push
   { cls:=.type "enumerate", data:=.fields #[.none, .bool false, .ref s.heap.objs.size, rawInt 0, .none, .none] }) (s.heap.objs.size + 1) s.heap.objs.size 0 .none:=by
  have:=Heap.get?_push_size (s.heap.push { cls:=.type "tuple_iterator", data:=.fields #[.ref l, .int 0 0] })
   (o:={ cls:=.type "enumerate", data:=.fields #[.none, .bool false, .ref s.heap.objs.size, rawInt 0, .none, .none] }) rfl
  rw [hz] at this;exact this
 refine ⟨⟨_,he,rfl⟩,h _ he ⟨_,Heap.get?_push_of_some _ (Heap.get?_push_size _ rfl),rfl,rfl⟩ (by rw [Heap.size_push,hz]) fun b o x=>Heap.get?_push_of_some _ (Heap.get?_push_of_some _ x)⟩
end
theorem uz : bootBuiltins "enumerate" = some (.type "enumerate"):=by decide +kernel
noncomputable def Mw (K:PySem.W.Frag) (a:Addr):It :=
 ⟨fun i H=>∃ xs x,SqT K H a xs∧xs[i]?=some x,
  fun i H x H'=>∃ p y,H p=none∧x=.ref p∧H'=upd H p (.tup [.int i,y])∧∀ xs,SqT K H a xs→xs[i]?=some y,
  fun i H=>∃ xs,SqT K H a xs∧xs.length=i⟩
theorem LQ {P:Program}{w:World}{K:PySem.W.Frag}{els:List Expr}{x1:Nat}{tpos:Pos} (a e it:Addr) (hei:e≠it):Turn P w K (.Tuple els x1 tpos) (Mw K a) [e,it] e (fun i h=>(∃ old,IsEnum h e it i old)∧h.IsTupleIter it a i) where
 mem:=by simp
 obj:=fun i h st b hb=>by
  obtain ⟨⟨old,he⟩,o,e1,c,d⟩:=st
  rcases List.mem_cons.mp hb with z | z
  ·subst z;exact ⟨_,he,fun v q=>by cases q⟩
  ·have z':=List.mem_singleton.mp z;subst z';exact ⟨o,e1,fun v q=>by rw [d] at q;cases q⟩
 keep:=fun i h h' st k=>by
  obtain ⟨⟨old,he⟩,o,e1,c,d⟩:=st
  exact ⟨⟨old,k e (by simp) _ he⟩,o,k it (by simp) _ e1,c,d⟩
 item:=by
  intro X hP hw hK hc i pins s σ H E I hf st hg
  subst hP hw hK
  obtain ⟨xs,x,hq,hx⟩:=hg
  obtain ⟨its,rv,p,hz⟩:=I.tuple hq
  have p':s.heap.IsTuple a its.toArray:=p
  obtain ⟨u,hu,ru⟩:=rv.get hx
  obtain ⟨⟨old,he⟩,hb⟩:=st
  obtain ⟨o1,q1,c1,d1⟩:=id hb
  obtain ⟨o2,q2,c2,n2,d2⟩:=id p'
  have hai:a≠it:=fun z=>by
   subst z;rw [q1] at q2;cases q2;rw [c1] at c2;exact absurd c2 (by simp)
  have hea:e≠a:=fun z=>by
   subst z
   have he':s.heap.get? e=some _:=he
   rw [q2] at he'
   have z2:=congrArg Obj.cls (Option.some.inj he')
   rw [c2] at z2
   exact absurd z2 (by simp)
  have hil:i < its.toArray.size:=by
   have h1:=(List.getElem?_eq_some_iff.mp hu).1
   simpa using h1
  have D:=Ax (prog:=X.prog) (w:=X.w) (A:=X.A.in1) (I.ok.hd hc) it a hai its.toArray
  refine wpAny_pyNext_enum_itemD D he ⟨hb,p'⟩ hil hei (by simp [hei,hea]) fun x' h' tk hPx hout hst' hT hsz hk=>?_
  have ex:x'=u:=by
   have z:its.toArray[i]?=some u:=by simpa using hu
   have hPx':its.toArray[i]?=some x':=hPx
   rw [z] at hPx';exact (Option.some.inj hPx').symm
  subst ex
  refine ⟨.ref s.heap.objs.size,rfl,wpAny_letOwnedTupleGo_enum (s:={ s with heap:=h',toks:=tk+1 }) hout fun h2 hEn hSame=>?_⟩
  have hSame':Heap.SameBut e h' h2:=hSame
  have elt:e < s.heap.objs.size:=Heap.lt_size he
  have ilt:it < s.heap.objs.size:=Heap.lt_size q1
  have kp:∀ b o,b≠e→b≠it→s.heap.get? b=some o→h2.get? b=some o:=fun b o n1 n2 q=>hSame'.extBut b o n1 (hk b o n1 n2 q)
  obtain ⟨fe0,fe1,fe2,fe3,fe4,fe5⟩:=hf e (by simp)
  obtain ⟨fi0,fi1,fi2,fi3,fi4,fi5⟩:=hf it (by simp)
  have hTn:H s.heap.objs.size=none:=I.hok.fresh (Nat.le_refl _)
  have nT:∀ b o,s.heap.get? b=some o→b≠s.heap.objs.size:=fun b o q=>Nat.ne_of_lt (Heap.lt_size q)
  have hTo : h2.get? s.heap.objs.size = some { cls:=.type "tuple", data:=.seq #[.int i tk, x'] }:=hSame'.extBut _ _ (Nat.ne_of_gt elt) hT
  have nch:∀ b,b ∉ ([e,it]:List Addr)→b≠e∧b≠it:=fun b hb=>by simp at hb;exact hb
  have I2:Inv X pins σ (upd H s.heap.objs.size (.tup [.int i,x])) { s with heap:=h2,toks:=tk+1 }:=by
   refine I.step (g':=s.gens) (d':=s.drawn) (ch:=[e,it]) (fun b hb=>?_) (fun b o _ _ hc q _=>kp b o (nch b hc).1 (nch b hc).2 q) (fun b o _ _ hc q _=>⟨o.slots,kp b o (nch b hc).1 (nch b hc).2 q⟩) (fun b o _ q n=>by rw [ao (nT b o q)];exact n)
    (fun b o hc q=>⟨o,kp b o (nch b hc).1 (nch b hc).2 q⟩) (fun b ys q=>by rw [ao (ak q hTn)];exact q) (fun b o u q=>by rw [ao (ak q hTn)];exact q) (fun b ps q=>⟨#[],by rw [ao (ak q hTn),q];simp⟩) (fun m hm=>?_) (fun b u q=>?_) I.bare
   ·rcases List.mem_cons.mp hb with z | z
    ·subst z;exact ⟨fe3,fe1,fe4,fe5⟩
    ·have z':=List.mem_singleton.mp z;subst z';exact ⟨fi3,fi1,fi4,fi5⟩
   ·obtain ⟨o,es,ep,ho,r⟩:=hm
    exact ⟨o,es,ep,kp _ o (Ne.symm fe1) (Ne.symm fi1) ho,r⟩
   ·by_cases hbT:b=s.heap.objs.size
    ·subst hbT
     rw [aC] at q;cases q
     exact ⟨by show 2≤sizeLine;decide,[.int i tk,x'],.cons ⟨tk,rfl⟩ (.cons ru .nil),⟨_,hTo,rfl,_,rfl⟩⟩
    ·rw [ao hbT] at q
     have nb:∀ c v,H c=some v→c≠e∧c≠it:=fun c v z=>⟨ak z fe0,ak z fi0⟩
     refine (I.hok b u q).stay (fun c v hc r=>?_) (fun c r=>by rw [ao (ak r hTn)];exact r) (fun c ys r=>by rw [ao (ak r hTn)];exact r) (fun c _ r _=>by rw [ao (ak r hTn)];exact r)
     have nc:c≠e∧c≠it:=by
      rcases hc with z | z
      ·rw [z];exact nb b u q
      ·exact nb c _ z
     exact kp c v nc.1 nc.2 r
  refine ⟨.ref s.heap.objs.size,_,I2,rfl,⟨s.heap.objs.size,x,hTn,rfl,rfl,fun ys hy=>by rw [I.tuple_inj hy hq];exact hx⟩,⟨⟨x',by simpa using hEn⟩,?_⟩,fun b hb=>?_⟩
  ·exact hst'.1.extBut hSame'.extBut (Ne.symm hei)
  ·rcases List.mem_cons.mp hb with z | z
   ·subst z;rw [ao (Nat.ne_of_lt elt)];exact fe0
   ·have z':=List.mem_singleton.mp z;subst z';rw [ao (Nat.ne_of_lt ilt)];exact fi0
 done:=by
  intro X hP hw hK hc i pins s σ H E I hf st hg
  subst hP hw hK
  obtain ⟨xs,hq,hx⟩:=hg
  obtain ⟨its,rv,p,hz⟩:=I.tuple hq
  have p':s.heap.IsTuple a its.toArray:=p
  obtain ⟨⟨old,he⟩,hb⟩:=st
  obtain ⟨o1,q1,c1,d1⟩:=id hb
  obtain ⟨o2,q2,c2,n2,d2⟩:=id p'
  have hai:a≠it:=fun z=>by
   subst z;rw [q1] at q2;cases q2;rw [c1] at c2;exact absurd c2 (by simp)
  obtain ⟨fi0,fi1,fi2,fi3,fi4,fi5⟩:=hf it (by simp)
  have D:=Ax (prog:=X.prog) (w:=X.w) (A:=X.A.in1) (I.ok.hd hc) it a hai its.toArray
  have hl:=rv.length
  have en:i=its.toArray.size:=by simp;omega
  subst en
  exact wpAny_pyNext_enum_endD D he ⟨hb,p'⟩ fun h' eb=>⟨rfl,I.turned (t':=s.toks) (fun b o hb e=>eb b o hb e) fi0 fi1 fi3 fi4 fi5⟩
 self:=fun _ _ _ _ _ st h=>by
  obtain ⟨⟨old,he⟩,_⟩:=st
  exact wpAny_pyIter_enum he h
section
variable {X:Cx}
noncomputable def Zi (K:PySem.W.Frag) (ta:TA):TI:=fun σ H R=>ta σ H fun vs H1=>∃ a xs,vs=[.ref a]∧SqT K H1 a xs∧R (Mw K a) H1
theorem S9 {pins:List (Addr × Obj)}{σ:St}{H:Hp}{s:Shared}{R:It→Hp→Prop}{els:List Expr}{x1:Nat}{tpos:Pos}{a:Addr}{xs:List V}{E:Value→Shared→Prop} (I:Inv X pins σ H s) (hq:SqT X.K H a xs) (q:R (Mw X.K a) H) :
  wpAny (model X.prog X.w) X.A (call (.type "enumerate") [.ref a]) (fun v s1 => wpAny (model X.prog X.w) X.A (pyIter v) (PIE X pins σ (.Tuple els x1 tpos) R) E s1) E s:=by
 obtain ⟨its,rv,p,hz⟩:=I.tuple hq
 have p':s.heap.IsTuple a its.toArray:=p
 refine Bc p' fun h' he hit hsz hk=>?_
 refine wpAny_pyIter_enum (s:={ s with heap:=h' }) he ?_
 have I1:Inv X pins σ H { s with heap:=h' }:=I.kept (t':=s.toks) hk
 refine ⟨s.heap.objs.size+1,[s.heap.objs.size+1,s.heap.objs.size],_,_,H,rfl,I1,LQ a (s.heap.objs.size+1) s.heap.objs.size (by exact Nat.succ_ne_self _),⟨⟨_,he⟩,hit⟩,fun b hb=>?_,q⟩
 rcases List.mem_cons.mp hb with z | z
 ·subst z
  exact I.fpOk (Nat.le_succ _) (I.hok.fresh (Nat.le_succ _))
 ·have z':=List.mem_singleton.mp z
  subst z'
  exact I.fpOk (Nat.le_refl _) (I.hok.fresh (Nat.le_refl _))
theorem T8 {a : Expr} {ta : TA} {p pos tpos : Pos} {els : List Expr} {x1 : Nat} (hg : Gl X "enumerate") (hm : X.mg "enumerate" = none) (ha : PA X [a] ta) (hs : starEach [a] X.env = [(false, eval a X.env)]:=by rfl) :
  PI X (.Tuple els x1 tpos) (.Call (.Name "enumerate" p) [a] [] pos) (Zi X.K ta):=by
 intro pins s σ H R I h
 refine Call_ (fL I hg hm uz (PyProof.Rows.callWith_type1 (thn (ha pos pins s σ H _ I h) fun us s1 ⟨vs,H1,I1,r1,q1⟩=>?_) hs rfl))
 obtain ⟨b,xs,rfl,hq,q⟩:=q1
 obtain ⟨u,rfl,ru⟩:=vals1 r1
 cases ru
 exact S9 I1 hq q
end
noncomputable def KR (K:PySem.W.Frag) (a:Addr):It :=
 ⟨fun i H=>∃ xs x,SqL K H a xs∧xs[i]?=some x,
  fun i H x H'=>∃ p y,H p=none∧x=.ref p∧H'=upd H p (.tup [.int i,y])∧∀ xs,SqL K H a xs→xs[i]?=some y,
  fun i H=>∃ xs,SqL K H a xs∧xs.length=i⟩
theorem K3 {P:Program}{w:World}{K:PySem.W.Frag}{els:List Expr}{x1:Nat}{tpos:Pos} (a e it:Addr) (hei:e≠it):Turn P w K (.Tuple els x1 tpos) (KR K a) [e,it] e (fun i h=>(∃ old,IsEnum h e it i old)∧h.IsListIter it a i) where
 mem:=by simp
 obj:=fun i h st b hb=>by
  obtain ⟨⟨old,he⟩,o,e1,c,d⟩:=st
  rcases List.mem_cons.mp hb with z | z
  ·subst z;exact ⟨_,he,fun v q=>by cases q⟩
  ·have z':=List.mem_singleton.mp z;subst z';exact ⟨o,e1,fun v q=>by rw [d] at q;cases q⟩
 keep:=fun i h h' st k=>by
  obtain ⟨⟨old,he⟩,o,e1,c,d⟩:=st
  exact ⟨⟨old,k e (by simp) _ he⟩,o,k it (by simp) _ e1,c,d⟩
 item:=by
  intro X hP hw hK hc i pins s σ H E I hf st hg
  subst hP hw hK
  obtain ⟨xs,x,hq,hx⟩:=hg
  obtain ⟨its,rv,p,hz⟩:=I.list hq
  have p':s.heap.IsList a its.toArray:=p.isList
  obtain ⟨u,hu,ru⟩:=rv.get hx
  obtain ⟨⟨old,he⟩,hb⟩:=st
  obtain ⟨o1,q1,c1,d1⟩:=id hb
  obtain ⟨o2,q2,c2,n2,d2⟩:=id p'
  have hai:a≠it:=fun z=>by
   subst z;rw [q1] at q2;cases q2;rw [c1] at c2;exact absurd c2 (by simp)
  have hea:e≠a:=fun z=>by
   subst z
   have he':s.heap.get? e=some _:=he
   rw [q2] at he'
   have z2:=congrArg Obj.cls (Option.some.inj he')
   rw [c2] at z2
   exact absurd z2 (by simp)
  have hil:i < its.toArray.size:=by
   have h1:=(List.getElem?_eq_some_iff.mp hu).1
   simpa using h1
  have D:=PySem.Draws.list (prog:=X.prog) (w:=X.w) (A:=X.A.in1) (I.ok.hd hc) it a hai its.toArray
  refine wpAny_pyNext_enum_itemD D he ⟨hb,p'⟩ hil hei (by simp [hei,hea]) fun x' h' tk hPx hout hst' hT hsz hk=>?_
  have ex:x'=u:=by
   have z:its.toArray[i]?=some u:=by simpa using hu
   have hPx':its.toArray[i]?=some x':=hPx
   rw [z] at hPx';exact (Option.some.inj hPx').symm
  subst ex
  refine ⟨.ref s.heap.objs.size,rfl,wpAny_letOwnedTupleGo_enum (s:={ s with heap:=h',toks:=tk+1 }) hout fun h2 hEn hSame=>?_⟩
  have hSame':Heap.SameBut e h' h2:=hSame
  have elt:e < s.heap.objs.size:=Heap.lt_size he
  have ilt:it < s.heap.objs.size:=Heap.lt_size q1
  have kp:∀ b o,b≠e→b≠it→s.heap.get? b=some o→h2.get? b=some o:=fun b o n1 n2 q=>hSame'.extBut b o n1 (hk b o n1 n2 q)
  obtain ⟨fe0,fe1,fe2,fe3,fe4,fe5⟩:=hf e (by simp)
  obtain ⟨fi0,fi1,fi2,fi3,fi4,fi5⟩:=hf it (by simp)
  have hTn:H s.heap.objs.size=none:=I.hok.fresh (Nat.le_refl _)
  have nT:∀ b o,s.heap.get? b=some o→b≠s.heap.objs.size:=fun b o q=>Nat.ne_of_lt (Heap.lt_size q)
  have hTo : h2.get? s.heap.objs.size = some { cls:=.type "tuple", data:=.seq #[.int i tk, x'] }:=hSame'.extBut _ _ (Nat.ne_of_gt elt) hT
  have nch:∀ b,b ∉ ([e,it]:List Addr)→b≠e∧b≠it:=fun b hb=>by simp at hb;exact hb
  have I2:Inv X pins σ (upd H s.heap.objs.size (.tup [.int i,x])) { s with heap:=h2,toks:=tk+1 }:=by
   refine I.step (g':=s.gens) (d':=s.drawn) (ch:=[e,it]) (fun b hb=>?_) (fun b o _ _ hc q _=>kp b o (nch b hc).1 (nch b hc).2 q) (fun b o _ _ hc q _=>⟨o.slots,kp b o (nch b hc).1 (nch b hc).2 q⟩) (fun b o _ q n=>by rw [ao (nT b o q)];exact n)
    (fun b o hc q=>⟨o,kp b o (nch b hc).1 (nch b hc).2 q⟩) (fun b ys q=>by rw [ao (ak q hTn)];exact q) (fun b o u q=>by rw [ao (ak q hTn)];exact q) (fun b ps q=>⟨#[],by rw [ao (ak q hTn),q];simp⟩) (fun m hm=>?_) (fun b u q=>?_) I.bare
   ·rcases List.mem_cons.mp hb with z | z
    ·subst z;exact ⟨fe3,fe1,fe4,fe5⟩
    ·have z':=List.mem_singleton.mp z;subst z';exact ⟨fi3,fi1,fi4,fi5⟩
   ·obtain ⟨o,es,ep,ho,r⟩:=hm
    exact ⟨o,es,ep,kp _ o (Ne.symm fe1) (Ne.symm fi1) ho,r⟩
   ·by_cases hbT:b=s.heap.objs.size
    ·subst hbT
     rw [aC] at q;cases q
     exact ⟨by show 2≤sizeLine;decide,[.int i tk,x'],.cons ⟨tk,rfl⟩ (.cons ru .nil),⟨_,hTo,rfl,_,rfl⟩⟩
    ·rw [ao hbT] at q
     have nb:∀ c v,H c=some v→c≠e∧c≠it:=fun c v z=>⟨ak z fe0,ak z fi0⟩
     refine (I.hok b u q).stay (fun c v hc r=>?_) (fun c r=>by rw [ao (ak r hTn)];exact r) (fun c ys r=>by rw [ao (ak r hTn)];exact r) (fun c _ r _=>by rw [ao (ak r hTn)];exact r)
     have nc:c≠e∧c≠it:=by
      rcases hc with z | z
      ·rw [z];exact nb b u q
      ·exact nb c _ z
     exact kp c v nc.1 nc.2 r
  refine ⟨.ref s.heap.objs.size,_,I2,rfl,⟨s.heap.objs.size,x,hTn,rfl,rfl,fun ys hy=>by rw [I.list_inj hy hq];exact hx⟩,⟨⟨x',by simpa using hEn⟩,?_⟩,fun b hb=>?_⟩
  ·exact hst'.1.extBut hSame'.extBut (Ne.symm hei)
  ·rcases List.mem_cons.mp hb with z | z
   ·subst z;rw [ao (Nat.ne_of_lt elt)];exact fe0
   ·have z':=List.mem_singleton.mp z;subst z';rw [ao (Nat.ne_of_lt ilt)];exact fi0
 done:=by
  intro X hP hw hK hc i pins s σ H E I hf st hg
  subst hP hw hK
  obtain ⟨xs,hq,hx⟩:=hg
  obtain ⟨its,rv,p,hz⟩:=I.list hq
  have p':s.heap.IsList a its.toArray:=p.isList
  obtain ⟨⟨old,he⟩,hb⟩:=st
  obtain ⟨o1,q1,c1,d1⟩:=id hb
  obtain ⟨o2,q2,c2,n2,d2⟩:=id p'
  have hai:a≠it:=fun z=>by
   subst z;rw [q1] at q2;cases q2;rw [c1] at c2;exact absurd c2 (by simp)
  obtain ⟨fi0,fi1,fi2,fi3,fi4,fi5⟩:=hf it (by simp)
  have D:=PySem.Draws.list (prog:=X.prog) (w:=X.w) (A:=X.A.in1) (I.ok.hd hc) it a hai its.toArray
  have hl:=rv.length
  have en:i=its.toArray.size:=by simp;omega
  subst en
  exact wpAny_pyNext_enum_endD D he ⟨hb,p'⟩ fun h' eb=>⟨rfl,I.turned (t':=s.toks) (fun b o hb e=>eb b o hb e) fi0 fi1 fi3 fi4 fi5⟩
 self:=fun _ _ _ _ _ st h=>by
  obtain ⟨⟨old,he⟩,_⟩:=st
  exact wpAny_pyIter_enum he h
section
variable {X:Cx}
noncomputable def Xf (K:PySem.W.Frag) (ta:TA):TI:=fun σ H R=>ta σ H fun vs H1=>∃ a xs,vs=[.ref a]∧SqL K H1 a xs∧R (KR K a) H1
theorem Ss {pins:List (Addr × Obj)}{σ:St}{H:Hp}{s:Shared}{R:It→Hp→Prop}{els:List Expr}{x1:Nat}{tpos:Pos}{a:Addr}{xs:List V}{E:Value→Shared→Prop} (I:Inv X pins σ H s) (hq:SqL X.K H a xs) (q:R (KR X.K a) H) :
  wpAny (model X.prog X.w) X.A (call (.type "enumerate") [.ref a]) (fun v s1 => wpAny (model X.prog X.w) X.A (pyIter v) (PIE X pins σ (.Tuple els x1 tpos) R) E s1) E s:=by
 obtain ⟨its,rv,p,hz⟩:=I.list hq
 have p':s.heap.IsList a its.toArray:=p.isList
 refine call_enumerate_list p' fun h' he hit hsz hk=>?_
 refine wpAny_pyIter_enum (s:={ s with heap:=h' }) he ?_
 have I1:Inv X pins σ H { s with heap:=h' }:=I.kept (t':=s.toks) hk
 refine ⟨s.heap.objs.size+1,[s.heap.objs.size+1,s.heap.objs.size],_,_,H,rfl,I1,K3 a (s.heap.objs.size+1) s.heap.objs.size (by exact Nat.succ_ne_self _),⟨⟨_,he⟩,hit⟩,fun b hb=>?_,q⟩
 rcases List.mem_cons.mp hb with z | z
 ·subst z
  exact I.fpOk (Nat.le_succ _) (I.hok.fresh (Nat.le_succ _))
 ·have z':=List.mem_singleton.mp z
  subst z'
  exact I.fpOk (Nat.le_refl _) (I.hok.fresh (Nat.le_refl _))
theorem QK {a : Expr} {ta : TA} {p pos tpos : Pos} {els : List Expr} {x1 : Nat} (hg : Gl X "enumerate") (hm : X.mg "enumerate" = none) (ha : PA X [a] ta) (hs : starEach [a] X.env = [(false, eval a X.env)]:=by rfl) :
  PI X (.Tuple els x1 tpos) (.Call (.Name "enumerate" p) [a] [] pos) (Xf X.K ta):=by
 intro pins s σ H R I h
 refine Call_ (fL I hg hm uz (PyProof.Rows.callWith_type1 (thn (ha pos pins s σ H _ I h) fun us s1 ⟨vs,H1,I1,r1,q1⟩=>?_) hs rfl))
 obtain ⟨b,xs,rfl,hq,q⟩:=q1
 obtain ⟨u,rfl,ru⟩:=vals1 r1
 cases ru
 exact Ss I1 hq q
end
end Mi
namespace Mi
open PySem L2
open PyProof.Rows hiding St
theorem JB {M:Model}{A:Around}{E:Value→Shared→Prop}{s:Shared}{a:Addr}{Q:Option Obj→Shared→Prop} (h:Q (s.heap.get? a) s):wpAny M A (loadIfAlive a) Q E s:=fun _ _ _=>h
noncomputable abbrev fV (h:Heap) (e it:Addr) (i:Int) (T:Addr) (b:Bool) (old:Value):Prop :=
 h.get? e = some { cls:=.type "enumerate", dict:=none, data:=.fields #[rawInt T, .bool b, .ref it, rawInt i, .none, old], slots:=#[] }
section
variable {prog:Program}{w:World}{A:Around}{E:Value→Shared→Prop}{s:Shared}
theorem KY {e it:Addr}{fp:List Addr}{n i:Nat}{P:Nat→Value→Prop}{Sx:Nat→Heap→Prop}{old:Value}{T0:Addr}{o0:Obj}{b0:Bool}{Q:Value→Shared→Prop}
  (D:Draws prog w A it fp n P Sx) (he:fV s.heap e it i T0 b0 old) (hT0:s.heap.get? T0=some o0) (nT0e:T0≠e) (nT0i:T0≠it) (hst:Sx i s.heap) (hlt:i < n) (hne:e≠it) (hef:e ∉ fp)
  (hQ:∀ x h' tk,P i x→fV h' e it ((i:Int)+1) T0 true old→Sx (i+1) h' →
   h'.get? s.heap.objs.size = some { cls:=.type "tuple", data:=.seq #[.int i tk, x] } → h'.objs.size = s.heap.objs.size + 1 →
   (∀ b o,b≠e→b≠it→s.heap.get? b=some o→h'.get? b=some o)→Q (.ref s.heap.objs.size) { s with heap:=h',toks:=tk+1 }) :
  wpAny (model prog w) A (Builtin.«enumerate.__next__» ⟨[.ref e],[]⟩) (fun fin s'=>∃ v,fin=.done (.ret v)∧Q v s') E s:=by
 obtain ⟨hp,g,d,tk₀,os⟩:=s
 show wpAny _ _ (field (.ref e) 2 >>= _) _ _ _
 refine wpAny_bind (wpAny_field he rfl (x:=.ref it) rfl ?_)
 refine wpAny_bind (D.item i _ _ _ hlt hst fun x h₁ tk hPx hit₁ hs₁=>?_)
 replace hs₁:Heap.SameBut it hp h₁:=hs₁
 have he₁:fV h₁ e it i T0 b0 old:=(hs₁.2 e hne).trans he
 show wpAny _ _ (field (.ref e) 3 >>= _) _ _ ⟨h₁,g,d,tk,os⟩
 refine wpAny_bind (wpAny_field he₁ rfl (x:=rawInt i) rfl ?_)
 show wpAny _ _ (field (.ref e) 4 >>= _) _ _ ⟨h₁,g,d,tk,os⟩
 refine wpAny_bind (wpAny_field he₁ rfl (x:=.none) rfl ?_)
 show wpAny _ _ (mkInt i >>= _) _ _ ⟨h₁,g,d,tk,os⟩
 refine wpAny_bind (wpAny_mkInt ?_)
 show wpAny _ _ (setField (.ref e) 3 (rawInt ((i:Int)+1)) >>= _) _ _ ⟨h₁,g,d,tk+1,os⟩
 refine wpAny_bind (wpAny_setField_rec he₁ (by simp) fun h₂ he₂ hs₂=>?_)
 replace hs₂:Heap.SameBut e h₁ h₂:=hs₂
 replace he₂:fV h₂ e it ((i:Int)+1) T0 b0 old:=he₂
 show wpAny _ _ (setField (.ref e) 4 .none >>= _) _ _ ⟨h₂,g,d,tk+1,os⟩
 refine wpAny_bind (wpAny_setField_rec he₂ (by simp) fun h₃ he₃ hs₃=>?_)
 replace hs₃:Heap.SameBut e h₂ h₃:=hs₃
 replace he₃:fV h₃ e it ((i:Int)+1) T0 b0 old:=he₃
 show wpAny _ _ (newTuple [.int i tk,x] >>= _) _ _ ⟨h₃,g,d,tk+1,os⟩
 refine wpAny_bind (wpAny_newTuple ?_)
 have he₄ : fV (h₃.push { cls:=.type "tuple", data:=.seq #[.int i tk, x] }) e it ((i : Int) + 1) T0 b0 old:=Heap.get?_push_of_some _ he₃
 generalize hh₄ : h₃.push { cls:=.type "tuple", data:=.seq #[.int i tk, x] } = h₄ at he₄
 have hsz:h₃.objs.size=hp.objs.size:=by rw [hs₃.1,hs₂.1,hs₁.1]
 have hel:e < hp.objs.size:=Heap.lt_size he
 have ht₄ : h₄.get? hp.objs.size = some { cls:=.type "tuple", data:=.seq #[.int i tk, x] }:=by rw [← hh₄, ← hsz]; exact Heap.get?_push_size _ rfl
 have hz₄:h₄.objs.size=hp.objs.size+1:=by rw [← hh₄,Heap.size_push,hsz]
 have hk₄:∀ b o,b≠e→b≠it→hp.get? b=some o→h₄.get? b=some o:=fun b o hbe hbi hb=>by
  rw [← hh₄];exact Heap.get?_push_of_some _ (hs₃.extBut b o hbe (hs₂.extBut b o hbe (hs₁.extBut b o hbi hb)))
 have hit₄:Sx (i+1) h₄:=D.frame _ _ _ hit₁ fun b hb o y=>by
  have hbe:b≠e:=fun q=>hef (q ▸ hb)
  rw [← hh₄];exact Heap.get?_push_of_some _ (hs₃.extBut b o hbe (hs₂.extBut b o hbe y))
 show wpAny _ _ (Builtin.SmallTypes.ownedTupleIsFree (.ref e) >>= _) _ _ ⟨h₄,g,d,tk+1,os⟩
 rw [hsz]
 clear hh₄ he₃ hs₃ he₂ hs₂ he₁ hs₁ hit₁ hsz h₃ h₂ h₁
 have alive:h₄.get? T0=some o0:=hk₄ T0 o0 nT0e nT0i hT0
 refine wpAny_bind ?_
 ·unfold Builtin.SmallTypes.ownedTupleIsFree
  refine wpAny_bind (wpAny_field he₄ rfl (x:=rawInt T0) rfl ?_)
  show wpAny _ _ (loadIfAlive (Int.toNat (T0:Int)) >>= _) _ _ ⟨h₄,g,d,tk+1,os⟩
  refine wpAny_bind (JB ?_)
  rw [show Int.toNat (T0:Int)=T0 from Int.toNat_natCast _]
  show wpAny _ _ (if (Option.isNone (h₄.get? T0))=true then _ else _) _ _ ⟨h₄,g,d,tk+1,os⟩
  rw [alive,if_neg (by simp)]
  refine wpAny_bind (wpAny_field he₄ rfl (x:=.bool b0) rfl ?_)
  cases b0 with
  | true =>
   rw [if_neg (by simp)]
   refine wpAny_pure ?_
   simp only [Bool.false_eq_true,if_false]
   exact wpAny_pure ⟨_,rfl,hQ x h₄ tk hPx he₄ hit₄ ht₄ hz₄ hk₄⟩
  | false =>
   rw [if_pos (by simp)]
   refine wpAny_bind (wpAny_setField_rec he₄ (by simp) fun h₅ he₅ hs₅=>?_)
   replace hs₅:Heap.SameBut e h₄ h₅:=hs₅
   replace he₅:fV h₅ e it ((i:Int)+1) T0 true old:=he₅
   refine wpAny_pure ?_
   simp only [Bool.false_eq_true,if_false]
   refine wpAny_pure ⟨_,rfl,hQ x h₅ tk hPx he₅ ?_ ?_ ?_ ?_⟩
   ·exact D.frame _ _ _ hit₄ fun b hb o y=>hs₅.extBut b o (fun q=>hef (q ▸ hb)) y
   ·exact hs₅.extBut _ _ (Nat.ne_of_gt hel) ht₄
   ·rw [hs₅.1,hz₄]
   ·exact fun b o hbe hbi hb=>hs₅.extBut b o hbe (hk₄ b o hbe hbi hb)
theorem Ln {e it:Addr}{fp:List Addr}{n i:Nat}{P:Nat→Value→Prop}{Sx:Nat→Heap→Prop}{old:Value}{T0:Addr}{o0:Obj}{b0:Bool}{Q:Option Value→Shared→Prop}
  (D:Draws prog w A.in1 it fp n P Sx) (he:fV s.heap e it i T0 b0 old) (hT0:s.heap.get? T0=some o0) (nT0e:T0≠e) (nT0i:T0≠it) (hst:Sx i s.heap) (hlt:i < n) (hne:e≠it) (hef:e ∉ fp)
  (hQ:∀ x h' tk,P i x→fV h' e it ((i:Int)+1) T0 true old→Sx (i+1) h' →
   h'.get? s.heap.objs.size = some { cls:=.type "tuple", data:=.seq #[.int i tk, x] } → h'.objs.size = s.heap.objs.size + 1 →
   (∀ b o,b≠e→b≠it→s.heap.get? b=some o→h'.get? b=some o)→Q (some (.ref s.heap.objs.size)) { s with heap:=h',toks:=tk+1 }) :
  wpAny (model prog w) A (pyNext (.ref e)) Q E s:=by
 have hT : s.TypeIs (.ref e) "enumerate":=⟨_, he, rfl⟩
 unfold pyNext
 exact wpAny_bind (wpAny_attempt (wpAny_callSpecial?_slot (name:=Str.ofString "__next__") hT F.slot_enumerate_next
  (wpAny_call_entry F.slot_enumerate_next hT F.entry_enumerate_next
   (KY D he hT0 nT0e nT0i hst hlt hne hef fun x h' tk a b c d k q=>wpAny_pure (hQ x h' tk a b c d k q)) (F.args_enumerate_next_1 _))))
theorem QF {e it:Addr}{fp:List Addr}{n:Nat}{P:Nat→Value→Prop}{Sx:Nat→Heap→Prop}{i:Int}{old:Value}{T0:Addr}{b0:Bool}{Q:Option Value→Shared→Prop}
  (D:Draws prog w A.in1 it fp n P Sx) (he:fV s.heap e it i T0 b0 old) (hst:Sx n s.heap)
  (hQ:∀ h',Heap.ExtBut it s.heap h'→Q none { s with heap:=h' }):wpAny (model prog w) A (pyNext (.ref e)) Q E s:=by
 have hT : s.TypeIs (.ref e) "enumerate":=⟨_, he, rfl⟩
 unfold pyNext
 refine wpAny_bind (wpAny_attempt (wpAny_callSpecial?_slot (name:=Str.ofString "__next__") hT F.slot_enumerate_next
  (wpAny_call_entry F.slot_enumerate_next hT F.entry_enumerate_next ?_ (F.args_enumerate_next_1 _))))
 show wpAny _ _ (field (.ref e) 2 >>= _) _ _ _
 refine wpAny_bind (wpAny_field he rfl (x:=.ref it) rfl ?_)
 refine wpAny_bind (D.done _ _ _ hst fun h' x he' hx'=>?_)
 obtain ⟨o,ho,hc⟩:=hx'
 refine wpAny_bind (wpAny_isInstance (T:="StopIteration") (b:=true) ⟨o, ho, hc⟩ isSubtype_stop ?_)
 exact wpAny_pure (hQ _ he')
end
theorem Iw : typeLookup (.type "enumerate") "__len__" = pure none:=by rw [typeLookup_type, builtinLookup_eq_fast]; kernel_rfl
theorem Ho : typeLookup (.type "enumerate") "__length_hint__" = pure none:=by rw [typeLookup_type, builtinLookup_eq_fast]; kernel_rfl
end Mi
namespace Mi
open PySem L2
open PyProof.Rows hiding St
section
variable {X:Cx}{pins:List (Addr × Obj)}{σ:St}{H:Hp}{s:Shared}
theorem Rj {e it:Addr}{h2:Heap}{i:Int}{tk tk':Nat}{x:V}{u:Value} (I:Inv X pins σ H s) (fe:iG X pins H e) (fi:iG X pins H it)
  (kp : ∀ b o, b ≠ e → b ≠ it → s.heap.get? b = some o → h2.get? b = some o) (hTo : h2.get? s.heap.objs.size = some { cls:=.type "tuple", data:=.seq #[.int i tk, u] }) (ru : RelV x u) :
  Inv X pins σ (upd H s.heap.objs.size (.tup [.int i,x])) { s with heap:=h2,toks:=tk' }:=by
 obtain ⟨fe0,fe1,fe2,fe3,fe4,fe5⟩:=fe
 obtain ⟨fi0,fi1,fi2,fi3,fi4,fi5⟩:=fi
 have hTn:H s.heap.objs.size=none:=I.hok.fresh (Nat.le_refl _)
 have nT:∀ b o,s.heap.get? b=some o→b≠s.heap.objs.size:=fun b o q=>Nat.ne_of_lt (Heap.lt_size q)
 have nch:∀ b,b ∉ ([e,it]:List Addr)→b≠e∧b≠it:=fun b hb=>by simp at hb;exact hb
 refine I.step (g':=s.gens) (d':=s.drawn) (ch:=[e,it]) (fun b hb=>?_) (fun b o _ _ hc q _=>kp b o (nch b hc).1 (nch b hc).2 q) (fun b o _ _ hc q _=>⟨o.slots,kp b o (nch b hc).1 (nch b hc).2 q⟩) (fun b o _ q n=>by rw [ao (nT b o q)];exact n)
  (fun b o hc q=>⟨o,kp b o (nch b hc).1 (nch b hc).2 q⟩) (fun b ys q=>by rw [ao (ak q hTn)];exact q) (fun b o u q=>by rw [ao (ak q hTn)];exact q) (fun b ps q=>⟨#[],by rw [ao (ak q hTn),q];simp⟩) (fun m hm=>?_) (fun b u q=>?_) I.bare
 ·rcases List.mem_cons.mp hb with z | z
  ·subst z;exact ⟨fe3,fe1,fe4,fe5⟩
  ·have z':=List.mem_singleton.mp z;subst z';exact ⟨fi3,fi1,fi4,fi5⟩
 ·obtain ⟨o,es,ep,ho,r⟩:=hm
  exact ⟨o,es,ep,kp _ o (Ne.symm fe1) (Ne.symm fi1) ho,r⟩
 ·by_cases hbT:b=s.heap.objs.size
  ·subst hbT
   rw [aC] at q;cases q
   exact ⟨by show 2≤sizeLine;decide,_,.cons ⟨tk,rfl⟩ (.cons ru .nil),⟨_,hTo,rfl,_,rfl⟩⟩
  ·rw [ao hbT] at q
   have nb:∀ c v,H c=some v→c≠e∧c≠it:=fun c v z=>⟨ak z fe0,ak z fi0⟩
   refine (I.hok b u q).stay (fun c v hc r=>?_) (fun c r=>by rw [ao (ak r hTn)];exact r) (fun c ys r=>by rw [ao (ak r hTn)];exact r) (fun c _ r _=>by rw [ao (ak r hTn)];exact r)
   have nc:c≠e∧c≠it:=by
    rcases hc with z | z
    ·rw [z];exact nb b u q
    ·exact nb c _ z
   exact kp c v nc.1 nc.2 r
noncomputable def EnS (e it:Addr) (H:Hp) (h:Heap) (i:Nat):Prop:=(∃ old,IsEnum h e it i old)∨∃ T0 b ys old,H T0=some (.tup ys)∧fV h e it i T0 b old
theorem yH {K:PySem.W.Frag}{H H':Hp}{a:Addr}{xs:List V} (h:SqT K H a xs) (k:∀ o,(∀ ys,o≠.lst ys)→H a=some o→H' a=some o):SqT K H' a xs:=by
 rcases h with (h | ⟨o,h⟩) | h
 ·exact .inl (.inl (k _ (by intro ys z;cases z) h))
 ·exact .inl (.inr ⟨o,k _ (by intro ys z;cases z) h⟩)
 ·exact .inr h
theorem Dz {A:Around}{R:Result→Shared→Prop}{a e it S:Addr}{xs:List V}{res:Value}{n0:Nat} (hA:A.handled=none) (hei:e≠it) :
  ∀ (k i:Nat) (s:Shared) (H:Hp) (ps:List Addr),n0≤s.heap.objs.size→(∀ p∈ps,n0≤p)→xs.length - i=k→i≤xs.length→Inv X pins σ H s→EnS e it H s.heap i→s.heap.IsTupleIter it a i→iG X pins H e→iG X pins H it→SqT X.K H a xs →
   H S=some (.lst (ps.map V.ref))→ps.length=i→(∀ (j:Nat) p x,ps[j]?=some p→xs[j]?=some x→H p=some (.tup [.int j,x])) →
   (∀ (s':Shared) (H':Hp) (ps':List Addr),Inv X pins σ H' s'→(∀ b o,b≠S→H b=some o→H' b=some o)→H' S=some (.lst (ps'.map V.ref))→ps'.length=xs.length→(∀ (j:Nat) p x,ps'[j]?=some p→xs[j]?=some x→H' p=some (.tup [.int j,x]))→(∀ p∈ps',n0≤p)→R (.ok (.ret res)) s') →
   codeAny (model X.prog X.w) A (.builtin "list.extend.loop" ⟨[.ref S, .ref e, res], []⟩) R s:=by
 intro k
 induction k with
 | zero =>
  intro i s H ps hn0 hpn hk hi I st hit fe fi hq hS hl hps hR
  have hin:i=xs.length:=by omega
  subst hin
  refine codeAny_builtin PySem.F.entry_extend_loop ?_
  rw [Around.under_plainId PySem.F.plain_extend_loop _]
  show wpAny _ A.in1 (pyNext (.ref e) >>= _) _ _ s
  obtain ⟨its,rv,p',hz⟩:=I.tuple hq
  have p:s.heap.IsTuple a its.toArray:=p'
  have hlen:=rv.length
  obtain ⟨o1,q1,c1,d1⟩:=id hit
  obtain ⟨o2,q2,c2,n2,d2⟩:=id p
  have hai:a≠it:=fun z=>by
   subst z;rw [q1] at q2;cases q2;rw [c1] at c2;exact absurd c2 (by simp)
  have D:=Ax (prog:=X.prog) (w:=X.w) (A:=A.in1.in1) hA it a hai its.toArray
  have hsz:its.toArray.size=xs.length:=by simp;omega
  have hst:s.heap.IsTupleIter it a its.toArray.size∧s.heap.IsTuple a its.toArray:=by rw [hsz];exact ⟨hit,p⟩
  have fin:∀ h',Heap.ExtBut it s.heap h'→R (.ok (.ret res)) { s with heap:=h' }:=fun h' eb=>by
   obtain ⟨fi0,fi1,fi2,fi3,fi4,fi5⟩:=fi
   exact hR { s with heap:=h' } H ps (I.turned (t':=s.toks) (fun b o hb e=>eb b o hb e) fi0 fi1 fi3 fi4 fi5) (fun _ _ _ q=>q) hS hl hps hpn
  rcases st with ⟨old,he⟩ | ⟨T0,b,ys,old,hT0,he⟩
  ·exact wpAny_bind (wpAny_pyNext_enum_endD D he hst fun h' eb=>wpAny_pure (fin h' eb))
  ·exact wpAny_bind (QF D he hst fun h' eb=>wpAny_pure (fin h' eb))
 | succ k ih =>
  intro i s H ps hn0 hpn hk hi I st hit fe fi hq hS hl hps hR
  have hlt:i < xs.length:=by omega
  refine codeAny_builtin PySem.F.entry_extend_loop ?_
  rw [Around.under_plainId PySem.F.plain_extend_loop _]
  show wpAny _ A.in1 (pyNext (.ref e) >>= _) _ _ s
  obtain ⟨its,rv,p',hz⟩:=I.tuple hq
  have p:s.heap.IsTuple a its.toArray:=p'
  have hlen:=rv.length
  obtain ⟨o1,q1,c1,d1⟩:=id hit
  obtain ⟨o2,q2,c2,n2,d2⟩:=id p
  have hai:a≠it:=fun z=>by
   subst z;rw [q1] at q2;cases q2;rw [c1] at c2;exact absurd c2 (by simp)
  have heo : ∃ oe, s.heap.get? e = some oe ∧ oe.cls = .type "enumerate":=by
   rcases st with ⟨old,he⟩ | ⟨T0,b,ys,old,hT0,he⟩
   ·exact ⟨_,he,rfl⟩
   ·exact ⟨_,he,rfl⟩
  obtain ⟨oe,qe,ce⟩:=heo
  have hea:e≠a:=fun z=>by
   subst z;rw [qe] at q2;cases q2;rw [ce] at c2;exact absurd c2 (by simp)
  have D:=Ax (prog:=X.prog) (w:=X.w) (A:=A.in1.in1) hA it a hai its.toArray
  have hil:i < its.toArray.size:=by simp;omega
  have hx:xs[i]?=some xs[i]:=by simp [hlt]
  obtain ⟨u,hu,ru⟩:=rv.get hx
  have hSn:S≠e:=ak hS fe.1
  have hSi:S≠it:=ak hS fi.1
  have go:∀ (x':Value) (h':Heap) (tk:Nat),its.toArray[i]?=some x'→EnS e it (upd H s.heap.objs.size (.tup [.int i,xs[i]])) h' (i+1)→h'.IsTupleIter it a (i+1) →
    h'.get? s.heap.objs.size = some { cls:=.type "tuple", data:=.seq #[.int i tk, x'] } → h'.objs.size = s.heap.objs.size + 1 → (∀ b o, b ≠ e → b ≠ it → s.heap.get? b = some o → h'.get? b = some o) →
    wpAny (model X.prog X.w) A.in1 (Builtin.List.listUpdate (.ref S) (·.push (.ref s.heap.objs.size)) >>= fun _ => again (.builtin "list.extend.loop" ⟨[.ref S, .ref e, res], []⟩))
     (fun fin s'=>match fin with | .done f=>R (.ok f) s' | .again c'=>c'.quiet=true∧codeAny (model X.prog X.w) A c' R s') (fun e s'=>R (.error e) s') { s with heap:=h',toks:=tk+1 }:=by
   intro x' h' tk hx' hEn hit' hT hsz' hkp
   have ex:x'=u:=by
    have z:its.toArray[i]?=some u:=by simpa using hu
    rw [z] at hx';exact (Option.some.inj hx').symm
   subst ex
   have hTn:H s.heap.objs.size=none:=I.hok.fresh (Nat.le_refl _)
   have I2:=Rj (tk':=tk+1) I fe fi hkp hT ru
   have hST:S≠s.heap.objs.size:=ak hS hTn
   have hS2:(upd H s.heap.objs.size (.tup [.int i,xs[i]])) S=some (.lst (ps.map V.ref)):=by rw [ao hST];exact hS
   obtain ⟨z,its2,n2,r2,hl2,e2⟩:=I2.lstM hS2
   refine wpAny_bind ?_
   show wpAny _ _ (updateSeq S (·.push (.ref s.heap.objs.size))) _ _ _
   have lenps:its2.length=i:=by rw [← hl2,List.length_map];exact hl
   refine wpAny_updateSeq e2 rfl ?_ (by rw [List.size_toArray];omega) (by show (its2.toArray.push _).size≤sizeLine+1;rw [Array.size_push,List.size_toArray];omega)
   refine wpAny_pure ⟨plainId_quiet PySem.F.plain_extend_loop _,?_⟩
   have I3:=I2.lset (t':=tk+1) (its':=its2++[.ref s.heap.objs.size]) (ys:=(ps++[s.heap.objs.size]).map V.ref) (f:=(·.push (.ref s.heap.objs.size))) hS2 e2 (by simp) (by rw [List.map_append];exact r2.append (.cons rfl .nil)) (by rw [List.length_map,List.length_append,List.length_singleton];omega)
   have hnS:∀ b,b≠S→(upd (upd H s.heap.objs.size (.tup [.int i,xs[i]])) S (.lst ((ps++[s.heap.objs.size]).map V.ref))) b=(upd H s.heap.objs.size (.tup [.int i,xs[i]])) b:=fun b hb=>ao hb
   have elt:e < s.heap.objs.size:=Heap.lt_size qe
   have ilt:it < s.heap.objs.size:=Heap.lt_size q1
   have oldK:∀ b o,b≠S→H b=some o→(upd (upd H s.heap.objs.size (.tup [.int i,xs[i]])) S (.lst ((ps++[s.heap.objs.size]).map V.ref))) b=some o:=fun b o hb q=>by
    rw [hnS b hb,ao (ak q hTn)];exact q
   refine ih (i+1) _ _ (ps++[s.heap.objs.size]) (by show n0≤(h'.update S _).objs.size;rw [Heap.size_update,hsz'];omega) (fun p hp=>(List.mem_append.mp hp).elim (hpn p) fun z=>by rw [List.mem_singleton.mp z];exact hn0) (by omega) hlt I3 ?_ ?_ ?_ ?_ ?_ aC (by rw [List.length_append,List.length_singleton];omega) ?_ fun s' H' ps' I' k' hS' hl' hp' ho'=>?_
   ·-- the enumerate object
    rcases hEn with ⟨old,he⟩ | ⟨T0,b,ys,old,hT0,he⟩
    ·exact .inl ⟨old,(Heap.get?_update_other _ _ hSn).trans he⟩
    ·exact .inr ⟨T0,b,ys,old,by rw [ao (KZ hT0 hS2 (by intro z;cases z))];exact hT0,(Heap.get?_update_other _ _ hSn).trans he⟩
   ·obtain ⟨o,q,r⟩:=hit'
    exact ⟨o,(Heap.get?_update_other _ _ hSi).trans q,r⟩
   ·exact ⟨by rw [hnS e (Ne.symm hSn),ao (Nat.ne_of_lt elt)];exact fe.1,fe.2⟩
   ·exact ⟨by rw [hnS it (Ne.symm hSi),ao (Nat.ne_of_lt ilt)];exact fi.1,fi.2⟩
   ·refine yH hq fun o hno q=>oldK a o ?_ q
    exact KZ q hS (hno _)
   ·intro j pp x hj hxj
    by_cases hji:j < ps.length
    ·rw [List.getElem?_append_left hji] at hj
     have q:=hps j pp x hj hxj
     exact oldK pp _ (KZ q hS (by intro z;cases z)) q
    ·have hje:j=i:=by
      have:=(List.getElem?_eq_some_iff.mp hj).1
      rw [List.length_append,List.length_singleton] at this
      omega
     subst hje
     rw [List.getElem?_append_right (by omega),hl] at hj
     simp at hj
     subst hj
     rw [hx] at hxj
     cases hxj
     rw [hnS _ (Ne.symm hST),aC]
   ·exact hR s' H' ps' I' (fun b o hb q=>k' b o hb (oldK b o hb q)) hS' hl' hp' ho'
  rcases st with ⟨old,he⟩ | ⟨T0,b,ys,old,hT0,he⟩
  ·refine wpAny_bind (wpAny_pyNext_enum_itemD D he ⟨hit,p⟩ hil hei (by simp [hei,hea]) fun x' h' tk hPx hout hst' hT hsz hk=>?_)
   exact go x' h' tk hPx (.inr ⟨s.heap.objs.size,false,_,x',aC,by simpa using hout⟩) hst'.1 hT hsz hk
  ·obtain ⟨o0,q0⟩:∃ o0,s.heap.get? T0=some o0:=by
    obtain ⟨_,_,_,o0,q0,_⟩:=(show cO X.prog X.w H s.heap T0 (.tup ys) from I.hok T0 _ hT0)
    exact ⟨o0,q0⟩
   have hTn:H s.heap.objs.size=none:=I.hok.fresh (Nat.le_refl _)
   refine wpAny_bind (Ln D he q0 (ak hT0 fe.1) (ak hT0 fi.1) ⟨hit,p⟩ hil hei (by simp [hei,hea]) fun x' h' tk hPx hout hst' hT hsz hk=>?_)
   exact go x' h' tk hPx (.inr ⟨T0,true,ys,old,by rw [ao (ak hT0 hTn)];exact hT0,by simpa using hout⟩) hst'.1 hT hsz hk
noncomputable def tLE (K:PySem.W.Frag) (ta:TA):TE:=fun σ H Q=>ta σ H fun vs H1=>∃ a xs,vs=[.ref a]∧SqT K H1 a xs ∧
 ∀ (S:Addr) (H':Hp) (ps:List Addr),H1 S=none→(∀ p∈ps,H1 p=none)→(∀ b o,H1 b=some o→H' b=some o)→H' S=some (.lst (ps.map V.ref))→ps.length=xs.length →
  (∀ (j:Nat) p x,ps[j]?=some p→xs[j]?=some x→H' p=some (.tup [.int j,x]))→Q (.ref S) H'
theorem Jw {a : Expr} {ta : TA} {p pos p2 pos2 : Pos} (hc : X.calm = true) (hg : Gl X "enumerate") (hm : X.mg "enumerate" = none) (hgl : Gl X "list") (hml : X.mg "list" = none) (ha : PA X [a] ta) (hs : starEach [a] X.env = [(false, eval a X.env)]:=by rfl) :
  PE X (.Call (.Name "list" p) [.Call (.Name "enumerate" p2) [a] [] pos2] [] pos) (tLE X.K ta):=by
 intro pins s σ H Q I h
 refine Call_ (fL I hgl hml boot_list (PyProof.Rows.callWith_type1 (Calls.spliced_cons ?_) rfl rfl))
 refine Call_ (fL I hg hm uz (PyProof.Rows.callWith_type1 (thn (ha pos2 pins s σ H _ I h) fun us s1 ⟨vs,H1,I1,r1,q1⟩=>?_) hs rfl))
 obtain ⟨b,xs,rfl,hq,q⟩:=q1
 obtain ⟨u,rfl,ru⟩:=vals1 r1
 cases ru
 obtain ⟨its,rv,p0,hz⟩:=I1.tuple hq
 refine Bc (show s1.heap.IsTuple b its.toArray from p0) fun h' he hit hsz hk=>?_
 refine Calls.spliced_nil ?_
 have I2:Inv X pins σ H1 { s1 with heap:=h' }:=I1.kept (t':=s1.toks) hk
 have fe:iG X pins H1 (s1.heap.objs.size+1):=I1.fpOk (Nat.le_succ _) (I1.hok.fresh (Nat.le_succ _))
 have fi:iG X pins H1 s1.heap.objs.size:=I1.fpOk (Nat.le_refl _) (I1.hok.fresh (Nat.le_refl _))
 refine callType_codes (Q₁:=fun obj s₁ => obj = .ref h'.objs.size ∧ s₁ = { s1 with heap:=h'.push { cls:=.type "list", data:=.seq #[] } }) PySem.F.called_list (PySem.F.typeCall_list_1 _) PySem.F.entry_list_init
  (code_list_new _ ⟨rfl,rfl⟩) fun obj s₁ h₁=>?_
 obtain ⟨rfl,rfl⟩:=h₁
 have hS : (h'.push { cls:=.type "list", data:=.seq #[] }).get? h'.objs.size = some { cls:=.type "list", data:=.seq #[] }:=Heap.get?_push_size _ rfl
 have hSn:H1 h'.objs.size=none:=I2.hok.fresh (Nat.le_refl _)
 have I3 : Inv X pins σ (upd H1 h'.objs.size (.lst [])) { s1 with heap:=h'.push { cls:=.type "list", data:=.seq #[] } } :=
  I2.laid (t':=s1.toks) (fun b o e=>Heap.get?_push_of_some _ e) (Nat.le_refl _) ⟨by simp,[],0,.nil,hS⟩
 refine ⟨⟨_,hS,rfl⟩,PySem.F.args_list_init_2 _ _,?_⟩
 have elt:s1.heap.objs.size+1 < h'.objs.size:=by rw [hsz];exact Nat.lt_succ_self _
 have ilt:s1.heap.objs.size < h'.objs.size:=Nat.lt_trans (Nat.lt_succ_self _) elt
 have hSe:h'.objs.size≠s1.heap.objs.size+1:=Nat.ne_of_gt elt
 have hSi:h'.objs.size≠s1.heap.objs.size:=Nat.ne_of_gt ilt
 show wpAny _ _ (do let old ← Builtin.List.listItems (.ref h'.objs.size);Builtin.List.listUpdate (.ref h'.objs.size) (fun _=>#[]);letGo old.toList.reverse;Builtin.List.listExtendWith (.ref h'.objs.size) (.ref (s1.heap.objs.size+1)) .none) _ _ _
 refine wpAny_bind ?_
 unfold Builtin.List.listItems
 refine wpAny_bind (wpAny_seqItems hS rfl (wpAny_pure ?_))
 show wpAny _ _ (updateSeq h'.objs.size (fun _=>#[]) >>= fun _=>letGo (#[]:Array Value).toList.reverse >>= fun _=>Builtin.List.listExtendWith (.ref h'.objs.size) (.ref (s1.heap.objs.size+1)) .none) _ _ _
 refine wpAny_bind (wpAny_updateSeq hS rfl ?_)
 have I4:=I3.lset (t':=s1.toks) (its':=[]) (ys:=[]) (f:=fun _=>#[]) aC (its:=[]) hS rfl .nil (by simp)
 rw [Bf] at I4
 have hS2:=Heap.get?_update_self (Obj.mapSeq (fun _=>(#[]:Array Value))) hS rfl
 have he1 : IsEnum (h'.push { cls:=.type "list", data:=.seq #[] }) (s1.heap.objs.size + 1) s1.heap.objs.size 0 .none:=Heap.get?_push_of_some _ he
 have he2 : IsEnum ((h'.push { cls:=.type "list", data:=.seq #[] }).update h'.objs.size (Obj.mapSeq (fun _ => (#[] : Array Value)))) (s1.heap.objs.size + 1) s1.heap.objs.size 0 .none:=(Heap.get?_update_other _ _ hSe).trans he1
 have hit2 : ((h'.push { cls:=.type "list", data:=.seq #[] }).update h'.objs.size (Obj.mapSeq (fun _ => (#[] : Array Value)))).IsTupleIter s1.heap.objs.size b 0:=by
  obtain ⟨o,e,r⟩:=hit
  exact ⟨o,(Heap.get?_update_other _ _ hSi).trans (Heap.get?_push_of_some _ e),r⟩
 refine wpAny_bind (wpAny_letGo ?_)
 unfold Builtin.List.listExtendWith
 have hT2 : Shared.TypeIs { s1 with heap:=(h'.push { cls:=.type "list", data:=.seq #[] }).update h'.objs.size (Obj.mapSeq (fun _ => (#[] : Array Value))) } (.ref (s1.heap.objs.size + 1)) "enumerate":=⟨_, he2, rfl⟩
 refine wpAny_bind (wpAny_typeOf hT2 ?_)
 have h1:Builtin.List.listSameRef (.ref h'.objs.size) (.ref (s1.heap.objs.size+1))=false:=by simp [Builtin.List.listSameRef,hSe]
 have h2 : (Value.type "enumerate" == Value.type "list") = false:=by decide
 have h3 : (Value.type "enumerate" == Value.type "tuple") = false:=by decide
 simp only [h1,h2,h3,Bool.or_false,Bool.false_eq_true,if_false]
 refine wpAny_bind (wpAny_pyIter_enum he2 ?_)
 refine wpAny_bind (wpAny_holding ?_)
 unfold Builtin.List.listLengthHint
 refine wpAny_bind (wpAny_specialOf hT2 Iw ?_)
 show wpAny _ _ (specialOf (Value.ref (s1.heap.objs.size + 1)) (Str.ofString "__length_hint__") >>= _) _ _ _
 refine wpAny_bind (wpAny_specialOf hT2 Ho ?_)
 refine wpAny_pure ?_
 simp only [Bool.true_or,if_true]
 refine wpAny_bind (wpAny_rule ?_)
 refine wpAny_bind ?_
 show wpAny _ _ (updateSeq h'.objs.size (·.push .none) >>= fun _=>updateSeq h'.objs.size (·.pop)) _ _ _
 refine wpAny_bind (wpAny_updateSeq hS2 rfl ?_)
 have hS3:=Heap.get?_update_self (Obj.mapSeq (·.push Value.none)) hS2 rfl
 refine wpAny_updateSeq (hz:=by seq_fits) hS3 rfl ?_
 obtain ⟨z4,its4,n4,r4,hl4,e4⟩:=I4.lstM aC
 have en4:its4=[]:=by
  cases its4 with
  | nil=>rfl
  | cons a l=>simp at hl4
 subst en4
 have I5:=I4.lset (t':=s1.toks) (its':=[.none]) (ys:=[.non]) (f:=(·.push Value.none)) aC e4 (by simp) (.cons rfl .nil) (by show 1≤sizeLine;decide)
 rw [Bf] at I5
 obtain ⟨z5,its5,n5,r5,hl5,e5⟩:=I5.lstM aC
 obtain ⟨u5,e5',ru5⟩:=r5.one
 subst e5'
 have I6:=I5.lset (t':=s1.toks) (its':=[]) (ys:=[]) (f:=(·.pop)) aC e5 (by simp) .nil (by simp)
 rw [Bf] at I6
 refine wpAny_pure ⟨plainId_quiet PySem.F.plain_extend_loop _,?_⟩
 refine Dz (A:=X.A.in1) (a:=b) (e:=s1.heap.objs.size+1) (it:=s1.heap.objs.size) (S:=h'.objs.size) (xs:=xs) (n0:=s1.heap.objs.size) (I1.ok.hd hc) (Nat.succ_ne_self _) xs.length 0 _ (upd H1 h'.objs.size (.lst [])) [] ?_ (fun _ z=>by simp at z) rfl (Nat.zero_le _) I6 ?_ ?_ ?_ ?_ ?_ aC rfl (fun j p x z=>by simp at z) fun s' H' ps' I' k' hS' hl' hp' hn'=>?_
 ·exact Nat.le_of_lt (Nat.lt_trans ilt (Heap.lt_size (show Heap.get? _ h'.objs.size=some _ from Heap.get?_update_self (Obj.mapSeq (·.pop)) hS3 rfl)))
 ·exact .inl ⟨.none,(Heap.get?_update_other _ _ hSe).trans ((Heap.get?_update_other _ _ hSe).trans he2)⟩
 ·obtain ⟨o,e,r⟩:=hit2
  exact ⟨o,(Heap.get?_update_other _ _ hSi).trans ((Heap.get?_update_other _ _ hSi).trans e),r⟩
 ·exact ⟨by rw [ao (Ne.symm hSe)];exact fe.1,fe.2⟩
 ·exact ⟨by rw [ao (Ne.symm hSi)];exact fi.1,fi.2⟩
 ·exact yH hq fun o hno e=>by rw [ao (ak e hSn)];exact e
 ·refine ⟨rfl,.ref h'.objs.size,H',I',rfl,q _ H' ps' hSn (fun p hp=>I1.hok.fresh (hn' p hp)) (fun c o e=>k' c o (ak e hSn) (by rw [ao (ak e hSn)];exact e)) hS' hl' hp'⟩
end
end Mi
namespace Mi
open PySem PySem.W PyProof.Rows
noncomputable def dg {α:Type} (r:Nat→Int) (N:Nat):KasT α→(α→Prop)→Prop
 | .ret a,Q=>Q a
 | .ask i j k,Q=>i < N∧j < N∧dg r N (k (decide (r i < r j))) Q
theorem dg.bind {α β:Type}{r:Nat→Int}{N:Nat}{f:α→KasT β}{Q:β→Prop}:∀ {t:KasT α},dg r N t (fun a=>dg r N (f a) Q)→dg r N (t.bind f) Q
 | .ret a,h=>h
 | .ask i j k,h=>⟨h.1,h.2.1,dg.bind (t:=k _) h.2.2⟩
theorem dg.wp {α:Type}{r:Nat→Int}{N:Nat}{cmp:Nat→Nat→(Bool→Shared→Prop)→Shared→Prop}{s:Shared} (hc:∀ i j C,i < N→j < N→C (decide (r i < r j)) s→cmp i j C s) {Q:α→Shared→Prop} :
  ∀ {t:KasT α},dg r N t (fun a=>Q a s)→t.kasWp cmp Q s
 | .ret a,h=>h
 | .ask i j k,h=>hc i j _ h.1 h.2.1 (dg.wp hc (t:=k _) h.2.2)
theorem Dk {α:Type}{r:Nat→Int}{N:Nat}{Q Q':α→Prop}:∀ {t:KasT α},dg r N t Q→(∀ a,Q a→Q' a)→dg r N t Q'
 | .ret a,h,k=>k a h
 | .ask i j f,h,k=>⟨h.1,h.2.1,Dk (t:=f _) h.2.2 k⟩
noncomputable def Kp (r:Nat→Int) (p:Array Nat) (i:Nat):Int:=match p[i]? with
 | some x=>r x
 | none=>0
noncomputable def jK (r:Nat→Int) (p:Array Nat) (k:Nat):Prop:=∀ i j,i≤j→j < k→Kp r p i≤Kp r p j
noncomputable def Ab (r:Nat→Int) (p:Array Nat) (k:Nat):Prop:=∀ i j,i≤j→j < k→Kp r p j≤Kp r p i
structure PB (N:Nat) (p:Array Nat):Prop where
 perm:p.Perm (List.range N).toArray
theorem PB.size {N:Nat}{p:Array Nat} (h:PB N p):p.size=N:=by rw [h.perm.size_eq];simp
theorem PB.lt {N:Nat}{p:Array Nat} (h:PB N p) {i:Nat} (hi:i < N):p.getD i 0 < N:=by
 have hs:=h.size
 have e:p.getD i 0=p[i]:=by simp [Array.getD,hs,hi]
 have hm:p[i]∈(List.range N):=by
  have:=(Array.perm_iff_toList_perm.mp h.perm).mem_iff (a:=p[i])
  simp at this
  simpa using this
 rw [e]
 simpa using hm
theorem PB.mir {N:Nat}{p:Array Nat} (h:PB N p) (i j d:Nat):PB N (mirror p i j d):=⟨(mirror_perm _ _ _ _).trans h.perm⟩
theorem PB.bub {N:Nat}{p:Array Nat} (h:PB N p) (i d:Nat):PB N (bubble p i d):=⟨(bubble_perm _ _ _).trans h.perm⟩
variable {r:Nat→Int}{N:Nat}
theorem J3 {p:Array Nat}{i:Nat} (hi:i < p.size):r (p.getD i 0)=Kp r p i:=by
 unfold Kp
 simp [Array.getD,hi]
theorem nZ {p q:Array Nat}{i j:Nat} (h:p[i]?=q[j]?):Kp r p i=Kp r q j:=by unfold Kp;rw [h]
theorem BZ {xs:Array Nat}{src d:Nat} (hs:src < xs.size) (hd:d≤src) (k:Nat) :
  Kp r (bubble xs src d) k=if k=src - d then Kp r xs src else if src - d < k∧k≤src then Kp r xs (k - 1) else Kp r xs k:=by
 have e:=getElem?_bubble hs d hd k
 by_cases h1:k=src - d
 ·rw [if_pos h1] at e ⊢;exact nZ e
 ·rw [if_neg h1] at e ⊢
  by_cases h2:src - d < k∧k≤src
  ·rw [if_pos h2] at e ⊢;exact nZ e
  ·rw [if_neg h2] at e ⊢;exact nZ e
theorem uW {xs:Array Nat}{i j:Nat} (hj:j≤xs.size) (k:Nat) :
  Kp r (mirror xs i j ((j - i) / 2)) k=if i≤k∧k < j then Kp r xs (i+j - 1 - k) else Kp r xs k:=by
 have e:=getElem?_mirror_all (i:=i) hj k
 by_cases h1:i≤k∧k < j
 ·rw [if_pos h1] at e ⊢;exact nZ e
 ·rw [if_neg h1] at e ⊢;exact nZ e
theorem fK {xs:Array Nat}{i j:Nat} (hj:j≤xs.size) (heq:∀ k,i≤k→k < j→Kp r xs k=Kp r xs (j - 1)) (k:Nat) :
  Kp r (mirror xs i j ((j - i) / 2)) k=Kp r xs k:=by
 rw [uW hj]
 split
 ·rw [heq _ (by omega) (by omega),heq k (by omega) (by omega)]
 ·rfl
theorem Ii {α:Type}{p:Array Nat}{i j:Nat}{k:Bool→KasT α}{Q:α→Prop} (hB:PB N p) (hi:i < N) (hj:j < N) (h:dg r N (k (decide (Kp r p i < Kp r p j))) Q):dg r N (.ask (p.getD i 0) (p.getD j 0) k) Q:=by
 refine ⟨hB.lt hi,hB.lt hj,?_⟩
 rw [J3 (r:=r) (p:=p) (i:=i) (by rw [hB.size];exact hi),J3 (r:=r) (p:=p) (i:=j) (by rw [hB.size];exact hj)]
 exact h
theorem Rv {p:Array Nat}{nrem:Nat} (hB:PB N p) (hz:nrem≤N):∀ (f a:Nat) {Q:Nat→Prop},nrem - a=f→1≤a→a≤nrem→jK r p a →
  (∀ n,a≤n→n≤nrem→jK r p n→(n=nrem∨Kp r p n < Kp r p (n - 1))→Q n)→dg r N (kas_asc p f a) Q
 | 0,a,Q,hf,h1,ha,hs,h=>h a (Nat.le_refl _) ha hs (.inl (by omega))
 | f+1,a,Q,hf,h1,ha,hs,h=>by
  refine Ii hB (by omega) (by omega) ?_
  by_cases hless:Kp r p a < Kp r p (a - 1)
  ·simp only [hless,decide_true,if_true]
   exact h a (Nat.le_refl _) ha hs (.inr hless)
  ·simp only [hless,decide_false,Bool.false_eq_true,if_false]
   refine Rv hB hz f (a+1) (by omega) (by omega) (by omega) (fun i j hij hj=>?_) fun n h1 h2 h3 h4=>h n (by omega) h2 h3 h4
   by_cases hjx:j < a
   ·exact hs i j hij hjx
   ·have hj':j=a:=by omega
    subst hj'
    by_cases hi':i=j
    ·subst hi';exact Int.le_refl _
    ·exact Int.le_trans (hs i (j - 1) (by omega) (by omega)) (Int.not_lt.mp hless)
theorem PN {p:Array Nat}{n nrem:Nat}{Q:Nat × Array Nat→Prop} (hB:PB N p) (hz:nrem≤N) (h1:1≤n) (hn:n≤nrem) (hs:Ab r p n)
  (h:∀ m p',PB N p'→1≤m→m≤nrem→jK r p' m→Q (m,p')):dg r N (kas_tail3 n nrem p) Q:=by
 unfold kas_tail3 kas_rev
 have hsz:n≤p.size:=by rw [hB.size];omega
 refine dg.bind (Rv (hB.mir _ _ _) hz _ n rfl h1 hn (fun i j hij hj=>?_) fun m hm1 hm2 hsm _=>h m _ (hB.mir _ _ _) (by omega) hm2 hsm)
 rw [uW hsz,uW hsz,if_pos (by omega),if_pos (by omega)]
 exact hs _ _ (by omega) (by omega)
theorem Er {nrem:Nat} (hz:nrem≤N):∀ (f:Nat) (p:Array Nat) (x q:Nat) {Q:Array Nat × Nat × Nat→Prop},PB N p→nrem - x=f→1≤x→x≤nrem→Ab r p x→q+1≤x →
  (∀ i,x - (q+1)≤i→i < x→Kp r p i=Kp r p (x - 1)) →
  (∀ p' m neq,PB N p'→x≤m→m≤nrem→Ab r p' m→neq+1≤m→(∀ i,m - (neq+1)≤i→i < m→Kp r p' i=Kp r p' (m - 1))→Q (p',m,neq))→dg r N (kas_desc f p x q) Q
 | 0,p,x,q,Q,hB,hf,h1,hx,hs,hq,he,h=>h p x q hB (Nat.le_refl _) hx hs hq he
 | f+1,p,x,q,Q,hB,hf,h1,hx,hs,hq,he,h=>by
  have hsz:x≤p.size:=by rw [hB.size];omega
  refine Ii hB (by omega) (by omega) ?_
  by_cases hless:Kp r p x < Kp r p (x - 1)
  ·simp only [hless,decide_true,if_true]
   have step1:∀ xs:Array Nat,(∀ k,Kp r xs k=Kp r p k)→Ab r xs (x+1):=by
    intro xs hk i j hij hj
    rw [hk,hk]
    by_cases hjx:j < x
    ·exact hs i j hij hjx
    ·have hj':j=x:=by omega
     subst hj'
     by_cases hi':i=j
     ·subst hi';exact Int.le_refl _
     ·exact Int.le_trans (Int.le_of_lt hless) (hs i (j - 1) (by omega) (by omega))
   by_cases hneq:q > 0
   ·rw [if_pos hneq]
    refine Er hz f _ (x+1) 0 (hB.mir _ _ _) (by omega) (by omega) (by omega) (step1 _ (fK hsz he)) (by omega) (fun i h1 h2=>by congr 1;omega) fun p' m neq a b c d e g=>h p' m neq a (by omega) c d e g
   ·rw [if_neg hneq]
    exact Er hz f _ (x+1) 0 hB (by omega) (by omega) (by omega) (step1 _ fun _=>rfl) (by omega) (fun i h1 h2=>by congr 1;omega) fun p' m neq a b c d e g=>h p' m neq a (by omega) c d e g
  ·simp only [hless,decide_false,Bool.false_eq_true,if_false]
   refine Ii hB (by omega) (by omega) ?_
   by_cases hlarger:Kp r p (x - 1) < Kp r p x
   ·simp only [hlarger,decide_true,if_true]
    exact h p x q hB (Nat.le_refl _) (by omega) hs hq he
   ·simp only [hlarger,decide_false,Bool.false_eq_true,if_false]
    have heqx:Kp r p x=Kp r p (x - 1):=by omega
    refine Er hz f _ (x+1) (q+1) hB (by omega) (by omega) (by omega) (fun i j hij hj=>?_) (by omega) (fun i h1 h2=>?_) fun p' m neq a b c d e g=>h p' m neq a (by omega) c d e g
    ·by_cases hjx:j < x
     ·exact hs i j hij hjx
     ·have hj':j=x:=by omega
      subst hj'
      by_cases hi':i=j
      ·subst hi';exact Int.le_refl _
      ·rw [heqx];exact hs i (j - 1) (by omega) (by omega)
    ·rw [show x+1 - 1=x by omega]
     by_cases hix:i=x
     ·subst hix;rfl
     ·rw [heqx];exact he i (by omega) (by omega)
theorem Cr {p:Array Nat}{n nrem:Nat}{Q:Nat × Array Nat→Prop} (hB:PB N p) (hz:nrem≤N) (hnn:n+1≤nrem) (hs:Ab r p (n+1))
  (h:∀ m p',PB N p'→1≤m→m≤nrem→jK r p' m→Q (m,p')):dg r N (kas_descPart n nrem p) Q:=by
 unfold kas_descPart
 refine dg.bind (Er hz _ p (n+1) 0 hB rfl (by omega) hnn hs (by omega) (fun i h1 h2=>by congr 1;omega) fun p' m neq hB' hm1 hm2 hs' hq he=>?_)
 dsimp only
 have hsz:m≤p'.size:=by rw [hB'.size];omega
 by_cases hneq:neq > 0
 ·rw [if_pos hneq]
  refine PN (hB'.mir _ _ _) hz (by omega) hm2 (fun i j hij hj=>?_) h
  have e1:=fK (r:=r) hsz he i
  have e2:=fK (r:=r) hsz he j
  show Kp r (mirror p' _ _ _) j≤Kp r (mirror p' _ _ _) i
  rw [e1,e2]
  exact hs' i j hij hj
 ·rw [if_neg hneq]
  exact PN hB' hz (by omega) hm2 hs' h
theorem YK {p:Array Nat}{nrem:Nat}{Q:Nat × Array Nat→Prop} (hB:PB N p) (hz:nrem≤N) (h1:1≤nrem)
  (h:∀ m p',PB N p'→1≤m→m≤nrem→jK r p' m→Q (m,p')):dg r N (kas_count nrem p) Q:=by
 unfold kas_count
 refine dg.bind (Rv hB hz _ 1 rfl (Nat.le_refl 1) h1 (fun i j hij hj=>by have:i=j:=(by omega);subst this;exact Int.le_refl _) fun n hn1 hn2 hsn hor=>?_)
 by_cases hnn:n=nrem
 ·rw [if_pos (by simpa using hnn)]
  exact h n p hB hn1 hn2 hsn
 ·rw [if_neg (by simpa using hnn)]
  have hlt:Kp r p n < Kp r p (n - 1):=hor.resolve_left hnn
  by_cases hgt:n > 1
  ·rw [if_pos hgt]
   refine Ii hB (by omega) (by omega) ?_
   by_cases hrose:Kp r p 0 < Kp r p (n - 1)
   ·simp only [hrose,decide_true,if_true]
    exact h n p hB hn1 hn2 hsn
   ·simp only [hrose,decide_false,Bool.false_eq_true,if_false]
    have hsz:n≤p.size:=by rw [hB.size];omega
    have hall:∀ k,0≤k→k < n→Kp r p k=Kp r p (n - 1):=by
     intro k _ hk
     have a1:=hsn 0 k (by omega) hk
     have a2:=hsn k (n - 1) (by omega) (by omega)
     omega
    refine Cr (hB.mir _ _ _) hz (by omega) (fun i j hij hj=>?_) h
    have e1:=fK (r:=r) hsz hall i
    have e2:=fK (r:=r) hsz hall j
    show Kp r (mirror p _ _ _) j≤Kp r (mirror p _ _ _) i
    rw [e1,e2]
    by_cases hjn:j < n
    ·rw [hall i (by omega) (by omega),hall j (by omega) hjn];exact Int.le_refl _
    ·have hj':j=n:=by omega
     subst hj'
     by_cases hi':i=j
     ·subst hi';exact Int.le_refl _
     ·rw [hall i (by omega) (by omega)];exact Int.le_of_lt hlt
  ·rw [if_neg hgt]
   have hn1':n=1:=by omega
   subst hn1'
   refine Cr hB hz (by omega) (fun i j hij hj=>?_) h
   by_cases hi':i=j
   ·subst hi';exact Int.le_refl _
   ·have hi0:i=0:=by omega
    have hj1:j=1:=by omega
    subst hi0;subst hj1
    exact Int.le_of_lt hlt
theorem Gm {p:Array Nat}{k:Nat} (hB:PB N p) (hk:k < N) (hs:jK r p k):∀ (f l rr:Nat) {Q:Nat→Prop},l≤rr→rr≤k→rr - l≤f→(∀ i,i < l→Kp r p i≤Kp r p k)→(∀ i,rr≤i→i < k→Kp r p k < Kp r p i) →
  (∀ l,l≤k→(∀ i,i < l→Kp r p i≤Kp r p k)→(∀ i,l≤i→i < k→Kp r p k < Kp r p i)→Q l)→dg r N (kas_place p k f l rr) Q
 | 0,l,rr,Q,hlr,hrk,hm,hlo,hhi,h=>h l (by omega) hlo fun i h1 h2=>hhi i (by omega) h2
 | f+1,l,rr,Q,hlr,hrk,hm,hlo,hhi,h=>by
  unfold kas_place
  by_cases hge:l ≥ rr
  ·rw [if_pos hge]
   exact h l (by omega) hlo fun i h1 h2=>hhi i (by omega) h2
  ·rw [if_neg hge]
   refine Ii hB hk (by omega) ?_
   by_cases hless:Kp r p k < Kp r p ((l+rr) / 2)
   ·simp only [hless,decide_true,if_true]
    refine Gm hB hk hs f l _ (by omega) (by omega) (by omega) hlo (fun i h1 h2=>?_) h
    exact Int.lt_of_lt_of_le hless (hs _ _ h1 h2)
   ·simp only [hless,decide_false,Bool.false_eq_true,if_false]
    refine Gm hB hk hs f _ rr (by omega) (by omega) (by omega) (fun i h1=>?_) hhi h
    exact Int.le_trans (hs i ((l+rr) / 2) (by omega) (by omega)) (Int.not_lt.mp hless)
theorem X3 {nrem:Nat} (hz:nrem≤N):∀ (f:Nat) (p:Array Nat) (k:Nat) {Q:Array Nat→Prop},PB N p→nrem - k=f→k≤nrem→jK r p k→(∀ p',PB N p'→jK r p' nrem→Q p')→dg r N (kas_bin f p k) Q
 | 0,p,k,Q,hB,hf,hk,hs,h=>h p hB (by rw [show nrem=k by omega];exact hs)
 | f+1,p,k,Q,hB,hf,hk,hs,h=>by
  refine dg.bind (Gm hB (by omega) hs k 0 k (by omega) (by omega) (by omega) (fun i h=>by omega) (fun i h1 h2=>by omega) fun l hlk hlo hhi=>?_)
  refine X3 hz f _ (k+1) (hB.bub _ _) (by omega) (by omega) (fun i j hij hj=>?_) h
  have hks:k < p.size:=by rw [hB.size];omega
  rw [BZ hks (by omega),BZ hks (by omega),show k - (k - l)=l by omega]
  repeat' split
  all_goals first
   | (exfalso;omega)
   | exact Int.le_refl _
   | exact hlo _ (by omega)
   | exact Int.le_of_lt (hhi _ (by omega) (by omega))
   | exact hs _ _ (by omega) (by omega)
theorem ZG (h1:1≤N):dg r N (kas_sort N) (fun p=>PB N p∧jK r p N):=by
 unfold kas_sort
 refine dg.bind (YK (p:=(List.range N).toArray) ⟨Array.Perm.refl _⟩ (Nat.le_refl _) h1 fun m p' hB hm1 hm2 hs=>?_)
 dsimp only
 by_cases hlt:m < N
 ·rw [if_pos hlt]
  rw [show max m 1=m by omega]
  exact X3 (Nat.le_refl _) _ p' m hB rfl (by omega) hs fun p' a b=>⟨a,b⟩
 ·rw [if_neg hlt]
  exact ⟨hB,by rw [show N=m by omega];exact hs⟩
end Mi
namespace Mi
open PySem L2
open PyProof.Rows hiding St
mutual
noncomputable def bI:D→D→Bool
 | .int _,.int _=>true
 | .tup a,.tup b=>fJ a b
 | _,_=>false
noncomputable def fJ:List D→List D→Bool
 | a::as,b::bs=>if a=b then fJ as bs else bI a b
 | [],_=>true
 | _::_,[]=>true
end
theorem jQ:∀ {ds:List D}{d:D},bw ds=true→d∈ds→keyOk d=true
 | x::ds,d,h,hd=>by
  rw [bw,Bool.and_eq_true] at h
  rcases List.mem_cons.mp hd with e | hd
  ·rw [e];exact h.1
  ·exact jQ h.2 hd
noncomputable def M8 (A:Around) (s:Shared) (u v:Value) (b:Bool):Prop :=
 ∀ (prog:Program) (w:World) (E:Value→Shared→Prop) (Q:Value→Shared→Prop),Q (.bool b) s→wpAny (model prog w) A (richCompare .Lt u v) Q E s
section
open PySem.SeqAt
open PySem.AutoSeq1 (wpAny_loadPart')
open PySem.MeetsSeq PySem.MeetsSeq2 PySem.MeetsSeq3
theorem Qe (l b:Addr) (items items2:Array Value) (n n2:Nat) (dd dd2:Option Addr) (sl sl2:Array (Option Value)) (ds es:List D) (hk:bw ds=true) (hk2:bw es=true) (hc:fJ ds es=true) :
  Meets (Builtin.«tuple.__lt__» ⟨[.ref l,.ref b],[]⟩)
   (fun A R s => s.heap.get? l = some { cls:=.type "tuple", dict:=dd, data:=.seq items n, slots:=sl } ∧ s.heap.get? b = some { cls:=.type "tuple", dict:=dd2, data:=.seq items2 n2, slots:=sl2 } ∧
    aD s.heap ds items.toList∧aD s.heap es items2.toList∧A.units+1+deps ds < cLine∧A.units+1+deps es < cLine ∧
    (∀ d∈ds,∀ e∈es,∀ u v,bI d e=true→RpV s.heap d u→RpV s.heap e v→M8 A.in1 s u v (ltD d e)) ∧
    R (.ok (.ret (.bool (bJ ds es)))) s) :=
 .of_wp fun prog w A R s h=>by
  obtain ⟨hp,g,d,tk,os⟩:=s;obtain ⟨hl,hb,hi,hj,hu1,hu2,hrc,h⟩:=h
  have f2:=AutoSeq1.sub_tuple_tuple
  have z1:items.size=ds.length:=by rw [hi.length];simp
  have z2:items2.size=es.length:=by rw [hj.length];simp
  have hin:A.in1.units=A.units+1:=rfl
  wp_walk using wpAny_loadPart' hl,wpAny_loadPart' hb,wpAny_forIn_list _ (fun rest b s'=>b.1=none∧s'=⟨hp,g,d,tk,os⟩∧∃ (vs ws:List Value) (ns' ms':List D),rest=vs.zip ws ∧
   aD hp ns' vs∧aD hp ms' ws∧bw ns'=true∧bw ms'=true∧fJ ns' ms'=true∧(∀ x∈ns',x∈ds)∧(∀ x∈ms',x∈es)∧ns'.length+items2.size=ms'.length+items.size∧R (.ok (.ret (.bool (bJ ns' ms')))) ⟨hp,g,d,tk,os⟩) _
  case turn =>
   rintro ⟨y,x⟩ rest b s' ⟨hb',rfl,vs,ws,ns',ms',hz,hvi,hwi,k1,k2,cc,m1,m2,hlen,hR⟩
   cases ns' with
   | nil=>rw [aD] at hvi;subst hvi;rw [List.zip_nil_left] at hz;cases hz
   | cons a as =>
    cases ms' with
    | nil=>rw [aD] at hwi;subst hwi;rw [List.zip_nil_right] at hz;cases hz
    | cons c cs =>
     rw [aD] at hvi hwi
     obtain ⟨va,vas,rfl,ra,hvi'⟩:=hvi
     obtain ⟨vc,vcs,rfl,rc,hwi'⟩:=hwi
     rw [List.zip_cons_cons] at hz
     injection hz with hyx hrest
     injection hyx with hy hx
     subst hy hx
     rw [bw,Bool.and_eq_true] at k1 k2
     rw [bJ] at hR
     rw [fJ] at cc
     simp only [List.length_cons] at hlen
     have hda:dep a≤deps ds:=by
      obtain ⟨i,hi2,e⟩:=List.getElem_of_mem (m1 a List.mem_cons_self)
      rw [← e];exact cD hi2
     have hdc:dep c≤deps es:=by
      obtain ⟨i,hi2,e⟩:=List.getElem_of_mem (m2 c List.mem_cons_self)
      rw [← e];exact cD hi2
     have he:=iZ a c (A:=A.in1) (s:=⟨hp,g,d,tk,os⟩) ra rc (by omega) (by omega)
     rw [sZ k1.1 k2.1] at he
     refine wpAny_bind (he prog w _ _ ?_)
     by_cases hac:a=c
     ·rw [if_pos hac] at hR cc
      rw [decide_eq_true hac]
      wp_walk
      exact ⟨rfl,rfl,_,_,_,_,hrest,hvi',hwi',k1.2,k2.2,cc,fun x hx=>m1 x (List.mem_cons_of_mem _ hx),fun x hx=>m2 x (List.mem_cons_of_mem _ hx),by omega,hR⟩
     ·rw [if_neg hac] at hR cc
      rw [decide_eq_false hac]
      have hri:=hrc a (m1 a List.mem_cons_self) c (m2 c List.mem_cons_self) _ _ cc ra rc prog w
      wp_walk using hri
      exact ⟨_,rfl,by simpa using hR⟩
  case fin =>
   rintro ⟨b1,b2⟩ s' ⟨hb',rfl,vs,ws,ns',ms',hz,hvi,hwi,k1,k2,cc,m1,m2,hlen,hR⟩
   simp only at hb'
   subst hb'
   have hv:bJ ns' ms'=decide (items.size < items2.size):=by
    cases ns' with
    | nil =>
     cases ms' with
     | nil =>
      simp only [List.length_nil] at hlen
      rw [bJ]
      exact (decide_eq_false (by omega)).symm
     | cons c cs =>
      simp only [List.length_nil,List.length_cons] at hlen
      rw [bJ]
      exact (decide_eq_true (by omega)).symm
    | cons a as =>
     cases ms' with
     | nil =>
      simp only [List.length_nil,List.length_cons] at hlen
      rw [bJ]
      exact (decide_eq_false (by omega)).symm
     | cons c cs =>
      rw [aD] at hvi hwi
      obtain ⟨va,vas,rfl,ra,hvi'⟩:=hvi
      obtain ⟨vc,vcs,rfl,rc,hwi'⟩:=hwi
      rw [List.zip_cons_cons] at hz
      cases hz
   rw [hv] at hR
   wp_walk
   exact ⟨_,rfl,by simpa [Builtin.Tuple.tupleCompareSizes] using hR⟩
  case h =>
   exact ⟨rfl,rfl,items.toList,items2.toList,ds,es,rfl,hi,hj,hk,hk2,hc,fun _ x=>x,fun _ x=>x,by omega,h⟩
theorem MP:∀ (d e:D) {A:Around}{s:Shared}{u v:Value},keyOk d=true→keyOk e=true→bI d e=true→RpV s.heap d u→RpV s.heap e v→A.units+dep d < cLine→A.units+dep e < cLine→M8 A s u v (ltD d e)
 | .int a,.int b,A,s,u,v,k1,k2,c,r,q,h1,h2=>by
  rw [RpV] at r q
  obtain ⟨t,rfl⟩:=r
  obtain ⟨t',rfl⟩:=q
  rw [ltD]
  exact fun prog w E Q h=>HT.Rq A s a t b t' prog w E Q h
 | .tup ds,.tup es,A,s,u,v,k1,k2,c,r,q,h1,h2=>by
  rw [RpV] at r q
  obtain ⟨l,its,rfl,⟨⟨cls,dd,data,sl⟩,ho,hc,n,hd⟩,rs⟩:=r
  obtain ⟨b,its2,rfl,⟨⟨cls2,dd2,data2,sl2⟩,ho2,hc2,n2,hd2⟩,qs⟩:=q
  simp only at hc hd hc2 hd2
  subst hc hd hc2 hd2
  rw [keyOk] at k1 k2
  rw [bI] at c
  rw [dep] at h1 h2
  rw [ltD]
  intro prog w E Q h
  refine richCompare_meets_room (op:=.Lt) ⟨_,ho,rfl⟩ ⟨_,ho2,rfl⟩ PySem.F.slot_tuple_lt PySem.F.entry_tuple_lt (PySem.F.args_tuple_lt_2 _ _) (Qe l b its.toArray its2.toArray n n2 dd dd2 sl sl2 ds es k1 k2 c)
   ⟨ho,ho2,by simpa using rs,by simpa using qs,by omega,by omega,fun d hd e he u v hce rd re=>?_,show Value.bool (bJ ds es)≠Value.notImplemented∧Q (.bool (bJ ds es)) s from ⟨(fun x=>nomatch x),h⟩⟩ (by omega)
  have hin:A.in1.units=A.units+1:=rfl
  have kd:keyOk d=true:=jQ k1 hd
  have ke:keyOk e=true:=jQ k2 he
  have s1:=List.sizeOf_lt_of_mem hd
  have dd1:dep d≤deps ds:=by
   obtain ⟨i,hi2,e⟩:=List.getElem_of_mem hd
   rw [← e];exact cD hi2
  have dd2:dep e≤deps es:=by
   obtain ⟨i,hi2,e⟩:=List.getElem_of_mem he
   rw [← e];exact cD hi2
  exact MP d e kd ke hce rd re (by show A.units+1+_ < _;omega) (by show A.units+1+_ < _;omega)
 | .non,e,A,s,u,v,k1,k2,c,r,q,h1,h2=>by simp [keyOk] at k1
 | .bl _,e,A,s,u,v,k1,k2,c,r,q,h1,h2=>by simp [keyOk] at k1
 | .lst _,e,A,s,u,v,k1,k2,c,r,q,h1,h2=>by simp [keyOk] at k1
 | .dct _ _,e,A,s,u,v,k1,k2,c,r,q,h1,h2=>by simp [keyOk] at k1
 | .str _,e,A,s,u,v,k1,k2,c,r,q,h1,h2=>by simp [bI] at c
 | .int _,.non,A,s,u,v,k1,k2,c,r,q,h1,h2=>by simp [bI] at c
 | .int _,.bl _,A,s,u,v,k1,k2,c,r,q,h1,h2=>by simp [bI] at c
 | .int _,.str _,A,s,u,v,k1,k2,c,r,q,h1,h2=>by simp [bI] at c
 | .int _,.tup _,A,s,u,v,k1,k2,c,r,q,h1,h2=>by simp [bI] at c
 | .int _,.lst _,A,s,u,v,k1,k2,c,r,q,h1,h2=>by simp [bI] at c
 | .int _,.dct _ _,A,s,u,v,k1,k2,c,r,q,h1,h2=>by simp [bI] at c
 | .tup _,.non,A,s,u,v,k1,k2,c,r,q,h1,h2=>by simp [bI] at c
 | .tup _,.bl _,A,s,u,v,k1,k2,c,r,q,h1,h2=>by simp [bI] at c
 | .tup _,.str _,A,s,u,v,k1,k2,c,r,q,h1,h2=>by simp [bI] at c
 | .tup _,.int _,A,s,u,v,k1,k2,c,r,q,h1,h2=>by simp [bI] at c
 | .tup _,.lst _,A,s,u,v,k1,k2,c,r,q,h1,h2=>by simp [bI] at c
 | .tup _,.dct _ _,A,s,u,v,k1,k2,c,r,q,h1,h2=>by simp [bI] at c
termination_by d=>sizeOf d
decreasing_by
 simp only [D.tup.sizeOf_spec]
 omega
end
end Mi
namespace Mi
open PySem
mutual
theorem vY:∀ (a:D),ltD a a=false
 | .int a=>by simp [ltD]
 | .tup a=>by rw [ltD];exact HY a
 | .non=>by simp [ltD]
 | .bl _=>by simp [ltD]
 | .str _=>by simp [ltD]
 | .lst _=>by simp [ltD]
 | .dct _ _=>by simp [ltD]
theorem HY:∀ (a:List D),bJ a a=false
 | []=>by simp [bJ]
 | a::as=>by rw [bJ,if_pos rfl];exact HY as
end
mutual
theorem vp:∀ {a b c:D},ltD a b=true→ltD b c=true→ltD a c=true
 | .int a,b,c,h1,h2=>by
  cases b <;> simp [ltD] at h1
  cases c <;> simp [ltD] at h2 ⊢
  omega
 | .tup a,b,c,h1,h2=>by
  cases b <;> simp [ltD] at h1
  cases c <;> simp [ltD] at h2 ⊢
  exact Kf h1 h2
 | .non,b,c,h1,h2=>by simp [ltD] at h1
 | .bl _,b,c,h1,h2=>by simp [ltD] at h1
 | .str _,b,c,h1,h2=>by simp [ltD] at h1
 | .lst _,b,c,h1,h2=>by simp [ltD] at h1
 | .dct _ _,b,c,h1,h2=>by simp [ltD] at h1
theorem Kf:∀ {a b c:List D},bJ a b=true→bJ b c=true→bJ a c=true
 | [],b,c,h1,h2=>by
  cases c with
  | nil=>cases b <;> simp [bJ] at h2
  | cons _ _=>simp [bJ]
 | a::as,[],c,h1,h2=>by simp [bJ] at h1
 | a::as,b::bs,[],h1,h2=>by simp [bJ] at h2
 | a::as,b::bs,c::cs,h1,h2=>by
  rw [bJ] at h1 h2 ⊢
  by_cases hab:a=b
  ·subst hab
   rw [if_pos rfl] at h1
   by_cases hbc:a=c
   ·rw [if_pos hbc] at h2 ⊢
    exact Kf h1 h2
   ·rw [if_neg hbc] at h2 ⊢
    exact h2
  ·rw [if_neg hab] at h1
   by_cases hbc:b=c
   ·subst hbc
    rw [if_neg hab]
    exact h1
   ·rw [if_neg hbc] at h2
    have h3:=vp h1 h2
    by_cases hac:a=c
    ·subst hac
     rw [vY] at h3;cases h3
    ·rw [if_neg hac];exact h3
end
theorem HS {a b:D} (h:ltD a b=true):ltD b a=false:=by
 cases e:ltD b a with
 | false=>rfl
 | true =>
  have:=vp h e
  rw [vY] at this;cases this
mutual
theorem vN:∀ {a b:D},bI a b=true→a=b∨ltD a b=true∨ltD b a=true
 | .int a,b,h=>by
  cases b <;> simp [bI] at h
  simp [ltD]
  omega
 | .tup a,b,h=>by
  cases b <;> simp [bI] at h
  rcases Ft h with e | e | e
  ·exact .inl (by rw [e])
  ·exact .inr (.inl (by rw [ltD];exact e))
  ·exact .inr (.inr (by rw [ltD];exact e))
 | .non,b,h=>by simp [bI] at h
 | .bl _,b,h=>by simp [bI] at h
 | .str _,b,h=>by simp [bI] at h
 | .lst _,b,h=>by simp [bI] at h
 | .dct _ _,b,h=>by simp [bI] at h
theorem Ft:∀ {a b:List D},fJ a b=true→a=b∨bJ a b=true∨bJ b a=true
 | [],[],h=>.inl rfl
 | [],_::_,h=>.inr (.inl (by simp [bJ]))
 | _::_,[],h=>.inr (.inr (by simp [bJ]))
 | a::as,b::bs,h=>by
  rw [fJ] at h
  by_cases hab:a=b
  ·subst hab
   rw [if_pos rfl] at h
   rcases Ft h with e | e | e
   ·exact .inl (by rw [e])
   ·exact .inr (.inl (by rw [bJ,if_pos rfl];exact e))
   ·exact .inr (.inr (by rw [bJ,if_pos rfl];exact e))
  ·rw [if_neg hab] at h
   rcases vN h with e | e | e
   ·exact absurd e hab
   ·exact .inr (.inl (by rw [bJ,if_neg hab];exact e))
   ·exact .inr (.inr (by rw [bJ,if_neg (Ne.symm hab)];exact e))
end
noncomputable def lV (ds:List D):Prop:=∀ a∈ds,∀ b∈ds,bI a b=true
noncomputable def leD (a b:D):Prop:=ltD b a=false
theorem Y5 {a b c:D} (h:bI b c=true) (h1:leD a b) (h2:leD b c):leD a c:=by
 unfold leD at *
 cases e:ltD c a with
 | false=>rfl
 | true =>
  rcases vN h with z | z | z
  ·subst z;rw [h1] at e;cases e
  ·have:=vp z e;rw [h1] at this;cases this
  ·rw [h2] at z;cases z
theorem Q5 {a b:D} (h:bI a b=true) (h1:leD a b) (h2:leD b a):a=b:=by
 unfold leD at *
 rcases vN h with z | z | z
 ·exact z
 ·rw [h2] at z;cases z
 ·rw [h1] at z;cases z
noncomputable def Bl (d:D):List D→List D
 | []=>[d]
 | e::es=>if ltD e d=true then e::Bl d es else d::e::es
noncomputable def mJ:List D→List D
 | []=>[]
 | d::ds=>Bl d (mJ ds)
theorem vf (d:D):∀ (es:List D),(Bl d es).Perm (d::es)
 | []=>List.Perm.refl _
 | e::es=>by
  unfold Bl
  split
  ·exact ((vf d es).cons e).trans (List.Perm.swap d e es)
  ·exact List.Perm.refl _
theorem m9:∀ (ds:List D),(mJ ds).Perm ds
 | []=>List.Perm.refl _
 | d::ds=>(vf d (mJ ds)).trans ((m9 ds).cons d)
theorem xG {d:D}:∀ {es:List D},(∀ a∈d::es,∀ b∈d::es,bI a b=true)→es.Pairwise leD→(Bl d es).Pairwise leD
 | [],_,_=>List.pairwise_singleton _ _
 | e::es,hc,hs=>by
  obtain ⟨h1,h2⟩:=List.pairwise_cons.mp hs
  unfold Bl
  split
  ·rename_i hlt
   refine List.pairwise_cons.mpr ⟨fun x hx=>?_,xG (fun a ha b hb=>hc a ?_ b ?_) h2⟩
   ·rcases List.mem_cons.mp ((vf d es).mem_iff.mp hx) with z | z
    ·rw [z];exact HS hlt
    ·exact h1 x z
   ·rcases List.mem_cons.mp ha with z | z
    ·rw [z];simp
    ·simp [z]
   ·rcases List.mem_cons.mp hb with z | z
    ·rw [z];simp
    ·simp [z]
  ·rename_i hlt
   have hle:leD d e:=by unfold leD;simpa using hlt
   refine List.pairwise_cons.mpr ⟨fun x hx=>?_,hs⟩
   rcases List.mem_cons.mp hx with z | z
   ·rw [z];exact hle
   ·exact Y5 (hc e (by simp) x (by simp [z])) hle (h1 x z)
theorem uE:∀ {ds:List D},lV ds→(mJ ds).Pairwise leD
 | [],_=>List.Pairwise.nil
 | d::ds,h=>by
  refine xG (fun a ha b hb=>h a ?_ b ?_) (uE fun a ha b hb=>h a (List.mem_cons_of_mem _ ha) b (List.mem_cons_of_mem _ hb))
  ·rcases List.mem_cons.mp ha with z | z
   ·rw [z];simp
   ·exact List.mem_cons_of_mem _ ((m9 ds).mem_iff.mp z)
  ·rcases List.mem_cons.mp hb with z | z
   ·rw [z];simp
   ·exact List.mem_cons_of_mem _ ((m9 ds).mem_iff.mp z)
theorem uf:∀ {as bs:List D},lV as→as.Perm bs→as.Pairwise leD→bs.Pairwise leD→as=bs
 | [],bs,_,p,_,_=>(List.Perm.nil_eq p)
 | a::as,[],_,p,_,_=>absurd p.length_eq (by simp)
 | a::as,b::bs,hc,p,s1,s2=>by
  obtain ⟨h1,h2⟩:=List.pairwise_cons.mp s1
  obtain ⟨g1,g2⟩:=List.pairwise_cons.mp s2
  have hb:b∈a::as:=p.mem_iff.mpr List.mem_cons_self
  have ha:a∈b::bs:=p.mem_iff.mp List.mem_cons_self
  have e:a=b:=by
   rcases List.mem_cons.mp hb with z | z
   ·exact z.symm
   ·rcases List.mem_cons.mp ha with y | y
    ·exact y
    ·exact Q5 (hc a (by simp) b hb) (h1 b z) (g1 a y)
  subst e
  rw [uf (fun a ha b hb=>hc a (List.mem_cons_of_mem _ ha) b (List.mem_cons_of_mem _ hb)) (List.Perm.cons_inv p) h2 g2]
theorem HW {ds es:List D} (hc:lV ds) (p:es.Perm ds) (s:es.Pairwise leD):mJ ds=es:=by
 have hc':lV es:=fun a ha b hb=>hc a (p.mem_iff.mp ha) b (p.mem_iff.mp hb)
 exact (uf hc' (p.trans (m9 ds).symm) s (uE hc)).symm
theorem countP_le {α:Type}{p q:α→Bool}:∀ (l:List α),(∀ x∈l,p x=true→q x=true)→l.countP p≤l.countP q
 | [],_=>Nat.le_refl _
 | x::l,h=>by
  have ih:=countP_le l fun y hy=>h y (List.mem_cons_of_mem _ hy)
  have hx:=h x List.mem_cons_self
  rw [List.countP_cons,List.countP_cons]
  cases e:p x <;> cases f:q x <;> simp_all <;> omega
theorem Di {α:Type}{p q:α→Bool}:∀ (l:List α),(∀ x∈l,p x=true→q x=true)→(∃ x∈l,q x=true∧p x=false)→l.countP p < l.countP q
 | [],_,h=>by obtain ⟨x,hx,_⟩:=h;simp at hx
 | x::l,h,⟨y,hy,h1,h2⟩=>by
  rw [List.countP_cons,List.countP_cons]
  rcases List.mem_cons.mp hy with e | hy
  ·subst e
   have:=countP_le l fun z hz=>h z (List.mem_cons_of_mem _ hz)
   rw [h1,h2]
   simp
   omega
  ·have ih:=Di l (fun z hz=>h z (List.mem_cons_of_mem _ hz)) ⟨y,hy,h1,h2⟩
   have hx:=h x List.mem_cons_self
   cases e:p x <;> cases f:q x <;> simp_all <;> omega
noncomputable def iK (ds:List D) (i:Nat):Int:=(((List.range ds.length).countP fun k=>ltD (ds.getD k .non) (ds.getD i .non):Nat):Int)
theorem Kh {ds:List D} (hc:lV ds) {i j:Nat} (hi:i < ds.length) (hj:j < ds.length):decide (iK ds i < iK ds j)=ltD (ds.getD i .non) (ds.getD j .non):=by
 have mem:∀ {k},k < ds.length→ds.getD k .non∈ds:=fun {k} hk=>by
  have e:ds.getD k .non=ds[k]:=by simp [hk]
  rw [e];exact List.getElem_mem hk
 unfold iK
 cases e:ltD (ds.getD i .non) (ds.getD j .non) with
 | true =>
  have:=Di (p:=fun k=>ltD (ds.getD k .non) (ds.getD i .non)) (q:=fun k=>ltD (ds.getD k .non) (ds.getD j .non)) (List.range ds.length) (fun x _ hx=>vp hx e) ⟨i,by simpa using hi,e,vY _⟩
  exact decide_eq_true (by omega)
 | false =>
  have:(List.range ds.length).countP (fun k=>ltD (ds.getD k .non) (ds.getD j .non))≤(List.range ds.length).countP (fun k=>ltD (ds.getD k .non) (ds.getD i .non)):=by
   refine countP_le _ fun x hx h=>?_
   rcases vN (hc _ (mem hi) _ (mem hj)) with z | z | z
   ·rw [z];exact h
   ·rw [e] at z;cases z
   ·exact vp h z
  exact decide_eq_false (by omega)
end Mi
namespace Mi
open PySem L2 PySem.W
open PyProof.Rows hiding St
mutual
theorem RpV.keepT {h h' : Heap} : ∀ {d : D} {u : Value}, keyOk d = true → (∀ a o, h.get? a = some o → o.cls = .type "tuple" → h'.get? a = some o) → RpV h d u → RpV h' d u
 | .non,u,c,k,r=>by simp [keyOk] at c
 | .bl _,u,c,k,r=>by simp [keyOk] at c
 | .int _,u,c,k,r=>by rw [RpV] at r ⊢;exact r
 | .str _,u,c,k,r=>by rw [RpV] at r ⊢;exact r
 | .tup ds,u,c,k,r=>by
  rw [RpV] at r ⊢
  obtain ⟨a,its,rfl,⟨o,ho,hc,n,hd⟩,rs⟩:=r
  exact ⟨a,its,rfl,⟨o,k a o ho hc,hc,n,hd⟩,aD.keepT (by simpa [keyOk] using c) k rs⟩
 | .lst ds,u,c,k,r=>by simp [keyOk] at c
 | .dct _ _,u,c,k,r=>by simp [keyOk] at c
theorem aD.keepT {h h' : Heap} : ∀ {ds : List D} {us : List Value}, bw ds = true → (∀ a o, h.get? a = some o → o.cls = .type "tuple" → h'.get? a = some o) → aD h ds us → aD h' ds us
 | [],us,c,k,r=>by rw [aD] at r ⊢;exact r
 | d::ds,us,c,k,r=>by
  rw [aD] at r ⊢
  rw [bw,Bool.and_eq_true] at c
  obtain ⟨y,ys,rfl,r0,rs⟩:=r
  exact ⟨y,ys,rfl,RpV.keepT c.1 k r0,aD.keepT c.2 k rs⟩
end
noncomputable def isInt:D→Bool
 | .int _=>true
 | _=>false
noncomputable def rN:D→Bool
 | .tup (.int _::_)=>true
 | _=>false
noncomputable def rm:D→Bool
 | .tup (.tup _::_)=>true
 | _=>false
noncomputable def rM (ds:List D):Bool :=
 decide (ds.length < 64) && bw ds && decide (deps ds≤20) && (ds.all fun a=>ds.all fun b=>bI a b) && (decide (ds.length < 2) || ds.all isInt || ds.all rN || ds.all rm)
structure SortOk (ds:List D):Prop where
 len:ds.length < 64
 key:bw ds=true
 dp:deps ds≤20
 cmp:lV ds
 kind:ds.length < 2∨ds.all isInt=true∨ds.all rN=true∨ds.all rm=true
theorem sV {ds:List D} (h:rM ds=true):SortOk ds:=by
 unfold rM at h
 simp only [Bool.and_eq_true,Bool.or_eq_true,decide_eq_true_eq] at h
 obtain ⟨⟨⟨⟨h1,h2⟩,h3⟩,h4⟩,h5⟩:=h
 refine ⟨h1,h2,h3,fun a ha b hb=>?_,?_⟩
 ·exact List.all_eq_true.mp (List.all_eq_true.mp h4 a ha) b hb
 ·rcases h5 with ((h | h) | h) | h
  ·exact .inl h
  ·exact .inr (.inl h)
  ·exact .inr (.inr (.inl h))
  ·exact .inr (.inr (.inr h))
theorem aD.getD {h:Heap}{ds:List D}{us:List Value} (r:aD h ds us) {i:Nat} (hi:i < ds.length):RpV h (ds.getD i .non) (us.getD i .none):=by
 have hl:=r.length
 have e1:ds.getD i .non=ds[i]:=by simp [hi]
 have e2:us.getD i .none=us[i]:=by simp [show i < us.length by omega]
 rw [e1,e2]
 exact aD.get hi (by omega) r
theorem mem_getD {ds:List D}{i:Nat} (hi:i < ds.length):ds.getD i .non∈ds:=by
 have e1:ds.getD i .non=ds[i]:=by simp [hi]
 rw [e1];exact List.getElem_mem hi
theorem J6 {ds:List D}{d:D} (h:d∈ds):dep d≤deps ds:=by
 obtain ⟨i,hi2,e⟩:=List.getElem_of_mem h
 rw [← e];exact cD hi2
section
variable {prog:Program}{w:World}{A:Around}{E:Value→Shared→Prop}{s:Shared}
theorem Hg {b fin:Bool}{Q:Bool→Shared→Prop}:∀ {ds es:List D}{us vs:List Value} (i:Nat),aD s.heap ds us→aD s.heap es vs→bw ds=true→bw es=true→fJ ds es=true →
  A.units+deps ds < cLine→A.units+deps es < cLine→(b=true→i=0→∀ d∈ds.head?,isInt d=true)→(b=true→i=0→∀ d∈es.head?,isInt d=true)→(ds=[]∨es=[]→fin=bJ ds es)→(∀ ds' es',ds'.length+es.length=es'.length+ds.length→(ds'=[]∨es'=[])→fin=bJ ds' es') →
  Q (bJ ds es) s→KatLex prog w A b fin Q (us.zip vs) i s
 | [],es,us,vs,i,r,q,k1,k2,c,h1,h2,f1,f2,hf,hg,h=>by
  rw [aD] at r;subst r
  rw [List.zip_nil_left]
  refine kat_nil ?_
  rw [hf (.inl rfl)];exact h
 | d::ds,[],us,vs,i,r,q,k1,k2,c,h1,h2,f1,f2,hf,hg,h=>by
  rw [aD] at q;subst q
  rw [List.zip_nil_right]
  refine kat_nil ?_
  rw [hf (.inr rfl)];exact h
 | d::ds,e::es,us,vs,i,r,q,k1,k2,c,h1,h2,f1,f2,hf,hg,h=>by
  rw [aD] at r q
  obtain ⟨u,us',rfl,r0,rs⟩:=r
  obtain ⟨v,vs',rfl,q0,qs⟩:=q
  rw [bw,Bool.and_eq_true] at k1 k2
  rw [fJ] at c
  rw [deps] at h1 h2
  rw [bJ] at h
  rw [List.zip_cons_cons]
  refine kat_cons ?_
  have he:=iZ d e (A:=A) (s:=s) r0 q0 (by omega) (by omega)
  rw [sZ k1.1 k2.1] at he
  refine he prog w _ _ ?_
  by_cases hde:d=e
  ·rw [decide_eq_true hde]
   rw [if_pos hde] at h c
   refine kat_yes (Hg (i+1) rs qs k1.2 k2.2 c (by omega) (by omega) (fun _ z=>by omega) (fun _ z=>by omega) (fun z=>hg ds es (by simp only [List.length_cons];omega) z) (fun ds' es' hl z=>hg ds' es' (by simp only [List.length_cons];omega) z) h)
  ·rw [decide_eq_false hde]
   rw [if_neg hde] at h c
   refine kat_no ?_
   have lt:=MP d e (A:=A) (s:=s) k1.1 k2.1 c r0 q0 (by omega) (by omega)
   by_cases hb:(b && i == 0)=true
   ·rw [hb]
    rw [Bool.and_eq_true] at hb
    have i0:i=0:=by simpa using hb.2
    have d1:=f1 hb.1 i0 d (by simp)
    have e1:=f2 hb.1 i0 e (by simp)
    cases d <;> simp [isInt] at d1
    cases e <;> simp [isInt] at e1
    rw [RpV] at r0 q0
    obtain ⟨t,rfl⟩:=r0
    obtain ⟨t',rfl⟩:=q0
    rw [ltD] at h
    exact oneLt_int h
   ·have hb':(b && i == 0)=false:=by simpa using hb
    rw [hb']
    exact kat_one u v (lt prog w _ (PySem.W.BoolBack Q) h)
theorem Va {ds:List D}{vs:List Value} (r:aD s.heap ds vs) (hall:ds.all isInt=true) {i j:Nat}{C:Bool→Shared→Prop} (hi:i < ds.length) (hj:j < ds.length) (h:C (ltD (ds.getD i .non) (ds.getD j .non)) s) :
  kas_ask prog w A oneType' vs i j C s:=by
 unfold kas_ask
 have r1:=r.getD hi
 have r2:=r.getD hj
 have t1:=List.all_eq_true.mp hall _ (mem_getD hi)
 have t2:=List.all_eq_true.mp hall _ (mem_getD hj)
 revert r1 r2 t1 t2 h
 generalize ds.getD i D.non=d
 generalize ds.getD j D.non=e
 generalize vs.getD i Value.none=u
 generalize vs.getD j Value.none=v
 intro h r1 r2 t1 t2
 cases d <;> simp [isInt] at t1
 cases e <;> simp [isInt] at t2
 rw [RpV] at r1 r2
 obtain ⟨t,rfl⟩:=r1
 obtain ⟨t',rfl⟩:=r2
 rw [ltD] at h
 rw [keyLt'_oneType]
 exact oneLt_int h
theorem Ks {b:Bool}{ds:List D}{vs:List Value} (r:aD s.heap ds vs) (hk:bw ds=true) (hc:lV ds) (hu:A.units+deps ds < cLine) (hall:∀ d∈ds,∃ x xs,d=.tup (x::xs)∧(b=true→isInt x=true)) {i j:Nat}{C:Bool→Shared→Prop} (hi:i < ds.length) (hj:j < ds.length) (h:C (ltD (ds.getD i .non) (ds.getD j .non)) s) :
  kas_ask prog w A (tuples' b) vs i j C s:=by
 unfold kas_ask
 have r1:=r.getD hi
 have r2:=r.getD hj
 have m1:=mem_getD hi
 have m2:=mem_getD hj
 have t1:=hall _ m1
 have t2:=hall _ m2
 have c:=hc _ m1 _ m2
 have k1:=jQ hk m1
 have k2:=jQ hk m2
 have d1:=J6 m1
 have d2:=J6 m2
 revert r1 r2 t1 t2 c k1 k2 d1 d2 h
 generalize ds.getD i D.non=d
 generalize ds.getD j D.non=e
 generalize vs.getD i Value.none=u
 generalize vs.getD j Value.none=v
 intro h r1 r2 t1 t2 c k1 k2 d1 d2
 obtain ⟨x,xs,rfl,f1⟩:=t1
 obtain ⟨y,ys,rfl,f2⟩:=t2
 rw [RpV] at r1 r2
 obtain ⟨a,its,rfl,⟨o,ho,_,n,hd⟩,rs⟩:=r1
 obtain ⟨a2,its2,rfl,⟨o2,ho2,_,n2,hd2⟩,qs⟩:=r2
 rw [keyOk] at k1 k2
 rw [bI] at c
 rw [dep] at d1 d2
 rw [ltD] at h
 refine kat_lt ho hd ho2 hd2 ?_
 have l1:=rs.length
 have l2:=qs.length
 have key:∀ ds' es':List D,ds'.length+(y::ys).length=es'.length+(x::xs).length→(ds'=[]∨es'=[])→decide (its.toArray.size < its2.toArray.size)=bJ ds' es':=by
  intro ds' es' hl z
  have e1:its.toArray.size=(x::xs).length:=by simp only [List.size_toArray];omega
  have e2:its2.toArray.size=(y::ys).length:=by simp only [List.size_toArray];omega
  rw [e1,e2]
  rcases z with z | z
  ·subst z
   cases es' with
   | nil=>rw [bJ];exact decide_eq_false (by simp only [List.length_nil] at hl;omega)
   | cons _ _=>rw [bJ];exact decide_eq_true (by simp only [List.length_nil,List.length_cons] at hl ⊢;omega)
  ·subst z
   cases ds' with
   | nil=>rw [bJ];exact decide_eq_false (by simp only [List.length_nil] at hl;omega)
   | cons _ _=>rw [bJ];exact decide_eq_false (by simp only [List.length_nil,List.length_cons] at hl ⊢;omega)
 exact Hg 0 rs qs k1 k2 c (by omega) (by omega) (fun hb _ z hz=>by simp at hz;subst hz;exact f1 hb) (fun hb _ z hz=>by simp at hz;subst hz;exact f2 hb) (fun z=>key _ _ (by omega) z) key h
theorem Bk:∀ {ds:List D}{vs:List Value},aD s.heap ds vs→(∀ d∈ds,∃ x xs,d=.tup (x::xs))→∃ fs,KatTups s.heap vs fs∧aD s.heap (ds.map fun d=>match d with | .tup (x::_)=>x | _=>.non) fs
 | [],vs,r,_=>by
  rw [aD] at r;subst r
  exact ⟨[],KatTups.nil,by simp [aD]⟩
 | d::ds,vs,r,h=>by
  rw [aD] at r
  obtain ⟨y,ys,rfl,r0,rs⟩:=r
  obtain ⟨fs,t,q⟩:=Bk rs fun d hd=>h d (List.mem_cons_of_mem _ hd)
  obtain ⟨x,xs,rfl⟩:=h d List.mem_cons_self
  rw [RpV] at r0
  obtain ⟨a,its,rfl,⟨o,ho,hc,n,hd⟩,is⟩:=r0
  rw [aD] at is
  obtain ⟨f,its',rfl,rf,is'⟩:=is
  refine ⟨f::fs,KatTups.cons ho hc hd (by simp) t,?_⟩
  rw [List.map_cons,aD]
  exact ⟨f,fs,rfl,rf,q⟩
theorem type_of {M:Model}{h:Heap}{p:D→Bool}{T:Value} (hT:∀ d u,p d=true→RpV h d u→Looks M h (typeOf u) T):∀ {ds:List D}{vs:List Value},aD h ds vs→ds.all p=true→∀ v∈vs,Looks M h (typeOf v) T
 | [],vs,r,_,v,hv=>by rw [aD] at r;subst r;simp at hv
 | d::ds,vs,r,hp,v,hv=>by
  rw [aD] at r
  obtain ⟨y,ys,rfl,r0,rs⟩:=r
  rw [List.all_cons,Bool.and_eq_true] at hp
  rcases List.mem_cons.mp hv with e | hv
  ·rw [e];exact hT d y hp.1 r0
  ·exact type_of (ds:=ds) (vs:=ys) hT rs hp.2 v hv
theorem GD {M : Model} {h : Heap} (d : D) (u : Value) (p : isInt d = true) (r : RpV h d u) : Looks M h (typeOf u) (.type "int"):=by
 cases d <;> simp [isInt] at p
 rw [RpV] at r
 obtain ⟨t,rfl⟩:=r
 exact Looks.of_pure rfl
noncomputable def isTup:D→Bool
 | .tup _=>true
 | _=>false
theorem Uh {M : Model} {h : Heap} (d : D) (u : Value) (p : isTup d = true) (r : RpV h d u) : Looks M h (typeOf u) (.type "tuple"):=by
 cases d <;> simp [isTup] at p
 rw [RpV] at r
 obtain ⟨a,its,rfl,⟨o,ho,hc,n,hd⟩,is⟩:=r
 have l:Looks M h (typeOf (.ref a)) o.cls:=(Looks.ld ho).andThen .now
 rw [hc] at l
 exact l
theorem Nh {ds:List D}{vs:List Value}{G:Array Nat→Shared→Prop} (S:SortOk ds) (h2:2≤ds.length) (r:aD s.heap ds vs) (hu:A.units+40 < cLine)
  (hG:∀ p,PB ds.length p→jK (iK ds) p ds.length→G p s) :
  wpAny (model prog w) A (keyKind' vs.toArray) (fun κ s'=>(kas_sort vs.length).kasWp (kas_ask prog w A κ vs) G s') E s:=by
 have hl:=r.length
 have fin:∀ κ:SortKind,(∀ (i j:Nat) (C:Bool→Shared→Prop),i < ds.length→j < ds.length→C (ltD (ds.getD i .non) (ds.getD j .non)) s→kas_ask prog w A κ vs i j C s)→(kas_sort vs.length).kasWp (kas_ask prog w A κ vs) G s:=by
  intro κ hk
  rw [← hl]
  refine dg.wp (r:=iK ds) (N:=ds.length) (fun i j C hi hj hc=>hk i j C hi hj ?_) (Dk (ZG (by omega)) fun p hp=>hG p hp.1 hp.2)
  rw [Kh S.cmp hi hj] at hc
  exact hc
 have hdp:=S.dp
 rcases S.kind with k | k | k | k
 ·omega
 ·refine kas_kind (by omega) (type_of (p:=isInt) GD r k) (by decide) (by decide) ?_
  exact fin _ fun i j C hi hj hc=>Va r k hi hj hc
 ·have hall:∀ d∈ds,∃ x xs,d=.tup (x::xs)∧isInt x=true:=fun d hd=>by
   have:=List.all_eq_true.mp k d hd
   cases d <;> simp [rN] at this
   rename_i l
   cases l with
   | nil=>simp [rN] at this
   | cons x xs=>exact ⟨x,xs,rfl,by cases x <;> simp [rN,isInt] at this ⊢⟩
  obtain ⟨fs,t,q⟩:=Bk (ds:=ds) (vs:=vs) r fun d hd=>let ⟨x,xs,e,_⟩:=hall d hd;⟨x,xs,e⟩
  have ql:=q.length
  rw [List.length_map] at ql
  refine kat_kind (T:=.type "int") t (by omega) (type_of (p:=isInt) GD q ?_) (by decide) ?_
  ·rw [List.all_map,List.all_eq_true]
   intro d hd
   obtain ⟨x,xs,rfl,hx⟩:=hall d hd
   exact hx
  ·exact fin _ fun i j C hi hj hc=>Ks r S.key S.cmp (by omega) (fun d hd=>let ⟨x,xs,e,z⟩:=hall d hd;⟨x,xs,e,fun _=>z⟩) hi hj hc
 ·have hall:∀ d∈ds,∃ x xs,d=.tup (x::xs)∧isTup x=true:=fun d hd=>by
   have:=List.all_eq_true.mp k d hd
   cases d <;> simp [rm] at this
   rename_i l
   cases l with
   | nil=>simp [rm] at this
   | cons x xs=>exact ⟨x,xs,rfl,by cases x <;> simp [rm,isTup] at this ⊢⟩
  obtain ⟨fs,t,q⟩:=Bk (ds:=ds) (vs:=vs) r fun d hd=>let ⟨x,xs,e,_⟩:=hall d hd;⟨x,xs,e⟩
  have ql:=q.length
  rw [List.length_map] at ql
  refine kat_kind (T:=.type "tuple") t (by omega) (type_of (p:=isTup) Uh q ?_) (by decide) ?_
  ·rw [List.all_map,List.all_eq_true]
   intro d hd
   obtain ⟨x,xs,rfl,hx⟩:=hall d hd
   exact hx
  ·exact fin _ fun i j C hi hj hc=>Ks r S.key S.cmp (by omega) (fun d hd=>let ⟨x,xs,e,z⟩:=hall d hd;⟨x,xs,e,fun hb=>by simp at hb⟩) hi hj hc
theorem M7 {a : Addr} {ds : List D} {vs : List Value} {n : Nat} {P : PySem.Fin → Shared → Prop} (ho : s.heap.get? a = some (seqObj "list" vs.toArray n)) (S : SortOk ds) (r : aD s.heap ds vs) (hu : A.units + 40 < cLine)
  (h:∀ p:Array Nat,PB ds.length p→jK (iK ds) p ds.length→P (.done (.ret .none)) { s with heap:=sortedHeap s.heap a vs (List.toArray (p.toList.map fun i=>vs.getD i Value.none)) }) :
  wpAny (model prog w) A (Builtin.«list.sort» ⟨[.ref a],[]⟩) P E s:=by
 have hl:=r.length
 have h64:vs.length < 64:=by have:=S.len;omega
 rw [list_sort_plain]
 have ha:a < s.heap.objs.size:=Heap.lt_size ho
 refine wpAny_bind (listItems_at ho rfl ?_)
 refine wpAny_bind (listUpdate_at ho rfl ?_ (by rw [List.size_toArray,sizeLine_eq];omega) (Nat.zero_le _))
 obtain ⟨e1, ho1⟩ : ∃ e1, (s.heap.update a (Obj.mapSeq fun _ => (#[] : Array Value))).get? a = some (seqObj "list" #[] e1):=⟨_, get?_update_seq ho fun _ => #[]⟩
 refine wpAny_bind (seqEpoch_at ho1 rfl ?_)
 refine wpAny_bind (wpAny_newTuple ?_ (by show vs.length≤_;rw [sizeLine_eq];omega))
 refine wpAny_bind (wpAny_newList ?_ (Nat.zero_le _))
 refine wpAny_holding ?_
 have ho6 : (((s.heap.update a (Obj.mapSeq fun _ => (#[] : Array Value))).push (seqObj "tuple" vs.toArray 0)).push (seqObj "list" #[] 0)).get? a = some (seqObj "list" #[] e1):=by
  rw [Heap.get?_push_ne _ _ _ (by rw [size_push',Heap.size_update];exact Nat.ne_of_lt (Nat.lt_succ_of_lt ha)),Heap.get?_push_ne _ _ _ (by rw [Heap.size_update];exact Nat.ne_of_lt ha)]
  exact ho1
 show wpAny (model prog w) A _ P E { s with heap:=((s.heap.update a (Obj.mapSeq fun _ => (#[] : Array Value))).push (seqObj "tuple" vs.toArray 0)).push (seqObj "list" #[] 0) }
 dsimp only
 have hsz:vs.toArray.size=vs.length:=by simp
 have tail:∀ (p:Array Nat) (st':SortSt),p.size=vs.length→(arrOf st').map (·.2)=List.toArray (p.toList.map fun i=>vs.getD i Value.none)→failedOf st'=none→PB ds.length p→jK (iK ds) p ds.length →
   wpAny (model prog w) A (do
    let touched:=(← seqEpoch a) != e1
    Builtin.List.listUpdate (.ref a) fun _=>(arrOf st').map (·.2)
    if let some e:=failedOf st' then rule "list.sort.comparison-raised"; throw e
    if touched then rule "list.sort.modified"; raiseError "ValueError" "list modified during sort"
    ret .none) P E { s with heap:=((s.heap.update a (Obj.mapSeq fun _ => (#[] : Array Value))).push (seqObj "tuple" vs.toArray 0)).push (seqObj "list" #[] 0) }:=by
  intro p st' hp hout hf pb so
  refine wpAny_bind (seqEpoch_at ho6 rfl ?_)
  rw [hout]
  refine wpAny_bind (listUpdate_at ho6 rfl ?_ (Nat.zero_le _) (by rw [List.size_toArray,List.length_map,Array.length_toList,hp,sizeLine_eq];omega))
  rw [hf]
  simp only [bne_self_eq_false,Bool.false_eq_true,if_false]
  exact wpAny_pure (h p pb so)
 by_cases h2:vs.toArray.size < 2
 ·rw [if_pos h2,if_pos h2]
  refine wpAny_bind (wpAny_pure ?_)
  rw [StateT.run_pure]
  refine wpAny_bind (wpAny_pure ?_)
  dsimp only
  have hp:(List.toArray (List.range ds.length)).size=vs.length:=by simp;omega
  refine tail (List.toArray (List.range ds.length)) (SortSt.mk' general' (vs.toArray.zip vs.toArray) #[] 7 none) hp ?_ rfl ⟨Array.Perm.refl _⟩ fun i j hij hj=>?_
  ·show (vs.toArray.zip vs.toArray).map (·.2)=_
   rw [hl]
   apply Array.toList_inj.mp
   rw [hsz] at h2
   match vs,h2 with
   | [],_=>simp
   | [v],_=>simp [List.range_succ]
  ·have:i=j:=by rw [hsz] at h2;omega
   subst this
   exact Int.le_refl _
 ·rw [if_neg h2,if_neg h2]
  have kT : ∀ b o, s.heap.get? b = some o → o.cls = .type "tuple" → (((s.heap.update a (Obj.mapSeq fun _ => (#[] : Array Value))).push (seqObj "tuple" vs.toArray 0)).push (seqObj "list" #[] 0)).get? b = some o:=fun b o q hc => by
   have hba:b≠a:=fun z=>by
    rw [z,ho] at q;cases q
    exact absurd hc (by simp [seqObj])
   exact Heap.get?_push_of_some _ (Heap.get?_push_of_some _ ((Heap.get?_update_other _ _ (Ne.symm hba)).trans q))
  have r2:=r.keepT S.key kT
  refine wpAny_bind (wpAny_mono (Nh (E:=fun _ _ => False) (s:={ s with heap:=((s.heap.update a (Obj.mapSeq fun _ => (#[] : Array Value))).push (seqObj "tuple" vs.toArray 0)).push (seqObj "list" #[] 0) })
   (G:=fun p s' => (PB ds.length p ∧ jK (iK ds) p ds.length) ∧ s' = { s with heap:=((s.heap.update a (Obj.mapSeq fun _ => (#[] : Array Value))).push (seqObj "tuple" vs.toArray 0)).push (seqObj "list" #[] 0) })
   S (by rw [hsz] at h2;omega) r2 hu fun p p1 p2=>⟨⟨p1,p2⟩,rfl⟩) (fun κ s0 hk=>?_) fun _ _ x=>x.elim)
  refine wpAny_bind (wpAny_mono (kat_run (Q:=fun st' s' => ∃ p : Array Nat, p.size = vs.length ∧ arrOf st' = p.map (kas_item (vs.toArray.zip vs.toArray)) ∧ failedOf st' = none ∧ (PB ds.length p ∧ jK (iK ds) p ds.length) ∧ s' = { s with heap:=((s.heap.update a (Obj.mapSeq fun _ => (#[] : Array Value))).push (seqObj "tuple" vs.toArray 0)).push (seqObj "list" #[] 0) })
   rfl (by rw [hsz] at h2;omega) h64 (fun p' st' s' a1 a2 a3 a4=>⟨p',a1,a2,a3,a4⟩) hk) ?_ fun _ _ e=>e)
  rintro ⟨⟨⟩,st'⟩ s' ⟨p,hp,har,hf,⟨pb,so⟩,rfl⟩
  dsimp only
  exact tail p st' hp (kat_snds rfl har) hf pb so
end
end Mi
namespace Mi
open PySem L2
open PyProof.Rows hiding St
structure G where
 P:Program
 w:World
 K:PySem.W.Frag
noncomputable def DAt (g:G) (a:Addr) (xs:List (D × Addr × Value)) (ys:List V) (h:Heap):Prop :=
 (a == sysModules)=false∧xs.length≤sizeLine∧Vals ys (xs.map (·.2.2)) ∧
  ∃ o es ep,h.get? a=some o∧o.ExactDict∧o.data=.dict es ep∧es.toList=xs.map (entryOfKey (iz g.P g.w))∧(xs.map (·.1)).Nodup
noncomputable def isKey (d:D):Bool:=keyOk d && decide (dep d≤6) && (match d with | .tup _=>true | _=>false)
mutual
noncomputable def Rp (g:G) (H:Hp):D→V→Prop
 | .non,v=>v=.non
 | .bl b,v=>v=.bl b
 | .int i,v=>v=.int i
 | .str x,v=>v=.str x
 | .tup ds,v=>∃ a xs,v=.ref a∧SqT g.K H a xs∧Rps g H ds xs
 | .lst ds,v=>∃ a xs,v=.ref a∧SqL g.K H a xs∧Rps g H ds xs
 | .dct ks vs,v=>∃ a xs ys,v=.ref a∧H a=some (.ext (DAt g a xs ys))∧ks=xs.map (·.1)∧(∀ k∈ks,isKey k=true)∧Rps g H ks (xs.map fun x=>V.ref x.2.1)∧Rps g H vs ys
noncomputable def Rps (g:G) (H:Hp):List D→List V→Prop
 | [],xs=>xs=[]
 | d::ds,xs=>∃ y ys,xs=y::ys∧Rp g H d y∧Rps g H ds ys
end
theorem aO {K:PySem.W.Frag}{H H':Hp}{a:Addr}{xs:List V} (e:Same H H') (h:SqL K H a xs):SqL K H' a xs:=e.seq h
theorem aL {K:PySem.W.Frag}{H H':Hp}{a:Addr}{xs:List V} (e:Same H H') (h:SqT K H a xs):SqT K H' a xs:=yH h fun o _ q=>e a o q
mutual
theorem Rp.mono {g:G}{H H':Hp}:∀ {d:D}{v:V},Same H H'→Rp g H d v→Rp g H' d v
 | .non,v,e,r=>by rw [Rp] at r ⊢;exact r
 | .bl _,v,e,r=>by rw [Rp] at r ⊢;exact r
 | .int _,v,e,r=>by rw [Rp] at r ⊢;exact r
 | .str _,v,e,r=>by rw [Rp] at r ⊢;exact r
 | .tup ds,v,e,r=>by
  rw [Rp] at r ⊢
  obtain ⟨a,xs,rfl,q,rs⟩:=r
  exact ⟨a,xs,rfl,aL e q,Rps.mono e rs⟩
 | .lst ds,v,e,r=>by
  rw [Rp] at r ⊢
  obtain ⟨a,xs,rfl,q,rs⟩:=r
  exact ⟨a,xs,rfl,aO e q,Rps.mono e rs⟩
 | .dct ks vs,v,e,r=>by
  rw [Rp] at r ⊢
  obtain ⟨a,xs,ys,rfl,q,ek,hk,r1,r2⟩:=r
  exact ⟨a,xs,ys,rfl,e a _ q,ek,hk,Rps.mono e r1,Rps.mono e r2⟩
theorem Rps.mono {g:G}{H H':Hp}:∀ {ds:List D}{vs:List V},Same H H'→Rps g H ds vs→Rps g H' ds vs
 | [],vs,e,r=>by rw [Rps] at r ⊢;exact r
 | d::ds,vs,e,r=>by
  rw [Rps] at r ⊢
  obtain ⟨y,ys,rfl,r0,rs⟩:=r
  exact ⟨y,ys,rfl,Rp.mono e r0,Rps.mono e rs⟩
end
theorem Rps.length {g:G}{H:Hp}:∀ {ds:List D}{vs:List V},Rps g H ds vs→ds.length=vs.length
 | [],vs,r=>by rw [Rps] at r;subst r;rfl
 | d::ds,vs,r=>by
  rw [Rps] at r
  obtain ⟨y,ys,rfl,_,r⟩:=r
  simp [Rps.length r]
theorem Rps.getD {g:G}{H:Hp}:∀ {ds:List D}{vs:List V}{i:Nat}{d:D},Rps g H ds vs→ds[i]?=some d→∃ v,vs[i]?=some v∧Rp g H d v
 | [],vs,i,d,r,h=>by simp at h
 | d0::ds,vs,i,d,r,h=>by
  rw [Rps] at r
  obtain ⟨y,ys,rfl,r0,rs⟩:=r
  cases i with
  | zero=>simp at h;subst h;exact ⟨y,rfl,r0⟩
  | succ i =>
   simp only [List.getElem?_cons_succ] at h
   obtain ⟨v,e,q⟩:=Rps.getD rs h
   exact ⟨v,by simpa using e,q⟩
theorem Rps.append {g:G}{H:Hp}:∀ {ds es:List D}{vs ws:List V},Rps g H ds vs→Rps g H es ws→Rps g H (ds++es) (vs++ws)
 | [],es,vs,ws,r,q=>by rw [Rps] at r;subst r;exact q
 | d::ds,es,vs,ws,r,q=>by
  rw [Rps] at r
  obtain ⟨y,ys,rfl,r0,rs⟩:=r
  rw [List.cons_append,Rps]
  exact ⟨y,ys++ws,rfl,r0,rs.append q⟩
theorem Rps.nil {g:G}{H:Hp}:Rps g H [] []:=by rw [Rps]
theorem Rps.cons {g:G}{H:Hp}{d:D}{v:V}{ds:List D}{vs:List V} (r:Rp g H d v) (rs:Rps g H ds vs):Rps g H (d::ds) (v::vs):=by
 rw [Rps];exact ⟨v,vs,rfl,r,rs⟩
theorem Rps.one {g:G}{H:Hp}{d:D}{v:V} (r:Rp g H d v):Rps g H [d] [v]:=Rps.cons r Rps.nil
theorem Rps.cons_inv {g:G}{H:Hp}{d:D}{ds:List D}{vs:List V} (r:Rps g H (d::ds) vs):∃ v ws,vs=v::ws∧Rp g H d v∧Rps g H ds ws:=by rw [Rps] at r;exact r
theorem Rps.nil_inv {g:G}{H:Hp}{vs:List V} (r:Rps g H [] vs):vs=[]:=by rw [Rps] at r;exact r
theorem Rps.take {g:G}{H:Hp}:∀ {ds:List D}{vs:List V} (n:Nat),Rps g H ds vs→Rps g H (ds.take n) (vs.take n)
 | [],vs,n,r=>by rw [r.nil_inv];simp [Rps]
 | d::ds,vs,0,r=>by simp [Rps]
 | d::ds,vs,n+1,r=>by
  obtain ⟨v,ws,rfl,r0,rs⟩:=r.cons_inv
  exact Rps.cons r0 (Rps.take n rs)
theorem Rps.drop {g:G}{H:Hp}:∀ {ds:List D}{vs:List V} (n:Nat),Rps g H ds vs→Rps g H (ds.drop n) (vs.drop n)
 | [],vs,n,r=>by rw [r.nil_inv];simp [Rps]
 | d::ds,vs,0,r=>r
 | d::ds,vs,n+1,r=>by
  obtain ⟨v,ws,rfl,r0,rs⟩:=r.cons_inv
  exact Rps.drop n rs
section
variable {X:Cx}{pins:List (Addr × Obj)}{σ:St}{H:Hp}{s:Shared}
noncomputable abbrev gOf (X:Cx):G:=⟨X.prog,X.w,X.K⟩
mutual
theorem rpV (I:Inv X pins σ H s):∀ {d:D}{v:V}{u:Value},dep d < 1000→Rp (gOf X) H d v→RelV v u→RpV s.heap d u
 | .non,v,u,hd,r,q=>by rw [Rp] at r;subst r;rw [RpV];exact q
 | .bl _,v,u,hd,r,q=>by rw [Rp] at r;subst r;rw [RpV];exact q
 | .int _,v,u,hd,r,q=>by rw [Rp] at r;subst r;rw [RpV];exact q
 | .str _,v,u,hd,r,q=>by rw [Rp] at r;subst r;rw [RpV];exact q
 | .tup ds,v,u,hd,r,q=>by
  rw [Rp] at r
  obtain ⟨a,xs,rfl,sq,rs⟩:=r
  cases q
  obtain ⟨its,rv,p,hz⟩:=I.tuple sq
  rw [RpV]
  rw [dep] at hd
  exact ⟨a,its,rfl,p,uU I (by omega) rs rv⟩
 | .lst ds,v,u,hd,r,q=>by
  rw [Rp] at r
  obtain ⟨a,xs,rfl,sq,rs⟩:=r
  cases q
  obtain ⟨its,rv,p,hz⟩:=I.list sq
  rw [RpV]
  rw [dep] at hd
  exact ⟨a,its,rfl,p.isList,uU I (by omega) rs rv⟩
 | .dct _ _,v,u,hd,r,q=>by rw [dep] at hd;omega
theorem uU (I:Inv X pins σ H s):∀ {ds:List D}{vs:List V}{us:List Value},deps ds < 1000→Rps (gOf X) H ds vs→Vals vs us→aD s.heap ds us
 | [],vs,us,hd,r,q=>by rw [r.nil_inv] at q;cases q;rw [aD]
 | d::ds,vs,us,hd,r,q=>by
  obtain ⟨v,ws,rfl,r0,rs⟩:=r.cons_inv
  rw [deps] at hd
  cases q with
  | cons q0 qs =>
   rw [aD]
   exact ⟨_,_,rfl,rpV I (by omega) r0 q0,uU I (by omega) rs qs⟩
end
end
structure Grow (H Hs H' Hs':Hp):Prop where
 keep:∀ a o,H a=some o→H' a=some o
 old:∀ a o,H a=some o→Hs' a=Hs a
 sub:Same Hs' H'
theorem Grow.refl {H Hs:Hp} (h:Same Hs H):Grow H Hs H Hs:=⟨fun _ _ q=>q,fun _ _ _=>rfl,h⟩
theorem Grow.trans {H Hs H1 Hs1 H2 Hs2:Hp} (a:Grow H Hs H1 Hs1) (b:Grow H1 Hs1 H2 Hs2):Grow H Hs H2 Hs2 :=
 ⟨fun c o q=>b.keep c o (a.keep c o q),fun c o q=>(b.old c o (a.keep c o q)).trans (a.old c o q),b.sub⟩
theorem Grow.same {H Hs H' Hs':Hp} (g:Grow H Hs H' Hs') (h:Same Hs H):Same Hs Hs':=fun a o q=>by rw [g.old a o (h a o q)];exact q
theorem Grow.new {H Hs:Hp}{p:Addr}{o:HO} (h:Same Hs H) (hp:H p=none):Grow H Hs (upd H p o) (upd Hs p o):=by
 refine ⟨fun a u q=>by rw [ao (ak q hp)];exact q,fun a u q=>by rw [ao (ak q hp)],fun a u q=>?_⟩
 by_cases e:a=p
 ·subst e;rw [aC] at q ⊢;exact q
 ·rw [ao e] at q ⊢;exact h a u q
theorem Grow.own {H Hs:Hp}{p:Addr}{o:HO} (h:Same Hs H) (hp:H p=none):Grow H Hs (upd H p o) Hs:=by
 refine ⟨fun a u q=>by rw [ao (ak q hp)];exact q,fun a u q=>rfl,fun a u q=>?_⟩
 rw [ao (ak (h a u q) hp)];exact h a u q
end Mi
namespace Mi
open PySem L2
open PyProof.Rows hiding St
section
variable {X:Cx}
theorem vG {a b:D} (h:bU a b=true):dep a≤30∧dep b≤30:=by
 unfold bU at h
 simpa using h
noncomputable def Y7 (X:Cx):R2:=fun x y H Q=>∃ d e,Rp (gOf X) H d x∧Rp (gOf X) H e y∧bU d e=true∧Q (.bl (au d e)) H
noncomputable def YT (X:Cx):R2:=fun x y H Q=>∃ d e,Rp (gOf X) H d x∧Rp (gOf X) H e y∧bU d e=true∧Q (.bl (!au d e)) H
theorem Xx (hu:X.A.units+100 < cLine):OpR X (compareOp .Eq) (Y7 X):=by
 intro pins s σ H x y v u Q I rx ry h
 obtain ⟨d,e,r1,r2,hf,q⟩:=h
 obtain ⟨f1,f2⟩:=vG hf
 exact Zd d e (rpV I (by omega) r1 rx) (rpV I (by omega) r2 ry) (by omega) (by omega) _ _ _ _ ⟨.bl (au d e),H,I,rfl,q⟩
theorem Ze (hu:X.A.units+100 < cLine):OpR X (compareOp .NotEq) (YT X):=by
 intro pins s σ H x y v u Q I rx ry h
 obtain ⟨d,e,r1,r2,hf,q⟩:=h
 obtain ⟨f1,f2⟩:=vG hf
 exact U5 d e (rpV I (by omega) r1 rx) (rpV I (by omega) r2 ry) (by omega) (by omega) _ _ _ _ ⟨.bl (!au d e),H,I,rfl,q⟩
open Classical in
noncomputable def eOf (h:Heap) (x:D) (y:Value):Bool:=if p:∃ d,RpV h d y then au (Classical.choose p) x else false
theorem Nx {h:Heap}{x d:D}{y:Value} (r:RpV h d y):eOf h x y=au d x:=by
 unfold eOf
 have p:∃ d,RpV h d y:=⟨d,r⟩
 rw [dif_pos p,RpV.inj (Classical.choose_spec p) r]
theorem rY {h:Heap}{x:D}:∀ {ds:List D}{us:List Value},aD h ds us→us.any (eOf h x)=ds.any fun d=>au d x
 | [],us,r=>by rw [aD] at r;subst r;rfl
 | d::ds,us,r=>by
  rw [aD] at r
  obtain ⟨y,ys,rfl,r0,rs⟩:=r
  rw [List.any_cons,List.any_cons,Nx r0,rY rs]
theorem rE {A:Around}{s:Shared}{x:D}{v:Value} (rx:RpV s.heap x v) (hx:A.units+dep x < cLine):∀ {ds:List D}{us:List Value},aD s.heap ds us→A.units+deps ds < cLine→∀ y∈us,SeqAt.EqAt A s y v (eOf s.heap x y)
 | [],us,r,_,y,hy=>by rw [aD] at r;subst r;simp at hy
 | d::ds,us,r,hd,y,hy=>by
  rw [aD] at r
  obtain ⟨z,ys,rfl,r0,rs⟩:=r
  rw [deps] at hd
  rcases List.mem_cons.mp hy with e | hy
  ·subst e
   rw [Nx r0]
   exact iZ d x r0 rx (by omega) hx
  ·exact rE rx hx rs (by omega) y hy
theorem Hx {ds:List D}{n:Nat}:(∀ d∈ds,dep d≤n)→deps ds≤n:=by
 induction ds with
 | nil=>intro _;simp [deps]
 | cons d ds ih =>
  intro h
  rw [deps]
  have h1:=h d List.mem_cons_self
  have h2:=ih fun x hx=>h x (List.mem_cons_of_mem _ hx)
  omega
noncomputable def Fg (X:Cx) (neg:Bool):R2:=fun x y H Q=>∃ d ds p xs,Rp (gOf X) H d x∧y=.ref p∧(SqL X.K H p xs∨SqT X.K H p xs)∧Rps (gOf X) H ds xs∧(ds.all fun e=>bU e d)=true∧dep d≤30 ∧
 Q (.bl (if neg then !(ds.any fun e=>au e d) else ds.any fun e=>au e d)) H
theorem Xq (hu:X.A.units+100 < cLine):OpR X (compareOp .In) (Fg X false):=by
 intro pins s σ H x y v u Q I rx ry h
 obtain ⟨d,ds,p,xs,r1,rfl,sq,rs,hf,hd,q⟩:=h
 cases ry
 have dd:deps ds≤30:=Hx fun e he=>(vG (List.all_eq_true.mp hf e he)).1
 have rx':=rpV I (by omega) r1 rx
 have hin:X.A.in1.units=X.A.units+1:=rfl
 rcases sq with sq | sq
 ·obtain ⟨its,rv,pl,hz⟩:=I.list sq
  have rs':=uU I (by omega) rs rv
  refine SeqAt.in_listAt (eOf s.heap d) pl.isList (fun z hz=>rE rx' (by omega) rs' (by omega) z (by simpa using hz)) ?_
  refine ⟨.bl _,H,I,rfl,?_⟩
  rw [List.any_toArray,rY rs']
  exact q
 ·obtain ⟨its,rv,pl,hz⟩:=I.tuple sq
  have rs':=uU I (by omega) rs rv
  refine SeqAt.in_tupleAt (eOf s.heap d) pl (fun z hz=>rE rx' (by omega) rs' (by omega) z (by simpa using hz)) ?_
  refine ⟨.bl _,H,I,rfl,?_⟩
  rw [List.any_toArray,rY rs']
  exact q
theorem Pu (hu:X.A.units+100 < cLine):OpR X (compareOp .NotIn) (Fg X true):=by
 intro pins s σ H x y v u Q I rx ry h
 obtain ⟨d,ds,p,xs,r1,rfl,sq,rs,hf,hd,q⟩:=h
 cases ry
 have dd:deps ds≤30:=Hx fun e he=>(vG (List.all_eq_true.mp hf e he)).1
 have rx':=rpV I (by omega) r1 rx
 have hin:X.A.in1.units=X.A.units+1:=rfl
 rcases sq with sq | sq
 ·obtain ⟨its,rv,pl,hz⟩:=I.list sq
  have rs':=uU I (by omega) rs rv
  refine SeqAt.notIn_listAt (eOf s.heap d) pl.isList (fun z hz=>rE rx' (by omega) rs' (by omega) z (by simpa using hz)) ?_
  refine ⟨.bl _,H,I,rfl,?_⟩
  rw [List.any_toArray,rY rs']
  exact q
 ·obtain ⟨its,rv,pl,hz⟩:=I.tuple sq
  have rs':=uU I (by omega) rs rv
  refine SeqAt.notIn_tupleAt (eOf s.heap d) pl (fun z hz=>rE rx' (by omega) rs' (by omega) z (by simpa using hz)) ?_
  refine ⟨.bl _,H,I,rfl,?_⟩
  rw [List.any_toArray,rY rs']
  exact q
structure DictR (X:Cx) (H:Hp) (a:Addr) (ks:List D) (xs:List (D × Addr × Value)) (ys:List V):Prop where
 at_:H a=some (.ext (DAt (gOf X) a xs ys))
 keys:ks=xs.map (·.1)
 ok:∀ k∈ks,isKey k=true
 rep:Rps (gOf X) H ks (xs.map fun x=>V.ref x.2.1)
theorem iB {d:D} (h:isKey d=true):keyOk d=true∧dep d≤6∧∃ ds,d=.tup ds:=by
 unfold isKey at h
 simp only [Bool.and_eq_true,decide_eq_true_eq] at h
 refine ⟨h.1.1,h.1.2,?_⟩
 cases d <;> simp at h
 exact ⟨_,rfl⟩
theorem G9 {g:G}{H:Hp}:∀ {xs:List (D × Addr × Value)},Rps g H (xs.map (·.1)) (xs.map fun x=>V.ref x.2.1)→∀ x∈xs,Rp g H x.1 (.ref x.2.1)
 | [],r,x,hx=>by simp at hx
 | y::ys,r,x,hx=>by
  rw [List.map_cons,List.map_cons] at r
  obtain ⟨v,ws,e,r0,rs⟩:=r.cons_inv
  cases e
  rcases List.mem_cons.mp hx with e | hx
  ·rw [e];exact r0
  ·exact G9 rs x hx
section
variable {pins:List (Addr × Obj)}{σ:St}{H:Hp}{s:Shared}{a:Addr}{ks:List D}{xs:List (D × Addr × Value)}{ys:List V}
theorem dictOf (I:Inv X pins σ H s) (d:DictR X H a ks xs ys):(a == sysModules)=false∧xs.length≤sizeLine∧Vals ys (xs.map (·.2.2))∧s.heap.DictOfH (iz X.prog X.w) a xs:=by
 obtain ⟨⟨h1,h2,h3,o,es,ep,h4,h5,h6,h7,h8⟩,_⟩:=(show cO X.prog X.w H s.heap a (.ext (DAt (gOf X) a xs ys)) from I.hok a _ d.at_)
 refine ⟨h1,h2,h3,o,es,ep,h4,h5,h6,h7,fun x hx=>?_,h8⟩
 have hk:=iB (d.ok x.1 (by rw [d.keys];exact List.mem_map.mpr ⟨x,hx,rfl⟩))
 have rep:=d.rep
 rw [d.keys] at rep
 exact ⟨hk.1,hk.2.1,rpV I (by omega) (G9 rep x hx) rfl⟩
theorem Aj {k:D}{b:Addr} (I:Inv X pins σ H s) (hk:isKey k=true) (r:Rp (gOf X) H k (.ref b)):(iz X.prog X.w).is s.heap k b:=by
 have h:=iB hk
 exact ⟨h.1,h.2.1,rpV I (by omega) r rfl⟩
theorem tX {k:D}:(atKey xs k).isSome=decide (k∈xs.map (·.1)):=by
 unfold atKey
 rw [Option.isSome_map,Bool.eq_iff_iff,List.find?_isSome,decide_eq_true_iff,List.mem_map]
 constructor
 ·rintro ⟨x,hx,e⟩
  exact ⟨x,hx,of_decide_eq_true e⟩
 ·rintro ⟨x,hx,e⟩
  exact ⟨x,hx,decide_eq_true e⟩
end
noncomputable def Ay (X:Cx) (neg:Bool):R2:=fun x y H Q=>∃ k a ks xs ys,Rp (gOf X) H k x∧isKey k=true∧y=.ref a∧DictR X H a ks xs ys∧Q (.bl (if neg then !decide (k∈ks) else decide (k∈ks))) H
theorem Wa (hu:X.A.units+100 < cLine):OpR X (compareOp .In) (Ay X false):=by
 intro pins s σ H x y v u Q I rx ry h
 obtain ⟨k,a,ks,xs,ys,r1,hk,rfl,d,q⟩:=h
 cases ry
 obtain ⟨_,_,ds,rfl⟩:=iB hk
 rw [Rp] at r1
 obtain ⟨b,zs,rfl,sq,rs⟩:=id r1
 cases rx
 obtain ⟨h1,h2,h3,h4⟩:=dictOf I d
 have hin:X.A.in1.units=X.A.units+1:=rfl
 refine wpAny_in_heap (knd:=iz X.prog X.w) (by show X.A.in1.units+10 < cLine;omega) (Aj I hk (by rw [Rp];exact ⟨b,zs,rfl,sq,rs⟩)) h1 h4 ?_
 refine ⟨.bl _,H,I.tok _,rfl,?_⟩
 rw [tX,← d.keys]
 exact q
theorem Mh (hu:X.A.units+100 < cLine):OpR X (compareOp .NotIn) (Ay X true):=by
 intro pins s σ H x y v u Q I rx ry h
 obtain ⟨k,a,ks,xs,ys,r1,hk,rfl,d,q⟩:=h
 cases ry
 obtain ⟨_,_,ds,rfl⟩:=iB hk
 rw [Rp] at r1
 obtain ⟨b,zs,rfl,sq,rs⟩:=id r1
 cases rx
 obtain ⟨h1,h2,h3,h4⟩:=dictOf I d
 have hin:X.A.in1.units=X.A.units+1:=rfl
 refine wpAny_notIn_heap (knd:=iz X.prog X.w) (by show X.A.in1.units+10 < cLine;omega) (Aj I hk (by rw [Rp];exact ⟨b,zs,rfl,sq,rs⟩)) h1 h4 ?_
 refine ⟨.bl _,H,I.tok _,rfl,?_⟩
 rw [tX,← d.keys]
 exact q
noncomputable def iR (ks vs:List D) (k v:D):List D × List D:=if k∈ks then (ks,(ks.zip vs).map fun p=>if p.1=k then v else p.2) else (ks++[k],vs++[v])
noncomputable def jq (xs:List (D × Addr × Value)) (ys:List V) (k:D) (b:Addr) (u:Value) (y:V):List (D × Addr × Value) × List V :=
 if k∈xs.map (·.1) then (xs.map (putAt k u),((xs.map (·.1)).zip ys).map fun p=>if p.1=k then y else p.2) else (xs++[(k,b,u)],ys++[y])
theorem Gd {g:G}{H:Hp}{k:D}{v:D}{y:V} (r:Rp g H v y):∀ {ks vs:List D}{ys:List V},ks.length=vs.length→Rps g H vs ys→Rps g H ((ks.zip vs).map fun p=>if p.1=k then v else p.2) ((ks.zip ys).map fun p=>if p.1=k then y else p.2)
 | [],vs,ys,hl,q=>by simp [Rps]
 | c::ks,[],ys,hl,q=>by simp at hl
 | c::ks,d::vs,ys,hl,q=>by
  obtain ⟨z,zs,rfl,q0,qs⟩:=q.cons_inv
  rw [List.zip_cons_cons,List.zip_cons_cons,List.map_cons,List.map_cons]
  refine Rps.cons ?_ (Gd r (by simpa using hl) qs)
  dsimp only
  split
  ·exact r
  ·exact q0
theorem Ad {k:D}{u:Value}{y:V} (r:RelV y u):∀ {xs:List (D × Addr × Value)}{ys:List V},Vals ys (xs.map (·.2.2))→Vals (((xs.map (·.1)).zip ys).map fun p=>if p.1=k then y else p.2) ((xs.map (putAt k u)).map (·.2.2))
 | [],ys,q=>by cases q;exact .nil
 | x::xs,ys,q=>by
  rw [List.map_cons] at q
  cases q with
  | cons q0 qs =>
   rw [List.map_cons,List.zip_cons_cons,List.map_cons,List.map_cons,List.map_cons]
   refine .cons ?_ (Ad r qs)
   dsimp only
   unfold putAt
   split
   ·exact r
   ·exact q0
noncomputable def ZK (X:Cx):Lp:=fun o i v H Q=>∃ a k ks xs ys,o=.ref a∧Rp (gOf X) H k i∧isKey k=true∧DictR X H a ks xs ys∧xs.length < lim ∧
 ∀ b u,i=.ref b→RelV v u→Q (upd H a (.ext (DAt (gOf X) a (jq xs ys k b u v).1 (jq xs ys k b u v).2)))
theorem set_dict (hu:X.A.units+100 < cLine):Yp X (ZK X):=by
 intro pins s σ H o i v ov iv u Q I ro ri rv h
 obtain ⟨a,k,ks,xs,ys,rfl,r1,hk,d,hl,q⟩:=h
 cases ro
 obtain ⟨_,_,ds,rfl⟩:=iB hk
 rw [Rp] at r1
 obtain ⟨b,zs,rfl,sq,rs⟩:=id r1
 cases ri
 obtain ⟨h1,h2,h3,h4⟩:=dictOf I d
 have hin:X.A.in1.units=X.A.units+1:=rfl
 have hlz:=lG
 refine wpAny_setItem_heap (hsz:=by omega) (knd:=iz X.prog X.w) (by show X.A.in1.units+10 < cLine;omega) (Aj I hk (by rw [Rp];exact ⟨b,zs,rfl,sq,rs⟩)) h4 fun h' hm' hs'=>?_
 refine ⟨_,?_,q b u rfl rv⟩
 have mu:Mut (H a):=by rw [d.at_];exact trivial
 obtain ⟨o',es',ep',e1,e2,e3,e4,e5,e6⟩:=id hm'
 refine I.write (x:=a) (e:=a) mu (.inl rfl) (fun c w hc hw=>(hs'.2 c hc).trans hw) ⟨_,e1⟩ ?_
 have put:storedH xs (.tup ds) b u=(jq xs ys (.tup ds) b u v).1∧Vals (jq xs ys (.tup ds) b u v).2 ((jq xs ys (.tup ds) b u v).1.map (·.2.2))∧(jq xs ys (.tup ds) b u v).1.length≤sizeLine:=by
  unfold jq storedH
  rw [tX]
  by_cases hm:D.tup ds∈xs.map (·.1)
  ·rw [if_pos hm,if_pos (decide_eq_true hm)]
   exact ⟨rfl,Ad rv h3,by rw [List.length_map];omega⟩
  ·rw [if_neg hm,if_neg (by simpa using hm)]
   refine ⟨rfl,?_,by rw [List.length_append,List.length_singleton];omega⟩
   rw [List.map_append]
   exact h3.append (.cons rv .nil)
 rw [put.1] at e4 e6
 refine ⟨⟨h1,put.2.2,put.2.1,o',es',ep',e1,e2,e3,e4,e6⟩,⟨_,e1⟩,fun ha hb p kp=>?_⟩
 obtain ⟨p1,p2,p3,o2,es2,ep2,q1,q2⟩:=p
 exact ⟨p1,p2,p3,o2,es2,ep2,kp _ q1,q2⟩
theorem CN {H:Hp}{a b:Addr}{k v:D}{ks vs:List D}{xs:List (D × Addr × Value)}{ys:List V}{u:Value}{y:V} (keys:ks=xs.map (·.1)) (ok:∀ k∈ks,isKey k=true) (rep:Rps (gOf X) H ks (xs.map fun x=>V.ref x.2.1)) (hv:Rps (gOf X) H vs ys) (hk:isKey k=true) (rk:Rp (gOf X) H k (.ref b)) (ry:Rp (gOf X) H v y)
  (hl:ks.length=vs.length) :
  (iR ks vs k v).1=(jq xs ys k b u y).1.map (·.1)∧(∀ c∈(iR ks vs k v).1,isKey c=true)∧Rps (gOf X) H (iR ks vs k v).1 ((jq xs ys k b u y).1.map fun x=>V.ref x.2.1)∧Rps (gOf X) H (iR ks vs k v).2 (jq xs ys k b u y).2:=by
 unfold iR jq
 rw [keys] at rep
 rw [keys]
 by_cases hm:k∈xs.map (·.1)
 ·rw [if_pos hm,if_pos hm]
  refine ⟨(keys_map_putAt xs k u).symm,fun c hc=>ok c (by rw [keys];exact hc),?_,?_⟩
  ·have e:((xs.map (putAt k u)).map fun x=>V.ref x.2.1)=xs.map fun x=>V.ref x.2.1:=by
    rw [List.map_map]
    refine List.map_congr_left fun x _=>?_
    show V.ref (putAt k u x).2.1=_
    unfold putAt
    split <;> rfl
   rw [e];exact rep
  ·exact Gd ry (by rw [← keys];exact hl) hv
 ·rw [if_neg hm,if_neg hm]
  refine ⟨by rw [List.map_append];rfl,fun c hc=>?_,?_,hv.append (Rps.one ry)⟩
  ·rcases List.mem_append.mp hc with z | z
   ·exact ok c (by rw [keys];exact z)
   ·rw [List.mem_singleton.mp z];exact hk
  ·rw [List.map_append]
   exact rep.append (Rps.one rk)
noncomputable def aaf (X:Cx):TE:=fun _ H Q=>∀ p,H p=none→Q (.ref p) (upd H p (.ext (DAt (gOf X) p [] [])))
theorem Kr {pos:Pos}:PE X (.Dict [] [] pos) (aaf X):=fun pins s σ H Q I h=>by
 have hb:sysModules < s.heap.objs.size:=I.big
 refine wpAny_Dict_empty ⟨.ref s.heap.objs.size,_,I.laid (a:=s.heap.objs.size) (o:=.ext (DAt (gOf X) s.heap.objs.size [] [])) (t':=s.toks) (fun _ _ q=>Heap.get?_push_of_some _ q) (Nat.le_refl _) ?_,rfl,h _ (I.hok.fresh (Nat.le_refl _))⟩
 refine ⟨⟨beq_eq_false_iff_ne.mpr (Ne.symm (Nat.ne_of_lt hb)),Nat.zero_le _,.nil,_,#[],0,Heap.get?_push_size _ rfl,⟨rfl,rfl,rfl⟩,rfl,rfl,List.nodup_nil⟩,⟨_,Heap.get?_push_size _ rfl⟩,fun h1 h2 p kp=>?_⟩
 obtain ⟨p1,p2,p3,o2,es2,ep2,q1,q2⟩:=p
 exact ⟨p1,p2,p3,o2,es2,ep2,kp _ q1,q2⟩
end
end Mi
namespace Mi
open PySem L2
open PyProof.Rows hiding St
section
variable {X:Cx}
theorem uF:∀ {bs:List Bool}{us:List Value},Vals (bs.map V.bl) us→LSm.BoolsAre us bs
 | [],us,q=>by cases q;exact .nil
 | b::bs,us,q=>by
  rw [List.map_cons] at q
  cases q with
  | cons q0 qs=>cases q0;exact .cons b (uF qs)
noncomputable def XM (X:Cx):List V→Hp→VK→Prop:=fun xs H Q=>∃ (p:Addr) (bs:List Bool),xs=[.ref p]∧SqL X.K H p (bs.map V.bl)∧Q (.bl (bs.all id)) H
noncomputable def Xl (X:Cx):List V→Hp→VK→Prop:=fun xs H Q=>∃ (p:Addr) (bs:List Bool),xs=[.ref p]∧SqL X.K H p (bs.map V.bl)∧Q (.bl (bs.any id)) H
theorem OJ (hc : X.calm = true) : jx X (.builtin "all") (XM X):=by
 intro pins s σ H xs us Q I r h
 obtain ⟨p,bs,rfl,sq,q⟩:=h
 obtain ⟨u,rfl,ru⟩:=vals1 r
 cases ru
 obtain ⟨its,rv,pl,hz⟩:=I.list sq
 have hb:=uF rv
 have hl:=pl.isList
 have hlt:p < s.heap.objs.size:=by obtain ⟨_,e,_⟩:=hl;exact Heap.lt_size e
 refine call_all_walk (wpAny_pyIter_list hl ?_)
 refine ⟨s.heap.objs.size,[s.heap.objs.size,p],[s.heap.objs.size],its.toArray.size,_,_,fun i=>(bs[i]?).getD true,rfl,Walks.list (A:=X.A.in1) (I.ok.hd hc) _ p (Nat.ne_of_lt hlt) its.toArray,
  ⟨⟨_,Heap.get?_push_size _ rfl,rfl,rfl⟩,hl.push _⟩,fun i v s' Q' E' hP hQ=>?_,fun h' tk hk=>?_⟩
 ·obtain ⟨b,e,rfl⟩:=hb.get i v (by simpa using hP)
  simp only [e,Option.getD_some] at hQ
  exact wpAny_truthy_bool hQ
 ·have e:((List.range its.toArray.size).all fun i=>(bs[i]?).getD true)=bs.all id:=by
   rw [List.size_toArray,hb.length];exact LSm.range_all bs
  rw [e]
  exact ⟨.bl _,H,I.kept (LSm.kept_iter hk),rfl,q⟩
theorem M4 (hc : X.calm = true) : jx X (.builtin "any") (Xl X):=by
 intro pins s σ H xs us Q I r h
 obtain ⟨p,bs,rfl,sq,q⟩:=h
 obtain ⟨u,rfl,ru⟩:=vals1 r
 cases ru
 obtain ⟨its,rv,pl,hz⟩:=I.list sq
 have hb:=uF rv
 have hl:=pl.isList
 have hlt:p < s.heap.objs.size:=by obtain ⟨_,e,_⟩:=hl;exact Heap.lt_size e
 refine call_any_walk (wpAny_pyIter_list hl ?_)
 refine ⟨s.heap.objs.size,[s.heap.objs.size,p],[s.heap.objs.size],its.toArray.size,_,_,fun i=>(bs[i]?).getD false,rfl,Walks.list (A:=X.A.in1) (I.ok.hd hc) _ p (Nat.ne_of_lt hlt) its.toArray,
  ⟨⟨_,Heap.get?_push_size _ rfl,rfl,rfl⟩,hl.push _⟩,fun i v s' Q' E' hP hQ=>?_,fun h' tk hk=>?_⟩
 ·obtain ⟨b,e,rfl⟩:=hb.get i v (by simpa using hP)
  simp only [e,Option.getD_some] at hQ
  exact wpAny_truthy_bool hQ
 ·have e:((List.range its.toArray.size).any fun i=>(bs[i]?).getD false)=bs.any id:=by
   rw [List.size_toArray,hb.length];exact LSm.range_any bs
  rw [e]
  exact ⟨.bl _,H,I.kept (LSm.kept_iter hk),rfl,q⟩
noncomputable def Ty.name:Ty→String
 | .int => "int" | .bool => "bool" | .str => "str" | .tuple => "tuple" | .list => "list"
noncomputable def tyD:D→String
 | .non => "NoneType" | .bl _ => "bool" | .int _ => "int" | .str _ => "str" | .tup _ => "tuple" | .lst _ => "list" | .dct _ _ => "dict"
noncomputable def jJ (d:D) (t:Ty):Bool:=match t,d with
 | .int,.int _=>true | .int,.bl _=>true | .bool,.bl _=>true | .str,.str _=>true | .tuple,.tup _=>true | .list,.lst _=>true
 | _,_=>false
theorem Yd (K:PySem.W.Frag) (d:D) (t:Ty):PySem.W.kitOne K (.type (tyD d)) (.type t.name)=some (jJ d t):=by
 cases d <;> cases t <;> rfl
theorem WT {pins:List (Addr × Obj)}{σ:St}{H:Hp}{s:Shared}{A:Around}{E:Value→Shared→Prop}{Q:Value→Shared→Prop}{d:D}{v:V}{u:Value} (t:Ty) (I:Inv X pins σ H s) (r:Rp (gOf X) H d v) (ru:RelV v u)
  (h : ∀ tk, Q (.bool (jJ d t)) { s with toks:=tk }) : wpAny (model X.prog X.w) A (call (.builtin "isinstance") [u, .type t.name]) Q E s:=by
 have e:=Yd X.K d t
 cases d with
 | non=>rw [Rp] at r;subst r;exact oR I ru .non e h
 | bl b=>rw [Rp] at r;subst r;exact oR I ru (.bl b) e h
 | int b=>rw [Rp] at r;subst r;exact oR I ru (.int b) e h
 | str b=>rw [Rp] at r;subst r;exact oR I ru (.str b) e h
 | tup ds =>
  rw [Rp] at r
  obtain ⟨a,xs,rfl,sq,rs⟩:=r
  cases ru
  obtain ⟨its,rv,⟨o,h1,h2,_⟩,hz⟩:=I.tuple sq
  exact PySem.W.kia_one PySem.W.kitx_tuple I.kIn ⟨o,h1,h2⟩ e (fun z=>nomatch z) h
 | lst ds =>
  rw [Rp] at r
  obtain ⟨a,xs,rfl,sq,rs⟩:=r
  cases ru
  obtain ⟨its,rv,pl,hz⟩:=I.list sq
  obtain ⟨o,h1,h2,_⟩:=pl.isList
  exact PySem.W.kia_one PySem.W.kitx_list I.kIn ⟨o,h1,h2⟩ e (fun z=>nomatch z) h
 | dct ks vs =>
  rw [Rp] at r
  obtain ⟨a,xs,ys,rfl,hH,_⟩:=r
  cases ru
  obtain ⟨⟨_,_,_,o,es,ep,h4,h5,_⟩,_⟩:=(show cO X.prog X.w H s.heap a (.ext (DAt (gOf X) a xs ys)) from I.hok a _ hH)
  exact PySem.W.kia_one PySem.W.kitx_dict I.kIn ⟨o,h4,h5.1⟩ e (fun z=>nomatch z) h
noncomputable def Zr (X:Cx):List V→Hp→VK→Prop:=fun xs H Q=>∃ d v t,xs=[v,.ty t.name]∧Rp (gOf X) H d v∧Q (.bl (jJ d t)) H
theorem O7 : jx X (.builtin "isinstance") (Zr X):=by
 intro pins s σ H xs us Q I r h
 obtain ⟨d,v,t,rfl,rd,q⟩:=h
 obtain ⟨u,w',rfl,ru,rw'⟩:=vals2 r
 cases rw'
 exact WT t I rd ru fun tk=>⟨.bl _,H,I.tok _,rfl,q⟩
noncomputable def SrcR (X:Cx) (H:Hp) (p:Addr) (ds:List D) (zs:List V):Prop :=
 Rps (gOf X) H ds zs∧(SqL X.K H p zs∨SqT X.K H p zs∨∃ xs ys,DictR X H p ds xs ys∧zs=xs.map fun x=>V.ref x.2.1)
theorem Iz {pins:List (Addr × Obj)}{σ:St}{H:Hp}{s:Shared}{A:Around}{E:Value→Shared→Prop}{p:Addr}{ds:List D}{zs:List V}{Q:List Value→Shared→Prop} (hA:A.handled=none) (I:Inv X pins σ H s) (S:SrcR X H p ds zs)
  (h:∀ h' tk us,(∀ b o,s.heap.get? b=some o→h'.get? b=some o)→Vals zs us→Q us { s with heap:=h',toks:=tk }):wpAny (model X.prog X.w) A (collect (.ref p)) Q E s:=by
 rcases S.2 with sq | sq | ⟨xs,ys,d,ez⟩
 ·obtain ⟨its,rv,pl,hz⟩:=I.list sq
  obtain ⟨o,ho,hc,n,hd⟩:=pl.isList
  have hlen:=rv.length
  exact wpAny_collect_seq p (.inl rfl) ho hc hd (fun h' kp=>h h' s.toks its kp rv) (by simp only [List.size_toArray];omega)
 ·obtain ⟨its,rv,pl,hz⟩:=I.tuple sq
  obtain ⟨o,ho,hc,n,hd⟩:=pl
  have hlen:=rv.length
  exact wpAny_collect_seq p (.inr rfl) ho hc hd (fun h' kp=>h h' s.toks its kp rv) (by simp only [List.size_toArray];omega)
 ·subst ez
  obtain ⟨⟨h1,h2,h3,o,es,ep,h4,h5,h6,h7,h8⟩,_⟩:=(show cO X.prog X.w H s.heap p (.ext (DAt (gOf X) p xs ys)) from I.hok p _ d.at_)
  have hsz:es.size=xs.length:=by rw [← Array.length_toList,h7,List.length_map]
  refine PySem.W.kdu_collect (Ve (ep:=ep) (es:=es) h1) hA ⟨o,h4,h5,h6⟩ (by omega) fun h' tk acc kp hacc=>h h' tk acc.toList kp ?_
  have key:∀ (l:List (D × Addr × Value)) (us:List Value),l.length=us.length→(∀ (j:Nat) u,us[j]?=some u→∃ x,l[j]?=some x∧u=.ref x.2.1)→Vals (l.map fun x=>V.ref x.2.1) us:=by
   intro l
   induction l with
   | nil=>intro us hl _;cases us with | nil=>exact .nil | cons _ _=>simp at hl
   | cons x l ih =>
    intro us hl hj
    cases us with
    | nil=>simp at hl
    | cons u us =>
     obtain ⟨y,ey,eu⟩:=hj 0 u rfl
     simp at ey
     subst ey
     exact .cons eu (ih us (by simpa using hl) fun j w hw=>by simpa using hj (j+1) w (by simpa using hw))
  refine key xs acc.toList (by have e:=hacc.1;simp only [Array.length_toList];omega) fun j u hu=>?_
  obtain ⟨hj,eu⟩:=hacc.2 j u (by rw [← Array.getElem?_toList];exact hu)
  have hjx:j < xs.length:=by omega
  refine ⟨xs[j],by simp [hjx],?_⟩
  rw [eu]
  have e:=entry_at h7 j
  rw [Array.getElem?_eq_getElem hj,List.getElem?_eq_getElem hjx] at e
  have e':=Option.some.inj (e.trans (Option.map_some ..))
  rw [e']
  rfl
noncomputable def J9 (X:Cx):List V→Hp→VK→Prop:=fun vs H Q=>∃ (p:Addr) (ds:List D) (zs:List V),vs=[.ref p]∧SrcR X H p ds zs∧SortOk ds∧∀ S ys,H S=none→(∀ Hs,Rps (gOf X) Hs ds zs→Rps (gOf X) Hs (mJ ds) ys)→Q (.ref S) (upd H S (.lst ys))
theorem Gs (hc : X.calm = true) (hu : X.A.units + 100 < cLine) : jx X (.builtin "sorted") (J9 X):=by
 intro pins s σ H xs us Q I r h
 obtain ⟨p,ds,zs,rfl,src,S,q⟩:=h
 obtain ⟨u,rfl,ru⟩:=vals1 r
 cases ru
 refine Calls.call_function_entry kind_sorted plain_sorted entry_sorted (args_sorted1 _) ?_
 unfold Builtin.«sorted»
 refine wpAny_bind (m:=checkCount "sorted" 1 1 _) (wpAny_pure ?_)
 refine wpAny_bind (Iz (A:=X.A.in1) (I.ok.hd hc) I src fun h' tk vs kp rv=>?_)
 have hlen:=src.1.length
 have hlen2:=rv.length
 have hS64:=S.len
 refine wpAny_bind (wpAny_newList ?_ (by rw [sizeLine_eq];omega))
 have hoL : (h'.push (seqObj "list" vs.toArray 0)).get? h'.objs.size = some (seqObj "list" vs.toArray 0):=Heap.get?_push_size _ rfl
 have I2 : Inv X pins σ H { s with heap:=h'.push (seqObj "list" vs.toArray 0), toks:=tk }:=I.kept fun b o e => Heap.get?_push_of_some _ (kp b o e)
 have I1:Inv X pins σ H { s with heap:=h',toks:=tk }:=I.kept kp
 have dS:=S.dp
 have rs:=uU I2 (by omega) src.1 rv
 refine wpAny_bind (wpAny_holding (wpAny_call_entry slot_list_sort (s:={ s with heap:=h'.push (seqObj "list" vs.toArray 0), toks:=tk }) ⟨_, hoL, rfl⟩ entry_list_sort (M7 hoL S rs (by show X.A.units + 1 + 1 + 40 < cLine; omega) fun pm pb so => ⟨_, rfl, ?_⟩) (args_list_sort _)))
 refine wpAny_pure ⟨_,rfl,?_⟩
 have hpsz:=pb.size
 have hfresh:H h'.objs.size=none:=I1.hok.fresh (Nat.le_refl _)
 obtain ⟨c,hc2⟩:=sortedHeap_at (out:=List.toArray (pm.toList.map fun i=>vs.getD i Value.none)) hoL
 have plt:∀ i∈pm.toList,i < ds.length:=fun i hi=>by
  have:=(Array.perm_iff_toList_perm.mp pb.perm).mem_iff (a:=i)
  simp at this
  exact this.mp (by simpa using hi)
 have getV:∀ {i},i < ds.length→RelV (zs.getD i .non) (vs.getD i Value.none):=fun {i} hi=>by
  have e1:zs.getD i .non=zs[i]'(by omega):=by simp [show i < zs.length by omega]
  obtain ⟨u,e2,ru⟩:=rv.get (i:=i) (x:=zs[i]'(by omega)) (by simp [show i < zs.length by omega])
  rw [e1]
  have e3:vs.getD i Value.none=u:=by simp [List.getD,e2]
  rw [e3];exact ru
 have valsP:∀ l:List Nat,(∀ i∈l,i < ds.length)→Vals (l.map fun i=>zs.getD i .non) (l.map fun i=>vs.getD i Value.none):=by
  intro l
  induction l with
  | nil=>intro _;exact .nil
  | cons i l ih=>intro hl;exact .cons (getV (hl i List.mem_cons_self)) (ih fun j hj=>hl j (List.mem_cons_of_mem _ hj))
 have repsP:∀ Hs,Rps (gOf X) Hs ds zs→∀ l:List Nat,(∀ i∈l,i < ds.length)→Rps (gOf X) Hs (l.map fun i=>ds.getD i .non) (l.map fun i=>zs.getD i .non):=by
  intro Hs rHs l
  induction l with
  | nil=>intro _;exact Rps.nil
  | cons i l ih =>
   intro hl
   have hi:=hl i List.mem_cons_self
   obtain ⟨v,e1,rr⟩:=rHs.getD (i:=i) (d:=ds.getD i .non) (by simp [hi])
   have e2:zs.getD i .non=v:=by simp [List.getD,e1]
   rw [List.map_cons,List.map_cons]
   refine Rps.cons ?_ (ih fun j hj=>hl j (List.mem_cons_of_mem _ hj))
   rw [e2];exact rr
 have perm:(pm.toList.map fun i=>ds.getD i .non).Perm ds:=by
  have h1:(pm.toList.map fun i=>ds.getD i .non).Perm ((List.range ds.length).map fun i=>ds.getD i .non):=((Array.perm_iff_toList_perm.mp pb.perm).map _)
  have h2:(List.range ds.length).map (fun i=>ds.getD i D.non)=ds:=by
   refine List.ext_getElem (by simp) fun i h1 h2=>?_
   simp at h1
   simp [h1]
  rw [h2] at h1
  exact h1
 have sorted:(pm.toList.map fun i=>ds.getD i .non).Pairwise leD:=by
  rw [List.pairwise_iff_getElem]
  intro i j hi hj hij
  simp only [List.length_map,Array.length_toList] at hi hj
  simp only [List.getElem_map,Array.getElem_toList]
  have e:=so i j (by omega) (by omega)
  have ki:Kp (iK ds) pm i=iK ds pm[i]:=by unfold Kp;rw [Array.getElem?_eq_getElem hi]
  have kj:Kp (iK ds) pm j=iK ds pm[j]:=by unfold Kp;rw [Array.getElem?_eq_getElem hj]
  rw [ki,kj] at e
  unfold leD
  rw [← Kh S.cmp (plt _ (by simp)) (plt _ (by simp))]
  exact decide_eq_false (by omega)
 have eS:=HW S.cmp perm sorted
 refine ⟨.ref h'.objs.size,upd H h'.objs.size (.lst (pm.toList.map fun i=>zs.getD i .non)),?_,rfl,q _ _ hfresh (fun Hs rHs=>by rw [eS];exact repsP Hs rHs _ plt)⟩
 refine I1.laid (t':=tk) (fun b o e=>?_) (Nat.le_refl _) ⟨?_,_,c,valsP _ plt,?_⟩
 ·have hlt:b < h'.objs.size:=Heap.lt_size e
  rw [sortedHeap_old (Nat.ne_of_lt hlt) (by rw [size_push'];exact Nat.lt_succ_of_lt hlt)]
  exact Heap.get?_push_of_some _ e
 ·rw [List.length_map,Array.length_toList,hpsz,sizeLine_eq];omega
 ·exact hc2
theorem RB {prog:Program}{w:World}{A:Around}{E:Value→Shared→Prop}{s:Shared}{t b:Addr}{ws:List Value}{Q:Value→Shared→Prop} (ht:IsTup s.heap t (List.toArray [])) (hb:IsTup s.heap b ws.toArray)
  (h1:Q (.ref b) s):wpAny (model prog w) A (binaryOp .Add (.ref t) (.ref b)) Q E s:=by
 obtain ⟨⟨cls,dd,data,sl⟩,ho,hc,n,hd⟩:=id ht
 obtain ⟨⟨cls2,dd2,data2,sl2⟩,ho2,hc2,n2,hd2⟩:=id hb
 simp only at hc hd hc2 hd2
 subst hc hd hc2 hd2
 exact concat_meets ⟨_,ho,rfl⟩ ⟨_,ho2,rfl⟩ noFill_tuple_add seq_tuple_add PySem.F.slot_tuple_add PySem.F.entry_tuple_add (PySem.F.args_tuple_add_2 _ _)
  (tuple_addW0 t b _ ws.toArray n n2 dd dd2 sl sl2 (by simp)) ⟨ho,ho2,h1⟩
noncomputable def Ph (K:PySem.W.Frag):R2:=fun x y H Q=>∃ a b ys,x=.ref a∧y=.ref b∧SqT K H a []∧SqT K H b ys∧Q (.ref b) H
theorem S7:OpR X (binaryOp .Add) (Ph X.K):=by
 intro pins s σ H x y v u Q I rx ry h
 obtain ⟨a,b,ys,rfl,rfl,ha,hb,q⟩:=h
 cases rx
 cases ry
 obtain ⟨its,r1,p1,_⟩:=I.tuple ha
 obtain ⟨its2,r2,p2,_⟩:=I.tuple hb
 cases r1
 exact RB p1 p2 ⟨.ref b,H,I,rfl,q⟩
noncomputable def Ur (K:PySem.W.Frag):R2:=fun x y H Q=>∃ l b xs zs,x=.ref l∧y=.ref b∧SqL K H l xs∧SqL K H b zs∧xs.length+zs.length≤sizeLine∧∀ p,H p=none→Q (.ref p) (upd H p (.lst (xs++zs)))
noncomputable def ZW (K:PySem.W.Frag):V→List V→Hp→VK→Prop:=fun x vs H Q=>∃ l b xs zs,x=.ref l∧vs=[.ref b]∧H l=some (.lst xs)∧(SqL K H b zs∨SqT K H b zs)∧xs.length+zs.length≤lim∧Q .non (upd H l (.lst (xs++zs)))
theorem Wm : MtM X "list.extend" (ZW X.K):=by
 intro pins s σ H x vs v us Q I rx rv h
 obtain ⟨l,b,xs,zs,rfl,rfl,hH,hB,hz,q⟩:=h
 cases rx
 obtain ⟨u,rfl,ru⟩:=rv.one
 cases ru
 have hlim:=lG
 obtain ⟨z,its,n,r,hl,e⟩:=I.lstM hH
 obtain ⟨T, o, its2, n2, hT, ho, hc, hd, r2⟩ : ∃ (T : String) (o : Obj) (its2 : List Value) (n2 : Nat), (T = "list" ∨ T = "tuple") ∧ s.heap.get? b = some o ∧ o.cls = .type T ∧ o.data = .seq its2.toArray n2 ∧ Vals zs its2:=by
  rcases hB with hB | hB
  ·obtain ⟨its2,r2,pl,_⟩:=I.list hB
   obtain ⟨o,ho,hc,n2,hd⟩:=pl.isList
   exact ⟨"list", o, its2, n2, .inl rfl, ho, hc, hd, r2⟩
  ·obtain ⟨its2,r2,⟨o,ho,hc,n2,hd⟩,_⟩:=I.tuple hB
   exact ⟨"tuple", o, its2, n2, .inr rfl, ho, hc, hd, r2⟩
 have hl2:=r2.length
 refine wpAny_call_entry PySem.F.slot_list_extend ⟨_,e,rfl⟩ PySem.F.entry_list_extend ?_ (PySem.F.args_list_extend_2 _ _)
 show wpAny _ _ (Builtin.List.listExtendWith (.ref l) (.ref b) .none) _ _ s
 unfold Builtin.List.listExtendWith
 refine wpAny_bind (wpAny_typeOf ⟨o,ho,hc⟩ ?_)
 have h1 : (Builtin.List.listSameRef (.ref l) (.ref b) || Value.type T == Value.type "list" || Value.type T == Value.type "tuple") = true:=by
  rcases hT with rfl | rfl <;> simp
 rw [if_pos h1]
 refine wpAny_bind (listItems_at ho hd ?_)
 refine wpAny_bind (listItems_at e rfl ?_)
 have hlong:¬ (!its.toArray.isEmpty && Builtin.List.listTooLong (its.toArray.size+its2.toArray.size))=true:=by
  rw [R8 (by rw [List.size_toArray,List.size_toArray];omega),Bool.and_false]
  exact Bool.false_ne_true
 rw [if_neg hlong]
 refine wpAny_bind (listUpdate_at e rfl ?_ (by rw [List.size_toArray];omega) (by simp only [List.size_toArray,Array.size_append];omega))
 refine wpAny_pure ⟨_,rfl,?_⟩
 exact ⟨.non,_,I.lset (t':=s.toks) (its':=its++its2) hH e (by simp) (r.append r2) (by rw [List.length_append];omega),rfl,q⟩
end
end Mi
namespace Mi
open PySem L2
open PyProof.Rows hiding St
section
variable {prog:Program}{w:World}{A:Around}{E:Value→Shared→Prop}{s:Shared}{z ti to i1 i2 l1 l2:Addr}{n1 n2:Nat}{us vs:Array Value}{u v c d:Value}
structure ZAt (z ti to i1 i2 l1 l2:Addr) (f:Value) (us vs:Array Value) (n1 n2:Nat) (h:Heap):Prop where
 ap:ZipApart z ti to i1 i2 l1 l2
 zr:IsZip h z ti to f
 its:IsPair h ti (.ref i1) (.ref i2)
 out:∃ c d,IsPair h to c d
 one:h.IsTupleIter i1 l1 n1
 two:h.IsTupleIter i2 l2 n2
 src1:h.IsTuple l1 us
 src2:h.IsTuple l2 vs
theorem sY {h h':Heap}{i l:Addr}{n:Nat} (x:h.IsTupleIter i l n) (k:∀ o,h.get? i=some o→h'.get? i=some o):h'.IsTupleIter i l n:=let ⟨o,e,r⟩:=x;⟨o,k o e,r⟩
theorem nQ {h h':Heap}{l:Addr}{us:Array Value} (x:h.IsTuple l us) (k:∀ o,h.get? l=some o→h'.get? l=some o):h'.IsTuple l us:=let ⟨o,e,r⟩:=x;⟨o,k o e,r⟩
theorem Nr {Q:Value→Shared→Prop} (S:ZAt z ti to i1 i2 l1 l2 .none us vs n1 n2 s.heap) (hu:us[n1]?=some u) (hv:vs[n2]?=some v)
  (hQ:∀ g,ZAt z ti to i1 i2 l1 l2 (rawInt s.heap.objs.size) us vs (n1+1) (n2+1) g→IsPair g s.heap.objs.size u v→g.objs.size=s.heap.objs.size+1 →
   (∀ b o,b≠z→b≠to→b≠i1→b≠i2→s.heap.get? b=some o→g.get? b=some o)→Q (.ref s.heap.objs.size) { s with heap:=g }) :
  wpAny (model prog w) A (Builtin.«zip.__next__» ⟨[.ref z],[]⟩) (fun fin s'=>∃ v,fin=.done (.ret v)∧Q v s') E s:=by
 obtain ⟨D,hz,ht,⟨c,d,ho⟩,k1,k2,m1,m2⟩:=S
 show wpAny _ _ (field (.ref z) 2 >>= _) _ _ _
 refine wpAny_bind (wpAny_field hz rfl (x:=.bool false) rfl ?_)
 show wpAny _ _ (field (.ref z) 3 >>= _) _ _ _
 refine wpAny_bind (wpAny_field hz rfl (x:=.ref ti) rfl (wpAny_bind (wpAny_seqItems ht rfl ?_)))
 show wpAny _ _ (Builtin.SmallTypes.ownedTupleIsFree (.ref z) >>= _) _ _ _
 refine wpAny_bind ?_
 unfold Builtin.SmallTypes.ownedTupleIsFree
 refine wpAny_bind (wpAny_field hz rfl (x:=.none) rfl (wpAny_pure ?_))
 simp only [if_true]
 refine wpAny_bind (wpAny_rule (wpAny_bind (wpAny_field hz rfl (x:=.ref to) rfl (wpAny_bind (wpAny_setField_rec hz (by simp) fun g1 z1 e1=>?_)))))
 replace z1:IsZip g1 z ti to .ellipsis:=z1
 refine wpAny_bind ?_
 simp only [List.zipIdx_cons,List.zipIdx_nil,List.forIn_cons,List.forIn_nil]
 refine wpAny_bind (wpAny_bind (wpAny_onRaise ?_))
 show wpAny _ _ (Builtin.SmallTypes.nextOf (.ref i1) >>= _) _ _ _
 refine wpAny_bind (mU (k1.extBut e1.extBut D.i1z) (m1.extBut e1.extBut D.l1z) hu fun g2 k12 e2=>wpAny_pure ?_)
 have o2:IsPair g2 to c d:=e2.extBut _ _ D.TOi1 (e1.extBut _ _ D.TOz ho)
 refine wpAny_bind (wpAny_seqItems o2 rfl (wpAny_bind (wpAny_updateSeq_pair o2 fun g3 o3 e3=>?_)))
 replace o3:IsPair g3 to u d:=o3
 refine wpAny_bind (wpAny_letGo (wpAny_pure (wpAny_bind (wpAny_bind (wpAny_onRaise ?_)))))
 show wpAny _ _ (Builtin.SmallTypes.nextOf (.ref i2) >>= _) _ _ _
 refine wpAny_bind (mU (((k2.extBut e1.extBut D.i2z).extBut e2.extBut D.i12.symm).extBut e3.extBut D.TOi2.symm) (((m2.extBut e1.extBut D.l2z).extBut e2.extBut D.l2i1).extBut e3.extBut D.l2TO) hv fun g4 k24 e4=>wpAny_pure ?_)
 have o4:IsPair g4 to u d:=e4.extBut _ _ D.TOi2 o3
 refine wpAny_bind (wpAny_seqItems o4 rfl (wpAny_bind (wpAny_updateSeq_pair o4 fun g5 o5 e5=>?_)))
 replace o5:IsPair g5 to u v:=o5
 refine wpAny_bind (wpAny_letGo (wpAny_pure (wpAny_pure (wpAny_bind (wpAny_seqItems o5 rfl (wpAny_bind (wpAny_newTuple ?_)))))))
 have sz:g5.objs.size=s.heap.objs.size:=by rw [e5.1,e4.1,e3.1,e2.1,e1.1]
 have z5:IsZip g5 z ti to .ellipsis:=e5.extBut _ _ D.TOz.symm (e4.extBut _ _ D.i2z.symm (e3.extBut _ _ D.TOz.symm (e2.extBut _ _ D.i1z.symm z1)))
 have kp:∀ b o,b≠z→b≠to→b≠i1→b≠i2→s.heap.get? b=some o→g5.get? b=some o:=fun b o b1 b2 b3 b4 e=>e5.extBut _ _ b2 (e4.extBut _ _ b4 (e3.extBut _ _ b2 (e2.extBut _ _ b3 (e1.extBut _ _ b1 e))))
 have k15:g5.IsTupleIter i1 l1 (n1+1):=((k12.extBut e3.extBut D.TOi1.symm).extBut e4.extBut D.i12).extBut e5.extBut D.TOi1.symm
 have k25:g5.IsTupleIter i2 l2 (n2+1):=k24.extBut e5.extBut D.TOi2.symm
 have zlt:z < g5.objs.size:=Heap.lt_size z5
 show wpAny _ _ (Builtin.SmallTypes.ownedTupleHandOut (.ref z) (.ref g5.objs.size) >>= _) _ _ _
 refine wpAny_bind ?_
 unfold Builtin.SmallTypes.ownedTupleHandOut
 have z6 : IsZip (g5.push { cls:=.type "tuple", data:=.seq #[u, v] }) z ti to .ellipsis:=Heap.get?_push_of_some _ z5
 refine wpAny_bind (wpAny_setField_rec z6 (by simp) fun g7 z7 e7=>?_)
 replace z7:IsZip g7 z ti to (rawInt g5.objs.size):=z7
 refine wpAny_setField_rec z7 (by simp) fun g8 z8 e8=>?_
 replace z8:IsZip g8 z ti to (rawInt g5.objs.size):=z8
 have up:∀ b o,b≠z→g5.get? b=some o→g8.get? b=some o:=fun b o b1 e=>e8.extBut _ _ b1 (e7.extBut _ _ b1 (Heap.get?_push_of_some _ e))
 have p8:IsPair g8 g5.objs.size u v:=e8.extBut _ _ (Nat.ne_of_gt zlt) (e7.extBut _ _ (Nat.ne_of_gt zlt) (Heap.get?_push_size _ rfl))
 have s8:g8.objs.size=g5.objs.size+1:=by rw [e8.1,e7.1,Heap.size_push]
 rw [sz] at z8 p8 s8
 refine wpAny_pure ⟨_,rfl,?_⟩
 show Q (.ref g5.objs.size) _
 rw [sz]
 have kp8:∀ b o,b≠z→b≠to→b≠i1→b≠i2→s.heap.get? b=some o→g8.get? b=some o:=fun b o b1 b2 b3 b4 e=>up b o b1 (kp b o b1 b2 b3 b4 e)
 exact hQ g8 ⟨D,z8,kp8 _ _ D.TIz D.TITO D.TIi1 D.TIi2 ht,⟨_,_,up _ _ D.TOz o5⟩,sY k15 fun o e=>up _ o D.i1z e,sY k25 fun o e=>up _ o D.i2z e,nQ m1 fun o e=>kp8 _ o D.l1z D.l1TO D.l1i1 D.l1i2 e,nQ m2 fun o e=>kp8 _ o D.l2z D.l2TO D.l2i1 D.l2i2 e⟩ p8 s8 kp8
theorem Tt {Q:Fin→Shared→Prop} (hh:A.handled=none) (S:ZAt z ti to i1 i2 l1 l2 .none us vs n1 n2 s.heap) (he:us[n1]?=none∨vs[n2]?=none)
  (hE : ∀ g e, (∀ b o, b ≠ z → b ≠ to → b ≠ i1 → b ≠ i2 → s.heap.get? b = some o → g.get? b = some o) → (∃ o, g.get? e = some o ∧ o.cls = .type "StopIteration") → E (.ref e) { s with heap:=g }) :
  wpAny (model prog w) A (Builtin.«zip.__next__» ⟨[.ref z],[]⟩) Q E s:=by
 obtain ⟨D,hz,ht,⟨c,d,ho⟩,k1,k2,m1,m2⟩:=S
 show wpAny _ _ (field (.ref z) 2 >>= _) _ _ _
 refine wpAny_bind (wpAny_field hz rfl (x:=.bool false) rfl ?_)
 show wpAny _ _ (field (.ref z) 3 >>= _) _ _ _
 refine wpAny_bind (wpAny_field hz rfl (x:=.ref ti) rfl (wpAny_bind (wpAny_seqItems ht rfl ?_)))
 show wpAny _ _ (Builtin.SmallTypes.ownedTupleIsFree (.ref z) >>= _) _ _ _
 refine wpAny_bind ?_
 unfold Builtin.SmallTypes.ownedTupleIsFree
 refine wpAny_bind (wpAny_field hz rfl (x:=.none) rfl (wpAny_pure ?_))
 simp only [if_true]
 refine wpAny_bind (wpAny_rule (wpAny_bind (wpAny_field hz rfl (x:=.ref to) rfl (wpAny_bind (wpAny_setField_rec hz (by simp) fun g1 z1 e1=>?_)))))
 replace z1:IsZip g1 z ti to .ellipsis:=z1
 refine wpAny_bind ?_
 simp only [List.zipIdx_cons,List.zipIdx_nil,List.forIn_cons,List.forIn_nil]
 refine wpAny_bind (wpAny_bind (wpAny_onRaise ?_))
 show wpAny _ _ (Builtin.SmallTypes.nextOf (.ref i1) >>= _) _ _ _
 cases hx:us[n1]? with
 | none =>
  refine wpAny_bind (vq hh (k1.extBut e1.extBut D.i1z) (m1.extBut e1.extBut D.l1z) hx fun g2 e e2 q=>?_)
  obtain ⟨oe,qo,qc⟩:=q
  have z2:IsZip g2 z ti to .ellipsis:=e2 _ _ D.i1z.symm z1
  have ez:e≠z:=fun x=>by subst x;rw [z2] at qo;cases qo;simp at qc
  exact wpAny_setField_rec z2 (by simp) fun g3 _ e3=>hE g3 e (fun b o b1 _ b3 _ x=>e3.extBut _ _ b1 (e2 _ _ b3 (e1.extBut _ _ b1 x))) ⟨oe,e3.extBut _ _ ez qo,qc⟩
 | some x =>
  have hy:vs[n2]?=none:=by
   rcases he with q | q
   ·rw [hx] at q;cases q
   ·exact q
  refine wpAny_bind (mU (k1.extBut e1.extBut D.i1z) (m1.extBut e1.extBut D.l1z) hx fun g2 k12 e2=>wpAny_pure ?_)
  have o2:IsPair g2 to c d:=e2.extBut _ _ D.TOi1 (e1.extBut _ _ D.TOz ho)
  refine wpAny_bind (wpAny_seqItems o2 rfl (wpAny_bind (wpAny_updateSeq_pair o2 fun g3 o3 e3=>?_)))
  refine wpAny_bind (wpAny_letGo (wpAny_pure (wpAny_bind (wpAny_bind (wpAny_onRaise ?_)))))
  show wpAny _ _ (Builtin.SmallTypes.nextOf (.ref i2) >>= _) _ _ _
  refine wpAny_bind (vq hh (((k2.extBut e1.extBut D.i2z).extBut e2.extBut D.i12.symm).extBut e3.extBut D.TOi2.symm) (((m2.extBut e1.extBut D.l2z).extBut e2.extBut D.l2i1).extBut e3.extBut D.l2TO) hy fun g4 e e4 q=>?_)
  obtain ⟨oe,qo,qc⟩:=q
  have z4:IsZip g4 z ti to .ellipsis:=e4 _ _ D.i2z.symm (e3.extBut _ _ D.TOz.symm (e2.extBut _ _ D.i1z.symm z1))
  have ez:e≠z:=fun x=>by subst x;rw [z4] at qo;cases qo;simp at qc
  exact wpAny_setField_rec z4 (by simp) fun g5 _ e5=>hE g5 e (fun b o b1 b2 b3 b4 x=>e5.extBut _ _ b1 (e4 _ _ b4 (e3.extBut _ _ b2 (e2.extBut _ _ b3 (e1.extBut _ _ b1 x))))) ⟨oe,e5.extBut _ _ ez qo,qc⟩
theorem Lb {Q:Option Value→Shared→Prop} (S:ZAt z ti to i1 i2 l1 l2 .none us vs n1 n2 s.heap) (hu:us[n1]?=some u) (hv:vs[n2]?=some v)
  (hQ:∀ g,ZAt z ti to i1 i2 l1 l2 (rawInt s.heap.objs.size) us vs (n1+1) (n2+1) g→IsPair g s.heap.objs.size u v→g.objs.size=s.heap.objs.size+1 →
   (∀ b o,b≠z→b≠to→b≠i1→b≠i2→s.heap.get? b=some o→g.get? b=some o)→Q (some (.ref s.heap.objs.size)) { s with heap:=g }) :
  wpAny (model prog w) A (pyNext (.ref z)) Q E s:=by
 have ty : s.TypeIs (.ref z) "zip":=⟨_, S.zr, rfl⟩
 unfold pyNext
 exact wpAny_bind (wpAny_attempt (wpAny_callSpecial?_slot (name:=Str.ofString "__next__") ty F.slot_zip_next (wpAny_call_entry F.slot_zip_next ty F.entry_zip_next (Nr S hu hv fun g q1 q2 q3 q4 => wpAny_pure (hQ g q1 q2 q3 q4)) (F.args_zip_next_1 _))))
theorem Pg {Q:Option Value→Shared→Prop} (hh:A.handled=none) (S:ZAt z ti to i1 i2 l1 l2 .none us vs n1 n2 s.heap) (he:us[n1]?=none∨vs[n2]?=none)
  (hQ:∀ g,(∀ b o,b≠z→b≠to→b≠i1→b≠i2→s.heap.get? b=some o→g.get? b=some o)→Q none { s with heap:=g }):wpAny (model prog w) A (pyNext (.ref z)) Q E s:=by
 have ty : s.TypeIs (.ref z) "zip":=⟨_, S.zr, rfl⟩
 unfold pyNext
 refine wpAny_bind (wpAny_attempt (wpAny_callSpecial?_slot (name:=Str.ofString "__next__") ty F.slot_zip_next (wpAny_call_entry F.slot_zip_next ty F.entry_zip_next (Tt hh S he fun g e kp q => ?_) (F.args_zip_next_1 _))))
 obtain ⟨o,qo,qc⟩:=q
 exact wpAny_bind (wpAny_isInstance (T:="StopIteration") (b:=true) ⟨o, qo, qc⟩ isSubtype_stop (wpAny_pure (hQ _ kp)))
noncomputable abbrev zo (l : Addr) : Obj:={ cls:=.type "tuple_iterator", data:=.fields #[.ref l, .int 0 0] }
noncomputable abbrev zh (h : Heap) (l1 l2 : Addr) : Heap:=((((h.push (zo l1)).push (zo l2)).push { cls:=.type "tuple", data:=.seq #[.ref h.objs.size, .ref (h.push (zo l1)).objs.size] }).push { cls:=.type "tuple", data:=.seq #[.none, .none] }).push
 { cls:=.type "zip", data:=.fields #[.none, .bool false, .bool false, .ref ((h.push (zo l1)).push (zo l2)).objs.size, .ref (((h.push (zo l1)).push (zo l2)).push { cls:=.type "tuple", data:=.seq #[.ref h.objs.size, .ref (h.push (zo l1)).objs.size] }).objs.size] }
theorem R5 (l1 l2 : Addr) (us vs : Array Value) : Meets (Builtin.«zip.__new__» ⟨[.type "zip", .ref l1, .ref l2], []⟩) (fun _ R s => s.heap.IsTuple l1 us ∧ s.heap.IsTuple l2 vs ∧
   R (.ok (.ret (.ref ((((s.heap.push (zo l1)).push (zo l2)).push { cls:=.type "tuple", data:=.seq #[.ref s.heap.objs.size, .ref (s.heap.push (zo l1)).objs.size] }).push { cls:=.type "tuple", data:=.seq #[.none, .none] }).objs.size))) { s with heap:=zh s.heap l1 l2 }) :=
 .of_wp fun prog w A R s h=>by
  obtain ⟨hp,g,d,tk,os⟩:=s;obtain ⟨m1,m2,h⟩:=h
  have hsub:=sub_zip
  have t1:Heap.IsTuple (Shared.heap ⟨hp,g,d,tk,os⟩) l1 us:=m1
  have t2:Heap.IsTuple (Shared.heap ⟨hp.push (zo l1),g,d,tk,os⟩) l2 vs:=nQ m2 fun o e=>Heap.get?_push_of_some _ e
  wp_walk using wpAny_pyIter_tuple t1,wpAny_pyIter_tuple t2
  exact ⟨_,rfl,h⟩
theorem zap {n a b:Nat} (h1:a < n) (h2:b < n):ZipApart (n+4) (n+2) (n+3) n (n+1) a b where
 TIz:=show n+2≠n+4 by omega
 TOz:=show n+3≠n+4 by omega
 i1z:=show n≠n+4 by omega
 i2z:=show n+1≠n+4 by omega
 TITO:=show n+2≠n+3 by omega
 TIi1:=show n+2≠n by omega
 TIi2:=show n+2≠n+1 by omega
 TOi1:=show n+3≠n by omega
 TOi2:=show n+3≠n+1 by omega
 i12:=show n≠n+1 by omega
 l1z:=show a≠n+4 by omega
 l1TO:=show a≠n+3 by omega
 l1i1:=show a≠n by omega
 l1i2:=show a≠n+1 by omega
 l2z:=show b≠n+4 by omega
 l2TO:=show b≠n+3 by omega
 l2i1:=show b≠n by omega
 l2i2:=show b≠n+1 by omega
theorem Pn {Q:Value→Shared→Prop} (m1:s.heap.IsTuple l1 us) (m2:s.heap.IsTuple l2 vs)
  (h:∀ g,ZAt (s.heap.objs.size+4) (s.heap.objs.size+2) (s.heap.objs.size+3) s.heap.objs.size (s.heap.objs.size+1) l1 l2 .none us vs 0 0 g→g.objs.size=s.heap.objs.size+5 →
   (∀ b o,s.heap.get? b=some o→g.get? b=some o)→Q (.ref (s.heap.objs.size+4)) { s with heap:=g }) :
  wpAny (model prog w) A (call (.type "zip") [.ref l1, .ref l2]) Q E s:=by
 refine callType_new F.called_zip (by decide) (F.typeCall_zip_2 _ _) (F.newCall_zip_2 _ _) (fun obj=>F.args_object_init_3 obj _ _) F.entry_zip_new (R5 l1 l2 us vs) ⟨m1,m2,?_⟩
 have lt1:l1 < s.heap.objs.size:=by obtain ⟨_,e,_⟩:=m1;exact Heap.lt_size e
 have lt2:l2 < s.heap.objs.size:=by obtain ⟨_,e,_⟩:=m2;exact Heap.lt_size e
 have a1:(s.heap.push (zo l1)).objs.size=s.heap.objs.size+1:=Heap.size_push ..
 have a2:((s.heap.push (zo l1)).push (zo l2)).objs.size=s.heap.objs.size+2:=by rw [Heap.size_push,a1]
 have a3 : (((s.heap.push (zo l1)).push (zo l2)).push { cls:=.type "tuple", data:=.seq #[.ref s.heap.objs.size, .ref (s.heap.push (zo l1)).objs.size] }).objs.size = s.heap.objs.size + 3:=by rw [Heap.size_push, a2]
 have a4 : ((((s.heap.push (zo l1)).push (zo l2)).push { cls:=.type "tuple", data:=.seq #[.ref s.heap.objs.size, .ref (s.heap.push (zo l1)).objs.size] }).push { cls:=.type "tuple", data:=.seq #[.none, .none] }).objs.size = s.heap.objs.size + 4:=by rw [Heap.size_push, a3]
 have a5:(zh s.heap l1 l2).objs.size=s.heap.objs.size+5:=by rw [Heap.size_push,a4]
 have b5 : (zh s.heap l1 l2).get? ((((s.heap.push (zo l1)).push (zo l2)).push { cls:=.type "tuple", data:=.seq #[.ref s.heap.objs.size, .ref (s.heap.push (zo l1)).objs.size] }).push { cls:=.type "tuple", data:=.seq #[.none, .none] }).objs.size = some _:=Heap.get?_push_size _ rfl
 have b4 : (zh s.heap l1 l2).get? (((s.heap.push (zo l1)).push (zo l2)).push { cls:=.type "tuple", data:=.seq #[.ref s.heap.objs.size, .ref (s.heap.push (zo l1)).objs.size] }).objs.size = some _:=Heap.get?_push_of_some _ (Heap.get?_push_size _ rfl)
 have b3:(zh s.heap l1 l2).get? ((s.heap.push (zo l1)).push (zo l2)).objs.size=some _:=Heap.get?_push_of_some _ (Heap.get?_push_of_some _ (Heap.get?_push_size _ rfl))
 have b2:(zh s.heap l1 l2).get? (s.heap.push (zo l1)).objs.size=some _:=Heap.get?_push_of_some _ (Heap.get?_push_of_some _ (Heap.get?_push_of_some _ (Heap.get?_push_size _ rfl)))
 have b1:(zh s.heap l1 l2).get? s.heap.objs.size=some _:=Heap.get?_push_of_some _ (Heap.get?_push_of_some _ (Heap.get?_push_of_some _ (Heap.get?_push_of_some _ (Heap.get?_push_size _ rfl))))
 have kp:∀ b o,s.heap.get? b=some o→(zh s.heap l1 l2).get? b=some o:=fun b o x=>Heap.get?_push_of_some _ (Heap.get?_push_of_some _ (Heap.get?_push_of_some _ (Heap.get?_push_of_some _ (Heap.get?_push_of_some _ x))))
 show _∧_
 rw [a2,a3,a4] at b5
 rw [a1,a2] at b3
 rw [a3] at b4
 rw [a1] at b2
 rw [a4]
 exact ⟨⟨_,b5,rfl⟩,h _ ⟨zap lt1 lt2,b5,b3,⟨_,_,b4⟩,⟨_,b1,rfl,rfl⟩,⟨_,b2,rfl,rfl⟩,nQ m1 fun o e=>kp _ o e,nQ m2 fun o e=>kp _ o e⟩ a5 kp⟩
end
noncomputable def Itz (K:PySem.W.Frag) (a b:Addr):It :=
 ⟨fun i H=>∃ xs ys x y,SqT K H a xs∧SqT K H b ys∧xs[i]?=some x∧ys[i]?=some y,
  fun i H x H'=>∃ p y1 y2,H p=none∧x=.ref p∧H'=upd H p (.tup [y1,y2])∧(∀ xs,SqT K H a xs→xs[i]?=some y1)∧∀ ys,SqT K H b ys→ys[i]?=some y2,
  fun i H=>∃ xs ys,SqT K H a xs∧SqT K H b ys∧(xs[i]?=none∨ys[i]?=none)⟩
noncomputable def Yn (z ti to i1 i2 a b:Addr) (i:Nat) (h:Heap):Prop:=IsZip h z ti to .none∧IsPair h ti (.ref i1) (.ref i2)∧(∃ c d,IsPair h to c d)∧h.IsTupleIter i1 a i∧h.IsTupleIter i2 b i
theorem J8 {z ti to i1 i2 a b:Addr}{i:Nat}{h:Heap}{us vs:Array Value} (D:ZipApart z ti to i1 i2 a b) (S:Yn z ti to i1 i2 a b i h) (m1:h.IsTuple a us) (m2:h.IsTuple b vs):ZAt z ti to i1 i2 a b .none us vs i i h :=
 ⟨D,S.1,S.2.1,S.2.2.1,S.2.2.2.1,S.2.2.2.2,m1,m2⟩
theorem RN {z ti to i1 i2 b:Addr} (h:b∈([z,ti,to,i1,i2]:List Addr)):b=z∨b=ti∨b=to∨b=i1∨b=i2:=by simpa using h
theorem Qm {P:Program}{w:World}{K:PySem.W.Frag}{els:List Expr}{x1:Nat}{tpos:Pos}{z ti to i1 i2 a b:Addr} (D:ZipApart z ti to i1 i2 a b) :
  Turn P w K (.Tuple els x1 tpos) (Itz K a b) [z,ti,to,i1,i2] z (Yn z ti to i1 i2 a b) where
 mem:=by simp
 obj:=fun i h st q hq=>by
  obtain ⟨r1,r2,⟨c,d,r3⟩,⟨o4,e4,c4,d4⟩,⟨o5,e5,c5,d5⟩⟩:=st
  rcases RN hq with e | e | e | e | e <;> subst e
  ·exact ⟨_,r1,fun v x=>by cases x⟩
  ·exact ⟨_,r2,fun v x=>by cases x⟩
  ·exact ⟨_,r3,fun v x=>by cases x⟩
  ·exact ⟨o4,e4,fun v x=>by rw [d4] at x;cases x⟩
  ·exact ⟨o5,e5,fun v x=>by rw [d5] at x;cases x⟩
 keep:=fun i h h' st k=>by
  obtain ⟨r1,r2,⟨c,d,r3⟩,r4,r5⟩:=st
  exact ⟨k z (by simp) _ r1,k ti (by simp) _ r2,⟨c,d,k to (by simp) _ r3⟩,sY r4 fun o e=>k i1 (by simp) o e,sY r5 fun o e=>k i2 (by simp) o e⟩
 item:=by
  intro X hP hw hK hc i pins s σ H E I hf st hg
  subst hP hw hK
  obtain ⟨xs,ys,x,y,hqx,hqy,hx,hy⟩:=hg
  obtain ⟨us,rx,p1,_⟩:=I.tuple hqx
  obtain ⟨vs,ry,p2,_⟩:=I.tuple hqy
  obtain ⟨u,hu,ru⟩:=rx.get hx
  obtain ⟨v,hv,rv⟩:=ry.get hy
  have S:=J8 D st (show s.heap.IsTuple a us.toArray from p1) (show s.heap.IsTuple b vs.toArray from p2)
  refine Lb S (u:=u) (v:=v) (by simpa using hu) (by simpa using hv) fun g S1 hT hsz kp=>?_
  refine ⟨.ref s.heap.objs.size,rfl,wpAny_letOwnedTupleGo_zip (s:={ s with heap:=g }) S1.zr fun g2 hz2 e2=>?_⟩
  have e2':Heap.SameBut z g g2:=e2
  have lt:∀ q o,s.heap.get? q=some o→q < s.heap.objs.size:=fun q o e=>Heap.lt_size e
  have zlt:=lt _ _ st.1
  have kp2:∀ q o,q≠z→q≠to→q≠i1→q≠i2→s.heap.get? q=some o→g2.get? q=some o:=fun q o n1 n2 n3 n4 e=>e2'.extBut q o n1 (kp q o n1 n2 n3 n4 e)
  have fz:=hf z (by simp)
  have fo:=hf to (by simp)
  have f1:=hf i1 (by simp)
  have f2:=hf i2 (by simp)
  have zb:=hf ti (by simp)
  have hTn:H s.heap.objs.size=none:=I.hok.fresh (Nat.le_refl _)
  have nT:∀ q o,s.heap.get? q=some o→q≠s.heap.objs.size:=fun q o e=>Nat.ne_of_lt (Heap.lt_size e)
  have hTo : g2.get? s.heap.objs.size = some { cls:=.type "tuple", data:=.seq #[u, v] }:=e2'.extBut _ _ (Nat.ne_of_gt zlt) hT
  have nch:∀ q,q ∉ ([z,to,i1,i2]:List Addr)→q≠z∧q≠to∧q≠i1∧q≠i2:=fun q hq=>by simpa using hq
  have I2:Inv X pins σ (upd H s.heap.objs.size (.tup [x,y])) { s with heap:=g2 }:=by
   refine I.step (g':=s.gens) (d':=s.drawn) (t':=s.toks) (ch:=[z,to,i1,i2]) (fun q hq=>?_) (fun q o _ _ hc e _=>kp2 q o (nch q hc).1 (nch q hc).2.1 (nch q hc).2.2.1 (nch q hc).2.2.2 e) (fun q o _ _ hc e _=>⟨o.slots,kp2 q o (nch q hc).1 (nch q hc).2.1 (nch q hc).2.2.1 (nch q hc).2.2.2 e⟩) (fun q o _ e n=>by rw [ao (nT q o e)];exact n)
    (fun q o hc e=>⟨o,kp2 q o (nch q hc).1 (nch q hc).2.1 (nch q hc).2.2.1 (nch q hc).2.2.2 e⟩) (fun q zs e=>by rw [ao (ak e hTn)];exact e) (fun q o u e=>by rw [ao (ak e hTn)];exact e) (fun q ps e=>⟨#[],by rw [ao (ak e hTn),e];simp⟩) (fun m hm=>?_) (fun q u' e=>?_) I.bare
   ·have hq':q=z∨q=to∨q=i1∨q=i2:=by simpa using hq
    rcases hq' with e | e | e | e <;> subst e
    ·exact ⟨fz.2.2.2.1,fz.2.1,fz.2.2.2.2.1,fz.2.2.2.2.2⟩
    ·exact ⟨fo.2.2.2.1,fo.2.1,fo.2.2.2.2.1,fo.2.2.2.2.2⟩
    ·exact ⟨f1.2.2.2.1,f1.2.1,f1.2.2.2.2.1,f1.2.2.2.2.2⟩
    ·exact ⟨f2.2.2.2.1,f2.2.1,f2.2.2.2.2.1,f2.2.2.2.2.2⟩
   ·obtain ⟨o,es,ep,ho,r⟩:=hm
    exact ⟨o,es,ep,kp2 _ o (Ne.symm fz.2.1) (Ne.symm fo.2.1) (Ne.symm f1.2.1) (Ne.symm f2.2.1) ho,r⟩
   ·by_cases hqT:q=s.heap.objs.size
    ·subst hqT
     rw [aC] at e;cases e
     exact ⟨by show 2≤sizeLine;decide,[u,v],.cons ru (.cons rv .nil),⟨_,hTo,rfl,_,rfl⟩⟩
    ·rw [ao hqT] at e
     have nb:∀ c v,H c=some v→c≠z∧c≠to∧c≠i1∧c≠i2:=fun c v e=>⟨ak e fz.1,ak e fo.1,ak e f1.1,ak e f2.1⟩
     refine (I.hok q u' e).stay (fun c v hc r=>?_) (fun c r=>by rw [ao (ak r hTn)];exact r) (fun c zs r=>by rw [ao (ak r hTn)];exact r) (fun c _ r _=>by rw [ao (ak r hTn)];exact r)
     have nc:c≠z∧c≠to∧c≠i1∧c≠i2:=by
      rcases hc with k | k
      ·rw [k];exact nb q u' e
      ·exact nb c _ k
     exact kp2 c v nc.1 nc.2.1 nc.2.2.1 nc.2.2.2 r
  refine ⟨.ref s.heap.objs.size,_,I2,rfl,⟨s.heap.objs.size,x,y,hTn,rfl,rfl,fun ws hw=>by rw [I.tuple_inj hw hqx];exact hx,fun ws hw=>by rw [I.tuple_inj hw hqy];exact hy⟩,?_,fun q hq=>?_⟩
  ·obtain ⟨c,d,ho⟩:=S1.out
   exact ⟨hz2,e2'.extBut _ _ D.TIz S1.its,⟨c,d,e2'.extBut _ _ D.TOz ho⟩,S1.one.extBut e2'.extBut D.i1z,S1.two.extBut e2'.extBut D.i2z⟩
  ·have hn:∀ {q o},s.heap.get? q=some o→H q=none→upd H s.heap.objs.size (.tup [x,y]) q=none:=fun e n=>by rw [ao (nT _ _ e)];exact n
   obtain ⟨r1,r2,⟨c,d,r3⟩,⟨o4,e4,_⟩,⟨o5,e5,_⟩⟩:=st
   rcases RN hq with e | e | e | e | e <;> subst e
   ·exact hn r1 fz.1
   ·exact hn r2 zb.1
   ·exact hn r3 fo.1
   ·exact hn e4 f1.1
   ·exact hn e5 f2.1
 done:=by
  intro X hP hw hK hc i pins s σ H E I hf st hg
  subst hP hw hK
  obtain ⟨xs,ys,hqx,hqy,he⟩:=hg
  obtain ⟨us,rx,p1,_⟩:=I.tuple hqx
  obtain ⟨vs,ry,p2,_⟩:=I.tuple hqy
  have S:=J8 D st (show s.heap.IsTuple a us.toArray from p1) (show s.heap.IsTuple b vs.toArray from p2)
  have l1:=rx.length
  have l2:=ry.length
  have he':us.toArray[i]?=none∨vs.toArray[i]?=none:=by
   rcases he with e | e
   ·left;rw [List.getElem?_eq_none_iff] at e;simp;omega
   ·right;rw [List.getElem?_eq_none_iff] at e;simp;omega
  refine Pg (I.ok.hd hc) S he' fun g kp=>⟨rfl,?_⟩
  have fz:=hf z (by simp)
  have fo:=hf to (by simp)
  have f1:=hf i1 (by simp)
  have f2:=hf i2 (by simp)
  have nch:∀ q,q ∉ ([z,to,i1,i2]:List Addr)→q≠z∧q≠to∧q≠i1∧q≠i2:=fun q hq=>by simpa using hq
  have kc:∀ q o,q ∉ ([z,to,i1,i2]:List Addr)→s.heap.get? q=some o→g.get? q=some o:=fun q o hc e=>kp q o (nch q hc).1 (nch q hc).2.1 (nch q hc).2.2.1 (nch q hc).2.2.2 e
  refine I.step (g':=s.gens) (d':=s.drawn) (t':=s.toks) (ch:=[z,to,i1,i2]) (fun q hq=>?_) (fun q o _ _ hc e _=>kc q o hc e) (fun q o _ _ hc e _=>⟨o.slots,kc q o hc e⟩) (fun _ _ _ _ n=>n) (fun q o hc e=>⟨o,kc q o hc e⟩)
   (fun _ _ e=>e) (fun _ _ _ e=>e) (fun q ps e=>⟨#[],by rw [e];simp⟩) (fun m hm=>?_) (fun q u' e=>?_) I.bare
  ·have hq':q=z∨q=to∨q=i1∨q=i2:=by simpa using hq
   rcases hq' with e | e | e | e <;> subst e
   ·exact ⟨fz.2.2.2.1,fz.2.1,fz.2.2.2.2.1,fz.2.2.2.2.2⟩
   ·exact ⟨fo.2.2.2.1,fo.2.1,fo.2.2.2.2.1,fo.2.2.2.2.2⟩
   ·exact ⟨f1.2.2.2.1,f1.2.1,f1.2.2.2.2.1,f1.2.2.2.2.2⟩
   ·exact ⟨f2.2.2.2.1,f2.2.1,f2.2.2.2.2.1,f2.2.2.2.2.2⟩
  ·obtain ⟨o,es,ep,ho,r⟩:=hm
   exact ⟨o,es,ep,kp _ o (Ne.symm fz.2.1) (Ne.symm fo.2.1) (Ne.symm f1.2.1) (Ne.symm f2.2.1) ho,r⟩
  ·have nb:∀ c v,H c=some v→c≠z∧c≠to∧c≠i1∧c≠i2:=fun c v e=>⟨ak e fz.1,ak e fo.1,ak e f1.1,ak e f2.1⟩
   refine (I.hok q u' e).stay (fun c v hc r=>?_) (fun c r=>r) fun c zs r=>r
   have nc:c≠z∧c≠to∧c≠i1∧c≠i2:=by
    rcases hc with k | k
    ·rw [k];exact nb q u' e
    ·exact nb c _ k
   exact kp c v nc.1 nc.2.1 nc.2.2.1 nc.2.2.2 r
 self:=fun _ _ _ _ _ st h=>wpAny_pyIter_zip st.1 h
section
variable {X:Cx}
theorem boot_zip : bootBuiltins "zip" = some (.type "zip"):=by decide +kernel
noncomputable def aaq (K:PySem.W.Frag) (ta:TA):TI:=fun σ H R=>ta σ H fun vs H1=>∃ a xs b ys,vs=[.ref a,.ref b]∧SqT K H1 a xs∧SqT K H1 b ys∧R (Itz K a b) H1
theorem Yc {pins:List (Addr × Obj)}{σ:St}{H:Hp}{s:Shared}{R:It→Hp→Prop}{els:List Expr}{x1:Nat}{tpos:Pos}{a b:Addr}{xs ys:List V}{E:Value→Shared→Prop} (I:Inv X pins σ H s) (hx:SqT X.K H a xs) (hy:SqT X.K H b ys) (q:R (Itz X.K a b) H) :
  wpAny (model X.prog X.w) X.A (call (.type "zip") [.ref a, .ref b]) (fun v s1 => wpAny (model X.prog X.w) X.A (pyIter v) (PIE X pins σ (.Tuple els x1 tpos) R) E s1) E s:=by
 obtain ⟨us,rx,p1,_⟩:=I.tuple hx
 obtain ⟨vs,ry,p2,_⟩:=I.tuple hy
 refine Pn (show s.heap.IsTuple a us.toArray from p1) (show s.heap.IsTuple b vs.toArray from p2) fun g S hsz kp=>?_
 refine wpAny_pyIter_zip (s:={ s with heap:=g }) S.zr ?_
 have I1:Inv X pins σ H { s with heap:=g }:=I.kept (t':=s.toks) kp
 refine ⟨s.heap.objs.size+4,_,_,_,H,rfl,I1,Qm S.ap,⟨S.zr,S.its,S.out,S.one,S.two⟩,fun c hc=>?_,q⟩
 have hle:s.heap.objs.size≤c:=by
  rcases RN hc with e | e | e | e | e <;> subst e
  ·exact Nat.le_add_right _ _
  ·exact Nat.le_add_right _ _
  ·exact Nat.le_add_right _ _
  ·exact Nat.le_refl _
  ·exact Nat.le_add_right _ _
 exact I.fpOk hle (I.hok.fresh hle)
theorem Yg {a b : Expr} {ta : TA} {p pos tpos : Pos} {els : List Expr} {x1 : Nat} (hg : Gl X "zip") (hm : X.mg "zip" = none) (ha : PA X [a, b] ta) (hs : starEach [a, b] X.env = [(false, eval a X.env), (false, eval b X.env)]) (hs2 : starEach [b] X.env = [(false, eval b X.env)]) :
  PI X (.Tuple els x1 tpos) (.Call (.Name "zip" p) [a, b] [] pos) (aaq X.K ta):=by
 intro pins s σ H R I h
 refine Call_ (fL I hg hm boot_zip (PyProof.Rows.callWith_type1 (thn (ha pos pins s σ H _ I h) fun us s1 ⟨vs,H1,I1,r1,q1⟩=>?_) (by rw [hs,hs2]) (by rw [hs2];rfl)))
 obtain ⟨c,xs,d,ys,rfl,hx,hy,q⟩:=q1
 obtain ⟨u,v,rfl,ru,rv⟩:=vals2 r1
 cases ru
 cases rv
 exact Yc I1 hx hy q
theorem FW : bootBuiltins "reversed" = some (.type "reversed"):=by decide +kernel
noncomputable def Itv (K:PySem.W.Frag) (a:Addr) (n:Nat):It :=
 ⟨fun i H=>∃ xs x,SqL K H a xs∧i < n∧xs[n - 1 - i]?=some x,fun i H x H'=>H'=H∧∀ xs,SqL K H a xs→xs[n - 1 - i]?=some x,fun i _=>i=n⟩
theorem Td {P:Program}{w:World}{K:PySem.W.Frag}{tg:Expr} (a it:Addr) (n:Nat):Turn P w K tg (Itv K a n) [it] it (fun i h=>h.IsRevIter it a ((n:Int) - 1 - (i:Int))) where
 mem:=by simp
 obj:=fun i h st b hb=>by
  obtain ⟨o,e,c,d⟩:=st
  rw [List.mem_singleton.mp hb]
  exact ⟨o,e,fun v z=>by rw [d] at z;cases z⟩
 keep:=fun i h h' st k=>st.at fun o e=>k it (by simp) o e
 item:=by
  intro X hP hw hK hc i pins s σ H E I hf st hg
  subst hP hw hK
  obtain ⟨xs,x,hq,hi,hx⟩:=hg
  obtain ⟨us,rv,p,_⟩:=I.list hq
  obtain ⟨u,hu,ru⟩:=rv.get hx
  obtain ⟨f0,f1,f2,f3,f4,f5⟩:=hf it (by simp)
  have e1:(n:Int) - 1 - (i:Int)=((n - 1 - i:Nat):Int):=by omega
  have e2:((n - 1 - i:Nat):Int) - 1=(n:Int) - 1 - ((i+1:Nat):Int):=by omega
  have st1:s.heap.IsRevIter it a ((n - 1 - i:Nat):Int):=e1 ▸ st
  refine wpAny_pyNext_rev_item st1 p.isList (x:=u) (by simpa using hu) fun h' st' sb=>?_
  have I1:Inv X pins σ H { s with heap:=h' }:=I.turned (t':=s.toks) (fun b o hb e=>(sb.2 b hb).trans e) f0 f1 f3 f4 f5
  have st2:h'.IsRevIter it a ((n:Int) - 1 - ((i+1:Nat):Int)):=e2 ▸ st'
  obtain ⟨o,e,c,d⟩:=id st'
  exact ⟨u,rfl,Aq (s:={ s with heap:=h' }) e c d (by decide) ⟨x,H,I1,ru,⟨rfl,fun ys hy=>by rw [I.list_inj hy hq];exact hx⟩,st2,fun b hb=>(hf b hb).1⟩⟩
 done:=by
  intro X hP hw hK hc i pins s σ H E I hf st hg
  subst hP hw hK
  obtain ⟨f0,f1,f2,f3,f4,f5⟩:=hf it (by simp)
  have hg':i=n:=hg
  subst hg'
  have st1:s.heap.IsRevIter it a (-1):=(show (i:Int) - 1 - (i:Int)=-1 by omega) ▸ st
  exact wpAny_pyNext_rev_end (I.ok.hd hc) st1 fun h' eb=>⟨rfl,I.turned (t':=s.toks) (fun b o hb e=>eb b o hb e) f0 f1 f3 f4 f5⟩
 self:=fun _ _ _ _ _ st h=>wpAny_pyIter_revIter st h
noncomputable def aas (K:PySem.W.Frag) (ta:TA):TI:=fun σ H R=>ta σ H fun vs H1=>∃ a xs,vs=[.ref a]∧SqL K H1 a xs∧R (Itv K a xs.length) H1
theorem Yj {tg a : Expr} {ta : TA} {p pos : Pos} (hg : Gl X "reversed") (hm : X.mg "reversed" = none) (ha : PA X [a] ta) (hs : starEach [a] X.env = [(false, eval a X.env)]) : PI X tg (.Call (.Name "reversed" p) [a] [] pos) (aas X.K ta):=by
 intro pins s σ H R I h
 refine Call_ (fL I hg hm FW (PyProof.Rows.callWith_type1 (thn (ha pos pins s σ H _ I h) fun us s1 ⟨vs,H1,I1,r1,q1⟩=>?_) hs rfl))
 obtain ⟨b,xs,rfl,hq,q⟩:=q1
 obtain ⟨u,rfl,ru⟩:=vals1 r1
 cases ru
 obtain ⟨ws,rv,p',_⟩:=I1.list hq
 refine call_reversed_list p'.isList ?_
 have hl:ws.toArray.size=xs.length:=by have:=rv.length;simp;omega
 have hr:(s1.heap.push (revObj b ((ws.toArray.size:Int) - 1))).IsRevIter s1.heap.objs.size b ((ws.toArray.size:Int) - 1):=⟨_,Heap.get?_push_size _ rfl,rfl,rfl⟩
 rw [hl] at hr ⊢
 refine wpAny_pyIter_revIter hr ?_
 have I2:Inv X pins σ H1 { s1 with heap:=s1.heap.push (revObj b ((xs.length:Int) - 1)) }:=I1.kept (t':=s1.toks) fun c o e=>Heap.get?_push_of_some _ e
 refine ⟨s1.heap.objs.size,_,_,_,H1,rfl,I2,Td b s1.heap.objs.size xs.length,?_,fun c hc=>?_,q⟩
 ·have e:(xs.length:Int) - 1 - ((0:Nat):Int)=(xs.length:Int) - 1:=by omega
  show Heap.IsRevIter _ _ _ ((xs.length:Int) - 1 - ((0:Nat):Int))
  rw [e];exact hr
 ·rw [List.mem_singleton.mp hc]
  exact I1.fpOk (Nat.le_refl _) (I1.hok.fresh (Nat.le_refl _))
noncomputable def Itd (hi:Int) (n:Nat):It:=⟨fun i _=>i < n,fun i H x H'=>H'=H∧x=.int (hi - i),fun i _=>n≤i⟩
theorem Py {P:Program}{w:World}{K:PySem.W.Frag}{tg:Expr} (it:Addr) (hi:Int) (n:Nat):Turn P w K tg (Itd hi n) [it] it (fun i h=>IsRangeIter h it (hi+(i:Nat) * (-1)) ((n:Int) - (i:Nat)) (-1)) where
 mem:=by simp
 obj:=fun i h st b hb=>by
  rw [List.mem_singleton.mp hb]
  exact ⟨_,st,fun v z=>by
   have z':Data.fields _=Data.cell v:=z
   cases z'⟩
 keep:=fun i h h' st k=>k it (by simp) _ st
 item:=by
  intro X hP hw hK hc i pins s σ H E I hf st hg
  subst hP hw hK
  obtain ⟨f0,f1,f2,f3,f4,f5⟩:=hf it (by simp)
  have W:=Walks.range (prog:=X.prog) (w:=X.w) (I.ok.hd hc) it hi (-1) n
  refine W.item i s _ _ hg st fun v h' tk hv st' kk=>?_
  obtain ⟨t,rfl⟩:=hv
  have I1:Inv X pins σ H { s with heap:=h',toks:=tk }:=I.turned (fun b o hb e=>kk b o (by simpa using hb) e) f0 f1 f3 f4 f5
  refine ⟨_, rfl, Aq (s:={ s with heap:=h', toks:=tk }) (n:="range_iterator") st' rfl rfl (by decide) ⟨.int (hi - i), H, I1, ⟨t, ?_⟩, ⟨rfl, rfl⟩, st', fun b hb => (hf b hb).1⟩⟩
  rw [show hi+(i:Int) * (-1)=hi - (i:Int) by omega]
 done:=by
  intro X hP hw hK hc i pins s σ H E I hf st hg
  subst hP hw hK
  obtain ⟨f0,f1,f2,f3,f4,f5⟩:=hf it (by simp)
  exact wpAny_pyNext_range_end (I.ok.hd hc) st (by have:n≤i:=hg;omega) fun h' eb=>⟨rfl,I.turned (t':=s.toks) (fun b o hb e=>eb b o hb e) f0 f1 f3 f4 f5⟩
 self:=fun _ _ _ _ _ st h=>wpAny_pyIter_rangeiter st h
noncomputable def aai (ta:TA):TI:=fun σ H R=>ta σ H fun vs H1=>∃ i j:Int,vs=[.int i,.int j,.int (-1)]∧(-(2 ^ 30)≤i∧i < 2 ^ 30∧-(2 ^ 30)≤j∧j < 2 ^ 30)∧R (Itd i (i - j).toNat) H1
theorem VH {tg a b c : Expr} {ta : TA} {p pos : Pos} (hg : Gl X "range") (hm : X.mg "range" = none) (ha : PA X [a, b, c] ta) (hs : starEach [a, b, c] X.env = [(false, eval a X.env), (false, eval b X.env), (false, eval c X.env)]) (hs2 : starEach [b, c] X.env = [(false, eval b X.env), (false, eval c X.env)]) :
  PI X tg (.Call (.Name "range" p) [a, b, c] [] pos) (aai ta):=by
 intro pins s σ H R I h
 refine Call_ (fL I hg hm boot_range (PyProof.Rows.callWith_type1 (thn (ha pos pins s σ H _ I h) fun us s1 ⟨vs,H1,I1,r1,q1⟩=>?_) (by rw [hs,hs2]) (by rw [hs2];rfl)))
 obtain ⟨i,j,e,⟨q1,q2,q3,q4⟩,q⟩:=q1
 subst e
 cases r1 with
 | cons r rr =>
  obtain ⟨u2,u3,rfl,r2,r3⟩:=vals2 rr
  obtain ⟨t1,rfl⟩:=r
  obtain ⟨t2,rfl⟩:=r2
  obtain ⟨t3,rfl⟩:=r3
  refine call_range_3 (by decide) ?_ (.inl (PyProof.noPylong_small (by omega)))
  refine wpAny_pyIter_range (IsRange.new ..) (PySem.W.small_down (by omega) (by omega) (by omega) (by omega)) ?_
  have I2 : Inv X pins σ H1 { s1 with heap:=s1.heap.push { cls:=.type "range", data:=.fields #[.int i t1, .int j t2, .int (-1) t3] }, toks:=s1.toks }:=I1.kept fun b o e => Heap.get?_push_of_some _ e
  refine ⟨_,[_],_,_,H1,rfl,I2.kept (t':=s1.toks) fun b o e=>Heap.get?_push_of_some _ e,Py _ i (i - j).toNat,?_,fun b hb=>?_,q⟩
  ·have e1:i+((0:Nat):Int) * (-1)=i:=by simp
   have e2:(((i - j).toNat:Nat):Int) - ((0:Nat):Int)=Builtin.Range.rangeSize i j (-1):=by rw [PySem.W.rangeSize_downNat];simp
   show IsRangeIter _ _ (i+((0:Nat):Int) * (-1)) ((((i - j).toNat:Nat):Int) - ((0:Nat):Int)) (-1)
   rw [e1,e2]
   exact Heap.get?_push_size _ rfl
  ·rw [List.mem_singleton.mp hb]
   exact I2.fpOk (Nat.le_refl _) (I2.hok.fresh (Nat.le_refl _))
end
end Mi
namespace Mi
open PySem L2
open PyProof.Rows hiding St
noncomputable def atV:List (D × Addr × Value)→List V→D→Option V
 | x::xs,y::ys,k=>if x.1=k then some y else atV xs ys k
 | _,_,_=>none
theorem Bw {k:D}:∀ {xs:List (D × Addr × Value)}{ys:List V},Vals ys (xs.map (·.2.2))→(∃ v p,atV xs ys k=some v∧atKey xs k=some p∧RelV v p.2)∨(atV xs ys k=none∧atKey xs k=none)
 | [],[],_=>.inr ⟨rfl,rfl⟩
 | [],_::_,h=>by cases h
 | _::_,[],h=>by cases h
 | x::xs,y::ys,h=>by
  cases h with
  | cons r rs =>
   by_cases e:x.1=k
   ·refine .inl ⟨y,x.2,if_pos e,?_,r⟩
    unfold atKey
    rw [List.find?_cons_of_pos (by simpa using e)]
    rfl
   ·have e1:atV (x::xs) (y::ys) k=atV xs ys k:=if_neg e
    have e2:atKey (x::xs) k=atKey xs k:=by
     unfold atKey
     rw [List.find?_cons_of_neg (by simpa using e)]
    rw [e1,e2]
    exact Bw rs
section
variable {X:Cx}
noncomputable def Uy (X:Cx):R2:=fun x y H Q=>∃ k a ks xs ys v,Rp (gOf X) H k y∧isKey k=true∧x=.ref a∧DictR X H a ks xs ys∧atV xs ys k=some v∧Q v H
theorem WR (hu:X.A.units+100 < cLine):IxR X (Uy X):=by
 intro value slice pins s σ H x y v u Q I rx ry h hs
 obtain ⟨k,a,ks,xs,ys,z,r1,hk,rfl,d,hv,q⟩:=h
 cases rx
 obtain ⟨_,_,ds,rfl⟩:=iB hk
 rw [Rp] at r1
 obtain ⟨b,zs,rfl,sq,rs⟩:=id r1
 cases ry
 obtain ⟨h1,h2,h3,h4⟩:=dictOf I d
 have hin:X.A.in1.units=X.A.units+1:=rfl
 rcases Bw (k:=.tup ds) h3 with ⟨z',p,e1,e2,rp⟩ | ⟨e1,_⟩
 ·rw [hv] at e1;cases e1
  exact subscriptTail_builtinR (x:=p.2) h4.typeIs slot_dict_getitem.lookup
   (wpAny_getItem_heap (Q:=fun r s'=>r=p.2∧EP X pins σ Q r s') (knd:=iz X.prog X.w) (by show X.A.in1.units+10 < cLine;omega) (Aj I hk (by rw [Rp];exact ⟨b,zs,rfl,sq,rs⟩)) h4 e2 ⟨rfl,z,H,I.tok _,rp,q⟩) hs
 ·rw [hv] at e1;cases e1
noncomputable def tDg (X:Cx) (td ty tx:TE):TE:=fun σ H Q=>td σ H fun x H1=>∃ a ks xs ys,x=.ref a∧DictR X H1 a ks xs ys∧ty σ H1 fun y H2=>tx σ H2 fun z H3=>∃ k ks xs ys,Rp (gOf X) H3 k y∧isKey k=true∧DictR X H3 a ks xs ys∧Q ((atV xs ys k).getD z) H3
theorem R4 {o e f : Expr} {td ty tx : TE} {apos cpos : Pos} (hu : X.A.units + 100 < cLine) (ho : PE X o td) (he : PE X e ty) (hf : PE X f tx) (m : M2 X o "get" apos e f cpos) : PE X (.Call (.Attribute o "get" apos) [e, f] [] cpos) (tDg X td ty tx):=by
 intro pins s σ H Q I h
 refine wpAny_Call_method m.base m.few m.line PySem.F.plainAttrs_dict PySem.F.slot_dict_get PySem.F.type_dict_get (thn (ho pins s σ H _ I h) fun u s1 ⟨x,H1,I1,rx,a,ks,xs,ys,ex,d,q1⟩=>?_)
 subst ex
 obtain rfl:u=Value.ref a:=rx
 obtain ⟨h1,h2,h3,h4⟩:=dictOf I1 d
 refine ⟨h4.typeIs,?_,?_⟩
 ·intro c ec
  cases ec
  obtain ⟨ob,_,_,e1,e2,_⟩:=h4
  exact ⟨ob,e1,e2.2.1⟩
 rw [m.trees]
 refine Calls.callWith_builtin rfl (Calls.evalArgs_plain (Calls.spliced_cons (thn (he pins s1 σ H1 _ I1 q1) fun iv s2 ⟨y,H2,I2,ry,q2⟩ =>
  Calls.spliced_cons (thn (hf pins s2 σ H2 _ I2 q2) fun fv s3 ⟨z,H3,I3,rz,k,ks3,xs3,ys3,r1,hk,d3,q3⟩=>Calls.spliced_nil ?_))))
 obtain ⟨_,_,ds,rfl⟩:=iB hk
 rw [Rp] at r1
 obtain ⟨b,zs,rfl,sq,rs⟩:=id r1
 cases ry
 obtain ⟨g1,g2,g3,g4⟩:=dictOf I3 d3
 have hin:X.A.in1.units=X.A.units+1:=rfl
 refine call_meetsIn PySem.F.slot_dict_get g4.typeIs PySem.F.entry_dict_get (PySem.F.args_dict_get_3 _ _ _) (meetsH_dict_get_default (iz X.prog X.w) a b g1 fv) ⟨by show X.A.in1.units+10 < cLine;omega,_,xs3,Aj I3 hk (by rw [Rp];exact ⟨b,zs,rfl,sq,rs⟩),g4,?_⟩
 refine ⟨_,H3,I3.tok _,?_,q3⟩
 rcases Bw (k:=.tup ds) g3 with ⟨z',p,e1,e2,rp⟩ | ⟨e1,e2⟩
 ·rw [e1,e2];exact rp
 ·rw [e1,e2];exact rz
end
end Mi
namespace Mi
open PySem L2
open PyProof.Rows hiding St
theorem K8 : typeLookup (.type "list_reverseiterator") "__len__" = pure none:=by rw [typeLookup_type, builtinLookup_eq_fast]; kernel_rfl
theorem Q0 : typeLookup (.type "list_reverseiterator") "__length_hint__" = pure (some (.builtin "list_reverseiterator.__length_hint__")):=by rw [typeLookup_type, builtinLookup_eq_fast]; kernel_rfl
section
variable {prog:Program}{w:World}{A:Around}{E:Value→Shared→Prop}{s:Shared}
theorem SQ {Q:Bool→Shared→Prop}{it l:Addr}{i:Int} (hr:s.heap.IsRevIter it l i) (h:Q false s):wpAny (model prog w) A (Builtin.List.listLengthHint (.ref it)) Q E s:=by
 unfold Builtin.List.listLengthHint
 refine wpAny_bind (wpAny_specialOf hr.typeIs K8 ?_)
 show wpAny _ _ (specialOf (Value.ref it) (Str.ofString "__length_hint__") >>= _) _ _ _
 refine wpAny_bind (wpAny_specialOf hr.typeIs Q0 ?_)
 generalize hid : ("list_reverseiterator.__length_hint__" : String) = id0
 wp_delta
 rw [show splitId id0 = some ("list_reverseiterator", "__length_hint__") from by subst hid; decide +kernel]
 subst hid
 refine wpAny_bind (wpAny_isInstance (T:="list_reverseiterator") (b:=true) hr.typeIs (by rw [isSubtype_type]; kernel_rfl) ?_)
 refine wpAny_ite_split (fun hab=>absurd hab (by decide)) (fun _=>?_)
 refine wpAny_ite_split (fun _=>?_) (fun hab=>absurd (by decide +kernel) hab)
 refine wpAny_ite_split (fun hab=>absurd hab (by decide +kernel)) (fun _=>?_)
 exact wpAny_pure h
theorem M5 {items acc:Array Value} (h:ItemsOf (fun j v=>items[items.size - 1 - j]?=some v) acc items.size):acc.toList=items.toList.reverse:=by
 apply List.ext_getElem?
 intro j
 by_cases hj:j < items.size
 ·have e:acc[j]?=some (acc[j]'(by rw [h.1];exact hj)):=Array.getElem?_eq_getElem _
  have q:=h.2 j _ e
  rw [List.getElem?_reverse (by simpa using hj)]
  rw [Array.getElem?_toList,e,Array.getElem?_toList,Array.length_toList]
  exact q.symm
 ·rw [List.getElem?_eq_none (by rw [Array.length_toList,h.1];omega),List.getElem?_eq_none (by rw [List.length_reverse,Array.length_toList];omega)]
theorem Ed {Q:Value→Shared→Prop}{it l:Addr}{items:Array Value} (hh:A.handled=none) (hr:s.heap.IsRevIter it l ((items.size:Int) - 1)) (hl:s.heap.IsList l items) (hlen:items.size≤sizeLine)
  (hQ : ∀ g tk acc c, (∀ b o, b ≠ it → s.heap.get? b = some o → g.get? b = some o) → g.get? s.heap.objs.size = some { cls:=.type "list", dict:=none, data:=.seq acc c, slots:=#[] } → acc.toList = items.toList.reverse → Q (.ref s.heap.objs.size) { s with heap:=g, toks:=tk }) :
  wpAny (model prog w) A (call (.type "list") [.ref it]) Q E s:=by
 refine callType_codes (Q₁:=fun obj s₁ => obj = .ref s.heap.objs.size ∧ s₁ = { s with heap:=s.heap.push { cls:=.type "list", data:=.seq #[] } }) PySem.F.called_list (PySem.F.typeCall_list_1 _) PySem.F.entry_list_init (code_list_new _ ⟨rfl, rfl⟩) fun obj s₁ h₁ => ?_
 obtain ⟨rfl,rfl⟩:=h₁
 have hS : (s.heap.push { cls:=.type "list", data:=.seq #[] }).get? s.heap.objs.size = some { cls:=.type "list", data:=.seq #[] }:=Heap.get?_push_size _ rfl
 refine ⟨⟨_,hS,rfl⟩,PySem.F.args_list_init_2 _ _,?_⟩
 have ilt:it < s.heap.objs.size:=by obtain ⟨_,e,_⟩:=hr;exact Heap.lt_size e
 have llt:l < s.heap.objs.size:=by obtain ⟨_,e,_⟩:=hl;exact Heap.lt_size e
 have lit:l≠it:=fun z=>by
  obtain ⟨o1,e1,c1,_⟩:=hr
  obtain ⟨o2,e2,c2,_⟩:=hl
  rw [z,e1] at e2;cases e2;rw [c1] at c2;exact absurd c2 (by simp)
 have nS:∀ b,b < s.heap.objs.size→s.heap.objs.size≠b:=fun b hb=>Nat.ne_of_gt hb
 show wpAny _ _ (do let old ← Builtin.List.listItems (.ref s.heap.objs.size);Builtin.List.listUpdate (.ref s.heap.objs.size) (fun _=>#[]);letGo old.toList.reverse;Builtin.List.listExtendWith (.ref s.heap.objs.size) (.ref it) .none) _ _ _
 refine wpAny_bind ?_
 unfold Builtin.List.listItems
 refine wpAny_bind (wpAny_seqItems hS rfl (wpAny_pure ?_))
 show wpAny _ _ (updateSeq s.heap.objs.size (fun _=>#[]) >>= fun _=>letGo (#[]:Array Value).toList.reverse >>= fun _=>Builtin.List.listExtendWith (.ref s.heap.objs.size) (.ref it) .none) _ _ _
 refine wpAny_bind (wpAny_updateSeq hS rfl ?_)
 have hS2:=Heap.get?_update_self (Obj.mapSeq (fun _=>(#[]:Array Value))) hS rfl
 have oth : ∀ b o, s.heap.get? b = some o → ((s.heap.push { cls:=.type "list", data:=.seq #[] }).update s.heap.objs.size (Obj.mapSeq (fun _ => (#[] : Array Value)))).get? b = some o:=fun b o e => (Heap.get?_update_other _ _ (nS b (Heap.lt_size e))).trans (Heap.get?_push_of_some _ e)
 refine wpAny_bind (wpAny_letGo ?_)
 have hr2 : ((s.heap.push { cls:=.type "list", data:=.seq #[] }).update s.heap.objs.size (Obj.mapSeq (fun _ => (#[] : Array Value)))).IsRevIter it l ((items.size : Int) - 1):=hr.at fun o e => oth it o e
 have hl2 : ((s.heap.push { cls:=.type "list", data:=.seq #[] }).update s.heap.objs.size (Obj.mapSeq (fun _ => (#[] : Array Value)))).IsList l items:=hl.at fun o e => oth l o e
 unfold Builtin.List.listExtendWith
 refine wpAny_bind (wpAny_typeOf (T:="list_reverseiterator") (hr2.typeIs (s:={ s with heap:=(s.heap.push { cls:=.type "list", data:=.seq #[] }).update s.heap.objs.size (Obj.mapSeq (fun _ => (#[] : Array Value))) })) ?_)
 have h1:Builtin.List.listSameRef (.ref s.heap.objs.size) (.ref it)=false:=by simp [Builtin.List.listSameRef,nS it ilt]
 have h2 : (Value.type "list_reverseiterator" == Value.type "list") = false:=by decide
 have h3 : (Value.type "list_reverseiterator" == Value.type "tuple") = false:=by decide
 simp only [h1,h2,h3,Bool.or_false,Bool.false_eq_true,if_false]
 refine wpAny_bind (wpAny_pyIter_revIter (s:={ s with heap:=(s.heap.push { cls:=.type "list", data:=.seq #[] }).update s.heap.objs.size (Obj.mapSeq (fun _ => (#[] : Array Value))) }) hr2 ?_)
 refine wpAny_bind (wpAny_holding (SQ (s:={ s with heap:=(s.heap.push { cls:=.type "list", data:=.seq #[] }).update s.heap.objs.size (Obj.mapSeq (fun _ => (#[] : Array Value))) }) hr2 ?_))
 refine wpAny_ite_split (fun hab=>absurd hab (by decide +kernel)) (fun _=>wpAny_pure ⟨plainId_quiet PySem.F.plain_extend_loop _,?_⟩)
 have W:=(Walks.listRev (prog:=prog) (w:=w) (A:=A.in1.in1) hh it l lit items).toS
 refine codeAny_extend_loopS W hlen s.heap.objs.size (fun hm=>?_) .none items.size 0 _ #[] _ rfl (Nat.zero_le _) ⟨Nat.zero_le _,?_,hl2⟩ hS2 (ItemsOf.nil _) fun s' acc' c' hm hS' hacc=>?_
 ·rcases List.mem_cons.mp hm with z | z
  ·exact nS it ilt z
  ·exact nS l llt (List.mem_singleton.mp z)
 ·have e:(items.size:Int) - 1 - ((0:Nat):Int)=(items.size:Int) - 1:=by omega
  rw [e];exact hr2
 ·rw [Moved.eq_with hm]
  refine ⟨rfl,hQ s'.heap s'.toks acc' c' (fun b o hb e=>hm.heap b o (fun hmem=>?_) (oth b o e)) hS' (M5 hacc)⟩
  rcases List.mem_cons.mp hmem with z | z
  ·exact nS b (Heap.lt_size e) z.symm
  ·exact hb (List.mem_singleton.mp z)
end
section
variable {X:Cx}
noncomputable def tLR (K:PySem.W.Frag) (ta:TA):TE:=fun σ H Q=>ta σ H fun vs H1=>∃ a xs,vs=[.ref a]∧SqL K H1 a xs∧∀ S:Addr,H1 S=none→Q (.ref S) (upd H1 S (.lst xs.reverse))
theorem Lw {a : Expr} {ta : TA} {p pos p2 pos2 : Pos} (hc : X.calm = true) (hg : Gl X "reversed") (hm : X.mg "reversed" = none) (hgl : Gl X "list") (hml : X.mg "list" = none) (ha : PA X [a] ta) (hs : starEach [a] X.env = [(false, eval a X.env)]) :
  PE X (.Call (.Name "list" p) [.Call (.Name "reversed" p2) [a] [] pos2] [] pos) (tLR X.K ta):=by
 intro pins s σ H Q I h
 refine Call_ (fL I hgl hml boot_list (PyProof.Rows.callWith_type1 (Calls.spliced_cons ?_) rfl rfl))
 refine Call_ (fL I hg hm FW (PyProof.Rows.callWith_type1 (thn (ha pos2 pins s σ H _ I h) fun us s1 ⟨vs,H1,I1,r1,q1⟩=>?_) hs rfl))
 obtain ⟨b,xs,rfl,hq,q⟩:=q1
 obtain ⟨u,rfl,ru⟩:=vals1 r1
 cases ru
 obtain ⟨ws,rv,p',hz⟩:=I1.list hq
 have hl:xs.length=ws.length:=rv.length
 refine call_reversed_list p'.isList (Calls.spliced_nil ?_)
 have nit:∀ c o,s1.heap.get? c=some o→(s1.heap.push (revObj b ((ws.toArray.size:Int) - 1))).get? c=some o:=fun c o e=>Heap.get?_push_of_some _ e
 refine Ed (s:={ s1 with heap:=s1.heap.push (revObj b ((ws.toArray.size:Int) - 1)) }) (it:=s1.heap.objs.size) (l:=b) (items:=ws.toArray) (I1.ok.hd hc) ⟨_,Heap.get?_push_size _ rfl,rfl,rfl⟩ (p'.isList.at fun o e=>nit b o e) (by rw [List.size_toArray];omega) fun g tk acc c kp hS hacc=>?_
 have hsz:(s1.heap.push (revObj b ((ws.toArray.size:Int) - 1))).objs.size=s1.heap.objs.size+1:=Heap.size_push ..
 have hle:s1.heap.objs.size≤(s1.heap.push (revObj b ((ws.toArray.size:Int) - 1))).objs.size:=by rw [hsz];exact Nat.le_succ _
 have hacc':acc=ws.reverse.toArray:=by
  apply Array.ext'
  rw [hacc]
 subst hacc'
 refine ⟨.ref _,_,I1.laid (t':=tk) (o:=.lst xs.reverse) (fun d o e=>kp d o (Nat.ne_of_lt (Heap.lt_size e)) (nit d o e)) hle ⟨by rw [List.length_reverse];omega,ws.reverse,c,rv.reverse,hS⟩,rfl,q _ (I1.hok.fresh hle)⟩
end
end Mi
namespace Mi
open PySem L2
inductive M where
 | var (i:Nat) | con (d:D)
 | tup (es:List M) | lst (es:List M) | dct0
 | bin (op:BO) (a b:M) | cmp (op:CO) (a b:M) | chain (p q:CO) (a b c:M)
 | and (es:List M) | or (es:List M) | not (a:M) | neg (a:M) | ite (c a b:M)
 | ix (a b:M) | slc (a lo hi:M)
 | dget (a k d:M)
 | call (f:Nat) (es:List M) | blt (f:BI) (es:List M) | isin (a:M) (t:Ty)
 | comp (elt:M) (tg:Tg) (k:IK) (src:List M) (hc:Bool) (c:M) (cap:List Bool)
noncomputable def bH:D→R Bool
 | .bl b=>.ok b
 | _=>.stuck
noncomputable def lA:D→R (Option Int)
 | .int i=>.ok (some i)
 | _=>.stuck
noncomputable def cX:M→Bool
 | .con .non=>true
 | _=>false
noncomputable def cutD (ds:List D) (lo hi:Option Int):List D:=(ds.drop (HT.sIx ds.length 0 lo)).take (HT.sIx ds.length ds.length hi - HT.sIx ds.length 0 lo)
noncomputable def slD (d:D) (lo hi:Option Int):R D:=match d with
 | .lst ds=>.ok (.lst (cutD ds lo hi))
 | .tup ds=>if HT.sIx ds.length 0 lo=0∧HT.sIx ds.length ds.length hi=ds.length then .stuck else .ok (.tup (cutD ds lo hi))
 | _=>.stuck
noncomputable def uY:D→R D
 | .lst ds=>.ok (.int ds.length)
 | .tup ds=>.ok (.int ds.length)
 | _=>.stuck
noncomputable def nH (d:D):R D:=do
 let ds ← Eo d
 if rM ds then .ok (.lst (mJ ds)) else .stuck
noncomputable def fQ:BI→List D→R D
 | .len,[d]=>uY d
 | .min2,[.int a,.int b]=>.ok (.int (if b < a then b else a))
 | .max2,[.int a,.int b]=>.ok (.int (if b > a then b else a))
 | .all,[.lst ds]=>(match boolsOf ds with | some bs=>.ok (.bl (bs.all id)) | none=>.stuck)
 | .any,[.lst ds]=>(match boolsOf ds with | some bs=>.ok (.bl (bs.any id)) | none=>.stuck)
 | .sorted,[d]=>nH d
 | .list,[.lst ds]=>.ok (.lst ds)
 | .list,[.tup ds]=>.ok (.lst ds)
 | .tuple,[.lst ds]=>.ok (.tup ds)
 | .tuple,[.tup ds]=>.ok (.tup ds)
 | .listEnum,[.tup ds]=>.ok (.lst (aZ 0 ds))
 | .listRev,[.lst ds]=>.ok (.lst ds.reverse)
 | _,_=>.stuck
noncomputable def tU:D→D→D→R D
 | .dct ks vs,k,z=>if keyB k then .ok ((jy ks vs k).getD z) else .stuck
 | _,_,_=>.stuck
noncomputable def dO:Tg→D→En→R En
 | .one i,d,ρ=>.ok (ρ.set i (some d))
 | .two i j,.tup [a,b],ρ=>.ok ((ρ.set i (some a)).set j (some b))
 | _,_,_=>.stuck
noncomputable def gD (f:D→R (Option D)):List D→R (List D)
 | []=>.ok []
 | d::ds=>do
  let y ← f d
  let ys ← gD f ds
  .ok (match y with | some y=>y::ys | none=>ys)
noncomputable def cN (ρ:En) (i:Nat):R D:=match ρ[i]? with | some (some d)=>.ok d | _=>.stuck
mutual
noncomputable def evE (cl:Nat→List D→R D):M→En→R D
 | .var i,ρ=>cN ρ i
 | .con d,_=>.ok d
 | .tup es,ρ=>do let ds ← cu cl es ρ;if ds.length≤lim then .ok (.tup ds) else .stuck
 | .lst es,ρ=>do let ds ← cu cl es ρ;if ds.length≤lim then .ok (.lst ds) else .stuck
 | .dct0,_=>.ok (.dct [] [])
 | .bin op a b,ρ=>do let x ← evE cl a ρ;let y ← evE cl b ρ;jm op x y
 | .cmp op a b,ρ=>do let x ← evE cl a ρ;let y ← evE cl b ρ;let r ← bF op x y;.ok (.bl r)
 | .chain p q a b c,ρ=>do
  let x ← evE cl a ρ
  let y ← evE cl b ρ
  let r ← bF p x y
  if r then do let z ← evE cl c ρ;let r2 ← bF q y z;.ok (.bl r2) else .ok (.bl false)
 | .and es,ρ=>iI cl es ρ
 | .or es,ρ=>kh cl es ρ
 | .not a,ρ=>do let x ← evE cl a ρ;let t ← bH x;.ok (.bl (!t))
 | .neg a,ρ=>do let x ← evE cl a ρ;(match x with | .int i=>.ok (.int (-i)) | _=>.stuck)
 | .ite c a b,ρ=>do let x ← evE cl c ρ;let t ← bH x;if t then evE cl a ρ else evE cl b ρ
 | .ix a b,ρ=>do let x ← evE cl a ρ;let y ← evE cl b ρ;ixD x y
 | .slc a lo hi,ρ=>do
  let x ← evE cl a ρ
  let l ← (if cX lo then .ok none else (do let d ← evE cl lo ρ;lA d))
  let h ← (if cX hi then .ok none else (do let d ← evE cl hi ρ;lA d))
  slD x l h
 | .dget a k d,ρ=>do let x ← evE cl a ρ;let y ← evE cl k ρ;let z ← evE cl d ρ;tU x y z
 | .call f es,ρ=>do let ds ← cu cl es ρ;cl f ds
 | .blt f es,ρ=>do let ds ← cu cl es ρ;fQ f ds
 | .isin a t,ρ=>do let x ← evE cl a ρ;.ok (.bl (jJ x t))
 | .comp elt tg k src hc c cap,ρ=>do
  let ss ← cu cl src ρ
  let items ← itemsOf k ss
  let ys ← gD (fun d=>do
   let ρ' ← dO tg d (bf cap ρ)
   let t ← (if hc then (do let x ← evE cl c ρ';bH x) else .ok true)
   if t then do let y ← evE cl elt ρ';.ok (some y) else .ok none) items
  if ys.length≤lim then .ok (.lst ys) else .stuck
noncomputable def cu (cl:Nat→List D→R D):List M→En→R (List D)
 | [],_=>.ok []
 | e::es,ρ=>do let d ← evE cl e ρ;let ds ← cu cl es ρ;.ok (d::ds)
noncomputable def iI (cl:Nat→List D→R D):List M→En→R D
 | [],_=>.stuck
 | [e],ρ=>do let x ← evE cl e ρ;let t ← bH x;.ok (.bl t)
 | e::e'::es,ρ=>do let x ← evE cl e ρ;let t ← bH x;if t then iI cl (e'::es) ρ else .ok (.bl false)
noncomputable def kh (cl:Nat→List D→R D):List M→En→R D
 | [],_=>.stuck
 | [e],ρ=>do let x ← evE cl e ρ;let t ← bH x;.ok (.bl t)
 | e::e'::es,ρ=>do let x ← evE cl e ρ;let t ← bH x;if t then .ok (.bl true) else kh cl (e'::es) ρ
end
inductive MS where
 | set (t:Tg) (e:M) | app (i:Nat) (e:M) | ext (i:Nat) (e:M) | put (i:Nat) (k v:M)
 | putB (i:Nat) (k v:M) | pop (i:Nat) (e:M) | callm (i f:Nat) (e:M) | retO (i:Nat) | setF (i f:Nat) (es:List M)
 | expr (e:M) | ret (e:M) | ifs (c:M) (a b:List MS) | forr (t:Tg) (k:IK) (src:List M) (b:List MS)
 | pass | brk | cnt | rai
 | setB (t:Tg) (e:M) | setC (t:Tg) (e:M)
 | chk (j:Nat) (e:M)
inductive Out where
 | nx (ρ:En) | rt (d:D) | bk (ρ:En) | ct (ρ:En) | ro (d:D)
noncomputable def aJ:En→En→En
 | a::as,b::bs=>(if a.isSome then b else none)::aJ as bs
 | [],bs=>bs.map fun _=>none
 | _,[]=>[]
noncomputable def gJ (f:D→En→R Out) (ρ₀:En):List D→En→R Out
 | [],ρ=>.ok (.nx ρ)
 | d::ds,ρ=>do
  let o ← f d ρ
  match o with
  | .nx ρ'=>gJ f ρ₀ ds (aJ ρ₀ ρ')
  | .ct ρ'=>gJ f ρ₀ ds (aJ ρ₀ ρ')
  | .bk ρ'=>.ok (.nx (aJ ρ₀ ρ'))
  | .rt d=>.ok (.rt d)
  | .ro d=>.ok (.ro d)
noncomputable def yh:D→D→R D
 | .lst ds,d=>if ds.length < lim then .ok (.lst (ds++[d])) else .stuck
 | _,_=>.stuck
noncomputable def Bs:D→D→R D
 | .lst ds,.lst es=>if ds.length+es.length≤lim then .ok (.lst (ds++es)) else .stuck
 | .lst ds,.tup es=>if ds.length+es.length≤lim then .ok (.lst (ds++es)) else .stuck
 | _,_=>.stuck
noncomputable def putD:D→D→D→R D
 | .dct ks vs,k,v=>if isKey k∧ks.length < lim∧ks.length=vs.length then .ok (.dct (iR ks vs k v).1 (iR ks vs k v).2) else .stuck
 | _,_,_=>.stuck
noncomputable def Lh:D→D→R D
 | .lst ds,.int i=>if ds.length≤lim then (match ixN ds.length i with | some k=>.ok (.lst (ds.eraseIdx k)) | none=>.stuck) else .stuck
 | _,_=>.stuck
mutual
noncomputable def lfD:D→Bool
 | .tup ds=>lX ds
 | .lst _=>false
 | .dct _ _=>false
 | _=>true
noncomputable def lX:List D→Bool
 | []=>true
 | d::ds=>lfD d && lX ds
end
noncomputable def lfL:D→Bool
 | .lst ds=>lX ds
 | _=>false
noncomputable def lfC:D→Bool
 | .dct ks vs=>lX ks && lX vs
 | _=>false
noncomputable def QV (ρ:En):D→R Out
 | .bl true=>.ok (.nx ρ)
 | _=>.stuck
mutual
noncomputable def bA (cl:Nat→List D→R D):MS→En→R Out
 | .set t e,ρ=>do let d ← evE cl e ρ;let ρ' ← dO t d ρ;.ok (.nx ρ')
 | .app i e,ρ=>do let l ← cN ρ i;let d ← evE cl e ρ;let l' ← yh l d;.ok (.nx (ρ.set i (some l')))
 | .ext i e,ρ=>do let l ← cN ρ i;let d ← evE cl e ρ;let l' ← Bs l d;.ok (.nx (ρ.set i (some l')))
 | .put i k v,ρ=>do
  let dv ← evE cl v ρ
  let l ← cN ρ i
  let dk ← evE cl k ρ
  let l' ← putD l dk dv
  .ok (.nx (ρ.set i (some l')))
 | .putB i k v,ρ=>do
  let dv ← evE cl v ρ
  let l ← cN ρ i
  let dk ← evE cl k ρ
  let l' ← putD l dk dv
  if lfD dv && lfD dk then .ok (.nx (ρ.set i (some l'))) else .stuck
 | .pop i e,ρ=>do let l ← cN ρ i;let d ← evE cl e ρ;let l' ← Lh l d;.ok (.nx (ρ.set i (some l')))
 | .callm i f e,ρ=>do let d ← evE cl e ρ;let l ← cN ρ i;let l' ← cl (1000+f) [d,l];.ok (.nx (ρ.set i (some l')))
 | .retO i,ρ=>do let d ← cN ρ i;.ok (.ro d)
 | .setF i f es,ρ=>do let ds ← cu cl es ρ;let d ← cl (2000+f) ds;if lfC d then .ok (.nx (ρ.set i (some d))) else .stuck
 | .expr e,ρ=>do let _ ← evE cl e ρ;.ok (.nx ρ)
 | .ret e,ρ=>do let d ← evE cl e ρ;.ok (.rt d)
 | .ifs c a b,ρ=>do
  let x ← evE cl c ρ
  let t ← bH x
  if t then cJ cl a ρ else cJ cl b ρ
 | .forr t k src b,ρ=>do
  let ss ← cu cl src ρ
  let items ← itemsOf k ss
  gJ (fun d ρ=>do let ρ1 ← dO t d ρ;cJ cl b ρ1) ρ items ρ
 | .pass,ρ=>.ok (.nx ρ)
 | .brk,ρ=>.ok (.bk ρ)
 | .cnt,ρ=>.ok (.ct ρ)
 | .rai,ρ=>.stuck
 | .chk _ e,ρ=>do let d ← evE cl e ρ;let r ← cl 5000 [d];QV ρ r
 | .setB t e,ρ=>do let d ← evE cl e ρ;if lfD d then (do let ρ' ← dO t d ρ;.ok (.nx ρ')) else .stuck
 | .setC t e,ρ=>do let d ← evE cl e ρ;if lfL d then (do let ρ' ← dO t d ρ;.ok (.nx ρ')) else .stuck
noncomputable def cJ (cl:Nat→List D→R D):List MS→En→R Out
 | [],ρ=>.ok (.nx ρ)
 | m::ms,ρ=>do
  let o ← bA cl m ρ
  match o with
  | .nx ρ'=>cJ cl ms ρ'
  | o=>.ok o
end
mutual
noncomputable def aF:M→List Nat
 | .var i=>[i]
 | .con _=>[]
 | .tup es=>aP es
 | .lst es=>aP es
 | .dct0=>[]
 | .bin _ a b=>aF a++aF b
 | .cmp _ a b=>aF a++aF b
 | .chain _ _ a b c=>aF a++(aF b++aF c)
 | .and es=>aP es
 | .or es=>aP es
 | .not a=>aF a
 | .neg a=>aF a
 | .ite c a b=>aF c++(aF a++aF b)
 | .ix a b=>aF a++aF b
 | .slc a b c=>aF a++(aF b++aF c)
 | .dget a b c=>aF a++(aF b++aF c)
 | .call _ es=>aP es
 | .blt _ es=>aP es
 | .isin a _=>aF a
 | .comp elt _ _ src _ c _=>aP src++(aF c++aF elt)
noncomputable def aP:List M→List Nat
 | []=>[]
 | e::es=>aF e++aP es
end
noncomputable def without (O U:List Nat):List Nat:=O.filter fun i=>!U.contains i
noncomputable def aV:Tg→List Nat
 | .one i=>[i]
 | .two i j=>[i,j]
noncomputable def Qi:M→Bool
 | .lst _=>true
 | .dct0=>true
 | .blt .list _=>true
 | _=>false
noncomputable abbrev Ow:=Option (List Nat)
noncomputable def mW:Ow→Ow→Ow
 | none,b=>b
 | a,none=>a
 | some a,some b=>some (a.filter fun i=>b.contains i)
mutual
noncomputable def jr (inv:List Nat):MS→List Nat→Option Ow
 | .set (.one i) e,O=>some (some (if Qi e then i::without (without O (aF e)) [i] else without (without O (aF e)) [i]))
 | .set (.two i j) e,O=>some (some (without (without O (aF e)) [i,j]))
 | .app i e,O=>if (without O (aF e)).contains i then some (some (without O (aF e))) else none
 | .ext i e,O=>if (without O (aF e)).contains i then some (some (without O (aF e))) else none
 | .put i k v,O=>if (without O (aF k++aF v)).contains i then some (some (without O (aF k++aF v))) else none
 | .putB i k v,O=>if O.contains i then some (some O) else none
 | .pop i e,O=>if (without O (aF e)).contains i then some (some (without O (aF e))) else none
 | .callm i f e,O=>if (without O (aF e)).contains i then some (some (without O (aF e))) else none
 | .retO i,O=>if O.contains i then some none else none
 | .setF i f es,O=>some (some (i::without (without O (aP es)) [i]))
 | .expr e,O=>some (some (without O (aF e)))
 | .ret e,O=>some none
 | .ifs c a b,O=>do
  let x ← eY inv a O
  let y ← eY inv b O
  some (mW x y)
 | .forr t k src b,O=>do
  let O1:=without (without O (aP src)) (aV t)
  let x ← eY O1 b O1
  let O2:=(mW (some O1) x).getD []
  let y ← eY O2 b O2
  match y with
  | none=>some (some O2)
  | some O3=>if O2.all (fun i=>O3.contains i) then some (some O2) else none
 | .pass,O=>some (some O)
 | .brk,O=>if inv.all (fun i=>O.contains i) then some none else none
 | .cnt,O=>if inv.all (fun i=>O.contains i) then some none else none
 | .rai,O=>some none
 | .chk _ e,O=>some (some (without O (aF e)))
 | .setB t e,O=>some (some (without O (aV t)))
 | .setC t e,O=>some (some (without O (aV t)))
noncomputable def eY (inv:List Nat):List MS→List Nat→Option Ow
 | [],O=>some (some O)
 | m::ms,O=>do
  let x ← jr inv m O
  match x with
  | none=>some none
  | some O1=>eY inv ms O1
end
mutual
noncomputable def RD:MS→List Nat
 | .set t _=>aV t
 | .setB t _=>aV t
 | .setC t _=>aV t
 | .setF i _ _=>[i]
 | .ifs _ a b=>vm a++vm b
 | .forr t _ _ b=>aV t++vm b
 | _=>[]
noncomputable def vm:List MS→List Nat
 | []=>[]
 | m::ms=>RD m++vm ms
end
structure Def where
 np:Nat
 nn:Nat
 body:List MS
 nrm:Bool
noncomputable def uK (d:Def):Bool:=decide (d.np=2) && !(vm d.body).contains 1 && (match eY [] d.body [1] with | some (some O)=>O.contains 1 | _=>false)
section eqs
variable (cl:Nat→List D→R D) (ρ:En)
theorem wL (i:Nat):evE cl (.var i) ρ=cN ρ i:=rfl
theorem wM (d:D):evE cl (.con d) ρ=.ok d:=rfl
theorem wN (es:List M):evE cl (.tup es) ρ=(do let ds ← cu cl es ρ;if ds.length≤lim then .ok (.tup ds) else .stuck):=rfl
theorem wO (es:List M):evE cl (.lst es) ρ=(do let ds ← cu cl es ρ;if ds.length≤lim then .ok (.lst ds) else .stuck):=rfl
theorem wP:evE cl .dct0 ρ=.ok (.dct [] []):=rfl
theorem wQ (op:BO) (a b:M):evE cl (.bin op a b) ρ=(do let x ← evE cl a ρ;let y ← evE cl b ρ;jm op x y):=rfl
theorem wR (op:CO) (a b:M):evE cl (.cmp op a b) ρ=(do let x ← evE cl a ρ;let y ← evE cl b ρ;let r ← bF op x y;.ok (.bl r)):=rfl
theorem qL (p q:CO) (a b c:M):evE cl (.chain p q a b c) ρ=(do
  let x ← evE cl a ρ
  let y ← evE cl b ρ
  let r ← bF p x y
  if r then do let z ← evE cl c ρ;let r2 ← bF q y z;.ok (.bl r2) else .ok (.bl false)):=rfl
theorem wS (es:List M):evE cl (.and es) ρ=iI cl es ρ:=rfl
theorem wn (es:List M):evE cl (.or es) ρ=kh cl es ρ:=rfl
theorem wT (a:M):evE cl (.not a) ρ=(do let x ← evE cl a ρ;let t ← bH x;.ok (.bl (!t))):=rfl
theorem wV (c a b:M):evE cl (.ite c a b) ρ=(do let x ← evE cl c ρ;let t ← bH x;if t then evE cl a ρ else evE cl b ρ):=rfl
theorem wo (a b:M):evE cl (.ix a b) ρ=(do let x ← evE cl a ρ;let y ← evE cl b ρ;ixD x y):=rfl
theorem wW (a lo hi:M):evE cl (.slc a lo hi) ρ=(do
  let x ← evE cl a ρ
  let l ← (if cX lo then .ok none else (do let d ← evE cl lo ρ;lA d))
  let h ← (if cX hi then .ok none else (do let d ← evE cl hi ρ;lA d))
  slD x l h):=rfl
theorem qa (a k d:M):evE cl (.dget a k d) ρ=(do let x ← evE cl a ρ;let y ← evE cl k ρ;let z ← evE cl d ρ;tU x y z):=rfl
theorem qb (f:Nat) (es:List M):evE cl (.call f es) ρ=(do let ds ← cu cl es ρ;cl f ds):=rfl
theorem wX (f:BI) (es:List M):evE cl (.blt f es) ρ=(do let ds ← cu cl es ρ;fQ f ds):=rfl
theorem qd (a:M) (t:Ty):evE cl (.isin a t) ρ=(do let x ← evE cl a ρ;.ok (.bl (jJ x t))):=rfl
theorem qf (elt:M) (tg:Tg) (k:IK) (src:List M) (hc:Bool) (c:M) (cap:List Bool):evE cl (.comp elt tg k src hc c cap) ρ=(do
  let ss ← cu cl src ρ
  let items ← itemsOf k ss
  let ys ← gD (fun d=>do
   let ρ' ← dO tg d (bf cap ρ)
   let t ← (if hc then (do let x ← evE cl c ρ';bH x) else .ok true)
   if t then do let y ← evE cl elt ρ';.ok (some y) else .ok none) items
  if ys.length≤lim then .ok (.lst ys) else .stuck):=rfl
theorem qg:cu cl [] ρ=.ok []:=rfl
theorem qM (e:M) (es:List M):cu cl (e::es) ρ=(do let d ← evE cl e ρ;let ds ← cu cl es ρ;.ok (d::ds)):=rfl
theorem qh (e:M):iI cl [e] ρ=(do let x ← evE cl e ρ;let t ← bH x;.ok (.bl t)):=rfl
theorem qN (e e':M) (es:List M):iI cl (e::e'::es) ρ=(do let x ← evE cl e ρ;let t ← bH x;if t then iI cl (e'::es) ρ else .ok (.bl false)):=rfl
theorem wY (e:M):kh cl [e] ρ=(do let x ← evE cl e ρ;let t ← bH x;.ok (.bl t)):=rfl
theorem qi (e e':M) (es:List M):kh cl (e::e'::es) ρ=(do let x ← evE cl e ρ;let t ← bH x;if t then .ok (.bl true) else kh cl (e'::es) ρ):=rfl
theorem wA (t:Tg) (e:M):bA cl (.set t e) ρ=(do let d ← evE cl e ρ;let ρ' ← dO t d ρ;.ok (.nx ρ')):=rfl
theorem wB (i:Nat) (e:M):bA cl (.app i e) ρ=(do let l ← cN ρ i;let d ← evE cl e ρ;let l' ← yh l d;.ok (.nx (ρ.set i (some l')))):=rfl
theorem wC (i:Nat) (e:M):bA cl (.ext i e) ρ=(do let l ← cN ρ i;let d ← evE cl e ρ;let l' ← Bs l d;.ok (.nx (ρ.set i (some l')))):=rfl
theorem wD (i:Nat) (k v:M):bA cl (.put i k v) ρ=(do
  let dv ← evE cl v ρ
  let l ← cN ρ i
  let dk ← evE cl k ρ
  let l' ← putD l dk dv
  .ok (.nx (ρ.set i (some l')))):=rfl
theorem qT (i:Nat) (k v:M):bA cl (.putB i k v) ρ=(do
  let dv ← evE cl v ρ
  let l ← cN ρ i
  let dk ← evE cl k ρ
  let l' ← putD l dk dv
  if lfD dv && lfD dk then .ok (.nx (ρ.set i (some l'))) else .stuck):=rfl
theorem wE (i:Nat) (e:M):bA cl (.pop i e) ρ=(do let l ← cN ρ i;let d ← evE cl e ρ;let l' ← Lh l d;.ok (.nx (ρ.set i (some l')))):=rfl
theorem qK (i f:Nat) (e:M):bA cl (.callm i f e) ρ=(do let d ← evE cl e ρ;let l ← cN ρ i;let l' ← cl (1000+f) [d,l];.ok (.nx (ρ.set i (some l')))):=rfl
theorem qU (i:Nat):bA cl (.retO i) ρ=(do let d ← cN ρ i;.ok (.ro d)):=rfl
theorem qV (i f:Nat) (es:List M):bA cl (.setF i f es) ρ=(do let ds ← cu cl es ρ;let d ← cl (2000+f) ds;if lfC d then .ok (.nx (ρ.set i (some d))) else .stuck):=rfl
theorem qW (e:M):bA cl (.expr e) ρ=(do let _ ← evE cl e ρ;.ok (.nx ρ)):=rfl
theorem wF (e:M):bA cl (.ret e) ρ=(do let d ← evE cl e ρ;.ok (.rt d)):=rfl
theorem wG (c:M) (a b:List MS):bA cl (.ifs c a b) ρ=(do
  let x ← evE cl c ρ
  let t ← bH x
  if t then cJ cl a ρ else cJ cl b ρ):=rfl
theorem wH (t:Tg) (k:IK) (src:List M) (b:List MS):bA cl (.forr t k src b) ρ=(do
  let ss ← cu cl src ρ
  let items ← itemsOf k ss
  gJ (fun d ρ=>do let ρ1 ← dO t d ρ;cJ cl b ρ1) ρ items ρ):=rfl
theorem qX:bA cl .pass ρ=.ok (.nx ρ):=rfl
theorem wI:bA cl .brk ρ=.ok (.bk ρ):=rfl
theorem wJ:bA cl .cnt ρ=.ok (.ct ρ):=rfl
theorem NP (j:Nat) (e:M):bA cl (.chk j e) ρ=(do let d ← evE cl e ρ;let r ← cl 5000 [d];QV ρ r):=rfl
theorem wK:bA cl .rai ρ=.stuck:=rfl
theorem qY (t:Tg) (e:M):bA cl (.setB t e) ρ=(do let d ← evE cl e ρ;if lfD d then (do let ρ' ← dO t d ρ;.ok (.nx ρ')) else .stuck):=rfl
theorem qZ (t:Tg) (e:M):bA cl (.setC t e) ρ=(do let d ← evE cl e ρ;if lfL d then (do let ρ' ← dO t d ρ;.ok (.nx ρ')) else .stuck):=rfl
theorem qz:cJ cl [] ρ=.ok (.nx ρ):=rfl
noncomputable def mL (ms:List MS):Out→R Out
 | .nx ρ'=>cJ cl ms ρ'
 | o=>.ok o
theorem qS (m:MS) (ms:List MS):cJ cl (m::ms) ρ=(bA cl m ρ >>= mL cl ms):=rfl
theorem qF (ms:List MS):mL cl ms (.nx ρ)=cJ cl ms ρ:=rfl
theorem qG (ms:List MS) (d:D):mL cl ms (.rt d)=.ok (.rt d):=rfl
theorem qH (ms:List MS) (d:D):mL cl ms (.ro d)=.ok (.ro d):=rfl
theorem qI (ms:List MS):mL cl ms (.bk ρ)=.ok (.bk ρ):=rfl
theorem qJ (ms:List MS):mL cl ms (.ct ρ)=.ok (.ct ρ):=rfl
theorem wq (d:D):cN (some d::ρ) 0=.ok d:=rfl
theorem wr (o:Option D) (i:Nat):cN (o::ρ) (i+1)=cN ρ i:=rfl
theorem qj (b:Bool):bH (.bl b)=.ok b:=rfl
theorem wZ (i:Int):lA (.int i)=.ok (some i):=rfl
theorem wa (i:Nat) (d:D):dO (.one i) d ρ=.ok (ρ.set i (some d)):=rfl
theorem wb (i j:Nat) (a b:D):dO (.two i j) (.tup [a,b]) ρ=.ok ((ρ.set i (some a)).set j (some b)):=rfl
theorem wc (d:D) (b:Option D) (as bs:En):aJ (some d::as) (b::bs)=b::aJ as bs:=rfl
theorem wd (b:Option D) (as bs:En):aJ (none::as) (b::bs)=none::aJ as bs:=rfl
theorem we:aJ [] []=[]:=rfl
theorem wt:cX (.con .non)=true:=rfl
theorem wu (i:Int):cX (.con (.int i))=false:=rfl
theorem wv (i:Nat):cX (.var i)=false:=rfl
theorem ww (op:BO) (a b:M):cX (.bin op a b)=false:=rfl
theorem wf {α:Type} (a b:α):(if true=true then a else b)=a:=rfl
theorem wg {α:Type} (a b:α):(if false=true then a else b)=b:=rfl
theorem wy {α β:Type} (f:α→β) (a:α) (l:List α):List.map f (a::l)=f a::List.map f l:=rfl
theorem wz {α β:Type} (f:α→β):List.map f []=[]:=rfl
theorem wU (i:Int):evE cl (.neg (.con (.int i))) ρ=.ok (.int (-i)):=rfl
theorem zD {α:Type} (a:α):List.replicate 0 a=[]:=rfl
theorem zE {α:Type} (n:Nat) (a:α):List.replicate (n+1) a=a::List.replicate n a:=rfl
theorem zF:(!true)=false:=rfl
theorem zG:(!false)=true:=rfl
theorem zA {α:Type} (a:α) (l m:List α):(a::l)++m=a::(l++m):=rfl
theorem zB {α:Type} (m:List α):([]:List α)++m=m:=rfl
theorem wk (bs:List Bool) (v:Option D) (vs:En):bf (true::bs) (v::vs)=v::bf bs vs:=rfl
theorem wl (bs:List Bool) (v:Option D) (vs:En):bf (false::bs) (v::vs)=none::bf bs vs:=rfl
theorem wm:bf [] ([]:En)=[]:=rfl
theorem zU {α:Type} (a:α) (l:List α):(a::l).length=l.length+1:=rfl
theorem zV {α:Type}:([]:List α).length=0:=rfl
theorem zW {α:Type} (a:α) (l:List α):(a::l)[0]?=some a:=rfl
theorem zX {α:Type} (a:α) (l:List α) (i:Nat):(a::l)[i+1]?=l[i]?:=rfl
theorem zY {α:Type} (a b:α) (l:List α):(a::l).set 0 b=b::l:=rfl
theorem zZ {α:Type} (a b:α) (l:List α) (i:Nat):(a::l).set (i+1) b=a::l.set i b:=rfl
theorem zC {α:Type} (l:List α):l++[]=l:=List.append_nil l
theorem zb:(false=true)=False:=Bool.false_eq_true
theorem Rb (f:Nat) (es:List M):aF (.call f es)=aP es:=rfl
theorem Fo:aP []=[]:=rfl
theorem PK (e:M) (es:List M):aP (e::es)=aF e++aP es:=rfl
end eqs
end Mi
namespace Mi
open PySem L2
open PyProof.Rows hiding St
theorem bK {O U:List Nat}{i:Nat}:i∈without O U↔i∈O∧i ∉ U:=by
 unfold without
 rw [List.mem_filter]
 simp
noncomputable def dB (g:G) (H Hs:Hp) (a:Addr):D→Prop
 | .lst ds=>∃ xs,H a=some (.lst xs)∧Rps g Hs ds xs
 | .dct ks vs=>∃ xs ys,H a=some (.ext (DAt g a xs ys))∧ks=xs.map (·.1)∧(∀ k∈ks,isKey k=true)∧Rps g Hs ks (xs.map fun x=>V.ref x.2.1)∧Rps g Hs vs ys
 | _=>False
theorem dB.obj {g:G}{H Hs:Hp}{a:Addr}{d:D} (h:dB g H Hs a d):∃ o,H a=some o:=by
 cases d <;> simp only [dB] at h
 ·obtain ⟨xs,h,_⟩:=h;exact ⟨_,h⟩
 ·obtain ⟨xs,ys,h,_⟩:=h;exact ⟨_,h⟩
theorem dB.mono {g:G}{H Hs H' Hs':Hp}{a:Addr}{d:D} (h:dB g H Hs a d) (k:∀ o,H a=some o→H' a=some o) (m:Same Hs Hs'):dB g H' Hs' a d:=by
 cases d <;> simp only [dB] at h ⊢
 ·obtain ⟨xs,h,r⟩:=h;exact ⟨xs,k _ h,r.mono m⟩
 ·obtain ⟨xs,ys,h,e,hk,r1,r2⟩:=h;exact ⟨xs,ys,k _ h,e,hk,r1.mono m,r2.mono m⟩
theorem dB.pub {g:G}{H Hs:Hp}{a:Addr}{d:D}{o:HO} (h:dB g H Hs a d) (ho:H a=some o) (m:Same Hs (upd Hs a o)):Rp g (upd Hs a o) d (.ref a):=by
 cases d <;> simp only [dB] at h
 ·obtain ⟨xs,h,r⟩:=h
  rw [ho] at h;cases h
  rw [Rp]
  exact ⟨a,xs,rfl,SqL.of aC,r.mono m⟩
 ·obtain ⟨xs,ys,h,e,hk,r1,r2⟩:=h
  rw [ho] at h;cases h
  rw [Rp]
  exact ⟨a,xs,ys,rfl,aC,e,hk,r1.mono m,r2.mono m⟩
noncomputable def rK:HO→Bool
 | .lst _=>true | .ext _=>true | _=>false
noncomputable def gC (Hs Hs':Hp):Prop:=∀ b o,Hs' b=some o→Hs b=some o∨rK o=true
theorem gC.refl (Hs:Hp):gC Hs Hs:=fun _ _ q=>.inl q
theorem gC.trans {Hs Hs1 Hs2:Hp} (a:gC Hs Hs1) (b:gC Hs1 Hs2):gC Hs Hs2:=fun c o q=>by
 rcases b c o q with z | z
 ·exact a c o z
 ·exact .inr z
theorem dB.onlyM {g:G}{H Hs:Hp}{a:Addr}{d:D}{o:HO} (h:dB g H Hs a d) (ho:H a=some o):gC Hs (upd Hs a o):=fun b u q=>by
 by_cases e:b=a
 ·subst e
  rw [aC] at q
  cases q
  right
  cases d <;> simp only [dB] at h
  ·obtain ⟨xs,h,_⟩:=h
   rw [ho] at h;cases h;rfl
  ·obtain ⟨xs,ys,h,_⟩:=h
   rw [ho] at h;cases h;rfl
 ·rw [ao e] at q
  exact .inl q
structure Ent where
 hp:Hp
 pins:List (Nat × Addr)
structure FR (g:G) (E:Ent) (Es:Hp) (O:List Nat) (ρ:En) (σ:St) (H Hs:Hp):Prop where
 grow:Grow E.hp Es H Hs
 len:ρ.length=σ.length
 val:∀ (i:Nat) d,ρ[i]?=some (some d)→i ∉ O→∃ v,σ[i]?=some (some v)∧Rp g Hs d v
 own:∀ i∈O,∀ d,ρ[i]?=some (some d)→∃ a,σ[i]?=some (some (.ref a))∧E.hp a=none∧Hs a=none∧dB g H Hs a d
 apart:∀ i∈O,∀ j∈O,i≠j→∀ d e a,ρ[i]?=some (some d)→ρ[j]?=some (some e)→σ[i]?=some (some (.ref a))→σ[j]?≠some (some (.ref a))
 pin:∀ q∈E.pins,σ[q.1]?=some (some (.ref q.2))
section
variable {g:G}{E:Ent}{Es:Hp}{O O':List Nat}{ρ:En}{σ:St}{H Hs H' Hs':Hp}
theorem FR.grown (F:FR g E Es O ρ σ H Hs) (w:Grow H Hs H' Hs'):FR g E Es O ρ σ H' Hs':=by
 have m:=w.same F.grow.sub
 refine ⟨F.grow.trans w,F.len,fun i d h hi=>?_,fun i hi d h=>?_,F.apart,F.pin⟩
 ·obtain ⟨v,e,r⟩:=F.val i d h hi
  exact ⟨v,e,r.mono m⟩
 ·obtain ⟨a,e,e0,e1,o⟩:=F.own i hi d h
  obtain ⟨ob,ho⟩:=o.obj
  exact ⟨a,e,e0,by rw [w.old a ob ho];exact e1,o.mono (fun u q=>w.keep a u q) m⟩
theorem FR.sub (F:FR g E Es O ρ σ H Hs):Same Hs H:=F.grow.sub
theorem FR.pub1 (F:FR g E Es O ρ σ H Hs) (i:Nat):∃ Hs',FR g E Es (O.filter fun j=>j != i) ρ σ H Hs'∧Same Hs Hs'∧gC Hs Hs':=by
 have memf:∀ {j},j∈(O.filter fun j=>j != i)↔j∈O∧j≠i:=by intro j;rw [List.mem_filter];simp
 by_cases hi:i∈O
 ·cases hd:ρ[i]? with
  | none =>
   refine ⟨Hs,⟨F.grow,F.len,fun j d h hj=>F.val j d h fun z=>hj (memf.mpr ⟨z,?_⟩),fun j hj d h=>F.own j (memf.mp hj).1 d h,fun j hj k hk=>F.apart j (memf.mp hj).1 k (memf.mp hk).1,F.pin⟩,fun _ _ q=>q,gC.refl _⟩
   rintro rfl;rw [hd] at h;cases h
  | some x =>
   cases x with
   | none =>
    refine ⟨Hs,⟨F.grow,F.len,fun j d h hj=>F.val j d h fun z=>hj (memf.mpr ⟨z,?_⟩),fun j hj d h=>F.own j (memf.mp hj).1 d h,fun j hj k hk=>F.apart j (memf.mp hj).1 k (memf.mp hk).1,F.pin⟩,fun _ _ q=>q,gC.refl _⟩
    rintro rfl;rw [hd] at h;cases h
   | some d0 =>
    obtain ⟨a,e,e0,e1,o⟩:=F.own i hi d0 hd
    obtain ⟨ob,ho⟩:=o.obj
    have m:Same Hs (upd Hs a ob):=fun b u q=>by
     have:b≠a:=ak q e1
     rw [ao this];exact q
    refine ⟨upd Hs a ob,⟨⟨F.grow.keep,fun b u q=>?_,fun b u q=>?_⟩,F.len,fun j d h hj=>?_,fun j hj d h=>?_,fun j hj k hk=>F.apart j (memf.mp hj).1 k (memf.mp hk).1,F.pin⟩,m,o.onlyM ho⟩
    ·rw [ao (ak q e0)];exact F.grow.old b u q
    ·by_cases hb:b=a
     ·subst hb;rw [aC] at q;cases q;exact ho
     ·rw [ao hb] at q;exact F.grow.sub b u q
    ·by_cases hji:j=i
     ·subst hji
      rw [hd] at h;cases h
      exact ⟨.ref a,e,o.pub ho m⟩
     ·obtain ⟨v,ev,r⟩:=F.val j d h fun z=>hj (memf.mpr ⟨z,hji⟩)
      exact ⟨v,ev,r.mono m⟩
    ·obtain ⟨hjO,hji⟩:=memf.mp hj
     obtain ⟨b,eb,b0,b1,ob'⟩:=F.own j hjO d h
     have hba:b≠a:=fun z=>by
      subst z
      exact F.apart i hi j hjO (Ne.symm hji) d0 d b hd h e eb
     exact ⟨b,eb,b0,by rw [ao hba];exact b1,ob'.mono (fun _ q=>q) m⟩
 ·refine ⟨Hs,⟨F.grow,F.len,fun j d h hj=>F.val j d h fun z=>hj (memf.mpr ⟨z,fun q=>hi (q ▸ z)⟩),fun j hj d h=>F.own j (memf.mp hj).1 d h,fun j hj k hk=>F.apart j (memf.mp hj).1 k (memf.mp hk).1,F.pin⟩,fun _ _ q=>q,gC.refl _⟩
theorem FR.congrO (F:FR g E Es O ρ σ H Hs) (h:∀ i,i∈O'↔i∈O):FR g E Es O' ρ σ H Hs :=
 ⟨F.grow,F.len,fun i d q hi=>F.val i d q fun z=>hi ((h i).mpr z),fun i hi d q=>F.own i ((h i).mp hi) d q,fun i hi j hj=>F.apart i ((h i).mp hi) j ((h j).mp hj),F.pin⟩
theorem FR.pubs:∀ (U:List Nat) {Hs:Hp}{O:List Nat},FR g E Es O ρ σ H Hs→∃ Hs',FR g E Es (without O U) ρ σ H Hs'∧Same Hs Hs'∧gC Hs Hs'
 | [],Hs,O,F=>⟨Hs,F.congrO fun i=>by rw [bK];simp,fun _ _ q=>q,gC.refl _⟩
 | u::U,Hs,O,F=>by
  obtain ⟨H1,F1,m1,w1⟩:=F.pub1 u
  obtain ⟨H2,F2,m2,w2⟩:=FR.pubs U F1
  refine ⟨H2,F2.congrO fun i=>?_,fun a o q=>m2 a o (m1 a o q),w1.trans w2⟩
  rw [bK,bK,List.mem_filter]
  simp
  constructor
  ·rintro ⟨a,b,c⟩;exact ⟨⟨a,b⟩,c⟩
  ·rintro ⟨⟨a,b⟩,c⟩;exact ⟨a,b,c⟩
theorem FR.fewer (F:FR g E Es O ρ σ H Hs) (h:∀ i∈O',i∈O):∃ Hs',FR g E Es O' ρ σ H Hs'∧Same Hs Hs':=by
 obtain ⟨H1,F1,m1,_⟩:=FR.pubs (O.filter fun i=>!O'.contains i) F
 refine ⟨H1,F1.congrO fun i=>?_,m1⟩
 rw [bK,List.mem_filter]
 simp
 constructor
 ·intro hi;exact ⟨h i hi,fun _=>hi⟩
 ·rintro ⟨a,b⟩;exact b a
theorem FR.setS {i:Nat}{d:D}{v:V} (F:FR g E Es O ρ σ H Hs) (hq:∀ q∈E.pins,q.1≠i) (r:Rp g Hs d v):FR g E Es (without O [i]) (ρ.set i (some d)) (σ.set i (some v)) H Hs:=by
 have memw:∀ {j},j∈without O [i]↔j∈O∧j≠i:=by intro j;rw [bK];simp
 refine ⟨F.grow,by rw [List.length_set,List.length_set];exact F.len,fun j e h hj=>?_,fun j hj e h=>?_,fun j hj k hk hjk e f a h1 h2 h3=>?_,fun q hp'=>by rw [List.getElem?_set_ne (Ne.symm (hq q hp'))];exact F.pin q hp'⟩
 ·by_cases hji:j=i
  ·subst hji
   have hl:j < ρ.length:=by
    have:=(List.getElem?_eq_some_iff.mp h).1
    simpa using this
   rw [List.getElem?_set_self hl] at h
   cases h
   exact ⟨v,by rw [List.getElem?_set_self (by rw [← F.len];exact hl)],r⟩
  ·rw [List.getElem?_set_ne (Ne.symm hji)] at h
   obtain ⟨w,ew,rw'⟩:=F.val j e h fun z=>hj (memw.mpr ⟨z,hji⟩)
   exact ⟨w,by rw [List.getElem?_set_ne (Ne.symm hji)];exact ew,rw'⟩
 ·obtain ⟨hjO,hji⟩:=memw.mp hj
  rw [List.getElem?_set_ne (Ne.symm hji)] at h
  obtain ⟨a,ea,q⟩:=F.own j hjO e h
  exact ⟨a,by rw [List.getElem?_set_ne (Ne.symm hji)];exact ea,q⟩
 ·obtain ⟨hjO,hji⟩:=memw.mp hj
  obtain ⟨hkO,hki⟩:=memw.mp hk
  rw [List.getElem?_set_ne (Ne.symm hji)] at h1 h3
  rw [List.getElem?_set_ne (Ne.symm hki)] at h2
  rw [List.getElem?_set_ne (Ne.symm hki)]
  exact F.apart j hjO k hkO hjk e f a h1 h2 h3
theorem FR.adopt {i:Nat}{d:D}{p:Addr} (F:FR g E Es O ρ σ H Hs) (hq:∀ q∈E.pins,q.1≠i) (w:Grow H Hs H' Hs') (hp:H p=none) (Hsp:Hs' p=none) (r:dB g H' Hs' p d):FR g E Es (i::without O [i]) (ρ.set i (some d)) (σ.set i (some (.ref p))) H' Hs':=by
 have memw:∀ {j},j∈without O [i]↔j∈O∧j≠i:=by intro j;rw [bK];simp
 have Ep:E.hp p=none:=by
  cases q:E.hp p with
  | none=>rfl
  | some u=>rw [F.grow.keep p u q] at hp;cases hp
 have F':=F.grown w
 refine ⟨F'.grow,by rw [List.length_set,List.length_set];exact F.len,fun j e h hj=>?_,fun j hj e h=>?_,fun j hj k hk hjk e f a h1 h2 h3=>?_,fun q hp'=>by rw [List.getElem?_set_ne (Ne.symm (hq q hp'))];exact F.pin q hp'⟩
 ·have hji:j≠i:=fun z=>hj (by rw [z];exact List.mem_cons_self)
  rw [List.getElem?_set_ne (Ne.symm hji)] at h
  obtain ⟨w,ew,rw'⟩:=F'.val j e h fun z=>hj (List.mem_cons_of_mem _ (memw.mpr ⟨z,hji⟩))
  exact ⟨w,by rw [List.getElem?_set_ne (Ne.symm hji)];exact ew,rw'⟩
 ·by_cases hji:j=i
  ·subst hji
   have hl:j < ρ.length:=by
    have:=(List.getElem?_eq_some_iff.mp h).1
    simpa using this
   rw [List.getElem?_set_self hl] at h
   cases h
   exact ⟨p,by rw [List.getElem?_set_self (by rw [← F.len];exact hl)],Ep,Hsp,r⟩
  ·have hjO:j∈O:=by
    rcases List.mem_cons.mp hj with z | z
    ·exact absurd z hji
    ·exact (memw.mp z).1
   rw [List.getElem?_set_ne (Ne.symm hji)] at h
   obtain ⟨a,ea,q⟩:=F'.own j hjO e h
   exact ⟨a,by rw [List.getElem?_set_ne (Ne.symm hji)];exact ea,q⟩
 ·have inO:∀ {k},k∈i::without O [i]→k≠i→k∈O:=fun {k} hk hki=>by
   rcases List.mem_cons.mp hk with z | z
   ·exact absurd z hki
   ·exact (memw.mp z).1
  have neP:∀ {k e a},k∈O→ρ[k]?=some (some e)→σ[k]?=some (some (.ref a))→a≠p:=fun {k e a} hk h1 h2=>by
   obtain ⟨b,eb,_,_,ob⟩:=F.own k hk e h1
   rw [h2] at eb
   cases eb
   obtain ⟨u,hu⟩:=ob.obj
   exact ak hu hp
  have setSelf:∀ {v:V},(σ.set i (some v))[i]?=some (some v)∨i ≥ σ.length:=fun {v}=>by
   by_cases hl:i < σ.length
   ·left;rw [List.getElem?_set_self hl]
   ·right;omega
  by_cases hji:j=i
  ·subst hji
   have hkj:k≠j:=Ne.symm hjk
   have hlj:j < σ.length:=by
    have:=(List.getElem?_eq_some_iff.mp h3).1
    simpa using this
   rw [List.getElem?_set_self hlj] at h3
   cases h3
   rw [List.getElem?_set_ne (Ne.symm hkj)] at h2
   rw [List.getElem?_set_ne (Ne.symm hkj)]
   intro z
   exact neP (inO hk hkj) h2 z rfl
  ·rw [List.getElem?_set_ne (Ne.symm hji)] at h1 h3
   by_cases hki:k=i
   ·subst hki
    intro z
    have hlk:k < σ.length:=by
     have:=(List.getElem?_eq_some_iff.mp z).1
     simpa using this
    rw [List.getElem?_set_self hlk] at z
    cases z
    exact neP (inO hj hji) h1 h3 rfl
   ·rw [List.getElem?_set_ne (Ne.symm hki)] at h2
    rw [List.getElem?_set_ne (Ne.symm hki)]
    exact F.apart j (inO hj hji) k (inO hk hki) hjk e f a h1 h2 h3
theorem FR.setO {i:Nat}{d:D}{p:Addr}{o:HO} (F:FR g E Es O ρ σ H Hs) (hq:∀ q∈E.pins,q.1≠i) (hp:H p=none) (r:dB g (upd H p o) Hs p d):FR g E Es (i::without O [i]) (ρ.set i (some d)) (σ.set i (some (.ref p))) (upd H p o) Hs:=by
 refine F.adopt hq (Grow.own F.sub hp) hp ?_ r
 cases q:Hs p with
 | none=>rfl
 | some u=>rw [F.sub p u q] at hp;cases hp
theorem FR.mut {i:Nat}{d d':D}{a:Addr}{o:HO} (F:FR g E Es O ρ σ H Hs) (hi:i∈O) (hd:ρ[i]?=some (some d)) (ha:σ[i]?=some (some (.ref a))) (r:dB g (upd H a o) Hs a d'):FR g E Es O (ρ.set i (some d')) σ (upd H a o) Hs:=by
 obtain ⟨b,eb,b0,b1,ob⟩:=F.own i hi d hd
 rw [ha] at eb
 cases eb
 refine ⟨⟨fun c u q=>?_,F.grow.old,fun c u q=>?_⟩,by rw [List.length_set];exact F.len,fun j e h hj=>?_,fun j hj e h=>?_,fun j hj k hk hjk e f c h1 h2 h3=>?_,F.pin⟩
 ·rw [ao (ak q b0)];exact F.grow.keep c u q
 ·rw [ao (ak q b1)];exact F.grow.sub c u q
 ·have hji:j≠i:=fun z=>hj (z ▸ hi)
  rw [List.getElem?_set_ne (Ne.symm hji)] at h
  exact F.val j e h hj
 ·by_cases hji:j=i
  ·subst hji
   have hl:j < ρ.length:=by
    have:=(List.getElem?_eq_some_iff.mp h).1
    simpa using this
   rw [List.getElem?_set_self hl] at h
   cases h
   exact ⟨a,ha,b0,b1,r⟩
  ·rw [List.getElem?_set_ne (Ne.symm hji)] at h
   obtain ⟨c,ec,c0,c1,oc⟩:=F.own j hj e h
   have hca:c≠a:=fun z=>by
    subst z
    exact F.apart i hi j hj (Ne.symm hji) d e c hd h ha ec
   exact ⟨c,ec,c0,c1,oc.mono (fun u q=>by rw [ao hca];exact q) fun _ _ q=>q⟩
 ·have some1:∀ {k e},(ρ.set i (some d'))[k]?=some (some e)→∃ e',ρ[k]?=some (some e'):=fun {k e} h=>by
   by_cases hki:k=i
   ·subst hki;exact ⟨d,hd⟩
   ·rw [List.getElem?_set_ne (Ne.symm hki)] at h;exact ⟨e,h⟩
  obtain ⟨e',h1'⟩:=some1 h1
  obtain ⟨f',h2'⟩:=some1 h2
  exact F.apart j hj k hk hjk e' f' c h1' h2' h3
noncomputable def hole (H:Hp) (a:Addr):Hp:=fun b=>if b=a then none else H b
theorem rW {H:Hp}{a b:Addr} (h:b≠a):hole H a b=H b:=if_neg h
theorem vX {H:Hp}{a:Addr}:hole H a a=none:=if_pos rfl
theorem FR.lend {i:Nat}{d d':D}{a:Addr} (F:FR g E Es O ρ σ H Hs) (hi:i∈O) (hd:ρ[i]?=some (some d)) (ha:σ[i]?=some (some (.ref a))) (w:Grow (hole H a) Hs H' Hs') (hn:Hs' a=none) (r:dB g H' Hs' a d'):FR g E Es O (ρ.set i (some d')) σ H' Hs'∧Same Hs Hs':=by
 obtain ⟨b,eb,b0,b1,ob⟩:=F.own i hi d hd
 rw [ha] at eb
 cases eb
 have up:∀ c o,c≠a→H c=some o→H' c=some o∧Hs' c=Hs c:=fun c o hc q=>by
  have q':hole H a c=some o:=by rw [rW hc];exact q
  exact ⟨w.keep c o q',w.old c o q'⟩
 have sm:Same Hs Hs':=fun c o q=>by
  have hc:c≠a:=ak q b1
  rw [(up c o hc (F.sub c o q)).2];exact q
 refine ⟨⟨⟨fun c u q=>?_,fun c u q=>?_,w.sub⟩,by rw [List.length_set];exact F.len,fun j e h hj=>?_,fun j hj e h=>?_,fun j hj k hk hjk e f c h1 h2 h3=>?_,F.pin⟩,sm⟩
 ·exact (up c u (ak q b0) (F.grow.keep c u q)).1
 ·exact ((up c u (ak q b0) (F.grow.keep c u q)).2).trans (F.grow.old c u q)
 ·have hji:j≠i:=fun z=>hj (z ▸ hi)
  rw [List.getElem?_set_ne (Ne.symm hji)] at h
  obtain ⟨v,ev,rv⟩:=F.val j e h hj
  exact ⟨v,ev,rv.mono sm⟩
 ·by_cases hji:j=i
  ·subst hji
   have hl:j < ρ.length:=by
    have:=(List.getElem?_eq_some_iff.mp h).1
    simpa using this
   rw [List.getElem?_set_self hl] at h
   cases h
   exact ⟨a,ha,b0,hn,r⟩
  ·rw [List.getElem?_set_ne (Ne.symm hji)] at h
   obtain ⟨c,ec,c0,c1,oc⟩:=F.own j hj e h
   have hca:c≠a:=fun z=>by
    subst z
    exact F.apart i hi j hj (Ne.symm hji) d e c hd h ha ec
   obtain ⟨u,hu⟩:=oc.obj
   exact ⟨c,ec,c0,by rw [(up c u hca hu).2];exact c1,oc.mono (fun u q=>(up c u hca q).1) sm⟩
 ·have some1:∀ {k e},(ρ.set i (some d'))[k]?=some (some e)→∃ e',ρ[k]?=some (some e'):=fun {k e} h=>by
   by_cases hki:k=i
   ·subst hki;exact ⟨d,hd⟩
   ·rw [List.getElem?_set_ne (Ne.symm hki)] at h;exact ⟨e,h⟩
  obtain ⟨e',h1'⟩:=some1 h1
  obtain ⟨f',h2'⟩:=some1 h2
  exact F.apart j hj k hk hjk e' f' c h1' h2' h3
theorem o8:∀ {a b:En}{i:Nat}{d:D},(aJ a b)[i]?=some (some d)→b[i]?=some (some d)
 | [],b,i,d,h=>by
  simp only [aJ,List.getElem?_map] at h
  cases e:b[i]? <;> simp [e] at h
 | _::_,[],i,d,h=>by simp [aJ] at h
 | x::as,y::bs,0,d,h=>by
  simp only [aJ,List.getElem?_cons_zero] at h ⊢
  split at h
  ·exact h
  ·cases h
 | x::as,y::bs,i+1,d,h=>by
  simp only [aJ,List.getElem?_cons_succ] at h ⊢
  exact o8 h
theorem oN:∀ (a b:En),(aJ a b).length=b.length
 | [],b=>by simp [aJ]
 | _::_,[]=>rfl
 | _::as,_::bs=>by simp [aJ,oN as bs]
theorem FR.less {ρ':En} (F:FR g E Es O ρ σ H Hs) (hl:ρ'.length=ρ.length) (h:∀ (i:Nat) d,ρ'[i]?=some (some d)→ρ[i]?=some (some d)):FR g E Es O ρ' σ H Hs :=
 ⟨F.grow,hl.trans F.len,fun i d q hi=>F.val i d (h i d q) hi,fun i hi d q=>F.own i hi d (h i d q),fun i hi j hj hij d e a q1 q2=>F.apart i hi j hj hij d e a (h i d q1) (h j e q2),F.pin⟩
theorem zf {Hs1 H1 Hs2:Hp} (hs:Same Hs H) (hw:gC Hs Hs1) (g2:Grow H Hs1 H1 Hs2):∃ Hs3,Grow H Hs H1 Hs3∧(∀ t o,Hs2 t=some o→rK o=false→Hs3 t=some o)∧∀ t,H t=none→Hs3 t=Hs2 t:=by
 classical
 refine ⟨fun b=>if (H b).isSome then Hs b else Hs2 b,⟨g2.keep,fun a o q=>?_,fun a o q=>?_⟩,fun t o q hm=>?_,fun t ht=>?_⟩
 ·show (if (H a).isSome then Hs a else Hs2 a)=_
  rw [q];rfl
 ·by_cases e:(H a).isSome=true
  ·have q':Hs a=some o:=by rw [← q];exact (if_pos e).symm
   exact g2.keep a o (hs a o q')
  ·have q':Hs2 a=some o:=by rw [← q];exact (if_neg e).symm
   exact g2.sub a o q'
 ·show (if (H t).isSome then Hs t else Hs2 t)=_
  by_cases e:(H t).isSome=true
  ·rw [if_pos e]
   obtain ⟨u,hu⟩:=Option.isSome_iff_exists.mp e
   have h1:Hs1 t=some o:=by rw [← g2.old t u hu];exact q
   rcases hw t o h1 with z | z
   ·exact z
   ·rw [hm] at z;cases z
  ·rw [if_neg e];exact q
 ·show (if (H t).isSome then Hs t else Hs2 t)=_
  rw [ht];rfl
theorem Qd {K:PySem.W.Frag}{Hs2 Hs3:Hp}{a:Addr}{xs:List V} (h:∀ t o,Hs2 t=some o→rK o=false→Hs3 t=some o) (q:SqT K Hs2 a xs):SqT K Hs3 a xs:=by
 rcases q with (q | ⟨o,q⟩) | q
 ·exact .inl (.inl (h _ _ q rfl))
 ·exact .inl (.inr ⟨o,h _ _ q rfl⟩)
 ·exact .inr q
mutual
theorem tG {Hs2 Hs3:Hp} (h:∀ t o,Hs2 t=some o→rK o=false→Hs3 t=some o):∀ {d:D}{v:V},lfD d=true→Rp g Hs2 d v→Rp g Hs3 d v
 | .non,v,_,r=>by rw [Rp] at r ⊢;exact r
 | .bl _,v,_,r=>by rw [Rp] at r ⊢;exact r
 | .int _,v,_,r=>by rw [Rp] at r ⊢;exact r
 | .str _,v,_,r=>by rw [Rp] at r ⊢;exact r
 | .tup ds,v,l,r=>by
  rw [Rp] at r ⊢
  obtain ⟨a,xs,e,s,rs⟩:=r
  rw [lfD] at l
  exact ⟨a,xs,e,Qd h s,lH h l rs⟩
 | .lst _,v,l,r=>by rw [lfD] at l;cases l
 | .dct _ _,v,l,r=>by rw [lfD] at l;cases l
theorem lH {Hs2 Hs3:Hp} (h:∀ t o,Hs2 t=some o→rK o=false→Hs3 t=some o):∀ {ds:List D}{vs:List V},lX ds=true→Rps g Hs2 ds vs→Rps g Hs3 ds vs
 | [],vs,_,r=>by rw [Rps] at r ⊢;exact r
 | d::ds,vs,l,r=>by
  rw [Rps] at r ⊢
  rw [lX,Bool.and_eq_true] at l
  obtain ⟨y,ys,e,r1,r2⟩:=r
  exact ⟨y,ys,e,tG h l.1 r1,lH h l.2 r2⟩
end
end
end Mi
namespace Mi
open PySem L2
open PyProof.Rows hiding St
theorem aj {α β:Type}{r:R α}{f:α→R β}{b:β} (h:(r >>= f)=.ok b):∃ a,r=.ok a∧f a=.ok b:=by
 cases r with
 | ok a=>exact ⟨a,rfl,h⟩
 | exc x=>rw [QS] at h;cases h
 | stuck=>rw [Mu] at h;cases h
theorem bN {α:Type}{c:Prop} [Decidable c] {a:R α}{b:α} (h:(if c then a else .stuck)=.ok b):c∧a=.ok b:=by
 by_cases hc:c
 ·rw [if_pos hc] at h;exact ⟨hc,h⟩
 ·rw [if_neg hc] at h;cases h
theorem bB {X:Cx}{e:Expr}{t t':TE} (h:PE X e t) (i:∀ σ H Q,t' σ H Q→t σ H Q):PE X e t':=fun pins s σ H Q I hq=>h pins s σ H Q I (i σ H Q hq)
theorem Aw {X:Cx}{e:Expr}{t t':TT} (h:PT X e t) (i:∀ σ H Q,t' σ H Q→t σ H Q):PT X e t':=fun pins s σ H Q I hq=>h pins s σ H Q I (i σ H Q hq)
theorem Qh {X:Cx}{e:List Expr}{t t':TA} (h:PA X e t) (i:∀ σ H Q,t' σ H Q→t σ H Q):PA X e t':=fun pos pins s σ H Q I hq=>h pos pins s σ H Q I (i σ H Q hq)
section
variable {X:Cx}{H Hs H1 Hs1:Hp}{Q:VK}{d:D}{v:V}
theorem aN {g:G}{i:Int}{v:V}:Rp g H (.int i) v↔v=.int i:=by rw [Rp]
theorem mH {g:G}{i:Bool}{v:V}:Rp g H (.bl i) v↔v=.bl i:=by rw [Rp]
theorem Ao {g:G}{v:V}:Rp g H .non v↔v=.non:=by rw [Rp]
theorem WX {g:G}{i:Str}{v:V}:Rp g H (.str i) v↔v=.str i:=by rw [Rp]
theorem cG {g:G}{ds:List D}{v:V}:Rp g H (.tup ds) v↔∃ a xs,v=.ref a∧SqT g.K H a xs∧Rps g H ds xs:=by rw [Rp]
theorem cB {g:G}{ds:List D}{v:V}:Rp g H (.lst ds) v↔∃ a xs,v=.ref a∧SqL g.K H a xs∧Rps g H ds xs:=by rw [Rp]
theorem rP {g:G}{ks vs:List D}{v:V}:Rp g H (.dct ks vs) v↔∃ a xs ys,v=.ref a∧H a=some (.ext (DAt g a xs ys))∧ks=xs.map (·.1)∧(∀ k∈ks,isKey k=true)∧Rps g H ks (xs.map fun x=>V.ref x.2.1)∧Rps g H vs ys:=by rw [Rp]
noncomputable def XD (X:Cx) (H Hs:Hp) (Q:VK) (d:D):Prop:=∀ v H' Hs',Grow H Hs H' Hs'→Rp (gOf X) Hs' d v→Q v H'
theorem XD.grow (h:XD X H Hs Q d) (w:Grow H Hs H1 Hs1):XD X H1 Hs1 Q d:=fun v H' Hs' g r=>h v H' Hs' (w.trans g) r
theorem XD.here (h:XD X H Hs Q d) (hs:Same Hs H) (r:Rp (gOf X) Hs d v):Q v H:=h v H Hs (Grow.refl hs) r
theorem XD.int {i:Int} (h:XD X H Hs Q (.int i)) (hs:Same Hs H):Q (.int i) H:=h.here hs (aN.mpr rfl)
theorem XD.bl {i:Bool} (h:XD X H Hs Q (.bl i)) (hs:Same Hs H):Q (.bl i) H:=h.here hs (mH.mpr rfl)
theorem XD.non (h:XD X H Hs Q .non) (hs:Same Hs H):Q .non H:=h.here hs (Ao.mpr rfl)
theorem oA {p:Addr}{o:HO} (hs:Same Hs H) (hp:H p=none):Same Hs (upd Hs p o):=(Grow.new (o:=o) hs hp).same hs
theorem XD.newL {ds:List D}{xs:List V} (h:XD X H Hs Q (.lst ds)) (hs:Same Hs H) (r:Rps (gOf X) Hs ds xs):∀ p,H p=none→Q (.ref p) (upd H p (.lst xs)):=fun p hp =>
 h _ _ _ (Grow.new (o:=.lst xs) hs hp) (cB.mpr ⟨p,xs,rfl,SqL.of aC,r.mono (oA hs hp)⟩)
theorem XD.newT {ds:List D}{xs:List V} (h:XD X H Hs Q (.tup ds)) (hs:Same Hs H) (r:Rps (gOf X) Hs ds xs):∀ p,H p=none→Q (.ref p) (upd H p (.tup xs)):=fun p hp =>
 h _ _ _ (Grow.new (o:=.tup xs) hs hp) (cG.mpr ⟨p,xs,rfl,SqT.of aC,r.mono (oA hs hp)⟩)
noncomputable def Op2 (X:Cx) (r:R2) (op:D→D→R D):Prop:=∀ x y d e z H Hs Q,Same Hs H→Rp (gOf X) Hs d x→Rp (gOf X) Hs e y→op d e=.ok z→XD X H Hs Q z→r x y H Q
theorem Ww:OpR X (binaryOp .Add) (Ur X.K):=by
 intro pins s σ H x y v u Q I rx ry h
 obtain ⟨l,b,xs,zs,rfl,rfl,hH,hB,hz,q⟩:=h
 cases rx
 cases ry
 obtain ⟨its,r,pl,_⟩:=I.list hH
 obtain ⟨its2,r2,pl2,_⟩:=I.list hB
 obtain ⟨⟨cls,dd,data,sl⟩,ho,hc,n,hd⟩:=pl.isList
 obtain ⟨⟨cls2,dd2,data2,sl2⟩,ho2,hc2,n2,hd2⟩:=pl2.isList
 simp only at hc hd hc2 hd2
 subst hc hd hc2 hd2
 have hl:=r.length
 have hl2:=r2.length
 have e:its.toArray++its2.toArray=(its++its2).toArray:=by simp
 refine concat_meets ⟨_,ho,rfl⟩ ⟨_,ho2,rfl⟩ noFill_list_add seq_list_add PySem.F.slot_list_add PySem.F.entry_list_add (PySem.F.args_list_add_2 _ _) (list_addW l b its.toArray its2.toArray n n2 dd dd2 sl sl2 (by simp only [List.size_toArray];omega)) ⟨ho,ho2,?_⟩
 rw [e]
 exact ⟨.ref _,_,I.lnew (t':=s.toks) (r.append r2) (by rw [List.length_append];omega),rfl,q _ I.fresh⟩
noncomputable def MF (X:Cx):R2:=fun x y H Q=>rI0 (fun i j=>.int (i+j)) x y H Q∨(Ph X.K x y H Q∨(Uo X.K x y H Q∨Ur X.K x y H Q))
theorem Vq:OpR X (binaryOp .Add) (MF X):=Xe.or (S7.or (Vg.or Ww))
theorem Wg:Op2 X (MF X) lZ:=by
 intro x y d e z H Hs Q hs rx ry h k
 have hlim:=lG
 cases d <;> cases e <;> simp only [lZ] at h <;> try (cases h;done)
 ·cases h
  exact .inl ⟨_,_,aN.mp rx,aN.mp ry,k.int hs⟩
 ·obtain ⟨hl,h⟩:=bN h
  cases h
  obtain ⟨a,xs,rfl,s1,r1⟩:=cG.mp rx
  obtain ⟨b,ys,rfl,s2,r2⟩:=cG.mp ry
  have l1:=r1.length
  have l2:=r2.length
  by_cases hx:xs=[]
  ·subst hx
   refine .inr (.inl ⟨a,b,ys,rfl,rfl,aL hs s1,aL hs s2,k.here hs ?_⟩)
   rename_i as bs
   have:as=[]:=by cases as with | nil=>rfl | cons _ _=>simp at l1
   subst this
   exact ry
  ·refine .inr (.inr (.inl ⟨a,b,xs,ys,rfl,rfl,aL hs s1,aL hs s2,hx,by omega,fun hy=>?_,fun _=>k.newT hs (r1.append r2)⟩))
   subst hy
   rename_i as bs
   have:bs=[]:=by cases bs with | nil=>rfl | cons _ _=>simp at l2
   subst this
   rw [List.append_nil] at k
   exact k.here hs rx
 ·obtain ⟨hl,h⟩:=bN h
  cases h
  obtain ⟨a,xs,rfl,s1,r1⟩:=cB.mp rx
  obtain ⟨b,ys,rfl,s2,r2⟩:=cB.mp ry
  have l1:=r1.length
  have l2:=r2.length
  exact .inr (.inr (.inr ⟨a,b,xs,ys,rfl,rfl,aO hs s1,aO hs s2,by omega,k.newL hs (r1.append r2)⟩))
noncomputable def TX:BO→Operator
 | .add=>.Add | .sub=>.Sub | .mul=>.Mult | .mod=>.Mod | .fdiv=>.FloorDiv
noncomputable def YC (X:Cx):BO→R2
 | .add=>MF X
 | .sub=>rI0 fun i j=>.int (i - j)
 | .mul=>rI Lz fun i j=>.int (i * j)
 | .mod=>rI (fun _ j=>0 < j) fun i j=>.int (i % j)
 | .fdiv=>rI YG fun i j=>.int (i / j)
theorem X5 (o:BO):OpR X (binaryOp (TX o)) (YC X o):=by
 cases o
 ·exact Vq
 ·exact YJ
 ·exact X8
 ·exact YM
 ·exact Wr
theorem yZ {i:Int} (h:jN i=true):-(2 ^ 64) < i∧i < 2 ^ 64:=by
 cases i with
 | ofNat n =>
  have:=Nat.le_of_ble_eq_true h
  rw [Int.ofNat_eq_natCast]
  exact ⟨by omega,by omega⟩
 | negSucc n =>
  have:=Nat.le_of_ble_eq_true h
  exact ⟨by omega,by omega⟩
theorem WL (o:BO):Op2 X (YC X o) (jm o):=by
 cases o
 ·intro x y d e z H Hs Q hs rx ry h k
  exact Wg x y d e z H Hs Q hs rx ry (by simpa only [jm] using h) k
 all_goals
  intro x y d e z H Hs Q hs rx ry h k
  cases d <;> cases e <;> simp only [jm] at h <;> try (cases h;done)
 ·cases h
  exact ⟨_,_,aN.mp rx,aN.mp ry,k.int hs⟩
 ·obtain ⟨c,h⟩:=bN h
  cases h
  refine ⟨_,_,aN.mp rx,aN.mp ry,?_,k.int hs⟩
  simp only [Bool.or_eq_true] at c
  rcases c with c | c
  ·exact .inl (yZ c)
  ·exact .inr (yZ c)
 ·obtain ⟨c,h⟩:=bN h
  cases h
  exact ⟨_,_,aN.mp rx,aN.mp ry,c,k.int hs⟩
 ·obtain ⟨c,h⟩:=bN h
  cases h
  exact ⟨_,_,aN.mp rx,aN.mp ry,c,k.int hs⟩
noncomputable def oY:CO→CmpOp
 | .eq=>.Eq | .ne=>.NotEq | .lt=>.Lt | .le=>.LtE | .gt=>.Gt | .ge=>.GtE | .in_=>.In | .notin=>.NotIn
noncomputable def Le (X:Cx):CO→R2
 | .eq=>Y7 X
 | .ne=>YT X
 | .lt=>rI0 fun i j=>.bl (decide (i < j))
 | .le=>rI0 fun i j=>.bl (decide (i≤j))
 | .gt=>rI0 fun i j=>.bl (decide (j < i))
 | .ge=>rI0 fun i j=>.bl (decide (j≤i))
 | .in_=>fun x y H Q=>Fg X false x y H Q∨Ay X false x y H Q
 | .notin=>fun x y H Q=>Fg X true x y H Q∨Ay X true x y H Q
theorem pZ (hu:X.A.units+100 < cLine) (o:CO):OpR X (compareOp (oY o)) (Le X o):=by
 cases o
 ·exact Xx hu
 ·exact Ze hu
 ·exact aal
 ·exact Zt
 ·exact Zu
 ·exact Z9
 ·exact (Xq hu).or (Wa hu)
 ·exact (Pu hu).or (Mh hu)
theorem Gn {b neg:Bool}{x y:V}{d e:D} (hs:Same Hs H) (rx:Rp (gOf X) Hs d x) (ry:Rp (gOf X) Hs e y) (h:inD d e=.ok b) (k:Q (.bl (if neg then !b else b)) H):Fg X neg x y H Q∨Ay X neg x y H Q:=by
 cases e <;> simp only [inD] at h <;> try (cases h;done)
 ·obtain ⟨c,h⟩:=bN h
  cases h
  obtain ⟨p,xs,rfl,s1,r1⟩:=cG.mp ry
  simp only [Bool.and_eq_true,decide_eq_true_eq] at c
  exact .inl ⟨d,_,p,xs,rx.mono hs,rfl,.inr (aL hs s1),r1.mono hs,c.1,c.2,k⟩
 ·obtain ⟨c,h⟩:=bN h
  cases h
  obtain ⟨p,xs,rfl,s1,r1⟩:=cB.mp ry
  simp only [Bool.and_eq_true,decide_eq_true_eq] at c
  exact .inl ⟨d,_,p,xs,rx.mono hs,rfl,.inl (aO hs s1),r1.mono hs,c.1,c.2,k⟩
 ·obtain ⟨c,h⟩:=bN h
  cases h
  obtain ⟨a,xs,ys,rfl,ha,e1,e2,r1,r2⟩:=rP.mp ry
  exact .inr ⟨d,a,_,xs,ys,rx.mono hs,c,rfl,⟨hs _ _ ha,e1,e2,r1.mono hs⟩,k⟩
theorem vR (o:CO):Op2 X (Le X o) (fun d e=>do let r ← bF o d e;.ok (.bl r)):=by
 intro x y d e z H Hs Q hs rx ry h0 k
 obtain ⟨b,h,hz⟩:=aj h0
 clear h0
 cases hz
 cases o
 ·simp only [bF] at h
  obtain ⟨c,h⟩:=bN h
  cases h
  exact ⟨d,e,rx.mono hs,ry.mono hs,c,k.bl hs⟩
 ·simp only [bF] at h
  obtain ⟨c,h⟩:=bN h
  cases h
  exact ⟨d,e,rx.mono hs,ry.mono hs,c,k.bl hs⟩
 ·cases d <;> cases e <;> simp only [bF] at h <;> try (cases h;done)
  cases h;exact ⟨_,_,aN.mp rx,aN.mp ry,k.bl hs⟩
 ·cases d <;> cases e <;> simp only [bF] at h <;> try (cases h;done)
  cases h;exact ⟨_,_,aN.mp rx,aN.mp ry,k.bl hs⟩
 ·cases d <;> cases e <;> simp only [bF] at h <;> try (cases h;done)
  cases h;exact ⟨_,_,aN.mp rx,aN.mp ry,k.bl hs⟩
 ·cases d <;> cases e <;> simp only [bF] at h <;> try (cases h;done)
  cases h;exact ⟨_,_,aN.mp rx,aN.mp ry,k.bl hs⟩
 ·simp only [bF] at h
  exact Gn hs rx ry h (k.bl hs)
 ·simp only [bF] at h
  obtain ⟨c,h1,h2⟩:=aj h
  clear h
  cases h2
  exact Gn (neg:=true) hs rx ry h1 (k.bl hs)
noncomputable def Yb (X:Cx):R2:=fun x y H Q=>(Zh X.K x y H Q∨YW X.K x y H Q)∨Uy X x y H Q
theorem aaz (hu:X.A.units+100 < cLine):IxR X (Yb X):=(U7.or Zj).or (WR hu)
theorem gets {g:G}{k:D}:∀ {xs:List (D × Addr × Value)}{vs:List D}{ys:List V},Rps g H vs ys→(∃ z v,jy (xs.map (·.1)) vs k=some z∧atV xs ys k=some v∧Rp g H z v)∨(jy (xs.map (·.1)) vs k=none∧atV xs ys k=none)
 | [],_,_,_=>.inr ⟨rfl,rfl⟩
 | x::xs,[],ys,r=>by
  obtain rfl:=r.nil_inv
  exact .inr ⟨rfl,rfl⟩
 | x::xs,z::vs,ys,r=>by
  obtain ⟨v,ys',rfl,r0,rs⟩:=r.cons_inv
  by_cases e:x.1=k
  ·exact .inl ⟨z,v,if_pos e,if_pos e,r0⟩
  ·have e1:jy ((x::xs).map (·.1)) (z::vs) k=jy (xs.map (·.1)) vs k:=if_neg e
   have e2:atV (x::xs) (v::ys') k=atV xs ys' k:=if_neg e
   rw [e1,e2]
   exact gets rs
theorem Nk {ds:List D}{xs:List V}{i:Int}{z:D}{g:G} (r:Rps g Hs ds xs) (h:(match ixN ds.length i with | some k=>(match ds[k]? with | some d=>R.ok d | none=>.stuck) | none=>.stuck)=.ok z):∃ v,atI xs i=some v∧Rp g Hs z v:=by
 cases e:ixN ds.length i with
 | none=>rw [e] at h;cases h
 | some k =>
  rw [e] at h
  cases e2:ds[k]? with
  | none=>simp only [e2] at h;cases h
  | some d =>
   simp only [e2] at h
   cases h
   obtain ⟨v,ev,rv⟩:=r.getD e2
   refine ⟨v,?_,rv⟩
   unfold atI
   rw [← r.length,e]
   exact ev
theorem Yo:Op2 X (Yb X) ixD:=by
 intro x y d e z H Hs Q hs rx ry h k
 cases d <;> try (cases h;done)
 ·cases e <;> try (cases h;done)
  obtain ⟨a,xs,rfl,s1,r1⟩:=cG.mp rx
  obtain ⟨v,e1,r2⟩:=Nk r1 h
  exact .inl (.inr ⟨a,xs,_,v,rfl,aN.mp ry,aL hs s1,e1,k.here hs r2⟩)
 ·cases e <;> try (cases h;done)
  obtain ⟨a,xs,rfl,s1,r1⟩:=cB.mp rx
  obtain ⟨v,e1,r2⟩:=Nk r1 h
  exact .inl (.inl ⟨a,xs,_,v,rfl,aN.mp ry,aO hs s1,e1,k.here hs r2⟩)
 ·rename_i ks vs
  obtain ⟨hk,h⟩:=bN h
  obtain ⟨a,xs,ys,rfl,ha,e1,e2,r1,r2⟩:=rP.mp rx
  subst e1
  rcases gets (k:=e) (xs:=xs) r2 with ⟨z',v,g1,g2,g3⟩ | ⟨g1,g2⟩
  ·rw [g1] at h
   cases h
   exact .inr ⟨e,a,_,xs,ys,v,ry.mono hs,hk,rfl,⟨hs _ _ ha,rfl,e2,r1.mono hs⟩,g2,k.here hs g3⟩
  ·rw [g1] at h
   cases h
noncomputable def Xz (X:Cx):V→Option Int→Option Int→Hp→VK→Prop:=fun x lo hi H Q=>Xp X.K x lo hi H Q∨Xy X.K x lo hi H Q
theorem aaA:SlR X (Xz X):=Vr.or Yk
theorem Q6 {x:V}{z:D}{lo hi:Option Int} (hs:Same Hs H) (rx:Rp (gOf X) Hs d x) (h:slD d lo hi=.ok z) (k:XD X H Hs Q z):Xz X x lo hi H Q:=by
 cases d <;> simp only [slD] at h <;> try (cases h;done)
 ·split at h
  ·cases h
  ·rename_i hn
   cases h
   obtain ⟨a,xs,rfl,s1,r1⟩:=cG.mp rx
   have l1:=r1.length
   refine .inr ⟨a,xs,rfl,aL hs s1,by rw [← l1];exact hn,k.newT hs ?_⟩
   unfold cutD uL
   rw [← l1]
   exact (r1.drop _).take _
 ·cases h
  obtain ⟨a,xs,rfl,s1,r1⟩:=cB.mp rx
  have l1:=r1.length
  refine .inl ⟨a,xs,rfl,aO hs s1,k.newL hs ?_⟩
  unfold cutD uL
  rw [← l1]
  exact (r1.drop _).take _
end
end Mi
namespace Mi
open PySem L2
open PyProof.Rows hiding St
noncomputable def PX:M→Bool
 | .var _=>true | _=>false
noncomputable def ZX:M→Nat
 | .var i=>i | _=>0
structure Tx where
 F:List Str
 gl:List (Str × D)
noncomputable def eZ (sc:Scope) (x:Str):Bool:=match sc.names.lookup x with
 | some .local=>true | some .cell=>true | some .free=>true | _=>false
noncomputable def jE (sc:Scope) (x:Str):Bool:=match sc.names.lookup x with
 | some .local=>true | some .cell=>true | _=>false
noncomputable def eF (sc:Scope) (x:Str):Bool:=match sc.names.lookup x with
 | some .globalImplicit=>true | _=>false
noncomputable def aK (x : Str) : Bool:=!(x == ("__debug__" : Str)) && !(x == ("__classdict__" : Str)) && !(x == ("__name__" : Str))
noncomputable def boB:BO→Operator→Bool
 | .add,.Add=>true | .sub,.Sub=>true | .mul,.Mult=>true | .mod,.Mod=>true | .fdiv,.FloorDiv=>true | _,_=>false
theorem Zg {o:BO}{p:Operator} (h:boB o p=true):p=TX o:=by cases o <;> cases p <;> first | rfl | cases h
noncomputable def coB:CO→CmpOp→Bool
 | .eq,.Eq=>true | .ne,.NotEq=>true | .lt,.Lt=>true | .le,.LtE=>true | .gt,.Gt=>true | .ge,.GtE=>true | .in_,.In=>true | .notin,.NotIn=>true | _,_=>false
theorem FQ {o:CO}{p:CmpOp} (h:coB o p=true):p=oY o:=by cases o <;> cases p <;> first | rfl | cases h
noncomputable def Tq:D→Const→Bool
 | .int i,.int j=>decide (i=j)
 | .bl i,.bool j=>decide (i=j)
 | .non,.none=>true
 | .str x,.str y=>decide (x=y)
 | _,_=>false
noncomputable def Pq:BI→Str
 | .len => "len" | .min2 => "min" | .max2 => "max" | .all => "all" | .any => "any" | .sorted => "sorted" | .list => "list" | .tuple => "tuple" | .listEnum => "list" | .listRev => "list"
noncomputable def Ty.nm:Ty→Str
 | .int => "int" | .bool => "bool" | .str => "str" | .tuple => "tuple" | .list => "list"
noncomputable def jY : List Str:=["len", "min", "max", "all", "any", "sorted", "list", "tuple", "isinstance", "int", "bool", "str", "range", "enumerate", "zip", "reversed"]
noncomputable def scB (around scope:Scope):Bool :=
 decide (scope.kind=.function) && decide ((scope.names.map (·.1)).Nodup) && scope.names.all fun p=>decide (p.2≠.free) || decide (around.names.lookup p.1=some .cell) || decide (around.names.lookup p.1=some .free)
noncomputable def isK (k:Nat) (e:Expr):Bool:=Nat.beq e.ctorIdx k
noncomputable def isS (k:Nat) (s:Stmt):Bool:=Nat.beq s.ctorIdx k
theorem fO {k:Nat}{e:Expr}{b:Bool} (h:(isK k e && b)=true):e.ctorIdx=k:=Nat.eq_of_beq_eq_true (Bool.and_eq_true_iff.mp h).1
theorem lU {k:Nat}{s:Stmt}{b:Bool} (h:(isS k s && b)=true):s.ctorIdx=k:=Nat.eq_of_beq_eq_true (Bool.and_eq_true_iff.mp h).1
section
variable {e:Expr}{s:Stmt}{b:Bool}
theorem eO (h:(isK 23 e && b)=true):∃ x p,e=.Name x p:=Expr.Name.elim (motive_1:=fun e=>∃ x p,e=.Name x p) e (fO h) fun _ _=>⟨_,_,rfl⟩
theorem Dc (h:(isK 25 e && b)=true):∃ x k p,e=.Tuple x k p:=Expr.Tuple.elim (motive_1:=fun e=>∃ x k p,e=.Tuple x k p) e (fO h) fun _ _ _=>⟨_,_,_,rfl⟩
theorem GX (h:(isK 24 e && b)=true):∃ x p,e=.List x p:=Expr.List.elim (motive_1:=fun e=>∃ x p,e=.List x p) e (fO h) fun _ _=>⟨_,_,rfl⟩
theorem Ga (h:(isK 6 e && b)=true):∃ x y p,e=.Dict x y p:=Expr.Dict.elim (motive_1:=fun e=>∃ x y p,e=.Dict x y p) e (fO h) fun _ _ _=>⟨_,_,_,rfl⟩
theorem Qo (h:(isK 2 e && b)=true):∃ x o y p,e=.BinOp x o y p:=Expr.BinOp.elim (motive_1:=fun e=>∃ x o y p,e=.BinOp x o y p) e (fO h) fun _ _ _ _=>⟨_,_,_,_,rfl⟩
theorem xu (h:(isK 15 e && b)=true):∃ x o y p,e=.Compare x o y p:=Expr.Compare.elim (motive_1:=fun e=>∃ x o y p,e=.Compare x o y p) e (fO h) fun _ _ _ _=>⟨_,_,_,_,rfl⟩
theorem Ba (h:(isK 0 e && b)=true):∃ o y p,e=.BoolOp o y p:=Expr.BoolOp.elim (motive_1:=fun e=>∃ o y p,e=.BoolOp o y p) e (fO h) fun _ _ _=>⟨_,_,_,rfl⟩
theorem xW (h:(isK 3 e && b)=true):∃ o y p,e=.UnaryOp o y p:=Expr.UnaryOp.elim (motive_1:=fun e=>∃ o y p,e=.UnaryOp o y p) e (fO h) fun _ _ _=>⟨_,_,_,rfl⟩
theorem Ny (h:(isK 5 e && b)=true):∃ x y z p,e=.IfExp x y z p:=Expr.IfExp.elim (motive_1:=fun e=>∃ x y z p,e=.IfExp x y z p) e (fO h) fun _ _ _ _=>⟨_,_,_,_,rfl⟩
theorem mz (h:(isK 21 e && b)=true):∃ x y p,e=.Subscript x y p:=Expr.Subscript.elim (motive_1:=fun e=>∃ x y p,e=.Subscript x y p) e (fO h) fun _ _ _=>⟨_,_,_,rfl⟩
theorem N8 (h:(isK 26 e && b)=true):∃ x y z p,e=.Slice x y z p:=Expr.Slice.elim (motive_1:=fun e=>∃ x y z p,e=.Slice x y z p) e (fO h) fun _ _ _ _=>⟨_,_,_,_,rfl⟩
theorem uN (h:(isK 8 e && b)=true):∃ x y z p,e=.ListComp x y z p:=Expr.ListComp.elim (motive_1:=fun e=>∃ x y z p,e=.ListComp x y z p) e (fO h) fun _ _ _ _=>⟨_,_,_,_,rfl⟩
theorem yw (h:(isK 16 e && b)=true):∃ x y z p,e=.Call x y z p:=Expr.Call.elim (motive_1:=fun e=>∃ x y z p,e=.Call x y z p) e (fO h) fun _ _ _ _=>⟨_,_,_,_,rfl⟩
theorem tZ (h:(isK 20 e && b)=true):∃ x y p,e=.Attribute x y p:=Expr.Attribute.elim (motive_1:=fun e=>∃ x y p,e=.Attribute x y p) e (fO h) fun _ _ _=>⟨_,_,_,rfl⟩
theorem jB (h:(isS 5 s && b)=true):∃ x y p,s=.Assign x y p:=Stmt.Assign.elim s (lU h) fun _ _ _=>⟨_,_,_,rfl⟩
theorem yj (h:(isS 24 s && b)=true):∃ x p,s=.Expr x p:=Stmt.Expr.elim s (lU h) fun _ _=>⟨_,_,rfl⟩
theorem yS (h:(isS 3 s && b)=true):∃ x p,s=.Return x p:=Stmt.Return.elim s (lU h) fun _ _=>⟨_,_,rfl⟩
theorem Yr (h:(isS 12 s && b)=true):∃ x y z p,s=.If x y z p:=Stmt.If.elim s (lU h) fun _ _ _ _=>⟨_,_,_,_,rfl⟩
theorem VJ (h:(isS 9 s && b)=true):∃ x y z w p,s=.For x y z w p:=Stmt.For.elim s (lU h) fun _ _ _ _ _=>⟨_,_,_,_,_,rfl⟩
theorem Rf (h:(isS 25 s && b)=true):∃ p,s=.Pass p:=Stmt.Pass.elim s (lU h) fun _=>⟨_,rfl⟩
theorem Qk (h:(isS 26 s && b)=true):∃ p,s=.Break p:=Stmt.Break.elim s (lU h) fun _=>⟨_,rfl⟩
theorem FZ (h:(isS 27 s && b)=true):∃ p,s=.Continue p:=Stmt.Continue.elim s (lU h) fun _=>⟨_,rfl⟩
end
noncomputable def gR (e:Expr) (f:Str→List Expr→Bool):Bool:=isK 16 e && match e with
 | .Call g es ks _=>isK 23 g && (match g,ks with | .Name x _,[]=>f x es | _,_=>false)
 | _=>false
theorem cI {e:Expr}{f:Str→List Expr→Bool} (h:gR e f=true):∃ x p es q,e=.Call (.Name x p) es [] q∧f x es=true:=by
 obtain ⟨g,es,ks,q,rfl⟩:=yw h
 have h2:(isK 23 g && _)=true:=h
 obtain ⟨x,p,rfl⟩:=eO h2
 cases ks with
 | nil=>exact ⟨x,p,es,q,rfl,h⟩
 | cons _ _=>cases h
noncomputable def tgB (N:List Str) (sc:Scope):Tg→Expr→Bool
 | .one i,e=>isK 23 e && match e with | .Name x _=>jE sc x && decide (N[i]?=some x) | _=>false
 | .two i j,e=>isK 25 e && match e with
  | .Tuple es _ _=>(match es with
   | [a,b]=>isK 23 a && (isK 23 b && match a,b with | .Name x _,.Name y _=>jE sc x && jE sc y && decide (N[i]?=some x) && decide (N[j]?=some y) && decide (i≠j) | _,_=>false)
   | _=>false)
  | _=>false
theorem rQ {N:List Str}{sc:Scope}{i:Nat}{e:Expr} (h:tgB N sc (.one i) e=true):∃ x p,e=.Name x p∧jE sc x=true∧N[i]?=some x:=by
 obtain ⟨x,p,rfl⟩:=eO h
 have h2:(jE sc x && decide (N[i]?=some x))=true:=h
 simp only [Bool.and_eq_true,decide_eq_true_eq] at h2
 exact ⟨x,p,rfl,h2⟩
theorem su {N:List Str}{sc:Scope}{i j:Nat}{e:Expr} (h:tgB N sc (.two i j) e=true):∃ x p y q k r,e=.Tuple [.Name x p,.Name y q] k r∧((((jE sc x=true∧jE sc y=true)∧N[i]?=some x)∧N[j]?=some y)∧i≠j):=by
 obtain ⟨es,k,r,rfl⟩:=Dc h
 rcases es with _ | ⟨a,_ | ⟨b,_ | ⟨c,es⟩⟩⟩ <;> try (cases h;done)
 obtain ⟨x,p,rfl⟩:=eO (show (isK 23 a && _)=true from h)
 obtain ⟨y,q,rfl⟩:=eO (show (isK 23 b && _)=true from h)
 have h2:(jE sc x && jE sc y && decide (N[i]?=some x) && decide (N[j]?=some y) && decide (i≠j))=true:=h
 simp only [Bool.and_eq_true,decide_eq_true_eq] at h2
 exact ⟨x,p,y,q,k,r,rfl,h2⟩
noncomputable def dI:Expr→Bool
 | .Tuple ..=>true | _=>false
noncomputable def iD:Expr→Bool
 | .Slice ..=>false | _=>true
noncomputable def noStar:Expr→Bool
 | .Starred ..=>false | _=>true
noncomputable def eG:Expr→Bool
 | .Set ..=>false | _=>true
noncomputable def Ei:Expr→List Expr
 | .Call _ es _ _=>es
 | _=>[]
noncomputable def rO:IK→Expr→List Expr
 | .seq,e=>[e]
 | .rng,e=>Ei e
 | .enum,e=>Ei e
 | .zip,e=>Ei e
 | .rev,e=>Ei e
noncomputable def n8 (sc:Scope):IK→Expr→Expr→Bool
 | .seq,_,e=>eG e
 | .rng, _, e => gR e fun f es => decide (f = "range") && eF sc f && (decide (es.length = 1) || decide (es.length = 2) || decide (es.length = 3)) && es.all noStar
 | .enum, tg, e => gR e fun f es => decide (f = "enumerate") && eF sc f && decide (es.length = 1) && es.all noStar && dI tg
 | .zip, tg, e => gR e fun f es => decide (f = "zip") && eF sc f && decide (es.length = 2) && es.all noStar && dI tg
 | .rev, _, e => gR e fun f es => decide (f = "reversed") && eF sc f && decide (es.length = 1) && es.all noStar
noncomputable def TV (e:Expr) (f:Str→Expr→Expr→Bool):Bool:=isK 16 e && match e with
 | .Call g es ks cp=>isK 20 g && (match g with
  | .Attribute o m ap => isK 23 o && (match o, es, ks with | .Name x _, [y, z], [] => decide (m = "get") && (ap.endLine == cp.line) && f x y z | _, _, _ => false)
  | _=>false)
 | _=>false
theorem V1 {e : Expr} {f : Str → Expr → Expr → Bool} (h : TV e f = true) : ∃ x p ap y z cp, e = .Call (.Attribute (.Name x p) "get" ap) [y, z] [] cp ∧ (ap.endLine == cp.line) = true ∧ f x y z = true:=by
 obtain ⟨g,es,ks,cp,rfl⟩:=yw h
 obtain ⟨o,m,ap,rfl⟩:=tZ (show (isK 20 g && _)=true from h)
 obtain ⟨x,p,rfl⟩:=eO (show (isK 23 o && _)=true from h)
 rcases es with _ | ⟨y,_ | ⟨z,_ | ⟨w,es⟩⟩⟩ <;> try (cases h;done)
 rcases ks with _ | ⟨k,ks⟩ <;> try (cases h;done)
 have h2 : (decide (m = "get") && (ap.endLine == cp.line) && f x y z) = true:=h
 simp only [Bool.and_eq_true,decide_eq_true_eq] at h2
 obtain ⟨⟨rfl,h3⟩,h4⟩:=h2
 exact ⟨x,p,ap,y,z,cp,rfl,h3,h4⟩
mutual
noncomputable def okE (T:Tx) (N:List Str):M→Scope→Expr→Bool
 | .var i,sc,e=>isK 23 e && match e with | .Name x _=>aK x && eZ sc x && decide (N[i]?=some x) | _=>false
 | .con d,sc,e=>match e with
  | .Constant c _ _=>Tq d c
  | .Name x _=>aK x && eF sc x && (match d with | .int i=>decide (T.gl.lookup x=some (.int i)) | _=>false)
  | _=>false
 | .tup ms,sc,e=>isK 25 e && match e with | .Tuple es _ _=>cj T N ms sc es && es.all noStar | _=>false
 | .lst ms,sc,e=>isK 24 e && match e with | .List es _=>cj T N ms sc es && es.all noStar | _=>false
 | .dct0,sc,e=>isK 6 e && match e with | .Dict [] [] _=>true | _=>false
 | .bin o a b,sc,e=>isK 2 e && match e with | .BinOp x p y _=>boB o p && okE T N a sc x && okE T N b sc y | _=>false
 | .cmp o a b,sc,e=>isK 15 e && match e with | .Compare x [p] [y] _=>coB o p && eG y && okE T N a sc x && okE T N b sc y | _=>false
 | .chain o o' a b c,sc,e=>isK 15 e && match e with | .Compare x [p,p'] [y,z] _=>coB o p && coB o' p' && eG y && eG z && okE T N a sc x && okE T N b sc y && okE T N c sc z | _=>false
 | .and ms,sc,e=>isK 0 e && match e with | .BoolOp .And es _=>cj T N ms sc es && !ms.isEmpty | _=>false
 | .or ms,sc,e=>isK 0 e && match e with | .BoolOp .Or es _=>cj T N ms sc es && !ms.isEmpty | _=>false
 | .not a,sc,e=>isK 3 e && match e with | .UnaryOp .Not x _=>okE T N a sc x | _=>false
 | .neg a,sc,e=>isK 3 e && match e with | .UnaryOp .USub x _=>okE T N a sc x | _=>false
 | .ite c a b,sc,e=>isK 5 e && match e with | .IfExp x y z _=>okE T N c sc x && okE T N a sc y && okE T N b sc z | _=>false
 | .ix a b,sc,e=>isK 21 e && match e with | .Subscript x y _=>iD y && okE T N a sc x && okE T N b sc y | _=>false
 | .slc a lo hi,sc,e=>isK 21 e && match e with
  | .Subscript x s _=>isK 26 s && (match s with | .Slice l h st _=>st.isNone && (okE T N a sc x && (match l with | none=>cX lo | some y=>!cX lo && okE T N lo sc y) && (match h with | none=>cX hi | some y=>!cX hi && okE T N hi sc y)) | _=>false)
  | _=>false
 | .dget a k d,sc,e=>PX a && TV e fun x y z=>eZ sc x && aK x && decide (N[ZX a]?=some x) && okE T N k sc y && okE T N d sc z && noStar y && noStar z
 | .call f ms,sc,e=>gR e fun x es=>aK x && eF sc x && decide (T.F[f]?=some x) && cj T N ms sc es && es.all noStar
 | .blt b ms,sc,e=>gR e fun x es=>decide (x=Pq b) && eF sc x && !es.isEmpty && es.all noStar && (match b,es with
   | .listEnum, [e'] => gR e' fun y es' => decide (y = "enumerate") && eF sc y && cj T N ms sc es' && es'.all noStar && decide (es'.length = 1)
   | .listEnum,_=>false
   | .listRev, [e'] => gR e' fun y es' => decide (y = "reversed") && eF sc y && cj T N ms sc es' && es'.all noStar && decide (es'.length = 1)
   | .listRev,_=>false
   | _,_=>cj T N ms sc es)
 | .isin a t,sc,e=>gR e fun x es=>match es with
  | [y, z'] => isK 23 z' && (match z' with | .Name z _ => decide (x = "isinstance") && eF sc x && okE T N a sc y && noStar y && decide (z = t.nm) && eF sc z | _ => false)
  | _=>false
 | .comp elt tg k src hc c cap,sc,e=>isK 8 e && match e with
  | .ListComp elt' [⟨tg',iter,ifs,as⟩] scope _=>decide (as=0) && scB sc scope && tgB N scope tg tg' && n8 sc k tg' iter && cj T N src sc (rO k iter) &&
   (match hc,ifs with | true,[c']=>okE T N c scope c' | false,[]=>true | _,_=>false) && okE T N elt scope elt' && decide (cap=cC N scope)
  | _=>false
noncomputable def cj (T:Tx) (N:List Str):List M→Scope→List Expr→Bool
 | [],_,es=>es.isEmpty
 | m::ms,sc,es=>match es with | e::es=>okE T N m sc e && cj T N ms sc es | []=>false
end
section
variable {T:Tx}{N:List Str}{sc:Scope}{a b c:M}{ms:List M}{x y z:Expr}{es:List Expr}{pos p2 p3:Pos}{s f:Str}{k:Nat}
theorem V5 {i:Nat}:okE T N (.var i) sc (.Name s pos)=(aK s && eZ sc s && decide (N[i]?=some s)):=rfl
theorem Tp {d:D}:okE T N (.con d) sc (.Name s pos)=(aK s && eF sc s && (match d with | .int i=>decide (T.gl.lookup s=some (.int i)) | _=>false)):=rfl
theorem UW:okE T N (.tup ms) sc (.Tuple es k pos)=(cj T N ms sc es && es.all noStar):=rfl
theorem Km:okE T N (.lst ms) sc (.List es pos)=(cj T N ms sc es && es.all noStar):=rfl
theorem U0 {o:BO}{p:Operator}:okE T N (.bin o a b) sc (.BinOp x p y pos)=(boB o p && okE T N a sc x && okE T N b sc y):=rfl
theorem Wx {o:CO}{p:CmpOp}:okE T N (.cmp o a b) sc (.Compare x [p] [y] pos)=(coB o p && eG y && okE T N a sc x && okE T N b sc y):=rfl
theorem Qy {o o':CO}{p p':CmpOp}:okE T N (.chain o o' a b c) sc (.Compare x [p,p'] [y,z] pos)=(coB o p && coB o' p' && eG y && eG z && okE T N a sc x && okE T N b sc y && okE T N c sc z):=rfl
theorem Wf:okE T N (.and ms) sc (.BoolOp .And es pos)=(cj T N ms sc es && !ms.isEmpty):=rfl
theorem Xg:okE T N (.or ms) sc (.BoolOp .Or es pos)=(cj T N ms sc es && !ms.isEmpty):=rfl
theorem Vf:okE T N (.ite a b c) sc (.IfExp x y z pos)=(okE T N a sc x && okE T N b sc y && okE T N c sc z):=rfl
theorem X6:okE T N (.ix a b) sc (.Subscript x y pos)=(iD y && okE T N a sc x && okE T N b sc y):=rfl
theorem Vc {l h:Option Expr}:okE T N (.slc a b c) sc (.Subscript x (.Slice l h none p2) pos)=(okE T N a sc x && (match l with | none=>cX b | some y=>!cX b && okE T N b sc y) && (match h with | none=>cX c | some y=>!cX c && okE T N c sc y)):=rfl
theorem GQ {elt:M}{tg:Tg}{ik:IK}{hc:Bool}{cap:List Bool}{elt' tg' iter:Expr}{ifs:List Expr}{as:Int}{scope:Scope}:okE T N (.comp elt tg ik ms hc c cap) sc (.ListComp elt' [⟨tg',iter,ifs,as⟩] scope pos)=(decide (as=0) && scB sc scope && tgB N scope tg tg' && n8 sc ik tg' iter && cj T N ms sc (rO ik iter) &&
   (match hc,ifs with | true,[c']=>okE T N c scope c' | false,[]=>true | _,_=>false) && okE T N elt scope elt' && decide (cap=cC N scope)):=rfl
theorem sy:cj T N [] sc es=es.isEmpty:=rfl
theorem Kd:cj T N (a::ms) sc []=false:=rfl
theorem cZ:cj T N (a::ms) sc (x::es)=(okE T N a sc x && cj T N ms sc es):=rfl
end
end Mi
namespace Mi
open PySem L2
open PyProof.Rows hiding St
noncomputable def Vs (g:G) (ρ:En) (σ:St) (Hs:Hp) (U:List Nat):Prop:=ρ.length=σ.length∧∀ i∈U,∀ d,ρ[i]?=some (some d)→∃ v,σ[i]?=some (some v)∧Rp g Hs d v
section
variable {g:G}{ρ:En}{σ:St}{Hs Hs':Hp}{U U':List Nat}
theorem Vs.mono (h:Vs g ρ σ Hs U) (m:Same Hs Hs'):Vs g ρ σ Hs' U:=⟨h.1,fun i hi d e=>let ⟨v,a,r⟩:=h.2 i hi d e;⟨v,a,r.mono m⟩⟩
theorem Vs.sub (h:Vs g ρ σ Hs U) (hs:∀ i∈U',i∈U):Vs g ρ σ Hs U':=⟨h.1,fun i hi d e=>h.2 i (hs i hi) d e⟩
theorem Vs.l (h:Vs g ρ σ Hs (U++U')):Vs g ρ σ Hs U:=h.sub fun _ hi=>List.mem_append_left _ hi
theorem Vs.r (h:Vs g ρ σ Hs (U++U')):Vs g ρ σ Hs U':=h.sub fun _ hi=>List.mem_append_right _ hi
end
noncomputable def tM (X:Cx) (U:List Nat) (r:En→R D):TE:=fun σ H Q=>∃ ρ Hs d,Same Hs H∧Vs (gOf X) ρ σ Hs U∧r ρ=.ok d∧XD X H Hs Q d
noncomputable def XDs (X:Cx) (H Hs:Hp) (Q:List V→Hp→Prop) (ds:List D):Prop:=∀ vs H' Hs',Grow H Hs H' Hs'→Rps (gOf X) Hs' ds vs→Q vs H'
noncomputable def tMs (X:Cx) (U:List Nat) (r:En→R (List D)):TA:=fun σ H Q=>∃ ρ Hs ds,Same Hs H∧Vs (gOf X) ρ σ Hs U∧r ρ=.ok ds∧XDs X H Hs Q ds
noncomputable def tMT (X:Cx) (U:List Nat) (r:En→R D):TT:=fun σ H Q=>∃ ρ Hs b,Same Hs H∧Vs (gOf X) ρ σ Hs U∧r ρ=.ok (.bl b)∧∀ H' Hs',Grow H Hs H' Hs'→Q b H'
section
variable {X:Cx}{σ:St}{H Hs:Hp}{Q:VK}{U Ua Ub Uc:List Nat}{r ra rb rc:En→R D}
theorem Em {rr:R2}{op:D→D→R D} (o:Op2 X rr op):tM X (Ua++Ub) (fun ρ=>do let x ← ra ρ;let y ← rb ρ;op x y) σ H Q→tOp rr (tM X Ua ra) (tM X Ub rb) σ H Q:=by
 rintro ⟨ρ,Hs,z,hs,hv,h,k⟩
 obtain ⟨x,hx,h⟩:=aj h
 obtain ⟨y,hy,h⟩:=aj h
 refine ⟨ρ,Hs,x,hs,hv.l,hx,fun v H1 Hs1 g1 r1=>?_⟩
 refine ⟨ρ,Hs1,y,g1.sub,hv.r.mono (g1.same hs),hy,fun u H2 Hs2 g2 r2=>?_⟩
 exact o v u x y z H2 Hs2 Q g2.sub (r1.mono (g2.same g1.sub)) r2 h (k.grow (g1.trans g2))
theorem Bv {Q:Bool→Hp→Prop}:tMT X U r σ H Q→tM X U r σ H fun x H1=>∃ c,x=.bl c∧Q c H1:=by
 rintro ⟨ρ,Hs,b,hs,hv,h,k⟩
 exact ⟨ρ,Hs,.bl b,hs,hv,h,fun v H1 Hs1 g1 r1=>⟨b,mH.mp r1,k H1 Hs1 g1⟩⟩
end
structure ScRel (sc:Scope) (X:Cx):Prop where
 glb:∀ x,eF sc x=true→Gl X x
 vis:∀ x,eZ sc x=true→Vis X.env.scope x
 cf:∀ x,sc.names.lookup x=some .cell∨sc.names.lookup x=some .free→X.env.scope.names.lookup x=some .cell∨X.env.scope.names.lookup x=some .free
 own:∀ x,jE sc x=true→L2.Loc X.env.scope x∧(X.fn x=true∨X.env.scope.names.lookup x=some .local)
noncomputable def spD (g:G) (c:List D→R D) (np:Nat):Sp:=fun vs H Q _=>∃ ds Hs d,vs.length=np∧Same Hs H∧Rps g Hs ds vs∧c ds=.ok d∧∀ v H' Hs',Grow H Hs H' Hs'→Rp g Hs' d v→Q v H'
noncomputable def K4 (g:G) (c:List D→R D) (np:Nat):Sp:=fun vs H Q _=>∃ d0 d d' v0 a Hs,vs=[v0,.ref a]∧vs.length=np∧Same Hs H∧Rp g Hs d0 v0∧Hs a=none∧dB g H Hs a d∧c [d0,d]=.ok d'∧∀ H' Hs',Grow (hole H a) Hs H' Hs'→Hs' a=none→dB g H' Hs' a d'→Q .non H'
noncomputable def spF (g:G) (c:List D→R D) (np:Nat):Sp:=fun vs H Q _=>∃ ds Hs d,vs.length=np∧Same Hs H∧Rps g Hs ds vs∧c ds=.ok d∧∀ v H' Hs',Grow H Hs H' Hs'→Rp g Hs' d v→(∀ a,v=.ref a→H a=none)→Q v H'
structure Cok (T:Tx) (cl:Nat→List D→R D) (X:Cx):Prop where
 calm:X.calm=true
 nd:X.N.Nodup
 un:X.A.units+100 < cLine
 blt:∀ f∈jY,X.mg f=none
 gl:∀ x i,T.gl.lookup x=some (.int i)→∃ t,X.mg x=some (.int i t)
 fns:∀ f x,T.F[f]?=some x→∃ k a fd ps,FnOk X.prog X.w X.K X.mg X.base CX0 k a fd ps (spD (gOf X) (cl f) ps.length)∧FnOk X.prog X.w X.K X.mg X.base CX0 k a fd ps (K4 (gOf X) (cl (1000+f)) ps.length)∧Room k X.A∧X.mg x=some (.ref a)∧PySem.W.keepIn X.K (.ref a)=true∧Binds X.K fd ps []∧(∀ ds d,cl f ds=.ok d→ds.length=ps.length)∧(∀ ds d,cl (1000+f) ds=.ok d→ps.length=2)∧FnOk X.prog X.w X.K X.mg X.base CX0 k a fd ps (spF (gOf X) (cl (2000+f)) ps.length)∧∀ ds d,cl (2000+f) ds=.ok d→ds.length=ps.length
theorem Cok.blk {T:Tx}{cl:Nat→List D→R D}{X:Cx} (C:Cok T cl X) (scope:Scope) (s:Shared) (H:Hp) (fp:List Addr) (xe:Value→Shared→Prop):Cok T cl (cU X scope s H fp xe) :=
 ⟨C.calm,C.nd,C.un,C.blt,C.gl,C.fns⟩
theorem Gx {sc scope:Scope}{X:Cx} (h:scB sc scope=true) (S:ScRel sc X):ScOk X.env.scope scope:=by
 unfold scB at h
 simp only [Bool.and_eq_true,decide_eq_true_eq,List.all_eq_true,Bool.or_eq_true] at h
 refine ⟨h.1.1,h.1.2,fun x hx=>?_⟩
 have:=h.2 (x,.free) (PySem.mem_of_lookup hx)
 rcases this with (q | q) | q
 ·exact absurd rfl q
 ·exact S.cf x (.inl q)
 ·exact S.cf x (.inr q)
theorem tD {sc:Scope}{x:Str} (h:eZ sc x=true):Vis sc x:=by
 unfold eZ at h
 unfold Vis
 split at h <;> simp_all
theorem jX {sc:Scope}{x:Str} (h:jE sc x=true):L2.Loc sc x:=by
 unfold jE at h
 unfold L2.Loc
 split at h <;> simp_all
theorem tu {sc:Scope}{x:Str} (h:eF sc x=true):sc.names.lookup x=some .globalImplicit:=by
 unfold eF at h
 split at h <;> simp_all
theorem Ca {sc scope:Scope}{X:Cx}{s:Shared}{H:Hp}{fp:List Addr}{xe:Value→Shared→Prop} (S:ScRel sc X):ScRel scope (cU X scope s H fp xe):=by
 have look:∀ x,(cU X scope s H fp xe).env.scope.names.lookup x=(scope.names.lookup x).map fun k=>if (k == NameKind.free && X.env.scope.kind == .function && X.env.kindOf x == some .cell) then NameKind.cell else k:=fun x=>ou scope X.env x
 refine ⟨fun x h=>?_,fun x h=>?_,fun x h=>?_,fun x h=>?_⟩
 ·show (cU X scope s H fp xe).env.scope.names.lookup x=_
  rw [look,tu h];rfl
 ·unfold Vis
  rw [look]
  rcases tD h with e | e | e <;> rw [e]
  ·exact .inl rfl
  ·exact .inr (.inl rfl)
  ·simp only [Option.map_some]
   split
   ·exact .inr (.inl rfl)
   ·exact .inr (.inr rfl)
 ·rw [look]
  rcases h with e | e <;> rw [e]
  ·exact .inl rfl
  ·simp only [Option.map_some]
   split
   ·exact .inl rfl
   ·exact .inr rfl
 ·unfold L2.Loc
  rw [look]
  rcases jX h with e | e <;> rw [e]
  ·exact ⟨.inl rfl,.inr rfl⟩
  ·exact ⟨.inr rfl,.inl (by show decide (scope.names.lookup x=some .cell)=true;rw [e];rfl)⟩
theorem aB {e:Expr}{es:List Expr}{env:Env} (h:noStar e=true):starEach (e::es) env=(false,eval e env)::starEach es env:=by
 cases e <;> first | rfl | cases h
theorem dR {env:Env}{pos:Pos}:∀ {es:List Expr},es.all noStar=true→(backTo pos (starEach es env)).any (·.1)=false
 | [],_=>rfl
 | e::es,h=>by
  simp only [List.all_cons,Bool.and_eq_true] at h
  rw [aB h.1]
  show (false || (backTo pos (starEach es env)).any (·.1))=false
  rw [dR h.2];rfl
section
variable {X:Cx}{σ:St}{H Hs:Hp}{Q:VK}{U Ua Ub Uc:List Nat}{r ra rb rc:En→R D}{e:Expr}{es:List Expr}{rs:En→R (List D)}
theorem Wv:PA X [] (tMs X [] fun _=>.ok []):=Qh lJ fun σ H Q=>by
 rintro ⟨ρ,Hs,ds,hs,hv,h,k⟩
 cases h
 exact k [] H Hs (Grow.refl hs) .nil
theorem R3 (ha:PE X e (tM X Ua ra)) (hr:PA X es (tMs X Ub rs)) (hn:noStar e=true):PA X (e::es) (tMs X (Ua++Ub) fun ρ=>do let d ← ra ρ;let ds ← rs ρ;.ok (d::ds)) :=
 Qh (fW ha hr (aB hn)) fun σ H Q=>by
  rintro ⟨ρ,Hs,zs,hs,hv,h,k⟩
  obtain ⟨x,hx,h⟩:=aj h
  obtain ⟨ys,hy,h⟩:=aj h
  cases h
  refine ⟨ρ,Hs,x,hs,hv.l,hx,fun v H1 Hs1 g1 r1=>?_⟩
  refine ⟨ρ,Hs1,ys,g1.sub,hv.r.mono (g1.same hs),hy,fun us H2 Hs2 g2 r2=>?_⟩
  exact k (v::us) H2 Hs2 (g1.trans g2) (Rps.cons (r1.mono (g2.same g1.sub)) r2)
variable {pos:Pos}
theorem Oo {i:Nat}{x:Str} (hN:X.N[i]?=some x) (hv:Vis X.env.scope x) (ho:aK x=true):PE X (.Name x pos) (tM X [i] fun ρ=>cN ρ i):=by
 unfold aK at ho
 simp only [Bool.and_eq_true,Bool.not_eq_true'] at ho
 refine bB (iw hN hv ho.1.1 ho.1.2) fun σ H Q=>?_
 rintro ⟨ρ,Hs,d,hs,hv,h,k⟩
 dsimp only [cN] at h
 split at h
 ·cases h
  rename_i e
  obtain ⟨v,ev,rv⟩:=hv.2 i (List.mem_singleton.mpr rfl) d e
  exact ⟨v,ev,k.here hs rv⟩
 ·cases h
theorem YH {d:D}{c:Const}{j:Nat} (h:Tq d c=true):PE X (.Constant c j pos) (tM X [] fun _=>.ok d):=by
 cases d <;> cases c <;> simp only [Tq] at h <;> try (cases h;done)
 ·refine bB YZ fun σ H Q=>?_
  rintro ⟨ρ,Hs,d,hs,hv,h,k⟩
  cases h;exact k.non hs
 ·simp only [decide_eq_true_eq] at h
  subst h
  refine bB ZC fun σ H Q=>?_
  rintro ⟨ρ,Hs,d,hs,hv,h,k⟩
  cases h;exact k.bl hs
 ·simp only [decide_eq_true_eq] at h
  subst h
  refine bB Yt fun σ H Q=>?_
  rintro ⟨ρ,Hs,d,hs,hv,h,k⟩
  cases h;exact k.int hs
 ·simp only [decide_eq_true_eq] at h
  subst h
  refine bB Yy fun σ H Q=>?_
  rintro ⟨ρ,Hs,d,hs,hv,h,k⟩
  cases h;exact k.here hs (WX.mpr rfl)
theorem Wn {T:Tx}{cl:Nat→List D→R D}{x:Str}{i:Int} (C:Cok T cl X) (hg:Gl X x) (ho:aK x=true) (h:T.gl.lookup x=some (.int i)):PE X (.Name x pos) (tM X [] fun _=>.ok (.int i)):=by
 unfold aK at ho
 simp only [Bool.and_eq_true,Bool.not_eq_true'] at ho
 obtain ⟨t,e⟩:=C.gl x i h
 refine bB (Wy hg e (v:=.int i) ⟨t,rfl⟩ ho.1.1) fun σ H Q=>?_
 rintro ⟨ρ,Hs,d,hs,hv,h,k⟩
 cases h;exact k.int hs
theorem Yu {k:Nat} (h:PA X es (tMs X U rs)):PE X (.Tuple es k pos) (tM X U fun ρ=>do let ds ← rs ρ;if ds.length≤lim then .ok (.tup ds) else .stuck) :=
 bB (XJ h) fun σ H Q=>by
  rintro ⟨ρ,Hs,d,hs,hv,h,k⟩
  obtain ⟨ds,hd,h⟩:=aj h
  obtain ⟨hl,h⟩:=bN h
  cases h
  refine ⟨ρ,Hs,ds,hs,hv,hd,fun vs H1 Hs1 g1 r1=>⟨?_,(k.grow g1).newT g1.sub r1⟩⟩
  rw [← r1.length];exact Nat.le_trans hl lG
theorem Xv (h:PA X es (tMs X U rs)):PE X (.List es pos) (tM X U fun ρ=>do let ds ← rs ρ;if ds.length≤lim then .ok (.lst ds) else .stuck) :=
 bB (Ot h) fun σ H Q=>by
  rintro ⟨ρ,Hs,d,hs,hv,h,k⟩
  obtain ⟨ds,hd,h⟩:=aj h
  obtain ⟨hl,h⟩:=bN h
  cases h
  refine ⟨ρ,Hs,ds,hs,hv,hd,fun vs H1 Hs1 g1 r1=>⟨?_,(k.grow g1).newL g1.sub r1⟩⟩
  rw [← r1.length];exact Nat.le_trans hl lG
theorem XD.newD (k:XD X H Hs Q (.dct [] [])) (hs:Same Hs H):∀ p,H p=none→Q (.ref p) (upd H p (.ext (DAt (gOf X) p [] []))):=fun p hp =>
 k _ _ _ (Grow.new (o:=.ext (DAt (gOf X) p [] [])) hs hp) (rP.mpr ⟨p,[],[],rfl,aC,rfl,fun _ z=>(by cases z),Rps.nil,Rps.nil⟩)
theorem X4:PE X (.Dict [] [] pos) (tM X [] fun _=>.ok (.dct [] [])):=bB Kr fun σ H Q=>by
 rintro ⟨ρ,Hs,d,hs,hv,h,k⟩
 cases h
 exact k.newD hs
variable {a b c:Expr}
theorem Yh (o:BO) (ha:PE X a (tM X Ua ra)) (hb:PE X b (tM X Ub rb)):PE X (.BinOp a (TX o) b pos) (tM X (Ua++Ub) fun ρ=>do let x ← ra ρ;let y ← rb ρ;jm o x y) :=
 bB (Z4 (X5 o) ha hb) fun σ H Q h=>Em (WL o) h
theorem yD {p:CmpOp}{b:Expr} (h:eG b=true):behindInMarks p b=false:=by cases b <;> first | rfl | cases h
theorem Xm (hu:X.A.units+100 < cLine) (o:CO) (ha:PE X a (tM X Ua ra)) (hb:PE X b (tM X Ub rb)) (hn:eG b=true) :
  PE X (.Compare a [oY o] [b] pos) (tM X (Ua++Ub) fun ρ=>do let x ← ra ρ;let y ← rb ρ;let r ← bF o x y;.ok (.bl r)) :=
 bB (VP (pZ hu o) ha hb (yD hn)) fun σ H Q h=>Em (vR o) h
theorem W0 (hu:X.A.units+100 < cLine) (o:CO) (ha:PE X a (tM X Ua ra)) (hb:PE X b (tM X Ub rb)) (hn:eG b=true) :
  PT X (.Compare a [oY o] [b] pos) (tMT X (Ua++Ub) fun ρ=>do let x ← ra ρ;let y ← rb ρ;let r ← bF o x y;.ok (.bl r)) :=
 Aw (Wo (pZ hu o) ha hb (yD hn)) fun σ H Q h=>Em (vR o) (Bv h)
theorem FN (o o':CO):tM X (Ua++(Ub++Uc)) (fun ρ=>do let x ← ra ρ;let y ← rb ρ;let r ← bF o x y;if r then do let z ← rc ρ;let r2 ← bF o' y z;.ok (.bl r2) else .ok (.bl false)) σ H Q →
  Ht (Le X o) (Le X o') (tM X Ua ra) (tM X Ub rb) (tM X Uc rc) σ H Q:=by
 rintro ⟨ρ,Hs,z,hs,hv,h,k⟩
 obtain ⟨x,hx,h⟩:=aj h
 obtain ⟨y,hy,h⟩:=aj h
 obtain ⟨t,ht,h⟩:=aj h
 refine ⟨ρ,Hs,x,hs,hv.l,hx,fun v H1 Hs1 g1 r1=>?_⟩
 refine ⟨ρ,Hs1,y,g1.sub,hv.r.l.mono (g1.same hs),hy,fun u H2 Hs2 g2 r2=>?_⟩
 have hv2:=hv.r.r.mono ((g1.trans g2).same hs)
 refine vR o v u x y (.bl t) H2 Hs2 _ g2.sub (r1.mono (g2.same g1.sub)) r2 (by show (bF o x y >>= fun r=>R.ok (D.bl r))=_;rw [ht];rfl) fun w H3 Hs3 g3 r3=>⟨t,mH.mp r3,?_⟩
 have k3:=(k.grow (g1.trans g2)).grow g3
 cases t with
 | false=>rw [if_neg (by decide)];rw [if_neg (by decide)] at h;cases h;exact k3.bl g3.sub
 | true =>
  rw [if_pos rfl]
  rw [if_pos rfl] at h
  obtain ⟨zc,hc,h⟩:=aj h
  refine ⟨ρ,Hs3,zc,g3.sub,hv2.mono (g3.same g2.sub),hc,fun q H4 Hs4 g4 r4=>?_⟩
  exact vR o' u q y zc z H4 Hs4 Q g4.sub (r2.mono ((g3.trans g4).same g2.sub)) r4 h (k3.grow g4)
theorem JX {p p':CmpOp} (h:eG c=true):lastMarks [p,p'] [b,c]=false:=by
 show behindInMarks p' c=false
 exact yD h
theorem RV (hu:X.A.units+100 < cLine) (o o':CO) (ha:PE X a (tM X Ua ra)) (hb:PE X b (tM X Ub rb)) (hc:PE X c (tM X Uc rc)) (hn:eG c=true) :
  PE X (.Compare a [oY o,oY o'] [b,c] pos) (tM X (Ua++(Ub++Uc)) fun ρ=>do let x ← ra ρ;let y ← rb ρ;let r ← bF o x y;if r then do let z ← rc ρ;let r2 ← bF o' y z;.ok (.bl r2) else .ok (.bl false)) :=
 bB (QL (pZ hu o) (pZ hu o') ha hb hc (JX hn)) fun σ H Q h=>FN o o' h
theorem Ug (hu:X.A.units+100 < cLine) (o o':CO) (ha:PE X a (tM X Ua ra)) (hb:PE X b (tM X Ub rb)) (hc:PE X c (tM X Uc rc)) (hn:eG c=true) :
  PT X (.Compare a [oY o,oY o'] [b,c] pos) (tMT X (Ua++(Ub++Uc)) fun ρ=>do let x ← ra ρ;let y ← rb ρ;let r ← bF o x y;if r then do let z ← rc ρ;let r2 ← bF o' y z;.ok (.bl r2) else .ok (.bl false)) :=
 Aw (Tr (pZ hu o) (pZ hu o') ha hb hc (JX hn)) fun σ H Q h=>FN o o' (Bv h)
theorem XF (ha:PE X a (tM X Ua ra)):PE X (.UnaryOp .Not a pos) (tM X Ua fun ρ=>do let x ← ra ρ;let t ← bH x;.ok (.bl (!t))) :=
 bB (Za ha) fun σ H Q=>by
  rintro ⟨ρ,Hs,z,hs,hv,h,k⟩
  obtain ⟨x,hx,h⟩:=aj h
  obtain ⟨t,ht,h⟩:=aj h
  cases h
  cases x <;> simp only [bH] at ht <;> try (cases ht;done)
  cases ht
  exact ⟨ρ,Hs,_,hs,hv,hx,fun v H1 Hs1 g1 r1=>⟨t,mH.mp r1,(k.grow g1).bl g1.sub⟩⟩
theorem cR {d:D}{t:Bool} (h:bH d=.ok t):d=.bl t:=by
 cases d <;> simp only [bH] at h <;> first | (cases h;rfl) | cases h
theorem Zm (ha:PT X a (tMT X Ua ra)):PT X (.UnaryOp .Not a pos) (tMT X Ua fun ρ=>do let x ← ra ρ;let t ← bH x;.ok (.bl (!t))) :=
 Aw (O8 ha) fun σ H Q=>by
  rintro ⟨ρ,Hs,z,hs,hv,h,k⟩
  obtain ⟨x,hx,h1⟩:=aj h
  obtain ⟨t,ht,h2⟩:=aj h1
  clear h h1
  cases cR ht
  cases h2
  exact ⟨ρ,Hs,t,hs,hv,hx,k⟩
theorem Xi (ha:PE X a (tM X Ua ra)):PE X (.UnaryOp .USub a pos) (tM X Ua fun ρ=>do let x ← ra ρ;(match x with | .int i=>.ok (.int (-i)) | _=>.stuck)) :=
 bB (Z5 Ye ha) fun σ H Q=>by
  rintro ⟨ρ,Hs,z,hs,hv,h,k⟩
  obtain ⟨x,hx,h⟩:=aj h
  cases x <;> simp only at h <;> try (cases h;done)
  cases h
  exact ⟨ρ,Hs,_,hs,hv,hx,fun v H1 Hs1 g1 r1=>⟨_,aN.mp r1,(k.grow g1).int g1.sub⟩⟩
theorem Xb (hc:PT X c (tMT X Uc rc)) (ha:PE X a (tM X Ua ra)) (hb:PE X b (tM X Ub rb)):PE X (.IfExp c a b pos) (tM X (Uc++(Ua++Ub)) fun ρ=>do let x ← rc ρ;let t ← bH x;if t then ra ρ else rb ρ) :=
 bB (RZ hc ha hb) fun σ H Q=>by
  rintro ⟨ρ,Hs,z,hs,hv,h,k⟩
  obtain ⟨x,hx,h1⟩:=aj h
  obtain ⟨t,ht,h2⟩:=aj h1
  clear h h1
  cases cR ht
  have h:=h2
  refine ⟨ρ,Hs,t,hs,hv.l,hx,fun H1 Hs1 g1=>?_⟩
  cases t with
  | false=>rw [if_neg (by decide)];rw [if_neg (by decide)] at h;exact ⟨ρ,Hs1,z,g1.sub,hv.r.r.mono (g1.same hs),h,k.grow g1⟩
  | true=>rw [if_pos rfl];rw [if_pos rfl] at h;exact ⟨ρ,Hs1,z,g1.sub,hv.r.l.mono (g1.same hs),h,k.grow g1⟩
theorem Zb (hc:PT X c (tMT X Uc rc)) (ha:PT X a (tMT X Ua ra)) (hb:PT X b (tMT X Ub rb)):PT X (.IfExp c a b pos) (tMT X (Uc++(Ua++Ub)) fun ρ=>do let x ← rc ρ;let t ← bH x;if t then ra ρ else rb ρ):=by
 intro pins s σ H Q I h
 obtain ⟨ρ,Hs,z,hs,hv,h,k⟩:=h
 obtain ⟨x,hx,h1⟩:=aj h
 obtain ⟨t,ht,h2⟩:=aj h1
 clear h h1
 cases cR ht
 have h:=h2
 refine isTrue_IfExp (thn (hc pins s σ H (fun b H1=>b=t∧∃ Hs1,Grow H Hs H1 Hs1) I ⟨ρ,Hs,t,hs,hv.l,hx,fun H1 Hs1 g1=>⟨rfl,Hs1,g1⟩⟩) fun b' s1 ⟨H1,I1,e,Hs1,g1⟩=>?_)
 subst e
 cases b' with
 | false=>rw [if_neg (by decide)];rw [if_neg (by decide)] at h;exact hb pins s1 σ H1 Q I1 ⟨ρ,Hs1,z,g1.sub,hv.r.r.mono (g1.same hs),h,fun H' Hs' g=>k H' Hs' (g1.trans g)⟩
 | true=>rw [if_pos rfl];rw [if_pos rfl] at h;exact ha pins s1 σ H1 Q I1 ⟨ρ,Hs1,z,g1.sub,hv.r.l.mono (g1.same hs),h,fun H' Hs' g=>k H' Hs' (g1.trans g)⟩
theorem Rh (h:iD b=true):JG b:=by
 intro o i
 cases b <;> first | rfl | cases h
theorem Z1 (hu:X.A.units+100 < cLine) (ha:PE X a (tM X Ua ra)) (hb:PE X b (tM X Ub rb)) (hp:iD b=true):PE X (.Subscript a b pos) (tM X (Ua++Ub) fun ρ=>do let x ← ra ρ;let y ← rb ρ;ixD x y) :=
 bB (Z8 (aaz hu) ha hb (Rh hp)) fun σ H Q h=>Em Yo h
theorem WD {x:Str}{p ap cp:Pos}{i:Nat}{e f:Expr}{Ue Uf:List Nat}{re rf:En→R D} (hu:X.A.units+100 < cLine) (hN:X.N[i]?=some x) (hv:Vis X.env.scope x) (ho:aK x=true) (he:PE X e (tM X Ue re)) (hf:PE X f (tM X Uf rf)) (n1:noStar e=true) (n2:noStar f=true) (hl:(ap.endLine == cp.line)=true) :
  PE X (.Call (.Attribute (.Name x p) "get" ap) [e, f] [] cp) (tM X ([i] ++ (Ue ++ Uf)) fun ρ => do let x ← cN ρ i; let y ← re ρ; let z ← rf ρ; tU x y z):=by
 have hx:PE X (.Name x p) (tM X [i] fun ρ=>cN ρ i):=Oo hN hv ho
 refine bB (R4 hu hx he hf ⟨rfl,by rw [aB n1,aB n2];rfl,hl,by rw [aB n1,aB n2];rfl⟩) fun σ H Q=>?_
 rintro ⟨ρ,Hs,z,hs,hv,h,k⟩
 obtain ⟨dx,hdx,h⟩:=aj h
 obtain ⟨dy,hdy,h⟩:=aj h
 obtain ⟨dz,hdz,h⟩:=aj h
 cases dx <;> try (cases h;done)
 rename_i ks vs
 obtain ⟨hk,h⟩:=bN h
 cases h
 refine ⟨ρ,Hs,_,hs,hv.l,hdx,fun v H1 Hs1 g1 r1=>?_⟩
 obtain ⟨a,xs,ys,rfl,ha,e1,e2,r2,r3⟩:=rP.mp r1
 subst e1
 refine ⟨a,_,xs,ys,rfl,⟨g1.sub _ _ ha,rfl,e2,r2.mono g1.sub⟩,ρ,Hs1,dy,g1.sub,hv.r.l.mono (g1.same hs),hdy,fun u H2 Hs2 g2 q2=>?_⟩
 refine ⟨ρ,Hs2,dz,g2.sub,hv.r.r.mono ((g1.trans g2).same hs),hdz,fun w H3 Hs3 g3 q3=>?_⟩
 have m:=(g2.trans g3).same g1.sub
 have m3:=m.trans g3.sub
 refine ⟨dy,_,xs,ys,(q2.mono (g3.same g2.sub)).mono g3.sub,hk,⟨m3 _ _ ha,rfl,e2,r2.mono m3⟩,?_⟩
 rcases gets (k:=dy) (xs:=xs) (r3.mono m) with ⟨z',v,j1,j2,j3⟩ | ⟨j1,j2⟩
 ·rw [j2,Option.getD_some]
  rw [j1,Option.getD_some] at k
  exact (k.grow ((g1.trans g2).trans g3)).here g3.sub j3
 ·rw [j2,Option.getD_none]
  rw [j1,Option.getD_none] at k
  exact (k.grow ((g1.trans g2).trans g3)).here g3.sub q3
noncomputable def tPo (X:Cx) (U:List Nat) (r:En→R (Option Int)):TO:=fun σ H Q=>∃ ρ Hs o,Same Hs H∧Vs (gOf X) ρ σ Hs U∧r ρ=.ok o∧∀ H' Hs',Grow H Hs H' Hs'→Q o H'
theorem O9 {X:Cx}{e:Option Expr}{t t':TO} (h:PO X e t) (i:∀ σ H Q,t' σ H Q→t σ H Q):PO X e t':=fun pins s σ H Q I hq=>h pins s σ H Q I (i σ H Q hq)
theorem aaC:PO X none (tPo X U fun _=>.ok none):=O9 Vz fun σ H Q=>by
 rintro ⟨ρ,Hs,z,hs,hv,h,k⟩
 cases h
 exact k H Hs (Grow.refl hs)
theorem aaw (ha:PE X a (tM X U ra)):PO X (some a) (tPo X U fun ρ=>do let d ← ra ρ;lA d):=O9 (V9 ha) fun σ H Q=>by
 rintro ⟨ρ,Hs,z,hs,hv,h,k⟩
 obtain ⟨x,hx,h⟩:=aj h
 cases x <;> simp only [lA] at h <;> try (cases h;done)
 cases h
 exact ⟨ρ,Hs,_,hs,hv,hx,fun v H1 Hs1 g1 r1=>⟨_,aN.mp r1,k H1 Hs1 g1⟩⟩
theorem WY {lo hi:Option Expr}{rl rh:En→R (Option Int)}{p2:Pos} (ha:PE X a (tM X Ua ra)) (hl:PO X lo (tPo X Ub rl)) (hh:PO X hi (tPo X Uc rh)) :
  PE X (.Subscript a (.Slice lo hi none p2) pos) (tM X (Ua++(Ub++Uc)) fun ρ=>do let x ← ra ρ;let l ← rl ρ;let h ← rh ρ;slD x l h) :=
 bB (Ri aaA ha hl hh) fun σ H Q=>by
  rintro ⟨ρ,Hs,z,hs,hv,h,k⟩
  obtain ⟨x,hx,h⟩:=aj h
  obtain ⟨l,h1,h⟩:=aj h
  obtain ⟨u,h2,h⟩:=aj h
  refine ⟨ρ,Hs,x,hs,hv.l,hx,fun v H1 Hs1 g1 r1=>?_⟩
  refine ⟨ρ,Hs1,l,g1.sub,hv.r.l.mono (g1.same hs),h1,fun H2 Hs2 g2=>?_⟩
  refine ⟨ρ,Hs2,u,g2.sub,hv.r.r.mono ((g1.trans g2).same hs),h2,fun H3 Hs3 g3=>?_⟩
  exact Q6 g3.sub (r1.mono ((g2.trans g3).same g1.sub)) h (k.grow ((g1.trans g2).trans g3))
theorem Ru (ha:PE X a (tM X Ua ra)) (he:∀ whole,isTrue a X.env whole=(do let v ← whole;standAt a.pos;holding [v] (truthy v))):PT X a (tMT X Ua ra) :=
 Aw (Qz ha he) fun σ H Q h=>Bv h
theorem Vh {T:Tx}{cl:Nat→List D→R D}{f:Nat}{x:Str}{p:Pos} (C:Cok T cl X) (hg:Gl X x) (ho:aK x=true) (hF:T.F[f]?=some x) (ha:PA X (e::es) (tMs X U rs)) (hn:(e::es).all noStar=true) :
  PE X (.Call (.Name x p) (e::es) [] pos) (tM X U fun ρ=>do let ds ← rs ρ;cl f ds):=by
 unfold aK at ho
 simp only [Bool.and_eq_true,Bool.not_eq_true',List.all_cons] at ho hn
 obtain ⟨k,a,fd,ps,F,_,hr,hm,hk,hb,hlen,_⟩:=C.fns f x hF
 refine bB (Bj F hr hg hm hk hb .nil Ej ha ho.1.1 (aB hn.1) (dR hn.2)) fun σ H Q=>?_
 rintro ⟨ρ,Hs,z,hs,hv,h,k⟩
 obtain ⟨ds,hd,h⟩:=aj h
 refine ⟨ρ,Hs,ds,hs,hv,hd,fun vs H1 Hs1 g1 r1=>?_⟩
 show spD (gOf X) (cl f) ps.length (vs++[]) H1 Q E0
 rw [List.append_nil]
 exact ⟨ds,Hs1,z,by rw [← r1.length];exact hlen ds z h,g1.sub,r1,h,fun v H2 Hs2 g2 r2=>k v H2 Hs2 (g1.trans g2) r2⟩
theorem RQ {T:Tx}{cl:Nat→List D→R D}{f:Nat}{x:Str}{p:Pos} (C:Cok T cl X) (hg:Gl X x) (ho:aK x=true) (hF:T.F[f]?=some x) :
  PE X (.Call (.Name x p) [] [] pos) (tM X [] fun ρ=>cl f []):=by
 unfold aK at ho
 simp only [Bool.and_eq_true,Bool.not_eq_true'] at ho
 obtain ⟨k,a,fd,ps,F,_,hr,hm,hk,hb,hlen,_⟩:=C.fns f x hF
 refine bB (Uj F hr hg hm hk hb .nil Ej ho.1.1) fun σ H Q=>?_
 rintro ⟨ρ,Hs,z,hs,hv,h,k⟩
 exact ⟨[],Hs,z,hlen [] z h,hs,Rps.nil,h,fun v H2 Hs2 g2 r2=>k v H2 Hs2 g2 r2⟩
noncomputable def BW:BI→Bool
 | .listEnum=>false | .listRev=>false | _=>true
noncomputable def RX (X:Cx):BI→List V→Hp→VK→Prop
 | .len=>fun xs H Q=>∃ p ys,xs=[.ref p]∧(SqL X.K H p ys∨SqT X.K H p ys)∧Q (.int ys.length) H
 | .min2=>fun xs H Q=>∃ i j,xs=[.int i,.int j]∧Q (.int (if j < i then j else i)) H
 | .max2=>fun xs H Q=>∃ i j,xs=[.int i,.int j]∧Q (.int (if j > i then j else i)) H
 | .all=>XM X
 | .any=>Xl X
 | .sorted=>J9 X
 | .list=>fun xs H Q=>∃ p ys,xs=[.ref p]∧(SqL X.K H p ys∨SqT X.K H p ys)∧∀ l,H l=none→Q (.ref l) (upd H l (.lst ys))
 | .tuple=>fun xs H Q=>∃ p ys,xs=[.ref p]∧((SqL X.K H p ys∧∀ l,H l=none→Q (.ref l) (upd H l (.tup ys)))∨(SqT X.K H p ys∧Q (.ref p) H))
 | .listEnum=>fun _ _ _=>False
 | .listRev=>fun _ _ _=>False
theorem xZ {g:G}{Hs:Hp}:∀ {ds:List D}{xs:List V}{bs:List Bool},Rps g Hs ds xs→boolsOf ds=some bs→xs=bs.map V.bl
 | [],xs,bs,r,h=>by
  simp only [boolsOf] at h
  cases h
  exact r.nil_inv
 | d::ds,xs,bs,r,h=>by
  obtain ⟨v,ws,rfl,r1,r2⟩:=r.cons_inv
  cases d <;> simp only [boolsOf] at h <;> try (cases h;done)
  cases e:boolsOf ds with
  | none=>rw [e] at h;cases h
  | some cs =>
   rw [e] at h
   cases h
   rw [xZ r2 e,mH.mp r1];rfl
theorem Tw {es:List D} (e:boolsOf es=none):fQ .all [.lst es]=.stuck:=by
 show (match boolsOf es with | some bs=>R.ok (D.bl (bs.all id)) | none=>.stuck)=_
 rw [e]
theorem Ge {es:List D}{bs:List Bool} (e:boolsOf es=some bs):fQ .all [.lst es]=.ok (.bl (bs.all id)):=by
 show (match boolsOf es with | some bs=>R.ok (D.bl (bs.all id)) | none=>.stuck)=_
 rw [e]
theorem Ui {es:List D} (e:boolsOf es=none):fQ .any [.lst es]=.stuck:=by
 show (match boolsOf es with | some bs=>R.ok (D.bl (bs.any id)) | none=>.stuck)=_
 rw [e]
theorem Gu {es:List D}{bs:List Bool} (e:boolsOf es=some bs):fQ .any [.lst es]=.ok (.bl (bs.any id)):=by
 show (match boolsOf es with | some bs=>R.ok (D.bl (bs.any id)) | none=>.stuck)=_
 rw [e]
theorem RJ (b:BI) {ds:List D}{vs:List V}{z:D} (hs:Same Hs H) (r:Rps (gOf X) Hs ds vs) (h:fQ b ds=.ok z) (k:XD X H Hs Q z) (hb:BW b=true):RX X b vs H Q:=by
 have one:∀ {d:D},Rps (gOf X) Hs [d] vs→∃ v,vs=[v]∧Rp (gOf X) Hs d v:=fun r=>by
  obtain ⟨v,ws,rfl,r1,r2⟩:=r.cons_inv
  cases r2.nil_inv
  exact ⟨v,rfl,r1⟩
 have two:∀ {d e:D},Rps (gOf X) Hs [d,e] vs→∃ v w,vs=[v,w]∧Rp (gOf X) Hs d v∧Rp (gOf X) Hs e w:=fun r=>by
  obtain ⟨v,ws,rfl,r1,r2⟩:=r.cons_inv
  obtain ⟨w,ws,rfl,r3,r4⟩:=r2.cons_inv
  cases r4.nil_inv
  exact ⟨v,w,rfl,r1,r3⟩
 rcases ds with _ | ⟨d,_ | ⟨e,_ | ⟨f,fs⟩⟩⟩
 ·cases b <;> cases h
 ·obtain ⟨v,rfl,r1⟩:=one r
  cases b
  case listEnum=>cases hb
  case listRev=>cases hb
  all_goals dsimp only [RX]
  case min2=>cases d <;> cases h
  case max2=>cases d <;> cases h
  case len =>
   cases d <;> try (cases h;done)
   ·obtain ⟨a,xs,rfl,s1,r2⟩:=cG.mp r1
    cases h
    exact ⟨a,xs,rfl,.inr (aL hs s1),by rw [← r2.length];exact k.int hs⟩
   ·obtain ⟨a,xs,rfl,s1,r2⟩:=cB.mp r1
    cases h
    exact ⟨a,xs,rfl,.inl (aO hs s1),by rw [← r2.length];exact k.int hs⟩
  case all =>
   cases d <;> try (cases h;done)
   rename_i es
   cases e:boolsOf es with
   | none=>rw [Tw e] at h;cases h
   | some bs =>
    rw [Ge e] at h
    cases h
    obtain ⟨a,xs,rfl,s1,r2⟩:=cB.mp r1
    cases xZ r2 e
    exact ⟨a,bs,rfl,aO hs s1,k.bl hs⟩
  case any =>
   cases d <;> try (cases h;done)
   rename_i es
   cases e:boolsOf es with
   | none=>rw [Ui e] at h;cases h
   | some bs =>
    rw [Gu e] at h
    cases h
    obtain ⟨a,xs,rfl,s1,r2⟩:=cB.mp r1
    cases xZ r2 e
    exact ⟨a,bs,rfl,aO hs s1,k.bl hs⟩
  case sorted =>
   obtain ⟨es,he,h1⟩:=aj (show (Eo d >>= fun ds=>if rM ds then R.ok (.lst (mJ ds)) else .stuck)=.ok z from h)
   clear h
   obtain ⟨hs1,h2⟩:=bN h1
   clear h1
   cases h2
   cases d <;> simp only [Eo] at he <;> try (cases he;done)
   ·cases he
    obtain ⟨a,xs,rfl,s1,r2⟩:=cG.mp r1
    exact ⟨a,es,xs,rfl,⟨r2.mono hs,.inr (.inl (aL hs s1))⟩,sV hs1,fun S ys hS rS=>k.newL hs (rS Hs r2) S hS⟩
   ·cases he
    obtain ⟨a,xs,rfl,s1,r2⟩:=cB.mp r1
    exact ⟨a,es,xs,rfl,⟨r2.mono hs,.inl (aO hs s1)⟩,sV hs1,fun S ys hS rS=>k.newL hs (rS Hs r2) S hS⟩
   ·cases he
    obtain ⟨a,xs,ys0,rfl,ha,e1,e2,r2,r3⟩:=rP.mp r1
    exact ⟨a,_,_,rfl,⟨r2.mono hs,.inr (.inr ⟨xs,ys0,⟨hs _ _ ha,e1,e2,r2.mono hs⟩,rfl⟩)⟩,sV hs1,fun S ys hS rS=>k.newL hs (rS Hs r2) S hS⟩
  case list =>
   cases d <;> try (cases h;done)
   ·cases h
    obtain ⟨a,xs,rfl,s1,r2⟩:=cG.mp r1
    exact ⟨a,xs,rfl,.inr (aL hs s1),k.newL hs r2⟩
   ·cases h
    obtain ⟨a,xs,rfl,s1,r2⟩:=cB.mp r1
    exact ⟨a,xs,rfl,.inl (aO hs s1),k.newL hs r2⟩
  case tuple =>
   cases d <;> try (cases h;done)
   ·cases h
    obtain ⟨a,xs,rfl,s1,r2⟩:=cG.mp r1
    exact ⟨a,xs,rfl,.inr ⟨aL hs s1,k.here hs r1⟩⟩
   ·cases h
    obtain ⟨a,xs,rfl,s1,r2⟩:=cB.mp r1
    exact ⟨a,xs,rfl,.inl ⟨aO hs s1,k.newT hs r2⟩⟩
 ·obtain ⟨v,w,rfl,r1,r2⟩:=two r
  cases b
  case listEnum=>cases hb
  case listRev=>cases hb
  case min2 =>
   cases d <;> cases e <;> try (cases h;done)
   cases h
   cases aN.mp r1
   cases aN.mp r2
   exact ⟨_,_,rfl,k.int hs⟩
  case max2 =>
   cases d <;> cases e <;> try (cases h;done)
   cases h
   cases aN.mp r1
   cases aN.mp r2
   exact ⟨_,_,rfl,k.int hs⟩
  all_goals (first | (cases h;done) | (cases d <;> cases h))
 ·have e0:fQ b (d::e::f::fs)=.stuck:=by cases b <;> first | rfl | (cases d <;> first | rfl | (cases e <;> rfl))
  rw [e0] at h
  cases h
theorem boot_max : bootBuiltins "max" = some (.builtin "max"):=by decide +kernel
theorem Ou : bootBuiltins "any" = some (.builtin "any"):=by decide +kernel
theorem xV : bootBuiltins "tuple" = some (.type "tuple"):=by decide +kernel
theorem sX : bootBuiltins "list" = some (.type "list"):=by decide +kernel
theorem Zk {T:Tx}{cl:Nat→List D→R D} (b:BI) {x:Str}{p:Pos} (C:Cok T cl X) (hx:x=Pq b) (hg:Gl X x) (ha:PA X (e::es) (tMs X U rs)) (hn:(e::es).all noStar=true) (hb:BW b=true) :
  PE X (.Call (.Name x p) (e::es) [] pos) (tM X U fun ρ=>do let ds ← rs ρ;fQ b ds):=by
 simp only [List.all_cons,Bool.and_eq_true] at hn
 have key:PE X (.Call (.Name x p) (e::es) [] pos) (tCB (RX X b) (tMs X U rs)):=by
  subst hx
  cases b
  case listEnum=>cases hb
  case listRev=>cases hb
  case len=>exact jo G8 hg (C.blt _ (by decide +kernel)) PySem.boot_len ha (by decide +kernel) (by decide +kernel) (aB hn.1) (dR hn.2)
  case min2=>exact jo (Oh C.calm) hg (C.blt _ (by decide +kernel)) boot_min ha (by decide +kernel) (by decide +kernel) (aB hn.1) (dR hn.2)
  case max2=>exact jo (Ql C.calm) hg (C.blt _ (by decide +kernel)) boot_max ha (by decide +kernel) (by decide +kernel) (aB hn.1) (dR hn.2)
  case all=>exact jo (OJ C.calm) hg (C.blt _ (by decide +kernel)) boot_all ha (by decide +kernel) (by decide +kernel) (aB hn.1) (dR hn.2)
  case any=>exact jo (M4 C.calm) hg (C.blt _ (by decide +kernel)) Ou ha (by decide +kernel) (by decide +kernel) (aB hn.1) (dR hn.2)
  case sorted=>exact jo (Gs C.calm C.un) hg (C.blt _ (by decide +kernel)) boot_sorted ha (by decide +kernel) (by decide +kernel) (aB hn.1) (dR hn.2)
  case list=>exact ux uZ hg (C.blt _ (by decide +kernel)) sX ha (by decide +kernel) (by decide +kernel) (aB hn.1) (dR hn.2)
  case tuple=>exact ux DG hg (C.blt _ (by decide +kernel)) xV ha (by decide +kernel) (by decide +kernel) (aB hn.1) (dR hn.2)
 refine bB key fun σ H Q=>?_
 rintro ⟨ρ,Hs,z,hs,hv,h,k⟩
 obtain ⟨ds,hd,h⟩:=aj h
 exact ⟨ρ,Hs,ds,hs,hv,hd,fun vs H1 Hs1 g1 r1=>RJ b g1.sub r1 h (k.grow g1) hb⟩
end
end Mi
namespace Mi
open PySem L2
open PyProof.Rows hiding St
section
variable {X:Cx}{σ:St}{H Hs:Hp}{Q:VK}{U Ua Ub Uc:List Nat}{r ra rb rc:En→R D}{e a:Expr}{es:List Expr}{rs:En→R (List D)}{pos:Pos}{T:Tx}{cl:Nat→List D→R D}
theorem j4 {g:G}{d:D}{vs:List V} (r:Rps g Hs [d] vs):∃ v,vs=[v]∧Rp g Hs d v:=by
 obtain ⟨v,ws,rfl,r1,r2⟩:=r.cons_inv
 cases r2.nil_inv
 exact ⟨v,rfl,r1⟩
theorem vH {g:G}{d e:D}{vs:List V} (r:Rps g Hs [d,e] vs):∃ v w,vs=[v,w]∧Rp g Hs d v∧Rp g Hs e w:=by
 obtain ⟨v,ws,rfl,r1,r2⟩:=r.cons_inv
 obtain ⟨w,ws,rfl,r3,r4⟩:=r2.cons_inv
 cases r4.nil_inv
 exact ⟨v,w,rfl,r1,r3⟩
theorem P0 : bootBuiltins "int" = some (.type "int"):=by decide +kernel
theorem Mt : bootBuiltins "bool" = some (.type "bool"):=by decide +kernel
theorem Nb : bootBuiltins "str" = some (.type "str"):=by decide +kernel
theorem aae {p:Pos} (C:Cok T cl X) (t:Ty) (hg:Gl X t.nm):PE X (.Name t.nm p) (tC (.ty t.name)):=by
 cases t
 ·exact rF hg (C.blt _ (by decide +kernel)) P0 rfl (by decide +kernel) (by decide +kernel)
 ·exact rF hg (C.blt _ (by decide +kernel)) Mt rfl (by decide +kernel) (by decide +kernel)
 ·exact rF hg (C.blt _ (by decide +kernel)) Nb rfl (by decide +kernel) (by decide +kernel)
 ·exact rF hg (C.blt _ (by decide +kernel)) xV rfl (by decide +kernel) (by decide +kernel)
 ·exact rF hg (C.blt _ (by decide +kernel)) sX rfl (by decide +kernel) (by decide +kernel)
theorem Wt {p p2 : Pos} (C : Cok T cl X) (t : Ty) (hg : Gl X "isinstance") (hg2 : Gl X t.nm) (ha : PE X a (tM X U ra)) (hn : noStar a = true) :
  PE X (.Call (.Name "isinstance" p) [a, .Name t.nm p2] [] pos) (tM X U fun ρ => do let x ← ra ρ; .ok (.bl (jJ x t))):=by
 refine bB (jo O7 hg (C.blt _ (by decide +kernel)) boot_isinstance (fW ha (fW (aae C t hg2) lJ (aB rfl)) (aB hn)) (by decide +kernel) (by decide +kernel) (aB hn) rfl) fun σ H Q=>?_
 rintro ⟨ρ,Hs,z,hs,hv,h,k⟩
 obtain ⟨x,hx,h1⟩:=aj h
 clear h
 cases h1
 exact ⟨ρ,Hs,x,hs,hv,hx,fun v H1 Hs1 g1 r1=>⟨x,v,t,rfl,r1.mono g1.sub,(k.grow g1).bl g1.sub⟩⟩
theorem Df {g:G}{Hs1 Hs':Hp} (m:Same Hs1 Hs'):∀ (n:Nat) {ds:List D}{xs:List V}{ps:List Addr},Rps g Hs1 ds xs→ps.length=xs.length →
  (∀ (j:Nat) p x,ps[j]?=some p→xs[j]?=some x→Hs' p=some (.tup [.int ((n+j:Nat):Int),x]))→Rps g Hs' (aZ n ds) (ps.map V.ref)
 | n,[],xs,ps,r,hl,h=>by
  cases r.nil_inv
  cases ps with
  | nil=>exact Rps.nil
  | cons _ _=>simp at hl
 | n,d::ds,xs,ps,r,hl,h=>by
  obtain ⟨v,ws,rfl,r1,r2⟩:=r.cons_inv
  cases ps with
  | nil=>simp at hl
  | cons p ps =>
   have h0:=h 0 p v rfl rfl
   refine Rps.cons (cG.mpr ⟨p,_,rfl,SqT.of h0,Rps.cons (aN.mpr (by simp)) (Rps.one (r1.mono m))⟩) (Df m (n+1) r2 (by simpa using hl) fun j q x e1 e2=>?_)
   have:=h (j+1) q x (by simpa using e1) (by simpa using e2)
   rw [this,show n+(j+1)=n+1+j by omega]
theorem IW {p p2 pos2 : Pos} (C : Cok T cl X) (hg : Gl X "enumerate") (hg2 : Gl X "list") (ha : PA X [a] (tMs X U rs)) (hn : noStar a = true) :
  PE X (.Call (.Name "list" p) [.Call (.Name "enumerate" p2) [a] [] pos2] [] pos) (tM X U fun ρ => do let ds ← rs ρ; fQ .listEnum ds):=by
 refine bB (Jw C.calm hg (C.blt _ (by decide +kernel)) hg2 (C.blt _ (by decide +kernel)) ha (aB hn)) fun σ H Q=>?_
 rintro ⟨ρ,Hs,z,hs,hv,h,k⟩
 obtain ⟨ds,hd,h1⟩:=aj h
 clear h
 refine ⟨ρ,Hs,ds,hs,hv,hd,fun vs H1 Hs1 g1 r1=>?_⟩
 rcases ds with _ | ⟨d,_ | ⟨d2,ds⟩⟩
 ·cases h1
 ·cases d <;> try (cases h1;done)
  cases h1
  obtain ⟨v,rfl,r2⟩:=j4 r1
  obtain ⟨b,xs,rfl,s1,r3⟩:=cG.mp r2
  refine ⟨b,xs,rfl,aL g1.sub s1,fun S H' ps hS hps kp hH' hl ht=>?_⟩
  classical
  let Hs':Hp:=fun b=>if b=S∨b∈ps then H' b else Hs1 b
  have old:∀ c o,H1 c=some o→Hs' c=Hs1 c:=fun c o q=>by
   have:¬ (c=S∨c∈ps):=by
    rintro (rfl | z)
    ·rw [hS] at q;cases q
    ·rw [hps c z] at q;cases q
   show (if c=S∨c∈ps then H' c else Hs1 c)=_
   rw [if_neg this]
  have g2:Grow H1 Hs1 H' Hs':=⟨kp,old,fun c o q=>by
   by_cases z:c=S∨c∈ps
   ·have e:Hs' c=H' c:=if_pos z
    rw [e] at q;exact q
   ·have e:Hs' c=Hs1 c:=if_neg z
    rw [e] at q;exact kp c o (g1.sub c o q)⟩
  have eS:Hs' S=some (.lst (ps.map V.ref)):=by
   have e:Hs' S=H' S:=if_pos (.inl rfl)
   rw [e];exact hH'
  refine k _ _ _ (g1.trans g2) (cB.mpr ⟨S,_,rfl,SqL.of eS,Df (g2.same g1.sub) 0 r3 hl fun j p x e1 e2=>?_⟩)
  have hp:p∈ps:=List.mem_of_getElem? e1
  have e:Hs' p=H' p:=if_pos (.inr hp)
  rw [e,ht j p x e1 e2];simp
 ·cases d <;> cases h1
theorem Rps.reverse {g:G}{H:Hp}:∀ {ds:List D}{vs:List V},Rps g H ds vs→Rps g H ds.reverse vs.reverse
 | [],vs,r=>by cases r.nil_inv;exact Rps.nil
 | d::ds,vs,r=>by
  obtain ⟨v,ws,rfl,r0,rs⟩:=r.cons_inv
  rw [List.reverse_cons,List.reverse_cons]
  exact (Rps.reverse rs).append (Rps.one r0)
theorem Lr {T : Tx} {cl : Nat → List D → R D} {p p2 pos2 : Pos} (C : Cok T cl X) (hg : Gl X "reversed") (hgl : Gl X "list") (ha : PA X [a] (tMs X U rs)) (hn : noStar a = true) :
  PE X (.Call (.Name "list" p) [.Call (.Name "reversed" p2) [a] [] pos2] [] pos) (tM X U fun ρ => do let ds ← rs ρ; fQ .listRev ds):=by
 refine bB (Lw C.calm hg (C.blt _ (by decide +kernel)) hgl (C.blt _ (by decide +kernel)) ha (aB hn)) fun σ H Q=>?_
 rintro ⟨ρ,Hs,z,hs,hv,h,k⟩
 obtain ⟨ds,hd,h1⟩:=aj h
 refine ⟨ρ,Hs,ds,hs,hv,hd,fun vs H1 Hs1 g1 r1=>?_⟩
 rcases ds with _ | ⟨d,_ | ⟨d2,ds⟩⟩
 ·cases h1
 ·obtain ⟨v,rfl,r2⟩:=j4 r1
  cases d <;> try (cases h1;done)
  cases h1
  obtain ⟨b,zs,rfl,s1,r3⟩:=cB.mp r2
  exact ⟨b,zs,rfl,aO g1.sub s1,(k.grow g1).newL g1.sub r3.reverse⟩
 ·cases d <;> cases h1
structure Src (g:G) (J:It) (Hs:Hp) (ds:List D):Prop where
 go:∀ i H,Same Hs H→i < ds.length→J.go i H
 yld:∀ i H x H' Hs1 d,Same Hs Hs1→Same Hs1 H→ds[i]?=some d→J.yld i H x H'→∃ Hs2,Grow H Hs1 H' Hs2∧Rp g Hs2 d x
 stop:∀ H,Same Hs H→J.stop ds.length H
theorem src_list {a:Addr}{ds:List D}{zs:List V} (h:SqL X.K Hs a zs) (r:Rps (gOf X) Hs ds zs):Src (gOf X) (Itl X.K a) Hs ds where
 go:=fun i H hs hi=>⟨zs,zs[i]'(by rw [← r.length];exact hi),aO hs h,by simp⟩
 yld:=fun i H x H' Hs1 d hs1 hs e ⟨e1,y⟩=>by
  subst e1
  have e2:=y zs (aO (hs1.trans hs) h)
  obtain ⟨v,e3,rv⟩:=r.getD e
  rw [e2] at e3;cases e3
  exact ⟨Hs1,Grow.refl hs,rv.mono hs1⟩
 stop:=fun H hs=>⟨zs,aO hs h,by rw [← r.length];exact Nat.le_refl _⟩
theorem Wk {a:Addr}{ds:List D}{zs:List V} (h:SqT X.K Hs a zs) (r:Rps (gOf X) Hs ds zs):Src (gOf X) (Itt X.K a) Hs ds where
 go:=fun i H hs hi=>⟨zs,zs[i]'(by rw [← r.length];exact hi),aL hs h,by simp⟩
 yld:=fun i H x H' Hs1 d hs1 hs e ⟨e1,y⟩=>by
  subst e1
  have e2:=y zs (aL (hs1.trans hs) h)
  obtain ⟨v,e3,rv⟩:=r.getD e
  rw [e2] at e3;cases e3
  exact ⟨Hs1,Grow.refl hs,rv.mono hs1⟩
 stop:=fun H hs=>⟨zs,aL hs h,by rw [← r.length];exact Nat.le_refl _⟩
theorem Ke {lo:Int}{n:Nat}:Src (gOf X) (Itr lo n) Hs ((List.range n).map fun (k:Nat)=>D.int (lo+(k:Int))) where
 go:=fun i H hs hi=>by show i < n;simpa using hi
 yld:=fun i H x H' Hs1 d hs1 hs e ⟨e1,y⟩=>by
  subst e1 y
  rw [List.getElem?_map] at e
  cases q:(List.range n)[i]? with
  | none=>rw [q] at e;cases e
  | some j =>
   rw [q] at e
   have:j=i:=by
    have:=List.getElem?_eq_some_iff.mp q
    obtain ⟨_,z⟩:=this
    simpa using z.symm
   subst this
   cases e
   exact ⟨Hs1,Grow.refl hs,aN.mpr rfl⟩
 stop:=fun H hs=>by simp [Itr]
theorem yd:∀ {n:Nat}{ds:List D}{i:Nat}{d:D},(aZ n ds)[i]?=some d→∃ y,ds[i]?=some y∧d=.tup [.int ((n+i:Nat):Int),y]
 | n,[],i,d,h=>by simp [aZ] at h
 | n,y::ds,0,d,h=>by simp [aZ] at h;exact ⟨y,rfl,by rw [← h];rfl⟩
 | n,y::ds,i+1,d,h=>by
  simp only [aZ,List.getElem?_cons_succ] at h
  obtain ⟨z,e1,e2⟩:=yd h
  exact ⟨z,by simpa using e1,by rw [e2,show n+1+i=n+(i+1) by omega]⟩
theorem nJ:∀ (n:Nat) (ds:List D),(aZ n ds).length=ds.length
 | _,[]=>rfl
 | n,d::ds=>by simp [aZ,nJ (n+1) ds]
theorem Nm {a:Addr}{ds:List D}{zs:List V} (h:SqT X.K Hs a zs) (r:Rps (gOf X) Hs ds zs):Src (gOf X) (Mw X.K a) Hs (aZ 0 ds) where
 go:=fun i H hs hi=>⟨zs,zs[i]'(by rw [← r.length];rw [nJ] at hi;exact hi),aL hs h,by simp⟩
 yld:=fun i H x H' Hs1 d hs1 hs e ⟨p,y,hp,e1,e2,y2⟩=>by
  subst e1 e2
  have e3:=y2 zs (aL (hs1.trans hs) h)
  obtain ⟨z,e4,e5⟩:=yd e
  obtain ⟨v,e6,rv⟩:=r.getD e4
  rw [e3] at e6;cases e6
  subst e5
  refine ⟨_,Grow.new hs hp,cG.mpr ⟨p,_,rfl,SqT.of aC,Rps.cons (aN.mpr (by simp)) (Rps.one (rv.mono (hs1.trans (oA hs hp))))⟩⟩
 stop:=fun H hs=>⟨zs,aL hs h,by rw [nJ,r.length]⟩
theorem NK {a:Addr}{ds:List D}{zs:List V} (h:SqL X.K Hs a zs) (r:Rps (gOf X) Hs ds zs):Src (gOf X) (KR X.K a) Hs (aZ 0 ds) where
 go:=fun i H hs hi=>⟨zs,zs[i]'(by rw [← r.length];rw [nJ] at hi;exact hi),aO hs h,by simp⟩
 yld:=fun i H x H' Hs1 d hs1 hs e ⟨p,y,hp,e1,e2,y2⟩=>by
  subst e1 e2
  have e3:=y2 zs (aO (hs1.trans hs) h)
  obtain ⟨z,e4,e5⟩:=yd e
  obtain ⟨v,e6,rv⟩:=r.getD e4
  rw [e3] at e6;cases e6
  subst e5
  refine ⟨_,Grow.new hs hp,cG.mpr ⟨p,_,rfl,SqT.of aC,Rps.cons (aN.mpr (by simp)) (Rps.one (rv.mono (hs1.trans (oA hs hp))))⟩⟩
 stop:=fun H hs=>⟨zs,aO hs h,by rw [nJ,r.length]⟩
noncomputable def tI (X:Cx) (U:List Nat) (r:En→R (List D)):TI:=fun σ H R=>∃ ρ Hs ds,Same Hs H∧Vs (gOf X) ρ σ Hs U∧r ρ=.ok ds∧∀ J H' Hs',Grow H Hs H' Hs'→Src (gOf X) J Hs' ds→R J H'
variable {tg iter b:Expr}
theorem Xa (h:PE X iter (tM X U r)):PI X tg iter (tI X U fun ρ=>do let d ← r ρ;itemsOf .seq [d]):=by
 intro pins s σ H R I hq
 obtain ⟨ρ,Hs,ds,hs,hv,h1,k⟩:=hq
 obtain ⟨d,hd,h2⟩:=aj h1
 clear h1
 cases d <;> try (cases h2;done)
 ·cases h2
  refine W2 h pins s σ H R I ⟨ρ,Hs,_,hs,hv,hd,fun v H1 Hs1 g1 r1=>?_⟩
  obtain ⟨a,zs,rfl,s1,r2⟩:=cG.mp r1
  exact ⟨a,rfl,⟨zs,aL g1.sub s1⟩,k _ _ _ g1 (Wk s1 r2)⟩
 ·cases h2
  refine VR h pins s σ H R I ⟨ρ,Hs,_,hs,hv,hd,fun v H1 Hs1 g1 r1=>?_⟩
  obtain ⟨a,zs,rfl,s1,r2⟩:=cB.mp r1
  exact ⟨a,rfl,⟨zs,aO g1.sub s1⟩,k _ _ _ g1 (src_list s1 r2)⟩
theorem KN:(lim:Int) < 2 ^ 62:=by decide
theorem Wl {p : Pos} (C : Cok T cl X) (hg : Gl X "range") (hn : noStar a = true) (ha : PA X [a] (tMs X U rs)) (hl : ∀ ρ ds, rs ρ = .ok ds → ds.length = 1) :
  PI X tg (.Call (.Name "range" p) [a] [] pos) (tI X U fun ρ => do let ds ← rs ρ; itemsOf .rng ds):=by
 intro pins s σ H R I hq
 obtain ⟨ρ,Hs,ds,hs,hv,h1,k⟩:=hq
 obtain ⟨d,hd,h2⟩:=aj h1
 clear h1
 have hlen:=hl ρ d hd
 rcases d with _ | ⟨d,_ | ⟨d2,d3⟩⟩
 ·simp at hlen
 ·cases d <;> try (cases h2;done)
  obtain ⟨c,h3⟩:=bN h2
  cases h3
  refine Qg hg (C.blt _ (by decide +kernel)) ha (aB hn) pins s σ H R I ⟨ρ,Hs,_,hs,hv,hd,fun vs H1 Hs1 g1 r1=>?_⟩
  obtain ⟨v,rfl,r2⟩:=j4 r1
  cases aN.mp r2
  have:=KN
  refine ⟨_,rfl,by omega,by omega,k _ _ _ g1 ?_⟩
  have e:=Ke (X:=X) (Hs:=Hs1) (lo:=0) (n:=Int.toNat ‹Int›)
  simpa using e
 ·simp at hlen
theorem WK {p : Pos} (C : Cok T cl X) (hg : Gl X "range") (hn : noStar a = true) (hn2 : noStar b = true) (ha : PA X [a, b] (tMs X U rs)) (hl : ∀ ρ ds, rs ρ = .ok ds → ds.length = 2) :
  PI X tg (.Call (.Name "range" p) [a, b] [] pos) (tI X U fun ρ => do let ds ← rs ρ; itemsOf .rng ds):=by
 intro pins s σ H R I hq
 obtain ⟨ρ,Hs,ds,hs,hv,h1,k⟩:=hq
 obtain ⟨d,hd,h2⟩:=aj h1
 clear h1
 have hlen:=hl ρ d hd
 rcases d with _ | ⟨d,_ | ⟨d2,_ | ⟨d3,d4⟩⟩⟩
 ·simp at hlen
 ·simp at hlen
 ·cases d <;> cases d2 <;> try (cases h2;done)
  obtain ⟨c,h3⟩:=bN h2
  cases h3
  refine Oa hg (C.blt _ (by decide +kernel)) ha (by rw [aB hn,aB hn2];rfl) (by rw [aB hn2];rfl) pins s σ H R I ⟨ρ,Hs,_,hs,hv,hd,fun vs H1 Hs1 g1 r1=>?_⟩
  obtain ⟨v,w,rfl,r2,r3⟩:=vH r1
  cases aN.mp r2
  cases aN.mp r3
  have:=KN
  exact ⟨_,_,rfl,⟨by omega,by omega,by omega,by omega⟩,k _ _ _ g1 Ke⟩
 ·simp at hlen
theorem VL {p tpos : Pos} {els : List Expr} {x1 : Nat} (C : Cok T cl X) (hg : Gl X "enumerate") (hn : noStar a = true) (ha : PA X [a] (tMs X U rs)) :
  PI X (.Tuple els x1 tpos) (.Call (.Name "enumerate" p) [a] [] pos) (tI X U fun ρ => do let ds ← rs ρ; itemsOf .enum ds):=by
 intro pins s σ H R I hq
 obtain ⟨ρ,Hs,ds,hs,hv,h1,k⟩:=hq
 obtain ⟨d,hd,h2⟩:=aj h1
 clear h1
 rcases d with _ | ⟨d,_ | ⟨d2,d3⟩⟩
 ·cases h2
 ·cases d <;> try (cases h2;done)
  ·cases h2
   refine T8 hg (C.blt _ (by decide +kernel)) ha (aB hn) pins s σ H R I ⟨ρ,Hs,_,hs,hv,hd,fun vs H1 Hs1 g1 r1=>?_⟩
   obtain ⟨v,rfl,r2⟩:=j4 r1
   obtain ⟨a,zs,rfl,s1,r3⟩:=cG.mp r2
   exact ⟨a,zs,rfl,aL g1.sub s1,k _ _ _ g1 (Nm s1 r3)⟩
  ·cases h2
   refine QK hg (C.blt _ (by decide +kernel)) ha (aB hn) pins s σ H R I ⟨ρ,Hs,_,hs,hv,hd,fun vs H1 Hs1 g1 r1=>?_⟩
   obtain ⟨v,rfl,r2⟩:=j4 r1
   obtain ⟨a,zs,rfl,s1,r3⟩:=cB.mp r2
   exact ⟨a,zs,rfl,aO g1.sub s1,k _ _ _ g1 (NK s1 r3)⟩
 ·cases d <;> cases h2
theorem zip_get:∀ {as bs:List D}{i:Nat}{d:D},(pX as bs)[i]?=some d→∃ x y,as[i]?=some x∧bs[i]?=some y∧d=.tup [x,y]
 | [],bs,i,d,h=>by cases bs <;> cases h
 | a::as,[],i,d,h=>by cases h
 | a::as,b::bs,0,d,h=>by cases h;exact ⟨a,b,rfl,rfl,rfl⟩
 | a::as,b::bs,i+1,d,h=>zip_get (as:=as) (bs:=bs) (i:=i) h
theorem Bt:∀ (as bs:List D),(pX as bs).length=min as.length bs.length
 | [],bs=>by cases bs <;> simp [pX]
 | a::as,[]=>by simp [pX]
 | a::as,b::bs=>by
  have:=Bt as bs
  simp only [pX,List.length_cons]
  omega
theorem Ws {a b:Addr}{as bs:List D}{xs ys:List V} (h1:SqT X.K Hs a xs) (h2:SqT X.K Hs b ys) (r1:Rps (gOf X) Hs as xs) (r2:Rps (gOf X) Hs bs ys):Src (gOf X) (Itz X.K a b) Hs (pX as bs) where
 go:=fun i H hs hi=>by
  rw [Bt] at hi
  have l1:=r1.length
  have l2:=r2.length
  exact ⟨xs,ys,xs[i]'(by omega),ys[i]'(by omega),aL hs h1,aL hs h2,by simp,by simp⟩
 yld:=fun i H x H' Hs1 d hs1 hs e ⟨p,u,v,hp,e1,e2,y1,y2⟩=>by
  subst e1 e2
  obtain ⟨d1,d2,g1,g2,rfl⟩:=zip_get e
  obtain ⟨v1,f1,q1⟩:=r1.getD g1
  obtain ⟨v2,f2,q2⟩:=r2.getD g2
  rw [y1 xs (aL (hs1.trans hs) h1)] at f1;cases f1
  rw [y2 ys (aL (hs1.trans hs) h2)] at f2;cases f2
  have m:Same Hs (upd Hs1 p (.tup [u,v])):=hs1.trans (oA hs hp)
  exact ⟨_,Grow.new hs hp,cG.mpr ⟨p,_,rfl,SqT.of aC,Rps.cons (q1.mono m) (Rps.one (q2.mono m))⟩⟩
 stop:=fun H hs=>by
  have l1:=r1.length
  have l2:=r2.length
  refine ⟨xs,ys,aL hs h1,aL hs h2,?_⟩
  rw [Bt,List.getElem?_eq_none_iff,List.getElem?_eq_none_iff]
  omega
theorem Ym {p tpos : Pos} {els : List Expr} {x1 : Nat} (C : Cok T cl X) (hg : Gl X "zip") (hn : noStar a = true) (hn2 : noStar b = true) (ha : PA X [a, b] (tMs X U rs)) :
  PI X (.Tuple els x1 tpos) (.Call (.Name "zip" p) [a, b] [] pos) (tI X U fun ρ => do let ds ← rs ρ; itemsOf .zip ds):=by
 intro pins s σ H R I hq
 obtain ⟨ρ,Hs,ds,hs,hv,h1,k⟩:=hq
 obtain ⟨d,hd,h2⟩:=aj h1
 clear h1
 rcases d with _ | ⟨d,_ | ⟨d2,_ | ⟨d3,d4⟩⟩⟩
 ·cases h2
 ·cases d <;> cases h2
 ·cases d <;> cases d2 <;> try (cases h2;done)
  cases h2
  refine Yg hg (C.blt _ (by decide +kernel)) ha (by rw [aB hn,aB hn2];rfl) (by rw [aB hn2];rfl) pins s σ H R I ⟨ρ,Hs,_,hs,hv,hd,fun vs H1 Hs1 g1 r1=>?_⟩
  obtain ⟨v,w,rfl,r2,r3⟩:=vH r1
  obtain ⟨a1,xs,rfl,s1,q1⟩:=cG.mp r2
  obtain ⟨a2,ys,rfl,s2,q2⟩:=cG.mp r3
  exact ⟨a1,xs,a2,ys,rfl,aL g1.sub s1,aL g1.sub s2,k _ _ _ g1 (Ws s1 s2 q1 q2)⟩
 ·cases d <;> cases d2 <;> cases h2
theorem V2 {a:Addr}{ds:List D}{zs:List V} (h:SqL X.K Hs a zs) (r:Rps (gOf X) Hs ds zs):Src (gOf X) (Itv X.K a zs.length) Hs ds.reverse where
 go:=fun i H hs hi=>by
  have l:=r.length
  rw [List.length_reverse] at hi
  exact ⟨zs,zs[zs.length - 1 - i]'(by omega),aO hs h,by omega,by simp⟩
 yld:=fun i H x H' Hs1 d hs1 hs e ⟨e1,y⟩=>by
  subst e1
  have l:=r.length
  have hi:i < ds.length:=by
   have:=(List.getElem?_eq_some_iff.mp e).1
   rwa [List.length_reverse] at this
  rw [List.getElem?_reverse hi,l] at e
  have e2:=y zs (aO (hs1.trans hs) h)
  obtain ⟨v,e3,rv⟩:=r.getD e
  rw [e2] at e3;cases e3
  exact ⟨Hs1,Grow.refl hs,rv.mono hs1⟩
 stop:=fun H hs=>by
  have l:=r.length
  show ds.reverse.length=zs.length
  rw [List.length_reverse,l]
theorem Yx {p : Pos} (C : Cok T cl X) (hg : Gl X "reversed") (hn : noStar a = true) (ha : PA X [a] (tMs X U rs)) :
  PI X tg (.Call (.Name "reversed" p) [a] [] pos) (tI X U fun ρ => do let ds ← rs ρ; itemsOf .rev ds):=by
 intro pins s σ H R I hq
 obtain ⟨ρ,Hs,ds,hs,hv,h1,k⟩:=hq
 obtain ⟨d,hd,h2⟩:=aj h1
 clear h1
 rcases d with _ | ⟨d,_ | ⟨d2,d3⟩⟩
 ·cases h2
 ·cases d <;> try (cases h2;done)
  cases h2
  refine Yj hg (C.blt _ (by decide +kernel)) ha (aB hn) pins s σ H R I ⟨ρ,Hs,_,hs,hv,hd,fun vs H1 Hs1 g1 r1=>?_⟩
  obtain ⟨v,rfl,r2⟩:=j4 r1
  obtain ⟨a1,zs,rfl,s1,r3⟩:=cB.mp r2
  exact ⟨a1,zs,rfl,aO g1.sub s1,k _ _ _ g1 (V2 s1 r3)⟩
 ·cases d <;> cases h2
theorem Rx {hi:Int}{n:Nat}:Src (gOf X) (Itd hi n) Hs ((List.range n).map fun (k:Nat)=>D.int (hi - (k:Int))) where
 go:=fun i H hs hl=>by show i < n;simpa using hl
 yld:=fun i H x H' Hs1 d hs1 hs e ⟨e1,y⟩=>by
  subst e1 y
  rw [List.getElem?_map] at e
  cases q:(List.range n)[i]? with
  | none=>rw [q] at e;cases e
  | some j =>
   rw [q] at e
   have:j=i:=by
    obtain ⟨_,z⟩:=List.getElem?_eq_some_iff.mp q
    simpa using z.symm
   subst this
   cases e
   exact ⟨Hs1,Grow.refl hs,aN.mpr rfl⟩
 stop:=fun H hs=>by show n≤_;simp
theorem Wc {p : Pos} {c : Expr} (C : Cok T cl X) (hg : Gl X "range") (hn : noStar a = true) (hn2 : noStar b = true) (hn3 : noStar c = true) (ha : PA X [a, b, c] (tMs X U rs)) (hl : ∀ ρ ds, rs ρ = .ok ds → ds.length = 3) :
  PI X tg (.Call (.Name "range" p) [a, b, c] [] pos) (tI X U fun ρ => do let ds ← rs ρ; itemsOf .rng ds):=by
 intro pins s σ H R I hq
 obtain ⟨ρ,Hs,ds,hs,hv,h1,k⟩:=hq
 obtain ⟨d,hd,h2⟩:=aj h1
 clear h1
 have hlen:=hl ρ d hd
 rcases d with _ | ⟨d,_ | ⟨d2,_ | ⟨d3,_ | ⟨d4,d5⟩⟩⟩⟩
 ·simp at hlen
 ·simp at hlen
 ·simp at hlen
 ·cases d <;> cases d2 <;> cases d3 <;> try (cases h2;done)
  obtain ⟨⟨c0,c1,c2,c3,c4⟩,h3⟩:=bN h2
  cases h3
  refine VH hg (C.blt _ (by decide +kernel)) ha (by rw [aB hn,aB hn2,aB hn3];rfl) (by rw [aB hn2,aB hn3];rfl) pins s σ H R I ⟨ρ,Hs,_,hs,hv,hd,fun vs H1 Hs1 g1 r1=>?_⟩
  obtain ⟨v,ws,rfl,r2,r3⟩:=r1.cons_inv
  obtain ⟨w,w',rfl,r4,r5⟩:=vH r3
  cases aN.mp r2
  cases aN.mp r4
  cases aN.mp r5
  subst c0
  have:=KN
  have hlim:(lim:Int)=100000:=rfl
  exact ⟨_,_,rfl,⟨by omega,by omega,by omega,by omega⟩,k _ _ _ g1 Rx⟩
 ·simp at hlen
end
end Mi
namespace Mi
open PySem L2
open PyProof.Rows hiding St
noncomputable def putL {α:Type}:List (Option α)→List (Nat × α)→List (Option α)
 | xs,[]=>xs
 | xs,(i,a)::r=>putL (xs.set i (some a)) r
theorem tL {α:Type}:∀ (xs:List (Option α)) (l:List (Nat × α)),(putL xs l).length=xs.length
 | xs,[]=>rfl
 | xs,(i,a)::r=>by rw [putL,tL,List.length_set]
theorem G4 {α:Type}{j:Nat}:∀ {xs:List (Option α)}{l:List (Nat × α)},j ∉ l.map (·.1)→(putL xs l)[j]?=xs[j]?
 | xs,[],_=>rfl
 | xs,(i,a)::r,h=>by
  simp only [List.map_cons,List.mem_cons,not_or] at h
  rw [putL,G4 h.2,List.getElem?_set_ne (Ne.symm h.1)]
theorem FJ {g:G}{Hs:Hp}{j:Nat}{d:D}:∀ {l:List (Nat × D × V)}{ρ:En}{σ:St},ρ.length=σ.length→(∀ p∈l,Rp g Hs p.2.1 p.2.2) →
  (putL ρ (l.map fun p=>(p.1,p.2.1)))[j]?=some (some d)→(∀ d,ρ[j]?=some (some d)→∃ v,σ[j]?=some (some v)∧Rp g Hs d v)∨j∈l.map (·.1)→∃ v,(putL σ (l.map fun p=>(p.1,p.2.2)))[j]?=some (some v)∧Rp g Hs d v
 | [],ρ,σ,hl,hr,h,o=>by
  rcases o with o | o
  ·exact o d h
  ·cases o
 | (i,e,v)::l,ρ,σ,hl,hr,h,o=>by
  simp only [List.map_cons,putL] at h ⊢
  have hl2:(ρ.set i (some e)).length=(σ.set i (some v)).length:=by rw [List.length_set,List.length_set];exact hl
  refine FJ hl2 (fun p hp=>hr p (List.mem_cons_of_mem _ hp)) h ?_
  by_cases hj:j=i
  ·subst hj
   refine .inl fun d' q=>?_
   have hlt:j < ρ.length:=by
    have:=(List.getElem?_eq_some_iff.mp q).1
    simpa using this
   rw [List.getElem?_set_self hlt] at q
   cases q
   exact ⟨v,by rw [List.getElem?_set_self (by rw [← hl];exact hlt)],hr _ List.mem_cons_self⟩
  ·rw [List.map_cons,List.mem_cons] at o
   rcases o with o | o | o
   ·refine .inl fun d' q=>?_
    rw [List.getElem?_set_ne (Ne.symm hj)] at q ⊢
    exact o d' q
   ·exact absurd o hj
   ·exact .inr o
section
variable {X:Cx}{σ:St}{H Hs:Hp}{Q:VK}{U Ua Ub Uc:List Nat}{r ra rb rc:En→R D}{e a:Expr}{es:List Expr}{rs:En→R (List D)}{pos:Pos}{T:Tx}{cl:Nat→List D→R D}
noncomputable def gTg (K:PySem.W.Frag):Tg→TG
 | .one i=>yX i
 | .two i j=>Yw K 2 (K5 (yX i) (K5 (yX j) Y9))
theorem jG {sc:Scope}{t:Tg}{tg:Expr} (C:Cok T cl X) (S:ScRel sc X) (h:tgB X.N sc t tg=true):PG X tg (gTg X.K t):=by
 cases t with
 | one i =>
  obtain ⟨_,_,rfl,ho,hn⟩:=rQ h
  obtain ⟨h1,h2⟩:=S.own _ ho
  exact Bu C.nd hn h1 h2
 | two i j =>
  obtain ⟨_,_,_,_,_,_,rfl,⟨⟨⟨h1,h2⟩,h3⟩,h4⟩,h5⟩:=su h
  obtain ⟨a1,a2⟩:=S.own _ h1
  obtain ⟨b1,b2⟩:=S.own _ h2
  exact Zf C.calm (HN (Bu C.nd h3 a1 a2) (HN (Bu C.nd h4 b1 b2) Vw (by rfl)) (by rfl)) (by rfl) (by rfl)
theorem nG {t:Tg}{d:D}{ρ ρ':En}{x:V}{K:St→Hp→Prop} (hs:Same Hs H) (h:dO t d ρ=.ok ρ') (rx:Rp (gOf X) Hs d x)
  (k:∀ l:List (Nat × D × V),l.map (·.1)=aV t→(∀ p∈l,Rp (gOf X) Hs p.2.1 p.2.2)→ρ'=putL ρ (l.map fun p=>(p.1,p.2.1))→K (putL σ (l.map fun p=>(p.1,p.2.2))) H):gTg X.K t x σ H K:=by
 cases t with
 | one i =>
  cases h
  exact k [(i,d,x)] rfl (fun p hp=>by rw [List.mem_singleton.mp hp];exact rx) rfl
 | two i j =>
  cases d <;> try (cases h;done)
  rename_i ds
  rcases ds with _ | ⟨a,_ | ⟨b,_ | ⟨c,cs⟩⟩⟩ <;> try (cases h;done)
  cases h
  obtain ⟨p,xs,rfl,s1,r1⟩:=cG.mp rx
  obtain ⟨v,w,rfl,r2,r3⟩:=vH r1
  refine ⟨p,[v,w],rfl,aL hs s1,rfl,v,[w],rfl,w,[],rfl,rfl,?_⟩
  refine k [(i,a,v),(j,b,w)] rfl (fun q hq=>?_) rfl
  rcases List.mem_cons.mp hq with rfl | hq
  ·exact r2
  ·rw [List.mem_singleton.mp hq];exact r3
noncomputable def tHc (X:Cx) (hc:Bool) (U:List Nat) (r:En→R D):TT:=if hc then tMT X U r else fun _ H Q=>Q true H
theorem yQ {N:List Str}{sc:Scope}{i:Nat}{x:Str} (h:jE sc x=true) (hi:N[i]?=some x):(cC N sc)[i]?=some false:=by
 unfold cC
 rw [List.getElem?_map,hi]
 rcases jX h with e | e <;> simp [e]
theorem XQ {N:List Str}{sc:Scope}{t:Tg}{tg:Expr} (h:tgB N sc t tg=true):∀ i∈aV t,(cC N sc)[i]?=some false:=by
 cases t with
 | one i =>
  obtain ⟨_,_,rfl,ho,hn⟩:=rQ h
  intro j hj
  rw [List.mem_singleton.mp hj]
  exact yQ ho hn
 | two i j =>
  obtain ⟨_,_,_,_,_,_,rfl,⟨⟨⟨h1,h2⟩,h3⟩,h4⟩,h5⟩:=su h
  intro q hq
  rcases List.mem_cons.mp hq with rfl | hq
  ·exact yQ h1 h3
  ·rw [List.mem_singleton.mp hq];exact yQ h2 h4
noncomputable def tMf (X:Cx) (U:List Nat) (r:En→R D):TE:=fun σ H Q=>∃ ρ Hs d,Same Hs H∧Vs (gOf X) ρ σ Hs U∧r ρ=.ok d∧∀ v H' Hs',Grow H Hs H' Hs'→Rp (gOf X) Hs' d v→(∀ a,v=.ref a→H a=none)→Q v H'
theorem aap {r:En→R D}:tM X U r σ H Q→tMf X U r σ H Q:=by
 rintro ⟨ρ,Hs,d,hs,hv,h,k⟩
 exact ⟨ρ,Hs,d,hs,hv,h,fun v H' Hs' g r _=>k v H' Hs' g r⟩
theorem CW {scope:Scope}{t:Tg}{tg:Expr}{hc:Bool}{rI:En→R (List D)}{cap:List Bool}{N:List Str} (htg:tgB N scope t tg=true) (hcap:cap=cC N scope) :
  tMf X (Ua++(Uc++Ub)) (fun ρ=>do
   let items ← rI ρ
   let ys ← gD (fun d=>do
    let ρ' ← dO t d (bf cap ρ)
    let b ← (if hc then (do let x ← rc ρ';bH x) else .ok true)
    if b then do let y ← rb ρ';.ok (some y) else .ok none) items
   if ys.length≤lim then .ok (.lst ys) else .stuck) σ H Q →
  Bd (tI X Ua rI) (gTg X.K t) (tHc X hc Uc rc) (tM X Ub rb) (bf (cC N scope)) σ H Q:=by
 rintro ⟨ρ,Hs,z,hs,hv,h,k⟩
 obtain ⟨ds,hd,h1⟩:=aj h
 obtain ⟨tot,ht,h2⟩:=aj h1
 obtain ⟨hlim,h3⟩:=bN h2
 clear h h1 h2
 cases h3
 have hll:=lG
 generalize hf:(fun d=>do
    let ρ' ← dO t d (bf cap ρ)
    let b ← (if hc then (do let x ← rc ρ';bH x) else .ok true)
    if b then do let y ← rb ρ';.ok (some y) else .ok none)=f at ht
 refine ⟨ρ,Hs,ds,hs,hv.l,hd,fun J H1 Hs1 g1 src=>?_⟩
 intro A hA
 refine ⟨fun i m ys H'=>m=ds.length - i∧i≤ds.length∧∃ Hs' don rest,Grow H1 Hs1 H' Hs'∧Hs' A=none∧H' A=some (.lst ys)∧Rps (gOf X) Hs' don ys∧gD f (ds.drop i)=.ok rest∧don++rest=tot,⟨ds.length,by simp,Nat.zero_le _,Hs1,[],tot,Grow.own g1.sub hA,g1.sub.free hA,aC,Rps.nil,ht,rfl⟩,?_⟩
 rintro i m ys H' ⟨rfl,hi,Hs',don,rest,g2,fA,eA,rA,hrest,etot⟩
 have hs':=g1.sub
 by_cases hlt:i < ds.length
 ·refine .inr ⟨src.go i H' ((g2.same hs').trans g2.sub) hlt,fun x H2 hy=>?_⟩
  have hdi:ds[i]?=some ds[i]:=by simp [hlt]
  obtain ⟨Hs2,g3,rx⟩:=src.yld i H' x H2 Hs' ds[i] (g2.same hs') g2.sub hdi hy
  have edrop:ds.drop i=ds[i]::ds.drop (i+1):=by rw [List.drop_eq_getElem_cons hlt]
  rw [edrop] at hrest
  unfold gD at hrest
  obtain ⟨y,hy1,hr1⟩:=aj hrest
  obtain ⟨zs,hz,hr2⟩:=aj hr1
  clear hrest hr1
  have hy0:=hy1
  rw [← hf] at hy1
  obtain ⟨ρ',hρ,hy2⟩:=aj hy1
  obtain ⟨b,hb,hy3⟩:=aj hy2
  clear hy1 hy2
  have gA:Grow H1 Hs1 H2 Hs2:=g2.trans g3
  refine nG g3.sub hρ rx fun l hl hrl eρ=>?_
  have slots:∀ j∈aV t,(cC N scope)[j]?=some false:=XQ htg
  have lenm:(bf cap ρ).length=(bf (cC N scope) σ).length:=by rw [jU,jU];exact hv.1
  have mV:(l.map fun p=>(p.1,p.2.2)).map (·.1)=aV t:=by rw [← hl,List.map_map];rfl
  have mD:(l.map fun p=>(p.1,p.2.1)).map (·.1)=aV t:=by rw [← hl,List.map_map];rfl
  have ext:W8 (bf (cC N scope) σ) (putL (bf (cC N scope) σ) (l.map fun p=>(p.1,p.2.2))):=⟨tL _ _,fun j v q=>by
   have hj:j ∉ aV t:=fun hj=>by
    have:=(oK q).1
    rw [slots j hj] at this
    cases this
   rw [G4 (by rw [mV];exact hj)];exact q⟩
  have vs2:∀ {U'},(∀ j∈U',j∈Uc++Ub)→Vs (gOf X) ρ' (putL (bf (cC N scope) σ) (l.map fun p=>(p.1,p.2.2))) Hs2 U':=fun {U'} hU=>by
   refine ⟨by rw [eρ,tL,tL];exact lenm,fun j hj d hd'=>?_⟩
   rw [eρ] at hd'
   refine FJ lenm hrl hd' (.inl fun d2 hd2=>?_)
   obtain ⟨c1,c2⟩:=oK hd2
   obtain ⟨v,e1,r1⟩:=hv.r.2 j (hU j hj) d2 c2
   exact ⟨v,Dl (by rw [← hcap];exact c1) e1,r1.mono (((g1.trans gA).same hs))⟩
  refine ⟨ext,?_⟩
  have aA2:H2 A=some (.lst ys):=g3.keep A _ eA
  have step:∀ H4 Hs4,Grow H2 Hs2 H4 Hs4→(if b=true then tM X Ub rb (putL (bf (cC N scope) σ) (l.map fun p=>(p.1,p.2.2))) H4 (fun y' H5=>H5 A=some (.lst ys)∧ys.length < sizeLine∧∃ m',m' < ds.length - i∧(m'=ds.length - (i+1)∧i+1≤ds.length∧∃ Hs' don rest,Grow H1 Hs1 (upd H5 A (.lst (ys++[y']))) Hs'∧Hs' A=none∧(upd H5 A (.lst (ys++[y']))) A=some (.lst (ys++[y']))∧Rps (gOf X) Hs' don (ys++[y'])∧gD f (ds.drop (i+1))=.ok rest∧don++rest=tot))
    else ∃ m',m' < ds.length - i∧(m'=ds.length - (i+1)∧i+1≤ds.length∧∃ Hs' don rest,Grow H1 Hs1 H4 Hs'∧Hs' A=none∧H4 A=some (.lst ys)∧Rps (gOf X) Hs' don ys∧gD f (ds.drop (i+1))=.ok rest∧don++rest=tot)):=by
   intro H4 Hs4 g4
   have f4:Hs4 A=none:=by rw [(g3.trans g4).old A _ eA];exact fA
   cases b with
   | false =>
    rw [if_neg (by decide)]
    rw [if_neg (by decide)] at hy3
    cases hy3
    cases hr2
    exact ⟨_,by omega,rfl,hlt,Hs4,don,zs,gA.trans g4,f4,g4.keep A _ aA2,rA.mono ((g3.trans g4).same g2.sub),hz,etot⟩
   | true =>
    rw [if_pos rfl]
    rw [if_pos rfl] at hy3
    obtain ⟨w,hw,hy4⟩:=aj hy3
    cases hy4
    cases hr2
    refine ⟨ρ',Hs4,w,g4.sub,(vs2 fun j hj=>List.mem_append_right _ hj).mono (g4.same g3.sub),hw,fun y' H5 Hs5 g5 r5=>?_⟩
    have a5:H5 A=some (.lst ys):=(g4.trans g5).keep A _ aA2
    have f5:Hs5 A=none:=by rw [((g3.trans g4).trans g5).old A _ eA];exact fA
    have rl:=rA.length
    have hlen:ys.length < sizeLine:=by
     have:don.length+(w::zs).length=tot.length:=by rw [← List.length_append,etot]
     rw [List.length_cons] at this
     omega
    refine ⟨a5,hlen,_,by omega,rfl,hlt,Hs5,don++[w],zs,?_,f5,aC,?_,hz,by rw [List.append_assoc];exact etot⟩
    ·have g6:=(gA.trans g4).trans g5
     refine ⟨fun c o q=>by rw [ao (ak q hA)];exact g6.keep c o q,g6.old,fun c o q=>?_⟩
     rw [ao (ak q f5)];exact g6.sub c o q
    ·exact (rA.mono (((g3.trans g4).trans g5).same g2.sub)).append (Rps.one r5)
  cases hc with
  | false =>
   rw [if_neg (by decide)] at hb
   cases hb
   exact step H2 Hs2 (Grow.refl g3.sub)
  | true =>
   rw [if_pos rfl] at hb
   obtain ⟨x2,hx2,hb2⟩:=aj hb
   cases cR hb2
   exact ⟨ρ',Hs2,b,g3.sub,vs2 fun j hj=>List.mem_append_left _ hj,hx2,fun H4 Hs4 g4=>step H4 Hs4 g4⟩
 ·have e:i=ds.length:=by omega
  subst e
  refine .inl ⟨src.stop H' ((g2.same hs').trans g2.sub),?_⟩
  rw [List.drop_length] at hrest
  cases hrest
  rw [List.append_nil] at etot
  subst etot
  have m2:Same Hs' (upd Hs' A (.lst ys)):=fun c o q=>by rw [ao (ak q fA)];exact q
  refine k _ _ (upd Hs' A (.lst ys)) (g1.trans ⟨g2.keep,fun c o q=>by rw [ao (ak q hA)];exact g2.old c o q,fun c o q=>?_⟩) (cB.mpr ⟨A,ys,rfl,SqL.of aC,rA.mono m2⟩) (fun b e=>by cases e;exact (show Same H H1 from g1.keep).free hA)
  by_cases z:c=A
  ·subst z;rw [aC] at q;cases q;exact eA
  ·rw [ao z] at q;exact g2.sub c o q
end
end Mi
namespace Mi
open PySem L2
open PyProof.Rows hiding St
noncomputable def plainT:Expr→Bool
 | .UnaryOp .Not _ _=>false
 | .BoolOp ..=>false
 | .IfExp ..=>false
 | .Compare ..=>false
 | _=>true
theorem uc {e:Expr}{env:Env} (h:plainT e=true):∀ whole,isTrue e env whole=(do let v ← whole;standAt e.pos;holding [v] (truthy v)):=by
 intro whole
 cases e <;> first | rfl | (cases h;done) | skip
 rename_i op a p
 cases op <;> first | rfl | cases h
noncomputable def Qj (X:Cx) (U:List Nat) (r:En→R D) (e:Expr):Prop:=PE X e (tM X U r)∧PT X e (tMT X U r)
noncomputable def Good (T:Tx) (cl:Nat→List D→R D) (m:M):Prop:=∀ {X:Cx}{sc:Scope}{e:Expr},Cok T cl X→ScRel sc X→okE T X.N m sc e=true→Qj X (aF m) (evE cl m) e
section
variable {T:Tx}{cl:Nat→List D→R D}{X:Cx}{sc:Scope}{U:List Nat}{r:En→R D}{e:Expr}
theorem bx (h:PE X e (tM X U r)) (hp:plainT e=true):Qj X U r e:=⟨h,Ru h (uc hp)⟩
theorem fP (C:Cok T cl X) (S:ScRel sc X):∀ {ms:List M}{es:List Expr},(∀ m∈ms,Good T cl m)→cj T X.N ms sc es=true→es.all noStar=true→PA X es (tMs X (aP ms) (cu cl ms))
 | [],es,G,h,hn=>by
  rw [sy,List.isEmpty_iff] at h
  subst h
  have e:cu cl []=fun _=>.ok []:=funext fun _=>by simp only [cu]
  rw [e]
  simp only [aP]
  exact Wv
 | m::ms,[],G,h,hn=>by cases h
 | m::ms,x::es,G,h,hn=>by
  simp only [cZ,Bool.and_eq_true] at h
  simp only [List.all_cons,Bool.and_eq_true] at hn
  have e:cu cl (m::ms)=(fun ρ=>(do let d ← evE cl m ρ;let ds ← cu cl ms ρ;.ok (d::ds))):=funext fun _=>by simp only [cu]
  rw [e]
  simp only [aP]
  exact R3 (G m List.mem_cons_self C S h.1).1 (fP C S (fun q hq=>G q (List.mem_cons_of_mem _ hq)) h.2 hn.2) hn.1
theorem sJ:∀ {ms:List M}{ρ:En}{ds:List D},cu cl ms ρ=.ok ds→ds.length=ms.length
 | [],ρ,ds,h=>by simp only [cu] at h;cases h;rfl
 | m::ms,ρ,ds,h=>by
  simp only [cu] at h
  obtain ⟨x,hx,h1⟩:=aj h
  obtain ⟨xs,hxs,h2⟩:=aj h1
  have:=sJ hxs
  cases h2
  simp [this]
theorem yx:∀ {ms:List M}{es:List Expr},cj T X.N ms sc es=true→es.length=ms.length
 | [],es,h=>by
  rw [sy,List.isEmpty_iff] at h
  rw [h];rfl
 | m::ms,[],h=>by cases h
 | m::ms,e::es,h=>by
  simp only [cZ,Bool.and_eq_true] at h
  simp [yx h.2]
theorem JN (C:Cok T cl X) (S:ScRel sc X) {pos:Pos}:∀ {ms:List M}{es:List Expr},(∀ m∈ms,Good T cl m)→cj T X.N ms sc es=true→ms.isEmpty=false→PE X (.BoolOp .And es pos) (tM X (aP ms) (iI cl ms))∧PW X (.BoolOp .And es pos) (tMT X (aP ms) (iI cl ms))
 | [],es,G,h,hn=>by cases hn
 | m::ms,[],G,h,hn=>by cases h
 | [m],[x],G,h,hn=>by
  simp only [cZ,Bool.and_eq_true] at h
  obtain ⟨g1,g2⟩:=G m List.mem_cons_self C S h.1
  constructor
  ·refine bB (Nt g1) fun σ H Q=>?_
   rintro ⟨ρ,Hs,z,hs,hv,h,k⟩
   simp only [iI] at h
   obtain ⟨d,hd,h1⟩:=aj h
   obtain ⟨t,ht,h2⟩:=aj h1
   clear h h1
   cases cR ht
   cases h2
   simp only [aP] at hv
   exact ⟨ρ,Hs,_,hs,hv.l,hd,k⟩
  ·have:=Wz (pos:=pos) g2
   intro wh pins s σ H Q I hq
   refine this wh pins s σ H Q I ?_
   obtain ⟨ρ,Hs,z,hs,hv,h,k⟩:=hq
   simp only [iI] at h
   obtain ⟨d,hd,h1⟩:=aj h
   obtain ⟨t,ht,h2⟩:=aj h1
   clear h h1
   cases cR ht
   cases h2
   simp only [aP] at hv
   exact ⟨ρ,Hs,_,hs,hv.l,hd,k⟩
 | [m],x::y::es,G,h,hn=>by rw [cZ,sy] at h;simp at h
 | m::m'::ms,[x],G,h,hn=>by rw [cZ,Kd] at h;simp at h
 | m::m'::ms,x::y::es,G,h,hn=>by
  have h':=h
  simp only [cZ,Bool.and_eq_true] at h
  obtain ⟨g1,g2⟩:=G m List.mem_cons_self C S h.1
  obtain ⟨i1,i2⟩:=JN C S (pos:=pos) (ms:=m'::ms) (es:=y::es) (fun q hq=>G q (List.mem_cons_of_mem _ hq)) (by simp only [cZ,Bool.and_eq_true];exact h.2) rfl
  constructor
  ·refine bB (YS g1 i1) fun σ H Q=>?_
   rintro ⟨ρ,Hs,z,hs,hv,h,k⟩
   simp only [iI] at h
   obtain ⟨d,hd,h1⟩:=aj h
   obtain ⟨t,ht,h2⟩:=aj h1
   clear h h1
   cases cR ht
   rw [aP] at hv
   refine ⟨ρ,Hs,_,hs,hv.l,hd,fun v H1 Hs1 g1 r1=>⟨t,mH.mp r1,?_⟩⟩
   cases t with
   | false=>rw [if_neg (by decide)];rw [if_neg (by decide)] at h2;cases h2;exact (k.grow g1).bl g1.sub
   | true=>rw [if_pos rfl];rw [if_pos rfl] at h2;exact ⟨ρ,Hs1,z,g1.sub,hv.r.mono (g1.same hs),h2,k.grow g1⟩
  ·have:=Xo (pos:=pos) g2 i2
   intro wh pins s σ H Q I hq
   refine this wh pins s σ H Q I ?_
   obtain ⟨ρ,Hs,z,hs,hv,h,k⟩:=hq
   simp only [iI] at h
   obtain ⟨d,hd,h1⟩:=aj h
   obtain ⟨t,ht,h2⟩:=aj h1
   clear h h1
   cases cR ht
   rw [aP] at hv
   refine ⟨ρ,Hs,t,hs,hv.l,hd,fun H1 Hs1 g1=>?_⟩
   cases t with
   | false=>rw [if_neg (by decide)];rw [if_neg (by decide)] at h2;cases h2;exact k H1 Hs1 g1
   | true=>rw [if_pos rfl];rw [if_pos rfl] at h2;exact ⟨ρ,Hs1,z,g1.sub,hv.r.mono (g1.same hs),h2,fun H' Hs' g=>k H' Hs' (g1.trans g)⟩
theorem M6 (C:Cok T cl X) (S:ScRel sc X) {pos:Pos}:∀ {ms:List M}{es:List Expr},(∀ m∈ms,Good T cl m)→cj T X.N ms sc es=true→ms.isEmpty=false→PE X (.BoolOp .Or es pos) (tM X (aP ms) (kh cl ms))∧PW X (.BoolOp .Or es pos) (tMT X (aP ms) (kh cl ms))
 | [],es,G,h,hn=>by cases hn
 | m::ms,[],G,h,hn=>by cases h
 | [m],[x],G,h,hn=>by
  simp only [cZ,Bool.and_eq_true] at h
  obtain ⟨g1,g2⟩:=G m List.mem_cons_self C S h.1
  constructor
  ·refine bB (Nt g1) fun σ H Q=>?_
   rintro ⟨ρ,Hs,z,hs,hv,h,k⟩
   simp only [kh] at h
   obtain ⟨d,hd,h1⟩:=aj h
   obtain ⟨t,ht,h2⟩:=aj h1
   clear h h1
   cases cR ht
   cases h2
   simp only [aP] at hv
   exact ⟨ρ,Hs,_,hs,hv.l,hd,k⟩
  ·have:=Zc (pos:=pos) g2
   intro wh pins s σ H Q I hq
   refine this wh pins s σ H Q I ?_
   obtain ⟨ρ,Hs,z,hs,hv,h,k⟩:=hq
   simp only [kh] at h
   obtain ⟨d,hd,h1⟩:=aj h
   obtain ⟨t,ht,h2⟩:=aj h1
   clear h h1
   cases cR ht
   cases h2
   simp only [aP] at hv
   exact ⟨ρ,Hs,_,hs,hv.l,hd,k⟩
 | [m],x::y::es,G,h,hn=>by rw [cZ,sy] at h;simp at h
 | m::m'::ms,[x],G,h,hn=>by rw [cZ,Kd] at h;simp at h
 | m::m'::ms,x::y::es,G,h,hn=>by
  simp only [cZ,Bool.and_eq_true] at h
  obtain ⟨g1,g2⟩:=G m List.mem_cons_self C S h.1
  obtain ⟨i1,i2⟩:=M6 C S (pos:=pos) (ms:=m'::ms) (es:=y::es) (fun q hq=>G q (List.mem_cons_of_mem _ hq)) (by simp only [cZ,Bool.and_eq_true];exact h.2) rfl
  constructor
  ·refine bB (aag g1 i1) fun σ H Q=>?_
   rintro ⟨ρ,Hs,z,hs,hv,h,k⟩
   simp only [kh] at h
   obtain ⟨d,hd,h1⟩:=aj h
   obtain ⟨t,ht,h2⟩:=aj h1
   clear h h1
   cases cR ht
   rw [aP] at hv
   refine ⟨ρ,Hs,_,hs,hv.l,hd,fun v H1 Hs1 g1 r1=>⟨t,mH.mp r1,?_⟩⟩
   cases t with
   | true=>rw [if_pos rfl];rw [if_pos rfl] at h2;cases h2;exact (k.grow g1).bl g1.sub
   | false=>rw [if_neg (by decide)];rw [if_neg (by decide)] at h2;exact ⟨ρ,Hs1,z,g1.sub,hv.r.mono (g1.same hs),h2,k.grow g1⟩
  ·have:=Z0 (pos:=pos) g2 i2
   intro wh pins s σ H Q I hq
   refine this wh pins s σ H Q I ?_
   obtain ⟨ρ,Hs,z,hs,hv,h,k⟩:=hq
   simp only [kh] at h
   obtain ⟨d,hd,h1⟩:=aj h
   obtain ⟨t,ht,h2⟩:=aj h1
   clear h h1
   cases cR ht
   rw [aP] at hv
   refine ⟨ρ,Hs,t,hs,hv.l,hd,fun H1 Hs1 g1=>?_⟩
   cases t with
   | true=>rw [if_pos rfl];rw [if_pos rfl] at h2;cases h2;exact k H1 Hs1 g1
   | false=>rw [if_neg (by decide)];rw [if_neg (by decide)] at h2;exact ⟨ρ,Hs1,z,g1.sub,hv.r.mono (g1.same hs),h2,fun H' Hs' g=>k H' Hs' (g1.trans g)⟩
theorem vZ (C:Cok T cl X) (S:ScRel sc X) {k:IK}{src:List M}{tg iter:Expr} (G:∀ m∈src,Good T cl m) (h1:n8 sc k tg iter=true) (h2:cj T X.N src sc (rO k iter)=true) :
  PI X tg iter (tI X (aP src) fun ρ=>do let ss ← cu cl src ρ;itemsOf k ss):=by
 cases k with
 | seq =>
  rcases src with _ | ⟨m,_ | ⟨m',ms⟩⟩
  ·cases h2
  ·replace h2:(okE T X.N m sc iter && cj T X.N [] sc [])=true:=h2
   simp only [Bool.and_eq_true] at h2
   have g:=(G m List.mem_cons_self C S h2.1).1
   intro pins s σ H R I hq
   refine Xa g pins s σ H R I ?_
   obtain ⟨ρ,Hs,ds,hs,hv,h,k⟩:=hq
   simp only [qM,qg] at h
   simp only [PK,Fo] at hv
   obtain ⟨ss,hss,h3⟩:=aj h
   obtain ⟨d,hd,h4⟩:=aj hss
   simp only [qR] at h4
   cases h4
   exact ⟨ρ,Hs,ds,hs,hv.l,by simp only [hd,qR];exact h3,k⟩
  ·(replace h2:(okE T X.N m sc iter && false)=true:=h2;simp at h2)
 | rng =>
  ·obtain ⟨f,p,es,q,rfl,h3⟩:=cI h1
   simp only [Bool.and_eq_true,decide_eq_true_eq,Bool.or_eq_true] at h3
   obtain ⟨⟨⟨rfl,hg⟩,hl⟩,hn⟩:=h3
   have gg:=S.glb _ hg
   replace h2:cj T X.N src sc es=true:=h2
   have pa:=fP C S G h2 hn
   have len:=yx h2
   rcases es with _ | ⟨x,_ | ⟨y,_ | ⟨z,zs⟩⟩⟩
   ·simp at hl
   ·simp only [List.all_cons,List.all_nil,Bool.and_eq_true] at hn
    exact Wl C gg hn.1 pa fun ρ ds h=>by rw [sJ h,← len];rfl
   ·simp only [List.all_cons,List.all_nil,Bool.and_eq_true] at hn
    exact WK C gg hn.1 hn.2.1 pa fun ρ ds h=>by rw [sJ h,← len];rfl
   ·rcases zs with _ | ⟨z2,zs⟩
    ·simp only [List.all_cons,List.all_nil,Bool.and_eq_true] at hn
     exact Wc C gg hn.1 hn.2.1 hn.2.2.1 pa fun ρ ds h=>by rw [sJ h,← len];rfl
    ·simp at hl
 | enum =>
  ·obtain ⟨f,p,es,q,rfl,h3⟩:=cI h1
   simp only [Bool.and_eq_true,decide_eq_true_eq] at h3
   obtain ⟨⟨⟨⟨rfl,hg⟩,hl⟩,hn⟩,ht⟩:=h3
   have gg:=S.glb _ hg
   replace h2:cj T X.N src sc es=true:=h2
   have pa:=fP C S G h2 hn
   rcases es with _ | ⟨x,_ | ⟨y,ys⟩⟩
   ·simp at hl
   ·simp only [List.all_cons,List.all_nil,Bool.and_eq_true] at hn
    cases tg <;> try (cases ht;done)
    exact VL C gg hn.1 pa
   ·simp at hl
 | zip =>
  ·obtain ⟨f,p,es,q,rfl,h3⟩:=cI h1
   simp only [Bool.and_eq_true,decide_eq_true_eq] at h3
   obtain ⟨⟨⟨⟨rfl,hg⟩,hl⟩,hn⟩,ht⟩:=h3
   have gg:=S.glb _ hg
   replace h2:cj T X.N src sc es=true:=h2
   have pa:=fP C S G h2 hn
   rcases es with _ | ⟨x,_ | ⟨y,_ | ⟨z,ys⟩⟩⟩
   ·simp at hl
   ·simp at hl
   ·simp only [List.all_cons,List.all_nil,Bool.and_eq_true] at hn
    cases tg <;> try (cases ht;done)
    exact Ym C gg hn.1 hn.2.1 pa
   ·simp at hl
 | rev =>
  ·obtain ⟨f,p,es,q,rfl,h3⟩:=cI h1
   simp only [Bool.and_eq_true,decide_eq_true_eq] at h3
   obtain ⟨⟨⟨rfl,hg⟩,hl⟩,hn⟩:=h3
   have gg:=S.glb _ hg
   replace h2:cj T X.N src sc es=true:=h2
   have pa:=fP C S G h2 hn
   rcases es with _ | ⟨x,_ | ⟨y,ys⟩⟩
   ·simp at hl
   ·simp only [List.all_cons,List.all_nil,Bool.and_eq_true] at hn
    exact Yx C gg hn.1 pa
   ·simp at hl
end
end Mi
namespace Mi
open PySem L2
open PyProof.Rows hiding St
section
variable {T:Tx}{cl:Nat→List D→R D}
theorem Rw {i:Nat}:Good T cl (.var i):=by
 intro X sc e C S h
 have ee:evE cl (.var i)=fun ρ=>cN ρ i:=rfl
 rw [ee]
 obtain ⟨_,_,rfl⟩:=eO h
 rw [V5] at h
 simp only [Bool.and_eq_true,decide_eq_true_eq] at h
 exact bx (Oo h.2 (S.vis _ h.1.2) h.1.1) rfl
theorem Rn {d:D}:Good T cl (.con d):=by
 intro X sc e C S h
 have ee:evE cl (.con d)=fun _=>.ok d:=rfl
 rw [ee]
 cases e <;> try (cases h;done)
 ·exact bx (YH h) rfl
 ·rw [Tp] at h
  simp only [Bool.and_eq_true] at h
  cases d <;> simp only at h <;> try (exact absurd h.2 Bool.false_ne_true)
  simp only [decide_eq_true_eq] at h
  exact bx (Wn C (S.glb _ h.1.2) h.1.1 h.2) rfl
theorem RW {ms:List M} (G:∀ m∈ms,Good T cl m):Good T cl (.tup ms):=by
 intro X sc e C S h
 have ee:evE cl (.tup ms)=fun ρ=>(do let ds ← cu cl ms ρ;if ds.length≤lim then .ok (.tup ds) else .stuck):=rfl
 rw [ee]
 obtain ⟨_,_,_,rfl⟩:=Dc h
 rw [UW] at h
 simp only [Bool.and_eq_true] at h
 exact bx (Yu (fP C S G h.1 h.2)) rfl
theorem Sy {ms:List M} (G:∀ m∈ms,Good T cl m):Good T cl (.lst ms):=by
 intro X sc e C S h
 have ee:evE cl (.lst ms)=fun ρ=>(do let ds ← cu cl ms ρ;if ds.length≤lim then .ok (.lst ds) else .stuck):=rfl
 rw [ee]
 obtain ⟨_,_,rfl⟩:=GX h
 rw [Km] at h
 simp only [Bool.and_eq_true] at h
 exact bx (Xv (fP C S G h.1 h.2)) rfl
theorem T7:Good T cl .dct0:=by
 intro X sc e C S h
 have ee:evE cl .dct0=fun _=>.ok (.dct [] []):=rfl
 rw [ee]
 obtain ⟨ks,vs,p,rfl⟩:=Ga h
 cases ks <;> cases vs <;> first | exact bx X4 rfl | cases h
theorem Sw {o:BO}{a b:M} (ga:Good T cl a) (gb:Good T cl b):Good T cl (.bin o a b):=by
 intro X sc e C S h
 have ee:evE cl (.bin o a b)=fun ρ=>(do let x ← evE cl a ρ;let y ← evE cl b ρ;jm o x y):=rfl
 rw [ee]
 obtain ⟨_,_,_,_,rfl⟩:=Qo h
 rw [U0] at h
 simp only [Bool.and_eq_true] at h
 cases Zg h.1.1
 exact bx (Yh o (ga C S h.1.2).1 (gb C S h.2).1) rfl
theorem QJ {o:CO}{a b:M} (ga:Good T cl a) (gb:Good T cl b):Good T cl (.cmp o a b):=by
 intro X sc e C S h
 have ee:evE cl (.cmp o a b)=fun ρ=>(do let x ← evE cl a ρ;let y ← evE cl b ρ;let r ← bF o x y;.ok (.bl r)):=rfl
 rw [ee]
 obtain ⟨x,ops,cs,p,rfl⟩:=xu h
 rcases ops with _ | ⟨op,_ | ⟨op2,ops⟩⟩ <;> rcases cs with _ | ⟨y,_ | ⟨y2,cs⟩⟩ <;> try (cases h;done)
 rw [Wx] at h
 simp only [Bool.and_eq_true] at h
 cases FQ h.1.1.1
 exact ⟨Xm C.un o (ga C S h.1.2).1 (gb C S h.2).1 h.1.1.2,W0 C.un o (ga C S h.1.2).1 (gb C S h.2).1 h.1.1.2⟩
theorem Ly {o o':CO}{a b c:M} (ga:Good T cl a) (gb:Good T cl b) (gc:Good T cl c):Good T cl (.chain o o' a b c):=by
 intro X sc e C S h
 have ee:evE cl (.chain o o' a b c)=fun ρ=>(do let x ← evE cl a ρ;let y ← evE cl b ρ;let r ← bF o x y;if r then do let z ← evE cl c ρ;let r2 ← bF o' y z;.ok (.bl r2) else .ok (.bl false)):=rfl
 rw [ee]
 obtain ⟨x,ops,cs,p,rfl⟩:=xu h
 rcases ops with _ | ⟨op,_ | ⟨op2,_ | ⟨op3,ops⟩⟩⟩ <;> rcases cs with _ | ⟨y,_ | ⟨y2,_ | ⟨y3,cs⟩⟩⟩ <;> try (cases h;done)
 rw [Qy] at h
 simp only [Bool.and_eq_true] at h
 obtain ⟨⟨⟨⟨⟨⟨h1,h2⟩,h3⟩,h4⟩,h5⟩,h6⟩,h7⟩:=h
 cases FQ h1
 cases FQ h2
 exact ⟨RV C.un o o' (ga C S h5).1 (gb C S h6).1 (gc C S h7).1 h4,Ug C.un o o' (ga C S h5).1 (gb C S h6).1 (gc C S h7).1 h4⟩
theorem T4 {ms:List M} (G:∀ m∈ms,Good T cl m):Good T cl (.and ms):=by
 intro X sc e C S h
 have ee:evE cl (.and ms)=iI cl ms:=rfl
 rw [ee]
 obtain ⟨op,es,p,rfl⟩:=Ba h
 cases op <;> try (cases h;done)
 rw [Wf] at h
 simp only [Bool.and_eq_true,Bool.not_eq_true'] at h
 obtain ⟨h1,h2⟩:=JN C S (pos:=p) G h.1 h.2
 exact ⟨h1,h2.pt⟩
theorem WQ {ms:List M} (G:∀ m∈ms,Good T cl m):Good T cl (.or ms):=by
 intro X sc e C S h
 have ee:evE cl (.or ms)=kh cl ms:=rfl
 rw [ee]
 obtain ⟨op,es,p,rfl⟩:=Ba h
 cases op <;> try (cases h;done)
 rw [Xg] at h
 simp only [Bool.and_eq_true,Bool.not_eq_true'] at h
 obtain ⟨h1,h2⟩:=M6 C S (pos:=p) G h.1 h.2
 exact ⟨h1,h2.pt⟩
theorem R6 {a:M} (ga:Good T cl a):Good T cl (.not a):=by
 intro X sc e C S h
 have ee:evE cl (.not a)=fun ρ=>(do let x ← evE cl a ρ;let t ← bH x;.ok (.bl (!t))):=rfl
 rw [ee]
 obtain ⟨op,x,p,rfl⟩:=xW h
 cases op <;> try (cases h;done)
 exact ⟨XF (ga C S h).1,Zm (ga C S h).2⟩
theorem Ud {a:M} (ga:Good T cl a):Good T cl (.neg a):=by
 intro X sc e C S h
 have ee:evE cl (.neg a)=fun ρ=>(do let x ← evE cl a ρ;(match x with | .int i=>.ok (.int (-i)) | _=>.stuck)):=rfl
 rw [ee]
 obtain ⟨op,x,p,rfl⟩:=xW h
 cases op <;> try (cases h;done)
 exact bx (Xi (ga C S h).1) rfl
theorem Sg {a b c:M} (gc:Good T cl c) (ga:Good T cl a) (gb:Good T cl b):Good T cl (.ite c a b):=by
 intro X sc e C S h
 have ee:evE cl (.ite c a b)=fun ρ=>(do let x ← evE cl c ρ;let t ← bH x;if t then evE cl a ρ else evE cl b ρ):=rfl
 rw [ee]
 obtain ⟨_,_,_,_,rfl⟩:=Ny h
 rw [Vf] at h
 simp only [Bool.and_eq_true] at h
 exact ⟨Xb (gc C S h.1.1).2 (ga C S h.1.2).1 (gb C S h.2).1,Zb (gc C S h.1.1).2 (ga C S h.1.2).2 (gb C S h.2).2⟩
theorem Wj {a b:M} (ga:Good T cl a) (gb:Good T cl b):Good T cl (.ix a b):=by
 intro X sc e C S h
 have ee:evE cl (.ix a b)=fun ρ=>(do let x ← evE cl a ρ;let y ← evE cl b ρ;ixD x y):=rfl
 rw [ee]
 obtain ⟨_,_,_,rfl⟩:=mz h
 rw [X6] at h
 simp only [Bool.and_eq_true] at h
 exact bx (Z1 C.un (ga C S h.1.2).1 (gb C S h.2).1 h.1.1) rfl
theorem Ka {X:Cx}{sc:Scope}{lo:M}{l:Option Expr} (C:Cok T cl X) (S:ScRel sc X) (g:Good T cl lo) (h:(match l with | none=>cX lo | some y=>!cX lo && okE T X.N lo sc y)=true) :
  PO X l (tPo X (aF lo) fun ρ=>if cX lo then .ok none else (do let d ← evE cl lo ρ;lA d)):=by
 cases l with
 | none =>
  simp only at h
  simp only [h,if_true]
  exact aaC
 | some y =>
  simp only [Bool.and_eq_true,Bool.not_eq_true'] at h
  simp only [h.1]
  exact aaw (g C S h.2).1
theorem Q8 {a lo hi:M} (ga:Good T cl a) (gl:Good T cl lo) (gh:Good T cl hi):Good T cl (.slc a lo hi):=by
 intro X sc e C S h
 have ee:evE cl (.slc a lo hi)=fun ρ=>(do
  let x ← evE cl a ρ
  let l ← (if cX lo then .ok none else (do let d ← evE cl lo ρ;lA d))
  let h ← (if cX hi then .ok none else (do let d ← evE cl hi ρ;lA d))
  slD x l h):=rfl
 rw [ee]
 obtain ⟨x,sl,p,rfl⟩:=mz h
 obtain ⟨l,u,st,p2,rfl⟩:=N8 (show (isK 26 sl && _)=true from h)
 cases st <;> try (cases h;done)
 rw [Vc] at h
 simp only [Bool.and_eq_true] at h
 exact bx (WY (ga C S h.1.1).1 (Ka C S gl h.1.2) (Ka C S gh h.2)) rfl
theorem N6 {f:Nat}{ms:List M} (G:∀ m∈ms,Good T cl m):Good T cl (.call f ms):=by
 intro X sc e C S h
 have ee:evE cl (.call f ms)=fun ρ=>(do let ds ← cu cl ms ρ;cl f ds):=rfl
 rw [ee]
 obtain ⟨_,_,es,p,rfl,h9⟩:=cI h
 replace h:=h9
 clear h9
 simp only [Bool.and_eq_true,decide_eq_true_eq] at h
 obtain ⟨⟨⟨⟨h1,h2⟩,h3⟩,h4⟩,h5⟩:=h
 cases es with
 | nil =>
  have:=yx h4
  cases ms with
  | nil =>
   simp only [Rb,Fo,qg]
   exact bx (RQ C (S.glb _ h2) h1 h3) rfl
  | cons _ _=>simp at this
 | cons x xs=>exact bx (Vh C (S.glb _ h2) h1 h3 (fP C S G h4 h5) h5) rfl
theorem Tf {b:BI}{ms:List M} (G:∀ m∈ms,Good T cl m):Good T cl (.blt b ms):=by
 intro X sc e C S h
 have ee:evE cl (.blt b ms)=fun ρ=>(do let ds ← cu cl ms ρ;fQ b ds):=rfl
 rw [ee]
 obtain ⟨_,_,es,p,rfl,h9⟩:=cI h
 replace h:=h9
 clear h9
 simp only [Bool.and_eq_true,decide_eq_true_eq,Bool.not_eq_true'] at h
 obtain ⟨⟨⟨⟨h1,h2⟩,h3⟩,h4⟩,h5⟩:=h
 cases es with
 | nil=>cases h3
 | cons x xs =>
  by_cases hb:b=.listEnum
  ·subst hb
   cases xs with
   | cons _ _=>simp at h5
   | nil =>
    obtain ⟨_,_,es2,p2,rfl,h10⟩:=cI h5
    replace h5:=h10
    clear h10
    simp only [Bool.and_eq_true,decide_eq_true_eq] at h5
    obtain ⟨⟨⟨⟨q1,q2⟩,q3⟩,q4⟩,q5⟩:=h5
    subst q1 h1
    rcases es2 with _ | ⟨y,_ | ⟨y2,ys⟩⟩
    ·simp at q5
    ·have q4':=q4
     simp only [List.all_cons,List.all_nil,Bool.and_eq_true] at q4'
     exact bx (IW C (S.glb _ q2) (S.glb _ h2) (fP C S G q3 q4) q4'.1) rfl
    ·simp at q5
  ·by_cases hb2:b=.listRev
   ·subst hb2
    cases xs with
    | cons _ _=>simp at h5
    | nil =>
     obtain ⟨_,_,es2,p2,rfl,h10⟩:=cI h5
     simp only [Bool.and_eq_true,decide_eq_true_eq] at h10
     obtain ⟨⟨⟨⟨q1,q2⟩,q3⟩,q4⟩,q5⟩:=h10
     subst q1 h1
     rcases es2 with _ | ⟨y,_ | ⟨y2,ys⟩⟩
     ·simp at q5
     ·have q4':=q4
      simp only [List.all_cons,List.all_nil,Bool.and_eq_true] at q4'
      exact bx (Lr C (S.glb _ q2) (S.glb _ h2) (fP C S G q3 q4) q4'.1) rfl
     ·simp at q5
   have hp:BW b=true:=by
    cases b <;> first | rfl | exact absurd rfl hb | exact absurd rfl hb2
   have h6:cj T X.N ms sc (x::xs)=true:=by
    cases b <;> first | exact absurd rfl hb | exact h5 | cases hp
   exact bx (Zk b C h1 (S.glb _ h2) (fP C S G h6 h4) h4 hp) rfl
theorem NZ {a k d:M} (gk:Good T cl k) (gd:Good T cl d):Good T cl (.dget a k d):=by
 intro X sc e C S h
 have h0:(PX a && TV e _)=true:=h
 rw [Bool.and_eq_true] at h0
 cases a <;> try (cases h0.1;done)
 rename_i i
 have ee:evE cl (.dget (.var i) k d)=fun ρ=>(do let x ← cN ρ i;let y ← evE cl k ρ;let z ← evE cl d ρ;tU x y z):=rfl
 rw [ee]
 obtain ⟨x,p,ap,y,z,cp,rfl,hl,h9⟩:=V1 h0.2
 simp only [Bool.and_eq_true,decide_eq_true_eq] at h9
 obtain ⟨⟨⟨⟨⟨⟨h1,h2⟩,h3⟩,h4⟩,h5⟩,h6⟩,h7⟩:=h9
 exact bx (WD C.un h3 (S.vis _ h1) h2 (gk C S h4).1 (gd C S h5).1 h6 h7 hl) rfl
theorem Nf {a:M}{t:Ty} (ga:Good T cl a):Good T cl (.isin a t):=by
 intro X sc e C S h
 have ee:evE cl (.isin a t)=fun ρ=>(do let x ← evE cl a ρ;.ok (.bl (jJ x t))):=rfl
 rw [ee]
 obtain ⟨_,_,es,p,rfl,h9⟩:=cI h
 replace h:=h9
 clear h9
 rcases es with _ | ⟨y,_ | ⟨z,_ | ⟨z2,zs⟩⟩⟩ <;> try (cases h;done)
 obtain ⟨_,_,rfl⟩:=eO (show (isK 23 z && _)=true from h)
 replace h : (decide (_ = ("isinstance" : Str)) && eF sc _ && okE T X.N a sc y && noStar y && decide (_ = t.nm) && eF sc _) = true:=h
 simp only [Bool.and_eq_true,decide_eq_true_eq] at h
 obtain ⟨⟨⟨⟨⟨h1,h2⟩,h3⟩,h4⟩,h5⟩,h6⟩:=h
 subst h1 h5
 exact bx (Wt C t (S.glb _ h2) (S.glb _ h6) (ga C S h3).1 h4) rfl
theorem vC {iter:Expr}{env:Env} (h:eG iter=true):∀ x,foldedSetIterable iter env x=pure x:=by
 intro x
 cases iter <;> first | rfl | cases h
theorem tH {sc:Scope}{k:IK}{tg iter:Expr} (h:n8 sc k tg iter=true):eG iter=true:=by
 cases k
 ·exact h
 ·obtain ⟨_,_,_,_,rfl,_⟩:=cI h
  rfl
 ·obtain ⟨_,_,_,_,rfl,_⟩:=cI h
  rfl
 ·obtain ⟨_,_,_,_,rfl,_⟩:=cI h
  rfl
 ·obtain ⟨_,_,_,_,rfl,_⟩:=cI h
  rfl
theorem Ko {elt c:M}{tg:Tg}{k:IK}{src:List M}{hc:Bool}{cap:List Bool}:evE cl (.comp elt tg k src hc c cap)=fun ρ=>(do
   let items ← (do let ss ← cu cl src ρ;itemsOf k ss)
   let ys ← gD (fun d=>do
    let ρ' ← dO tg d (bf cap ρ)
    let b ← (if hc then (do let x ← evE cl c ρ';bH x) else .ok true)
    if b then do let y ← evE cl elt ρ';.ok (some y) else .ok none) items
   if ys.length≤lim then .ok (.lst ys) else .stuck):=funext fun ρ=>by
  simp only [qf]
  cases cu cl src ρ <;> simp
theorem Ox {elt c:M}{tg:Tg}{k:IK}{src:List M}{hc:Bool}{cap:List Bool} (ge:Good T cl elt) (gc:Good T cl c) (G:∀ m∈src,Good T cl m):Good T cl (.comp elt tg k src hc c cap):=by
 intro X sc e C S h
 rw [Ko]
 obtain ⟨elt',gens,scope,p,rfl⟩:=uN h
 rcases gens with _ | ⟨⟨tg',iter,ifs,as⟩,_ | ⟨g2,gs⟩⟩ <;> try (cases h;done)
 rw [GQ] at h
 simp only [Bool.and_eq_true,decide_eq_true_eq] at h
 obtain ⟨⟨⟨⟨⟨⟨⟨h1,h2⟩,h3⟩,h4⟩,h5⟩,h6⟩,h7⟩,h8⟩:=h
 subst h1
 refine bx ?_ rfl
 refine bB (xH C.calm (vZ C S G h4 h5) (Gx h2 S) (g:=gTg X.K tg) (tt:=tHc X hc (aF c) (evE cl c)) (te:=tM X (aF elt) (evE cl elt)) (fun s₃ H₃ fp xe=>?_) (vC (tH h4))) fun σ H Q hq=>?_
 ·have S':ScRel scope (cU X scope s₃ H₃ fp xe):=Ca S
  have C':=C.blk scope s₃ H₃ fp xe
  refine ⟨jG C' S' h3,?_,(ge C' S' h7).1⟩
  cases hc with
  | true =>
   rcases ifs with _ | ⟨i1,_ | ⟨i2,is⟩⟩ <;> try (cases h6;done)
   exact JH (gc C' S' h6).2
  | false =>
   rcases ifs with _ | ⟨i1,is⟩ <;> try (cases h6;done)
   exact Kc
 ·exact CW h3 h8 (aap hq)
theorem good:∀ m:M,Good T cl m
 | .var i=>Rw
 | .con d=>Rn
 | .tup ms=>RW fun m hm=>good m
 | .lst ms=>Sy fun m hm=>good m
 | .dct0=>T7
 | .bin o a b=>Sw (good a) (good b)
 | .cmp o a b=>QJ (good a) (good b)
 | .chain o o' a b c=>Ly (good a) (good b) (good c)
 | .and ms=>T4 fun m hm=>good m
 | .or ms=>WQ fun m hm=>good m
 | .not a=>R6 (good a)
 | .neg a=>Ud (good a)
 | .ite c a b=>Sg (good c) (good a) (good b)
 | .ix a b=>Wj (good a) (good b)
 | .slc a l h=>Q8 (good a) (good l) (good h)
 | .dget a k d=>NZ (good k) (good d)
 | .call f ms=>N6 fun m hm=>good m
 | .blt b ms=>Tf fun m hm=>good m
 | .isin a t=>Nf (good a)
 | .comp elt tg k src hc c cap=>Ox (good elt) (good c) fun m hm=>good m
termination_by m=>sizeOf m
decreasing_by
 all_goals simp_wf
 all_goals first | omega | (have:=List.sizeOf_lt_of_mem hm;omega)
end
end Mi
namespace Mi
open PySem L2
open PyProof.Rows hiding St
noncomputable def dG:Expr→Bool
 | .ListComp ..=>false | .SetComp ..=>false | .DictComp ..=>false | _=>true
noncomputable def rR:M→Bool
 | .comp ..=>true | _=>false
noncomputable def Ek (st:Stmt) (f:Str→Str→Expr→Bool→Bool):Bool:=isS 24 st && match st with
 | .Expr e _=>isK 16 e && (match e with
  | .Call g es ks cp=>isK 20 g && (match g with
   | .Attribute o m ap=>isK 23 o && (match o,es,ks with | .Name x _,[v],[]=>f x m v (ap.endLine == cp.line) | _,_,_=>false)
   | _=>false)
  | _=>false)
 | _=>false
theorem yN {st:Stmt}{f:Str→Str→Expr→Bool→Bool} (h:Ek st f=true):∃ x p m ap v cp q,st=.Expr (.Call (.Attribute (.Name x p) m ap) [v] [] cp) q∧f x m v (ap.endLine == cp.line)=true:=by
 obtain ⟨e,q,rfl⟩:=yj h
 obtain ⟨g,es,ks,cp,rfl⟩:=yw (show (isK 16 e && _)=true from h)
 obtain ⟨o,m,ap,rfl⟩:=tZ (show (isK 20 g && _)=true from h)
 obtain ⟨x,p,rfl⟩:=eO (show (isK 23 o && _)=true from h)
 rcases es with _ | ⟨v,_ | ⟨v2,es⟩⟩ <;> try (cases h;done)
 rcases ks with _ | ⟨k,ks⟩ <;> try (cases h;done)
 exact ⟨x,p,m,ap,v,cp,q,rfl,h⟩
noncomputable def Mp (st:Stmt) (f:Str→Expr→Expr→Bool):Bool:=isS 5 st && match st with
 | .Assign ts v _=>(match ts with
  | [tg]=>isK 21 tg && (match tg with | .Subscript o k _=>isK 23 o && (match o with | .Name x _=>f x k v | _=>false) | _=>false)
  | _=>false)
 | _=>false
theorem Hy {st:Stmt}{f:Str→Expr→Expr→Bool} (h:Mp st f=true):∃ x p k p2 v q,st=.Assign [.Subscript (.Name x p) k p2] v q∧f x k v=true:=by
 obtain ⟨ts,v,q,rfl⟩:=jB h
 rcases ts with _ | ⟨tg,_ | ⟨tg2,ts⟩⟩ <;> try (cases h;done)
 obtain ⟨o,k,p2,rfl⟩:=mz (show (isK 21 tg && _)=true from h)
 obtain ⟨x,p,rfl⟩:=eO (show (isK 23 o && _)=true from h)
 exact ⟨x,p,k,p2,v,q,rfl,h⟩
mutual
noncomputable def okS (T:Tx) (N:List Str) (sc:Scope):MS→Stmt→Bool
 | .set t e,st=>isS 5 st && match st with | .Assign [tg] v _=>tgB N sc t tg && okE T N e sc v && (dG v || rR e) && !dI v | _=>false
 | .app i e, st => Ek st fun x m v b => eZ sc x && aK x && decide (N[i]? = some x) && decide (m = "append") && okE T N e sc v && noStar v && b
 | .ext i e, st => Ek st fun x m v b => eZ sc x && aK x && decide (N[i]? = some x) && decide (m = "extend") && okE T N e sc v && noStar v && b
 | .put i k v,st=>Mp st fun x k' v'=>eZ sc x && aK x && decide (N[i]?=some x) && iD k' && okE T N k sc k' && okE T N v sc v' && dG v'
 | .putB i k v,st=>Mp st fun x k' v'=>eZ sc x && aK x && decide (N[i]?=some x) && iD k' && okE T N k sc k' && okE T N v sc v' && dG v'
 | .pop i e, st => Ek st fun x m v b => eZ sc x && aK x && decide (N[i]? = some x) && decide (m = "pop") && okE T N e sc v && noStar v && b
 | .retO i,st=>isS 3 st && match st with
  | .Return v _=>(match v with
   | some e=>isK 23 e && (match e with | .Name x _=>aK x && eZ sc x && decide (N[i]?=some x) | _=>false)
   | none=>false)
  | _=>false
 | .setF i f es,st=>isS 5 st && match st with
  | .Assign ts v _=>(match ts with
   | [tg]=>tgB N sc (.one i) tg && gR v fun x as=>aK x && eF sc x && decide (T.F[f]?=some x) && cj T N es sc as && as.all noStar && !as.isEmpty
   | _=>false)
  | _=>false
 | .callm i f e,st=>isS 24 st && match st with
  | .Expr v _=>gR v fun x es=>(match es with
   | [y,z]=>isK 23 z && (match z with | .Name n _=>aK x && eF sc x && decide (T.F[f]?=some x) && okE T N e sc y && noStar y && eZ sc n && aK n && decide (N[i]?=some n) | _=>false)
   | _=>false)
  | _=>false
 | .expr e,st=>isS 24 st && match st with | .Expr v _=>okE T N e sc v && dG v | _=>false
 | .ret e,st=>isS 3 st && match st with
  | .Return (some v) _=>okE T N e sc v
  | .Return none _=>cX e
  | _=>false
 | .ifs c a b,st=>isS 12 st && match st with | .If c' a' b' _=>okE T N c sc c' && okB T N sc a a' && okB T N sc b b' | _=>false
 | .forr t k src b,st=>isS 9 st && match st with | .For tg iter body els _=>els.isEmpty && (tgB N sc t tg && n8 sc k tg iter && cj T N src sc (rO k iter) && okB T N sc b body) | _=>false
 | .pass,st=>isS 25 st && match st with | .Pass _=>true | _=>false
 | .brk,st=>isS 26 st && match st with | .Break _=>true | _=>false
 | .cnt,st=>isS 27 st && match st with | .Continue _=>true | _=>false
 | .rai,st=>match st with | .Raise ..=>true | _=>false
 | .chk _ _,_=>false
 | .setB t e,st=>isS 5 st && match st with | .Assign [tg] v _=>tgB N sc t tg && okE T N e sc v && dG v && !dI v | _=>false
 | .setC t e,st=>isS 5 st && match st with | .Assign [tg] v _=>tgB N sc t tg && okE T N e sc v && rR e && !dI v | _=>false
noncomputable def okB (T:Tx) (N:List Str) (sc:Scope):List MS→List Stmt→Bool
 | [],sts=>sts.isEmpty
 | m::ms,sts=>match sts with | st::sts=>okS T N sc m st && okB T N sc ms sts | []=>false
end
section
variable {T:Tx}{N:List Str}{sc:Scope}{st:Stmt}{i:Nat}{e k v c:M}{t:Tg}{a b:List MS}{src:List M}{ik:IK}{sts:List Stmt}{m:MS}
theorem V6 {tg w:Expr}{pos:Pos}:okS T N sc (.set t e) (.Assign [tg] w pos)=(tgB N sc t tg && okE T N e sc w && (dG w || rR e) && !dI w):=rfl
theorem TF {tg w:Expr}{pos:Pos}:okS T N sc (.setB t e) (.Assign [tg] w pos)=(tgB N sc t tg && okE T N e sc w && dG w && !dI w):=rfl
theorem Tz {tg w:Expr}{pos:Pos}:okS T N sc (.setC t e) (.Assign [tg] w pos)=(tgB N sc t tg && okE T N e sc w && rR e && !dI w):=rfl
theorem R7 {w:Expr}{pos:Pos}:okS T N sc (.expr e) (.Expr w pos)=(okE T N e sc w && dG w):=rfl
theorem Vu {c':Expr}{a' b':List Stmt}{pos:Pos}:okS T N sc (.ifs c a b) (.If c' a' b' pos)=(okE T N c sc c' && okB T N sc a a' && okB T N sc b b'):=rfl
theorem VF:okB T N sc [] sts=sts.isEmpty:=rfl
theorem QG:okB T N sc (m::a) (st::sts)=(okS T N sc m st && okB T N sc a sts):=rfl
end
section
variable {inv O:List Nat}{i j:Nat}{e k v c:M}{a b:List MS}{t:Tg}{ik:IK}{src:List M}{m:MS}
theorem Sh:jr inv (.app i e) O=(if (without O (aF e)).contains i then some (some (without O (aF e))) else none):=rfl
theorem RL:jr inv (.ext i e) O=(if (without O (aF e)).contains i then some (some (without O (aF e))) else none):=rfl
theorem NQ:jr inv (.putB i k v) O=(if O.contains i then some (some O) else none):=rfl
theorem Ry:jr inv (.pop i e) O=(if (without O (aF e)).contains i then some (some (without O (aF e))) else none):=rfl
theorem Ml {f:Nat}:jr inv (.callm i f e) O=(if (without O (aF e)).contains i then some (some (without O (aF e))) else none):=rfl
theorem Oj:jr inv (.retO i) O=(if O.contains i then some none else none):=rfl
theorem Sd:jr inv (.put i k v) O=(if (without O (aF k++aF v)).contains i then some (some (without O (aF k++aF v))) else none):=rfl
theorem QM:jr inv (.ifs c a b) O=(do
  let x ← eY inv a O
  let y ← eY inv b O
  some (mW x y)):=rfl
theorem RG:jr inv (.forr t ik src b) O=(do
  let O1:=without (without O (aP src)) (aV t)
  let x ← eY O1 b O1
  let O2:=(mW (some O1) x).getD []
  let y ← eY O2 b O2
  match y with
  | none=>some (some O2)
  | some O3=>if O2.all (fun i=>O3.contains i) then some (some O2) else none):=rfl
theorem Ti:jr inv .brk O=(if inv.all (fun i=>O.contains i) then some none else none):=rfl
theorem QX:jr inv .cnt O=(if inv.all (fun i=>O.contains i) then some none else none):=rfl
theorem Nj:eY inv (m::a) O=(do
  let x ← jr inv m O
  match x with
  | none=>some none
  | some O1=>eY inv a O1):=rfl
end
noncomputable def kJ (g:G) (E:Ent) (Es Hs:Hp) (O':Ow) (inv:List Nat) (D:Ends):Out→Prop
 | .nx ρ'=>∀ O1,O'=some O1→∀ σ' H' Hs',FR g E Es O1 ρ' σ' H' Hs'→Same Hs Hs'→D.nx σ' H'
 | .rt d=>∀ v H' Hs',Grow E.hp Es H' Hs'→Rp g Hs' d v→D.rt v H'
 | .ro d=>∀ v H' Hs',Grow E.hp Es H' Hs'→Rp g Hs' d v→(∀ a,v=.ref a→E.hp a=none)→D.rt v H'
 | .bk ρ'=>∀ σ' H' Hs',FR g E Es inv ρ' σ' H' Hs'→Same Hs Hs'→D.bk σ' H'
 | .ct ρ'=>∀ σ' H' Hs',FR g E Es inv ρ' σ' H' Hs'→Same Hs Hs'→D.ct σ' H'
theorem kJ.mono {g:G}{E:Ent}{Es Hs Hs1:Hp}{O':Ow}{inv:List Nat}{D:Ends}{o:Out} (h:kJ g E Es Hs O' inv D o) (m:Same Hs Hs1):kJ g E Es Hs1 O' inv D o:=by
 cases o with
 | nx ρ=>exact fun O1 e σ' H' Hs' F s=>h O1 e σ' H' Hs' F (m.trans s)
 | rt d=>exact h
 | ro d=>exact h
 | bk ρ=>exact fun σ' H' Hs' F s=>h σ' H' Hs' F (m.trans s)
 | ct ρ=>exact fun σ' H' Hs' F s=>h σ' H' Hs' F (m.trans s)
noncomputable def tMS (X:Cx) (E:Ent) (Es:Hp) (O:List Nat) (O':Ow) (inv:List Nat) (run:En→R Out):TS:=fun D σ H=>∃ ρ Hs o,FR (gOf X) E Es O ρ σ H Hs∧run ρ=.ok o∧kJ (gOf X) E Es Hs O' inv D o
theorem bT {X:Cx}{st:Stmt}{t t':TS} (h:PS X st t) (i:∀ D σ H,t' D σ H→t D σ H):PS X st t':=fun pins s σ H D I hq=>h pins s σ H D I (i D σ H hq)
theorem BJ {X:Cx}{st:List Stmt}{t t':TS} (h:PSs X st t) (i:∀ D σ H,t' D σ H→t D σ H):PSs X st t':=fun pins s σ H D I hq=>h pins s σ H D I (i D σ H hq)
section
variable {g:G}{E:Ent}{Es:Hp}{O O':List Nat}{ρ:En}{σ:St}{H Hs H' Hs':Hp}
theorem FR.vs (F:FR g E Es O ρ σ H Hs) {U:List Nat} (h:∀ i∈U,i ∉ O):Vs g ρ σ Hs U:=⟨F.len,fun i hi d e=>F.val i d e (h i hi)⟩
theorem FR.pubU (F:FR g E Es O ρ σ H Hs) (U:List Nat):∃ Hs',FR g E Es (without O U) ρ σ H Hs'∧Same Hs Hs'∧Vs g ρ σ Hs' U:=by
 obtain ⟨Hs',F',m,_⟩:=FR.pubs U F
 exact ⟨Hs',F',m,F'.vs fun i hi hm=>(bK.mp hm).2 hi⟩
theorem FR.pubW (F:FR g E Es O ρ σ H Hs) (U:List Nat):∃ Hs',FR g E Es (without O U) ρ σ H Hs'∧Same Hs Hs'∧Vs g ρ σ Hs' U∧gC Hs Hs':=by
 obtain ⟨Hs',F',m,w⟩:=FR.pubs U F
 exact ⟨Hs',F',m,F'.vs fun i hi hm=>(bK.mp hm).2 hi,w⟩
theorem FR.putL:∀ {l:List (Nat × D × V)}{O:List Nat}{ρ:En}{σ:St},FR g E Es O ρ σ H Hs→(∀ q∈E.pins,q.1 ∉ l.map (·.1))→(∀ p∈l,Rp g Hs p.2.1 p.2.2)→FR g E Es (without O (l.map (·.1))) (putL ρ (l.map fun p=>(p.1,p.2.1))) (putL σ (l.map fun p=>(p.1,p.2.2))) H Hs
 | [],O,ρ,σ,F,hq,h=>F.congrO fun i=>by rw [bK];simp
 | (i,d,v)::l,O,ρ,σ,F,hq,h=>by
  have F1:=F.setS (i:=i) (fun q hm e=>hq q hm (by rw [List.map_cons,e];exact List.mem_cons_self)) (h _ List.mem_cons_self)
  have F2:=FR.putL F1 (fun q hm e=>hq q hm (List.mem_cons_of_mem _ e)) fun p hp=>h p (List.mem_cons_of_mem _ hp)
  simp only [List.map_cons,Mi.putL]
  refine F2.congrO fun j=>?_
  rw [bK,bK,bK]
  simp
  constructor
  ·rintro ⟨a,b,c⟩;exact ⟨⟨a,b⟩,c⟩
  ·rintro ⟨⟨a,b⟩,c⟩;exact ⟨a,b,c⟩
end
theorem gZ {v:Expr}{t:Option Expr}{l:Nat}{env:Env} (h:dG v=true):swapsWith v t l env=pure false:=by
 cases v <;> first | rfl | cases h
theorem gj {tg v:Expr}{env:Env}{N:List Str}{sc:Scope}{t:Tg} (h:dI v=false) (h1:tgB N sc t tg=true):swappedStores [tg] v env=pure none:=by
 cases t with
 | one i =>
  obtain ⟨_,_,rfl,_⟩:=rQ h1
  cases v <;> first | (cases h;done) | rfl
 | two i j =>
  obtain ⟨_,_,_,_,_,_,rfl,_⟩:=su h1
  cases v <;> first | (cases h;done) | rfl
theorem assign1 {tg:Expr}{env:Env}{N:List Str}{sc:Scope}{t:Tg} (h:tgB N sc t tg=true):(assignEach [tg] env).map (·.2)=[assign tg env]:=by
 cases t with
 | one i =>
  obtain ⟨_,_,rfl,_⟩:=rQ h
  rfl
 | two i j =>
  obtain ⟨_,_,_,_,_,_,rfl,_⟩:=su h
  rfl
section
variable {T:Tx}{cl:Nat→List D→R D}{X:Cx}{sc:Scope}{E:Ent}{Es:Hp}{O:List Nat}{inv:List Nat}{pos:Pos}
theorem OD {t:Tg}{e:M}{tg v:Expr} (C:Cok T cl X) (S:ScRel sc X) (hq:∀ q∈E.pins,q.1 ∉ aV t) (h1:tgB X.N sc t tg=true) (h2:okE T X.N e sc v=true) (h3:dG v=true) (h4:dI v=false) :
  PS X (.Assign [tg] v pos) (tMS X E Es O (some (without (without O (aF e)) (aV t))) inv (bA cl (.set t e))):=by
 refine bT (jf (good e C S h2).1 (jG C S h1) (gZ (t:=some tg) (l:=pos.line) (env:=X.env) h3) (gj h4 h1) (assign1 h1)) fun D σ H=>?_
 rintro ⟨ρ,Hs,o,F,h,k⟩
 simp only [wA,wB,wC,wD,qW,wF,wG,wH,qX,wI,wJ,wK,qY,qZ] at h
 obtain ⟨d,hd,hb⟩:=aj h
 obtain ⟨ρ',hρ,hb2⟩:=aj hb
 clear h hb
 cases hb2
 obtain ⟨Hs1,F1,m1,vs⟩:=F.pubU (aF e)
 refine ⟨ρ,Hs1,d,F1.sub,vs,hd,fun x H1 Hs2 g2 r2=>?_⟩
 have F2:=F1.grown g2
 refine nG (X:=X) g2.sub hρ r2 fun l hl hrl eρ=>?_
 have F3:=F2.putL (by rw [hl];exact hq) hrl
 rw [hl,← eρ] at F3
 exact k _ rfl _ _ _ F3 (m1.trans (g2.same F1.sub))
noncomputable def swB (sc:Scope) (x:Str) (l1 l2:Nat) (scope:Scope):Bool:=(sc.names.lookup x == some .local) && l1 == l2 && !(scope.names.any fun (n,k)=>n == x && (k == .local || k == .cell))
theorem Fx {elt:Expr}{gs:List Comprehension}{scope:Scope}{p p':Pos}{x:Str}{l:Nat}{env:Env} (hk:env.scope.kind=.function):swapsWith (.ListComp elt gs scope p) (some (.Name x p')) l env=pure (swB env.scope x p'.line p.line scope):=by
 show (pure (env.blockKind == .function && env.kindOf x == some .local && p'.line == p.line && !(scope.names.any fun (n,k)=>n == x && (k == .local || k == .cell))):Sem Bool)=_
 have hb:env.blockKind=.function:=by unfold Env.blockKind;rw [hk];rfl
 rw [hb]
 rfl
theorem GP {t:Tg}{elt c:M}{tg':Tg}{k:IK}{src:List M}{hc:Bool}{cap:List Bool}{tg v:Expr}{TSx:TS} (C:Cok T cl X) (S:ScRel sc X) (h1:tgB X.N sc t tg=true) (h2:okE T X.N (.comp elt tg' k src hc c cap) sc v=true) (h4:dI v=false)
  (read:∀ D σ H,TSx D σ H→Tc (tMf X (aF (.comp elt tg' k src hc c cap)) (evE cl (.comp elt tg' k src hc c cap))) (gTg X.K t) D σ H):PS X (.Assign [tg] v pos) TSx:=by
 have h2':=h2
 obtain ⟨elt',gens,scope,p,rfl⟩:=uN h2'
 rcases gens with _ | ⟨⟨tgx,iter,ifs,as⟩,_ | ⟨g2,gs⟩⟩ <;> try (cases h2';done)
 rw [GQ] at h2'
 simp only [Bool.and_eq_true,decide_eq_true_eq] at h2'
 obtain ⟨⟨⟨⟨⟨⟨⟨q1,q2⟩,q3⟩,q4⟩,q5⟩,q6⟩,q7⟩,q8⟩:=h2'
 subst q1
 have blk:∀ s₃ H₃ fp xe,PG (cU X scope s₃ H₃ fp xe) tgx (gTg X.K tg')∧PTs (cU X scope s₃ H₃ fp xe) ifs (tHc X hc (aF c) (evE cl c))∧PE (cU X scope s₃ H₃ fp xe) elt' (tM X (aF elt) (evE cl elt)):=fun s₃ H₃ fp xe=>by
  have S':ScRel scope (cU X scope s₃ H₃ fp xe):=Ca S
  have C':=C.blk scope s₃ H₃ fp xe
  refine ⟨jG C' S' q3,?_,(good elt C' S' q7).1⟩
  cases hc with
  | true =>
   rcases ifs with _ | ⟨i1,_ | ⟨i2,is⟩⟩ <;> try (cases q6;done)
   exact JH (good c C' S' q6).2
  | false =>
   rcases ifs with _ | ⟨i1,is⟩ <;> try (cases q6;done)
   exact Kc
 have rd:∀ σ H (Q:VK),tMf X (aF (.comp elt tg' k src hc c cap)) (evE cl (.comp elt tg' k src hc c cap)) σ H Q→Bd (tI X (aP src) fun ρ=>do let ss ← cu cl src ρ;itemsOf k ss) (gTg X.K tg') (tHc X hc (aF c) (evE cl c)) (tM X (aF elt) (evE cl elt)) (bf (cC X.N scope)) σ H Q:=fun σ H Q h=>by
  rw [Ko] at h
  exact CW q3 q8 h
 have hE:PE X (.ListComp elt' [⟨tgx,iter,ifs,0⟩] scope p) (tMf X (aF (.comp elt tg' k src hc c cap)) (evE cl (.comp elt tg' k src hc c cap))) :=
  bB (xH C.calm (vZ C S (fun m _=>good m) q4 q5) (Gx q2 S) blk (vC (tH q4))) rd
 cases t with
 | two i j =>
  have hno:∀ l env,swapsWith (.ListComp elt' [⟨tgx,iter,ifs,0⟩] scope p) (some tg) l env=pure false:=fun l env=>by
   obtain ⟨_,_,_,_,_,_,rfl,_⟩:=su h1
   rfl
  exact bT (jf hE (jG C S h1) (hno pos.line X.env) (gj h4 h1) (assign1 h1)) read
 | one i =>
  have h1':=h1
  clear h1
  obtain ⟨x,p',rfl,h1⟩:=rQ h1'
  obtain ⟨l1,l2⟩:=S.own _ h1.1
  cases hsw:swB X.env.scope x p'.line p.line scope with
  | false =>
   intro pins s σ H D I h
   have e0:swapsWithSole [.Name x p'] (.ListComp elt' [⟨tgx,iter,ifs,0⟩] scope p) pos.line X.env=pure (swB X.env.scope x p'.line p.line scope):=Fx (l:=pos.line) I.ok.kind
   exact jf hE (jG C S h1') (by rw [e0,hsw]) (gj h4 h1') (assign1 h1') pins s σ H D I (read D σ H h)
  | true =>
   exact bT (LC C.nd h1.2 l1 l2 (fun hk=>by rw [Fx hk,hsw]) C.calm (vZ C S (fun m _=>good m) q4 q5) (Gx q2 S) blk (vC (tH q4))) fun D σ H h=>rd _ _ _ (read D σ H h)
theorem Kl {t:Tg}{elt c:M}{tg':Tg}{k:IK}{src:List M}{hc:Bool}{cap:List Bool}{tg v:Expr} (C:Cok T cl X) (S:ScRel sc X) (hq:∀ q∈E.pins,q.1 ∉ aV t) (h1:tgB X.N sc t tg=true) (h2:okE T X.N (.comp elt tg' k src hc c cap) sc v=true) (h4:dI v=false) :
  PS X (.Assign [tg] v pos) (tMS X E Es O (some (without (without O (aF (.comp elt tg' k src hc c cap))) (aV t))) inv (bA cl (.set t (.comp elt tg' k src hc c cap)))):=by
 refine GP C S h1 h2 h4 fun D σ H=>?_
 rintro ⟨ρ,Hs,o,F,h,kk⟩
 simp only [wA,wB,wC,wD,qW,wF,wG,wH,qX,wI,wJ,wK,qY,qZ] at h
 obtain ⟨d,hd,hb⟩:=aj h
 obtain ⟨ρ',hρ,hb2⟩:=aj hb
 clear h hb
 cases hb2
 obtain ⟨Hs1,F1,m1,vs⟩:=F.pubU (aF (.comp elt tg' k src hc c cap))
 refine ⟨ρ,Hs1,d,F1.sub,vs,hd,fun x H1 Hs2 g2 r2 _=>?_⟩
 have F2:=F1.grown g2
 refine nG (X:=X) g2.sub hρ r2 fun l hl hrl eρ=>?_
 have F3:=F2.putL (by rw [hl];exact hq) hrl
 rw [hl,← eρ] at F3
 exact kk _ rfl _ _ _ F3 (m1.trans (g2.same F1.sub))
theorem Vy {t:Tg}{elt c:M}{tg':Tg}{k:IK}{src:List M}{hc:Bool}{cap:List Bool}{tg v:Expr} (C:Cok T cl X) (S:ScRel sc X) (hq:∀ q∈E.pins,q.1 ∉ aV t) (h1:tgB X.N sc t tg=true) (h2:okE T X.N (.comp elt tg' k src hc c cap) sc v=true) (h4:dI v=false) :
  PS X (.Assign [tg] v pos) (tMS X E Es O (some (without O (aV t))) inv (bA cl (.setC t (.comp elt tg' k src hc c cap)))):=by
 refine GP C S h1 h2 h4 fun D σ H=>?_
 rintro ⟨ρ,Hs,o,F,h,kk⟩
 simp only [wA,wB,wC,wD,qW,wF,wG,wH,qX,wI,wJ,wK,qY,qZ] at h
 obtain ⟨d,hd,hb0⟩:=aj h
 obtain ⟨hlf,hb⟩:=bN hb0
 obtain ⟨ρ',hρ,hb2⟩:=aj hb
 clear h hb hb0
 cases hb2
 obtain ⟨Hs1,F1,m1,vs,w1⟩:=F.pubW (aF (.comp elt tg' k src hc c cap))
 refine ⟨ρ,Hs1,d,F1.sub,vs,hd,fun x H1 Hs2 g2 r2 hfr=>?_⟩
 obtain ⟨Hs3,g3,u1,u2⟩:=zf F.sub w1 g2
 have r3:Rp (gOf X) Hs3 d x:=by
  cases d <;> try (cases hlf;done)
  obtain ⟨a,xs,rfl,sq,rs⟩:=cB.mp r2
  have ha:=hfr a rfl
  refine cB.mpr ⟨a,xs,rfl,?_,lH u1 hlf rs⟩
  rcases sq with (q | ⟨o,q⟩) | q
  ·exact .inl (.inl (by rw [u2 a ha];exact q))
  ·exact .inl (.inr ⟨o,by rw [u2 a ha];exact q⟩)
  ·exact .inr q
 have F2:=F.grown g3
 refine nG (X:=X) g3.sub hρ r3 fun l hl hrl eρ=>?_
 have F3:=F2.putL (by rw [hl];exact hq) hrl
 rw [hl,← eρ] at F3
 exact kk _ rfl _ _ _ F3 (g3.same F.sub)
theorem Vb {t:Tg}{e:M}{tg v:Expr} (C:Cok T cl X) (S:ScRel sc X) (hq:∀ q∈E.pins,q.1 ∉ aV t) (h1:tgB X.N sc t tg=true) (h2:okE T X.N e sc v=true) (h3:dG v=true) (h4:dI v=false) :
  PS X (.Assign [tg] v pos) (tMS X E Es O (some (without O (aV t))) inv (bA cl (.setB t e))):=by
 refine bT (jf (good e C S h2).1 (jG C S h1) (gZ h3) (gj h4 h1) (assign1 h1)) fun D σ H=>?_
 rintro ⟨ρ,Hs,o,F,h,k⟩
 simp only [wA,wB,wC,wD,qW,wF,wG,wH,qX,wI,wJ,wK,qY,qZ] at h
 obtain ⟨d,hd,hb0⟩:=aj h
 obtain ⟨hlf,hb⟩:=bN hb0
 obtain ⟨ρ',hρ,hb2⟩:=aj hb
 clear h hb hb0
 cases hb2
 obtain ⟨Hs1,F1,m1,vs,w1⟩:=F.pubW (aF e)
 refine ⟨ρ,Hs1,d,F1.sub,vs,hd,fun x H1 Hs2 g2 r2=>?_⟩
 obtain ⟨Hs3,g3,u1,u2⟩:=zf F.sub w1 g2
 have F2:=F.grown g3
 refine nG (X:=X) g3.sub hρ (tG u1 hlf r2) fun l hl hrl eρ=>?_
 have F3:=F2.putL (by rw [hl];exact hq) hrl
 rw [hl,← eρ] at F3
 exact k _ rfl _ _ _ F3 (g3.same F.sub)
theorem V4 {i:Nat}{ms:List M}{tg v:Expr} (C:Cok T cl X) (S:ScRel sc X) (hq:∀ q∈E.pins,q.1≠i) (h1:tgB X.N sc (.one i) tg=true) (h2:okE T X.N (.lst ms) sc v=true) (h3:dG v=true) (h4:dI v=false) :
  PS X (.Assign [tg] v pos) (tMS X E Es O (some (i::without (without O (aF (.lst ms))) [i])) inv (bA cl (.set (.one i) (.lst ms)))):=by
 obtain ⟨_,_,rfl⟩:=GX h2
 rw [Km] at h2
 simp only [Bool.and_eq_true] at h2
 refine bT (jf (Ot (fP C S (fun m _=>good m) h2.1 h2.2)) (jG C S h1) (gZ (t:=some tg) (l:=pos.line) (env:=X.env) h3) (gj h4 h1) (assign1 h1)) fun D σ H=>?_
 rintro ⟨ρ,Hs,o,F,h,k⟩
 simp only [wA,wO,wP,wN] at h
 obtain ⟨d,hd,hb⟩:=aj h
 obtain ⟨ρ',hρ,hb2⟩:=aj hb
 clear h hb
 obtain ⟨ds,hds,hd2⟩:=aj hd
 clear hd
 obtain ⟨hlim,hd3⟩:=bN hd2
 clear hd2
 cases hd3
 cases hρ
 cases hb2
 obtain ⟨Hs1,F1,m1,vs⟩:=F.pubU (aP ms)
 refine ⟨ρ,Hs1,ds,F1.sub,vs,hds,fun xs H1 Hs2 g2 r2=>⟨by rw [← r2.length];exact Nat.le_trans hlim lG,fun p hp=>?_⟩⟩
 have F2:=F1.grown g2
 have F3:=F2.setO (i:=i) (d:=.lst ds) (o:=.lst xs) hq hp ⟨xs,aC,r2⟩
 exact k _ rfl _ _ _ F3 (m1.trans (g2.same F1.sub))
theorem Rz {i:Nat}{ms:List M}{tg v:Expr} (C:Cok T cl X) (S:ScRel sc X) (hq:∀ q∈E.pins,q.1≠i) (h1:tgB X.N sc (.one i) tg=true) (h2:okE T X.N (.blt .list ms) sc v=true) (h4:dI v=false) :
  PS X (.Assign [tg] v pos) (tMS X E Es O (some (i::without (without O (aF (.blt .list ms))) [i])) inv (bA cl (.set (.one i) (.blt .list ms)))):=by
 obtain ⟨x,p,es,q,rfl,h9⟩:=cI h2
 simp only [Bool.and_eq_true,decide_eq_true_eq,Bool.not_eq_true'] at h9
 obtain ⟨⟨⟨⟨a1,a2⟩,a3⟩,a4⟩,a5⟩:=h9
 subst a1
 rcases es with _ | ⟨y,ys⟩
 ·cases a3
 have a6:cj T X.N ms sc (y::ys)=true:=a5
 have pa:=fP C S (fun m _=>good m) a6 a4
 have a7:=a4
 simp only [List.all_cons,Bool.and_eq_true] at a7
 refine bT (jf (ux uZ (S.glb _ a2) (C.blt _ (by decide +kernel)) sX pa (by decide +kernel) (by decide +kernel) (aB a7.1) (dR a7.2)) (jG C S h1) rfl (gj h4 h1) (assign1 h1)) fun D σ H=>?_
 rintro ⟨ρ,Hs,o,F,h,k⟩
 simp only [wA,wX] at h
 obtain ⟨d,hd,hb⟩:=aj h
 obtain ⟨ρ',hρ,hb2⟩:=aj hb
 clear h hb
 obtain ⟨ds,hds,hd2⟩:=aj hd
 clear hd
 cases hρ
 cases hb2
 obtain ⟨Hs1,F1,m1,vs⟩:=F.pubU (aP ms)
 refine ⟨ρ,Hs1,ds,F1.sub,vs,hds,fun xs H1 Hs2 g2 r2=>?_⟩
 have F2:=F1.grown g2
 rcases ds with _ | ⟨d0,_ | ⟨d1,ds⟩⟩
 ·cases hd2
 ·obtain ⟨v,rfl,r3⟩:=j4 r2
  cases d0 <;> try (cases hd2;done)
  ·cases hd2
   obtain ⟨a,zs,rfl,s1,r4⟩:=cG.mp r3
   refine ⟨a,zs,rfl,.inr (aL g2.sub s1),fun p hp=>?_⟩
   exact k _ rfl _ _ _ (F2.setO (i:=i) (o:=.lst zs) hq hp ⟨zs,aC,r4⟩) (m1.trans (g2.same F1.sub))
  ·cases hd2
   obtain ⟨a,zs,rfl,s1,r4⟩:=cB.mp r3
   refine ⟨a,zs,rfl,.inl (aO g2.sub s1),fun p hp=>?_⟩
   exact k _ rfl _ _ _ (F2.setO (i:=i) (o:=.lst zs) hq hp ⟨zs,aC,r4⟩) (m1.trans (g2.same F1.sub))
 ·cases d0 <;> cases hd2
theorem VB {i:Nat}{tg v:Expr} (C:Cok T cl X) (S:ScRel sc X) (hq:∀ q∈E.pins,q.1≠i) (h1:tgB X.N sc (.one i) tg=true) (h2:okE T X.N .dct0 sc v=true) (h3:dG v=true) (h4:dI v=false) :
  PS X (.Assign [tg] v pos) (tMS X E Es O (some (i::without (without O (aF .dct0)) [i])) inv (bA cl (.set (.one i) .dct0))):=by
 obtain ⟨ks,vs,p,rfl⟩:=Ga h2
 cases ks <;> try (cases h2;done)
 cases vs <;> try (cases h2;done)
 refine bT (jf Kr (jG C S h1) (gZ (t:=some tg) (l:=pos.line) (env:=X.env) h3) (gj h4 h1) (assign1 h1)) fun D σ H=>?_
 rintro ⟨ρ,Hs,o,F,h,k⟩
 simp only [wA,wO,wP,wN,qR,wa] at h
 cases h
 obtain ⟨Hs1,F1,m1,vs⟩:=F.pubU []
 intro p hp
 have F3:=F1.setO (i:=i) (d:=.dct [] []) (o:=.ext (DAt (gOf X) p [] [])) hq hp ⟨[],[],aC,rfl,fun _ z=>(by cases z),Rps.nil,Rps.nil⟩
 exact k _ rfl _ _ _ F3 m1
theorem iW {ρ:En}{i:Nat}{d:D} (h:cN ρ i=.ok d):ρ[i]?=some (some d):=by
 unfold cN at h
 split at h
 ·cases h;assumption
 ·cases h
theorem Xw {i:Nat}{e:M}{x:Str}{v:Expr}{p ap cp:Pos} (C:Cok T cl X) (S:ScRel sc X) (hv:eZ sc x=true) (ho:aK x=true) (hN:X.N[i]?=some x) (h2:okE T X.N e sc v=true) (hn:noStar v=true) (hl:(ap.endLine == cp.line)=true)
  (hi : i ∈ without O (aF e)) : PS X (.Expr (.Call (.Attribute (.Name x p) "append" ap) [v] [] cp) pos) (tMS X E Es O (some (without O (aF e))) inv (bA cl (.app i e))):=by
 unfold aK at ho
 simp only [Bool.and_eq_true,Bool.not_eq_true'] at ho
 refine bT (nF (K1 PySem.F.plainAttrs_list PySem.F.slot_list_append PySem.F.type_list_append CP (iw hN (S.vis _ hv) ho.1.1 ho.1.2) (fW (good e C S h2).1 lJ (aB hn)) rfl (by rw [aB hn];rfl) hl (aB hn) rfl) rfl) fun D σ H=>?_
 rintro ⟨ρ,Hs,o,F,h,k⟩
 simp only [wA,wB,wC,wD,qW,wF,wG,wH,qX,wI,wJ,wK,qY,qZ] at h
 obtain ⟨l,hl1,hb⟩:=aj h
 obtain ⟨d,hd,hb1⟩:=aj hb
 obtain ⟨l',hl',hb2⟩:=aj hb1
 clear h hb hb1
 cases hb2
 obtain ⟨Hs1,F1,m1,vs⟩:=F.pubU (aF e)
 have hρ:=iW hl1
 obtain ⟨a,ea,a0,a1,ow⟩:=F1.own i hi l hρ
 cases l <;> try (cases hl';done)
 rename_i ds
 simp only [yh] at hl'
 obtain ⟨hlt,hl2⟩:=bN hl'
 clear hl'
 cases hl2
 obtain ⟨xs,hxs,rxs⟩:=ow
 refine ⟨.ref a,ea,.inl ⟨rfl,xs,SqL.of hxs⟩,ρ,Hs1,d,F1.sub,vs,hd,fun y H1 Hs2 g2 r2=>?_⟩
 have F2:=F1.grown g2
 have hl:=rxs.length
 have hlim:=lG
 refine ⟨a,xs,y,rfl,rfl,g2.keep a _ hxs,by omega,?_⟩
 have F3:=F2.mut (o:=.lst (xs++[y])) (d':=.lst (ds++[d])) hi hρ ea ⟨_,aC,(rxs.mono (g2.same F1.sub)).append (Rps.one r2)⟩
 exact k _ rfl _ _ _ F3 (m1.trans (g2.same F1.sub))
theorem W4 {i:Nat}{e:M}{x:Str}{v:Expr}{p ap cp:Pos} (C:Cok T cl X) (S:ScRel sc X) (hv:eZ sc x=true) (ho:aK x=true) (hN:X.N[i]?=some x) (h2:okE T X.N e sc v=true) (hn:noStar v=true) (hl:(ap.endLine == cp.line)=true)
  (hi : i ∈ without O (aF e)) : PS X (.Expr (.Call (.Attribute (.Name x p) "extend" ap) [v] [] cp) pos) (tMS X E Es O (some (without O (aF e))) inv (bA cl (.ext i e))):=by
 unfold aK at ho
 simp only [Bool.and_eq_true,Bool.not_eq_true'] at ho
 refine bT (nF (K1 PySem.F.plainAttrs_list PySem.F.slot_list_extend PySem.F.type_list_extend Wm (iw hN (S.vis _ hv) ho.1.1 ho.1.2) (fW (good e C S h2).1 lJ (aB hn)) rfl (by rw [aB hn];rfl) hl (aB hn) rfl) rfl) fun D σ H=>?_
 rintro ⟨ρ,Hs,o,F,h,k⟩
 simp only [wA,wB,wC,wD,qW,wF,wG,wH,qX,wI,wJ,wK,qY,qZ] at h
 obtain ⟨l,hl1,hb⟩:=aj h
 obtain ⟨d,hd,hb1⟩:=aj hb
 obtain ⟨l',hl',hb2⟩:=aj hb1
 clear h hb hb1
 cases hb2
 obtain ⟨Hs1,F1,m1,vs⟩:=F.pubU (aF e)
 have hρ:=iW hl1
 obtain ⟨a,ea,a0,a1,ow⟩:=F1.own i hi l hρ
 cases l <;> try (cases hl';done)
 rename_i ds
 obtain ⟨xs,hxs,rxs⟩:=ow
 refine ⟨.ref a,ea,.inl ⟨rfl,xs,SqL.of hxs⟩,ρ,Hs1,d,F1.sub,vs,hd,fun y H1 Hs2 g2 r2=>?_⟩
 have F2:=F1.grown g2
 have hl:=rxs.length
 cases d <;> try (cases hl';done)
 ·simp only [Bs] at hl'
  obtain ⟨hlt,hl2⟩:=bN hl'
  clear hl'
  cases hl2
  obtain ⟨b,zs,rfl,s1,rz⟩:=cG.mp r2
  have hz:=rz.length
  refine ⟨a,b,xs,zs,rfl,rfl,g2.keep a _ hxs,.inr (aL g2.sub s1),by omega,?_⟩
  have F3:=F2.mut (o:=.lst (xs++zs)) (d':=.lst (ds++_)) hi hρ ea ⟨_,aC,(rxs.mono (g2.same F1.sub)).append rz⟩
  exact k _ rfl _ _ _ F3 (m1.trans (g2.same F1.sub))
 ·simp only [Bs] at hl'
  obtain ⟨hlt,hl2⟩:=bN hl'
  clear hl'
  cases hl2
  obtain ⟨b,zs,rfl,s1,rz⟩:=cB.mp r2
  have hz:=rz.length
  refine ⟨a,b,xs,zs,rfl,rfl,g2.keep a _ hxs,.inl (aO g2.sub s1),by omega,?_⟩
  have F3:=F2.mut (o:=.lst (xs++zs)) (d':=.lst (ds++_)) hi hρ ea ⟨_,aC,(rxs.mono (g2.same F1.sub)).append rz⟩
  exact k _ rfl _ _ _ F3 (m1.trans (g2.same F1.sub))
theorem W3 {i:Nat}{mk mv:M}{x:Str}{kx v:Expr}{p p2:Pos} (C:Cok T cl X) (S:ScRel sc X) (hv:eZ sc x=true) (ho:aK x=true) (hN:X.N[i]?=some x) (h2:okE T X.N mk sc kx=true) (h3:okE T X.N mv sc v=true) (h4:dG v=true) (hp:iD kx=true)
  (hi:i∈without O (aF mk++aF mv)):PS X (.Assign [.Subscript (.Name x p) kx p2] v pos) (tMS X E Es O (some (without O (aF mk++aF mv))) inv (bA cl (.put i mk mv))):=by
 unfold aK at ho
 simp only [Bool.and_eq_true,Bool.not_eq_true'] at ho
 have hst:swappedStores [.Subscript (.Name x p) kx p2] v X.env=pure none:=by cases v <;> rfl
 refine bT (jf (good mv C S h3).1 (N7 (iw hN (S.vis _ hv) ho.1.1 ho.1.2) (good mk C S h2).1 (set_dict C.un) (by intro _;cases kx <;> first | rfl | cases hp)) (gZ (t:=some (.Subscript (.Name x p) kx p2)) (l:=pos.line) (env:=X.env) h4) hst rfl) fun D σ H=>?_
 rintro ⟨ρ,Hs,o,F,h,k⟩
 simp only [wA,wB,wC,wD,qW,wF,wG,wH,qX,wI,wJ,wK,qY,qZ] at h
 obtain ⟨dv,hdv,hb⟩:=aj h
 obtain ⟨l,hl1,hb0⟩:=aj hb
 obtain ⟨dk,hdk,hb1⟩:=aj hb0
 obtain ⟨l',hl',hb2⟩:=aj hb1
 clear h hb hb0 hb1
 cases hb2
 obtain ⟨Hs1,F1,m1,vs⟩:=F.pubU (aF mk++aF mv)
 have hρ:=iW hl1
 obtain ⟨a,ea,a0,a1,ow⟩:=F1.own i hi l hρ
 cases l <;> try (cases hl';done)
 rename_i ks vs0
 simp only [putD] at hl'
 obtain ⟨⟨hk,hlt,hlen⟩,hl2⟩:=bN hl'
 clear hl'
 cases hl2
 obtain ⟨xs,ys,hxs,e1,e2,rk,rv⟩:=ow
 refine ⟨ρ,Hs1,dv,F1.sub,vs.r,hdv,fun y H1 Hs2 g2 r2=>?_⟩
 refine ⟨.ref a,ea,ρ,Hs2,dk,g2.sub,vs.l.mono (g2.same F1.sub),hdk,fun z H2 Hs3 g3 r3=>?_⟩
 have g4:=g2.trans g3
 have F2:=F1.grown g4
 have hs:=F2.sub
 have m3:=g4.same F1.sub
 refine ⟨a,dk,ks,xs,ys,rfl,r3.mono hs,hk,⟨g4.keep a _ hxs,e1,e2,rk.mono (m3.trans hs)⟩,by rw [e1,List.length_map] at hlt;exact hlt,fun b u eb ru=>?_⟩
 subst eb
 obtain ⟨q1,q2,q3,q4⟩:=CN (X:=X) (H:=Hs3) (a:=a) (u:=u) e1 e2 (rk.mono m3) (rv.mono m3) hk r3 (r2.mono (g3.same g2.sub)) hlen
 have F3:=F2.mut (o:=.ext (DAt (gOf X) a (jq xs ys dk b u y).1 (jq xs ys dk b u y).2)) (d':=.dct (iR ks vs0 dk dv).1 (iR ks vs0 dk dv).2) hi hρ ea ⟨_,_,aC,q1,q2,q3,q4⟩
 exact k _ rfl _ _ _ F3 (m1.trans m3)
theorem Vx {i:Nat}{mk mv:M}{x:Str}{kx v:Expr}{p p2:Pos} (C:Cok T cl X) (S:ScRel sc X) (hv:eZ sc x=true) (ho:aK x=true) (hN:X.N[i]?=some x) (h2:okE T X.N mk sc kx=true) (h3:okE T X.N mv sc v=true) (h4:dG v=true) (hp:iD kx=true)
  (hi:i∈O):PS X (.Assign [.Subscript (.Name x p) kx p2] v pos) (tMS X E Es O (some O) inv (bA cl (.putB i mk mv))):=by
 unfold aK at ho
 simp only [Bool.and_eq_true,Bool.not_eq_true'] at ho
 have hst:swappedStores [.Subscript (.Name x p) kx p2] v X.env=pure none:=by cases v <;> rfl
 refine bT (jf (good mv C S h3).1 (N7 (iw hN (S.vis _ hv) ho.1.1 ho.1.2) (good mk C S h2).1 (set_dict C.un) (by intro _;cases kx <;> first | rfl | cases hp)) (gZ (t:=some (.Subscript (.Name x p) kx p2)) (l:=pos.line) (env:=X.env) h4) hst rfl) fun D σ H=>?_
 rintro ⟨ρ,Hs,o,F,h,k⟩
 simp only [qT] at h
 obtain ⟨dv,hdv,hb⟩:=aj h
 obtain ⟨l,hl1,hb0⟩:=aj hb
 obtain ⟨dk,hdk,hb1⟩:=aj hb0
 obtain ⟨l',hl',hb2⟩:=aj hb1
 clear h hb hb0 hb1
 obtain ⟨hlf,hb3⟩:=bN hb2
 rw [Bool.and_eq_true] at hlf
 cases hb3
 have hρ:=iW hl1
 obtain ⟨a,ea,-,-,-⟩:=F.own i hi l hρ
 cases l <;> try (cases hl';done)
 rename_i ks vs0
 simp only [putD] at hl'
 obtain ⟨⟨hk,hlt,hlen⟩,hl2⟩:=bN hl'
 clear hl'
 cases hl2
 obtain ⟨Hs1,F1,m1,vs1,w1⟩:=F.pubW (aF mv)
 refine ⟨ρ,Hs1,dv,F1.sub,vs1,hdv,fun y H1 Hs2 g2 r2=>?_⟩
 obtain ⟨Hs3,g3,u1,_⟩:=zf F.sub w1 g2
 have F2:=F.grown g3
 have ry:=tG u1 hlf.1 r2
 obtain ⟨Hs5,F5,m5,vs5,w5⟩:=F2.pubW (aF mk)
 refine ⟨.ref a,ea,ρ,Hs5,dk,F5.sub,vs5,hdk,fun z H2 Hs6 g6 r6=>?_⟩
 obtain ⟨Hs7,g7,u7,_⟩:=zf F2.sub w5 g6
 have F3:=F2.grown g7
 have rz:=tG u7 hlf.2 r6
 obtain ⟨a',ea',a0,a1,ow⟩:=F3.own i hi _ hρ
 rw [ea] at ea'
 cases ea'
 obtain ⟨xs,ys,hxs,e1,e2,rk,rv⟩:=ow
 refine ⟨a,dk,ks,xs,ys,rfl,rz.mono F3.sub,hk,⟨hxs,e1,e2,rk.mono F3.sub⟩,by rw [e1,List.length_map] at hlt;exact hlt,fun b u eb ru=>?_⟩
 subst eb
 obtain ⟨q1,q2,q3,q4⟩:=CN (X:=X) (H:=Hs7) (a:=a) (u:=u) e1 e2 rk rv hk rz (ry.mono (g7.same F2.sub)) hlen
 have F4:=F3.mut (o:=.ext (DAt (gOf X) a (jq xs ys dk b u y).1 (jq xs ys dk b u y).2)) (d':=.dct (iR ks vs0 dk dv).1 (iR ks vs0 dk dv).2) hi hρ ea ⟨_,_,aC,q1,q2,q3,q4⟩
 exact k _ rfl _ _ _ F4 ((g3.trans g7).same F.sub)
theorem Rps.erase {g:G}{H:Hp}:∀ {ds:List D}{vs:List V} (k:Nat),Rps g H ds vs→Rps g H (ds.eraseIdx k) (vs.eraseIdx k)
 | [],vs,k,r=>by cases r.nil_inv;exact Rps.nil
 | d::ds,vs,0,r=>by
  obtain ⟨v,ws,rfl,r0,rs⟩:=r.cons_inv
  exact rs
 | d::ds,vs,k+1,r=>by
  obtain ⟨v,ws,rfl,r0,rs⟩:=r.cons_inv
  exact Rps.cons r0 (Rps.erase k rs)
theorem Ys {i:Nat}{e:M}{x:Str}{v:Expr}{p ap cp:Pos} (C:Cok T cl X) (S:ScRel sc X) (hv:eZ sc x=true) (ho:aK x=true) (hN:X.N[i]?=some x) (h2:okE T X.N e sc v=true) (hn:noStar v=true) (hl:(ap.endLine == cp.line)=true)
  (hi : i ∈ without O (aF e)) : PS X (.Expr (.Call (.Attribute (.Name x p) "pop" ap) [v] [] cp) pos) (tMS X E Es O (some (without O (aF e))) inv (bA cl (.pop i e))):=by
 unfold aK at ho
 simp only [Bool.and_eq_true,Bool.not_eq_true'] at ho
 refine bT (nF (K1 PySem.F.plainAttrs_list PySem.F.slot_list_pop PySem.F.type_list_pop S8 (iw hN (S.vis _ hv) ho.1.1 ho.1.2) (fW (good e C S h2).1 lJ (aB hn)) rfl (by rw [aB hn];rfl) hl (aB hn) rfl) rfl) fun D σ H=>?_
 rintro ⟨ρ,Hs,o,F,h,k⟩
 simp only [wE] at h
 obtain ⟨l,hl1,hb⟩:=aj h
 obtain ⟨d,hd,hb1⟩:=aj hb
 obtain ⟨l',hl',hb2⟩:=aj hb1
 clear h hb hb1
 cases hb2
 obtain ⟨Hs1,F1,m1,vs⟩:=F.pubU (aF e)
 have hρ:=iW hl1
 obtain ⟨a,ea,a0,a1,ow⟩:=F1.own i hi l hρ
 cases l <;> try (cases hl';done)
 rename_i ds
 obtain ⟨xs,hxs,rxs⟩:=ow
 cases d <;> try (cases hl';done)
 rename_i j
 refine ⟨.ref a,ea,.inl ⟨rfl,xs,SqL.of hxs⟩,ρ,Hs1,_,F1.sub,vs,hd,fun y H1 Hs2 g2 r2=>?_⟩
 have F2:=F1.grown g2
 have hlx:=rxs.length
 obtain ⟨hlm,hl2⟩:=bN hl'
 have hlim:lim=100000:=rfl
 cases en:ixN ds.length j with
 | none=>rw [en] at hl2;cases hl2
 | some q =>
  rw [en] at hl2
  cases hl2
  obtain ⟨s1,s2,s3,s4⟩:=JZ en
  cases aN.mp r2
  refine ⟨a,xs,j,q,xs[q]'(by omega),rfl,rfl,g2.keep a _ hxs,by omega,by omega,by rw [← hlx];exact s1,by simp,?_⟩
  have F3:=F2.mut (o:=.lst (xs.eraseIdx q)) (d':=.lst (ds.eraseIdx q)) hi hρ ea ⟨_,aC,(rxs.mono (g2.same F1.sub)).erase q⟩
  exact k _ rfl _ _ _ F3 (m1.trans (g2.same F1.sub))
theorem TQ {i f:Nat}{e:M}{x n:Str}{y:Expr}{p p2 cp:Pos} (C:Cok T cl X) (S:ScRel sc X) (ho:aK x=true) (hg:eF sc x=true) (hF:T.F[f]?=some x) (h2:okE T X.N e sc y=true) (hn:noStar y=true) (hv:eZ sc n=true) (hon:aK n=true) (hN:X.N[i]?=some n)
  (hi:i∈without O (aF e)):PS X (.Expr (.Call (.Name x p) [y,.Name n p2] [] cp) pos) (tMS X E Es O (some (without O (aF e))) inv (bA cl (.callm i f e))):=by
 unfold aK at ho hon
 simp only [Bool.and_eq_true,Bool.not_eq_true'] at ho hon
 obtain ⟨k,a,fd,ps,_,FM,hr,hm,hk,hb,_,hlen,_⟩:=C.fns f x hF
 refine bT (nF (Bj FM hr (S.glb _ hg) hm hk hb .nil Ej (fW (good e C S h2).1 (fW (iw hN (S.vis _ hv) hon.1.1 hon.1.2) lJ) (aB hn)) ho.1.1 (aB hn) rfl) rfl) fun D σ H=>?_
 rintro ⟨ρ,Hs,o,F,h,kk⟩
 simp only [qK] at h
 obtain ⟨d0,hd0,hb1⟩:=aj h
 obtain ⟨l,hl1,hb2⟩:=aj hb1
 obtain ⟨l',hl',hb3⟩:=aj hb2
 clear h hb1 hb2
 cases hb3
 obtain ⟨Hs1,F1,m1,vs⟩:=F.pubU (aF e)
 refine ⟨ρ,Hs1,d0,F1.sub,vs,hd0,fun v0 H1 Hs2 g2 r2=>?_⟩
 have F2:=F1.grown g2
 have hρ:=iW hl1
 obtain ⟨b,eb,b0,b1,ow⟩:=F2.own i hi l hρ
 refine ⟨.ref b,eb,?_⟩
 refine ⟨d0,l,l',v0,b,Hs2,rfl,?_,F2.sub,r2,b1,ow,hl',fun H' Hs' w hn' ow'=>?_⟩
 ·exact (hlen _ _ hl').symm
 ·obtain ⟨F3,s3⟩:=F2.lend hi hρ eb w hn' ow'
  exact kk _ rfl _ _ _ F3 ((m1.trans (g2.same F1.sub)).trans s3)
theorem V3 {i:Nat}{x:Str}{p:Pos} (C:Cok T cl X) (S:ScRel sc X) (ho:aK x=true) (hv:eZ sc x=true) (hN:X.N[i]?=some x) (hi:i∈O):PS X (.Return (some (.Name x p)) pos) (tMS X E Es O none inv (bA cl (.retO i))):=by
 unfold aK at ho
 simp only [Bool.and_eq_true,Bool.not_eq_true'] at ho
 refine bT (O6 (iw hN (S.vis _ hv) ho.1.1 ho.1.2)) fun D σ H=>?_
 rintro ⟨ρ,Hs,o,F,h,k⟩
 simp only [qU] at h
 obtain ⟨d,hd,hb⟩:=aj h
 cases hb
 have hρ:=iW hd
 obtain ⟨a,ea,a0,_,_⟩:=F.own i hi d hρ
 obtain ⟨Hs1,F1,m1,_⟩:=F.pub1 i
 obtain ⟨v,ev,rv⟩:=F1.val i d hρ (by rw [List.mem_filter];simp)
 rw [ea] at ev
 cases ev
 exact ⟨.ref a,ea,k _ _ Hs1 F1.grow rv fun b e=>by cases e;exact a0⟩
theorem Vi {i f:Nat}{ms:List M}{x:Str}{tg:Expr}{as:List Expr}{p cp:Pos} (C:Cok T cl X) (S:ScRel sc X) (hq:∀ q∈E.pins,q.1≠i) (h1:tgB X.N sc (.one i) tg=true) (ho:aK x=true) (hg:eF sc x=true) (hF:T.F[f]?=some x) (h2:cj T X.N ms sc as=true) (hn:as.all noStar=true) (hne:as.isEmpty=false) :
  PS X (.Assign [tg] (.Call (.Name x p) as [] cp) pos) (tMS X E Es O (some (i::without (without O (aP ms)) [i])) inv (bA cl (.setF i f ms))):=by
 unfold aK at ho
 simp only [Bool.and_eq_true,Bool.not_eq_true'] at ho
 obtain ⟨k,a,fd,ps,_,_,hr,hm,hk,hb,_,_,FF,hlen⟩:=C.fns f x hF
 rcases as with _ | ⟨y,ys⟩
 ·cases hne
 have pa:=fP C S (fun m _=>good m) h2 hn
 simp only [List.all_cons,Bool.and_eq_true] at hn
 refine bT (jf (Bj FF hr (S.glb _ hg) hm hk hb .nil Ej pa ho.1.1 (aB hn.1) (dR hn.2)) (jG C S h1) rfl (gj rfl h1) (assign1 h1)) fun D σ H=>?_
 rintro ⟨ρ,Hs,o,F,h,kk⟩
 simp only [qV] at h
 obtain ⟨ds,hds,hb1⟩:=aj h
 obtain ⟨d,hd,hb2⟩:=aj hb1
 clear h hb1
 obtain ⟨hlf,hb3⟩:=bN hb2
 cases hb3
 obtain ⟨Hs1,F1,m1,vs⟩:=F.pubU (aP ms)
 refine ⟨ρ,Hs1,ds,F1.sub,vs,hds,fun xs H1 Hs2 g2 r2=>?_⟩
 have F2:=F1.grown g2
 show spF (gOf X) (cl (2000+f)) ps.length (xs++[]) H1 _ E0
 rw [List.append_nil]
 refine ⟨ds,Hs2,d,by rw [← r2.length];exact hlen ds d hd,g2.sub,r2,hd,fun v H2 Hs3 g3 r3 hfr=>?_⟩
 cases d <;> try (cases hlf;done)
 rename_i ks ws
 replace hlf:(lX ks && lX ws)=true:=hlf
 rw [Bool.and_eq_true] at hlf
 obtain ⟨b,xs',ys',rfl,hb,e1,e2,r4,r5⟩:=rP.mp r3
 have hn1:H1 b=none:=hfr b rfl
 have u1:∀ t o,Hs3 t=some o→rK o=false→hole Hs3 b t=some o:=fun t o q hm=>by
  have:t≠b:=fun z=>by rw [z,hb] at q;cases q;cases hm
  rw [rW this];exact q
 have g4:Grow H1 Hs2 H2 (hole Hs3 b):=⟨g3.keep,fun c o q=>by rw [rW (ak q hn1)];exact g3.old c o q,fun c o q=>by
  by_cases hc:c=b
  ·rw [hc,vX] at q;cases q
  ·rw [rW hc] at q;exact g3.sub c o q⟩
 have F3:=F2.adopt (i:=i) (d:=.dct ks ws) hq g4 hn1 vX ⟨xs',ys',g3.sub _ _ hb,e1,e2,lH u1 hlf.1 r4,lH u1 hlf.2 r5⟩
 exact kk _ rfl _ _ _ F3 ((m1.trans (g2.same F1.sub)).trans (g4.same F2.sub))
theorem VN {e:M}{v:Expr} (C:Cok T cl X) (S:ScRel sc X) (h2:okE T X.N e sc v=true) (h3:dG v=true):PS X (.Expr v pos) (tMS X E Es O (some (without O (aF e))) inv (bA cl (.expr e))):=by
 refine bT (nF (good e C S h2).1 (gZ h3)) fun D σ H=>?_
 rintro ⟨ρ,Hs,o,F,h,k⟩
 simp only [wA,wB,wC,wD,qW,wF,wG,wH,qX,wI,wJ,wK,qY,qZ] at h
 obtain ⟨d,hd,hb⟩:=aj h
 clear h
 cases hb
 obtain ⟨Hs1,F1,m1,vs⟩:=F.pubU (aF e)
 exact ⟨ρ,Hs1,d,F1.sub,vs,hd,fun y H1 Hs2 g2 r2=>k _ rfl _ _ _ (F1.grown g2) (m1.trans (g2.same F1.sub))⟩
theorem Xj {e:M}{v:Expr} (C:Cok T cl X) (S:ScRel sc X) (h2:okE T X.N e sc v=true):PS X (.Return (some v) pos) (tMS X E Es O none inv (bA cl (.ret e))):=by
 refine bT (O6 (good e C S h2).1) fun D σ H=>?_
 rintro ⟨ρ,Hs,o,F,h,k⟩
 simp only [wA,wB,wC,wD,qW,wF,wG,wH,qX,wI,wJ,wK,qY,qZ] at h
 obtain ⟨d,hd,hb⟩:=aj h
 clear h
 cases hb
 obtain ⟨Hs1,F1,m1,vs⟩:=F.pubU (aF e)
 exact ⟨ρ,Hs1,d,F1.sub,vs,hd,fun y H1 Hs2 g2 r2=>k y H1 Hs2 (F1.grow.trans g2) r2⟩
theorem VG {e:M} (h2:cX e=true):PS X (.Return none pos) (tMS X E Es O none inv (bA cl (.ret e))):=by
 refine bT WM fun D σ H=>?_
 rintro ⟨ρ,Hs,o,F,h,k⟩
 cases e <;> try (cases h2;done)
 rename_i d
 cases d <;> try (cases h2;done)
 simp only [wA,wB,wC,wD,qW,wF,wG,wH,qX,wI,wJ,wK,qY,qZ,wO,wP,wM,wN,qR] at h
 cases h
 exact k .non H Hs F.grow (Ao.mpr rfl)
end
end Mi
namespace Mi
open PySem L2
open PyProof.Rows hiding St
section
variable {T:Tx}{cl:Nat→List D→R D}{X:Cx}{sc:Scope}{E:Ent}{Es:Hp}{O:List Nat}{inv:List Nat}{pos:Pos}
theorem kJ.meetL {g:G}{Hs:Hp}{x y:Ow}{D:Ends}{o:Out} (h:kJ g E Es Hs (mW x y) inv D o):kJ g E Es Hs x inv D o:=by
 cases o with
 | rt d=>exact h
 | ro d=>exact h
 | bk ρ=>exact h
 | ct ρ=>exact h
 | nx ρ =>
  intro O1 e σ' H' Hs' F s
  subst e
  cases y with
  | none=>exact h O1 rfl σ' H' Hs' F s
  | some b =>
   obtain ⟨Hs2,F2,m⟩:=F.fewer (O':=O1.filter fun i=>b.contains i) fun i hi=>(List.mem_filter.mp hi).1
   exact h _ rfl σ' H' Hs2 F2 (s.trans m)
theorem kJ.meetR {g:G}{Hs:Hp}{x y:Ow}{D:Ends}{o:Out} (h:kJ g E Es Hs (mW x y) inv D o):kJ g E Es Hs y inv D o:=by
 cases o with
 | rt d=>exact h
 | ro d=>exact h
 | bk ρ=>exact h
 | ct ρ=>exact h
 | nx ρ =>
  intro O1 e σ' H' Hs' F s
  subst e
  cases x with
  | none=>exact h O1 rfl σ' H' Hs' F s
  | some b =>
   obtain ⟨Hs2,F2,m⟩:=F.fewer (O':=b.filter fun i=>O1.contains i) fun i hi=>by
    have:=(List.mem_filter.mp hi).2
    simpa using this
   exact h _ rfl σ' H' Hs2 F2 (s.trans m)
theorem Zn {c:M}{a b:List MS}{c':Expr}{a' b':List Stmt}{x y:Ow} (C:Cok T cl X) (S:ScRel sc X) (h1:okE T X.N c sc c'=true) (ha:PSs X a' (tMS X E Es O x inv (cJ cl a))) (hb:PSs X b' (tMS X E Es O y inv (cJ cl b))) :
  PS X (.If c' a' b' pos) (tMS X E Es O (mW x y) inv (bA cl (.ifs c a b))):=by
 refine bT (Uk (good c C S h1).2 ha hb) fun D σ H=>?_
 rintro ⟨ρ,Hs,o,F,h,k⟩
 simp only [wA,wB,wC,wD,qW,wF,wG,wH,qX,wI,wJ,wK,qY,qZ] at h
 obtain ⟨d,hd,hb⟩:=aj h
 obtain ⟨t,ht,hb2⟩:=aj hb
 clear h hb
 cases cR ht
 obtain ⟨Hs1,F1,m1,vs,w1⟩:=F.pubW (aF c)
 refine ⟨ρ,Hs1,t,F1.sub,vs,hd,fun H1 Hs2 g2=>?_⟩
 obtain ⟨Hs3,g3,_,_⟩:=zf F.sub w1 g2
 have m2:=g3.same F.sub
 cases t with
 | true=>(try dsimp only);rw [if_pos rfl];rw [if_pos rfl] at hb2;exact ⟨ρ,Hs3,o,F.grown g3,hb2,k.meetL.mono m2⟩
 | false=>(try dsimp only);rw [if_neg (by decide)];rw [if_neg (by decide)] at hb2;exact ⟨ρ,Hs3,o,F.grown g3,hb2,k.meetR.mono m2⟩
theorem Wh {g:G}{J:It}{Hs0:Hp}{ds:List D}{gt:TG}{tb:TS}{D:Ends}{σ:St}{H:Hp} (src:Src g J Hs0 ds) (Pv:Nat→St→Hp→Prop) (h0:Pv 0 σ H) (hsame:∀ i σ H,Pv i σ H→Same Hs0 H)
  (step:∀ i d x σ H H',ds[i]?=some d→Pv i σ H→J.yld i H x H'→gt x σ H' fun σ2 H2=>tb { D with nx:=Pv (i+1),ct:=Pv (i+1),bk:=D.nx } σ2 H2) (hd:∀ σ H,Pv ds.length σ H→D.nx σ H) :
  ∃ W:Nat→Nat→St→Hp→Prop,(∃ m,W 0 m σ H)∧∀ i m σ H,W i m σ H →
   (J.stop i H∧D.nx σ H)∨(J.go i H∧∃ N:St→Hp→Prop,(∀ σ' H',N σ' H'→∃ m',m' < m∧W (i+1) m' σ' H')∧∀ x H',J.yld i H x H'→gt x σ H' fun σ2 H2=>tb { D with nx:=N,ct:=N,bk:=D.nx } σ2 H2):=by
 refine ⟨fun i m σ H=>m=ds.length - i∧i≤ds.length∧Pv i σ H,⟨ds.length,by simp,Nat.zero_le _,h0⟩,?_⟩
 rintro i m σ H ⟨rfl,hi,p⟩
 by_cases hlt:i < ds.length
 ·refine .inr ⟨src.go i H (hsame i σ H p) hlt,Pv (i+1),fun σ' H' p'=>⟨ds.length - (i+1),by omega,rfl,hlt,p'⟩,fun x H' y=>?_⟩
  exact step i ds[i] x σ H H' (by simp [hlt]) p y
 ·have e:i=ds.length:=by omega
  subst e
  exact .inl ⟨src.stop H (hsame _ σ H p),hd σ H p⟩
theorem Oz {t:Tg}{k:IK}{src:List M}{b:List MS}{tg iter:Expr}{body:List Stmt}{O2:List Nat}{y:Ow} (C:Cok T cl X) (S:ScRel sc X) (hp:PassesOwn (model X.prog X.w) X.A X.env X.xe) (hq:∀ q∈E.pins,q.1 ∉ aV t)
  (h1:tgB X.N sc t tg=true) (h2:n8 sc k tg iter=true) (h3:cj T X.N src sc (rO k iter)=true) (hsub:∀ i∈O2,i∈without (without O (aP src)) (aV t)) (hy:∀ O3,y=some O3→∀ i∈O2,i∈O3)
  (hb:PSs X body (tMS X E Es O2 y O2 (cJ cl b))):PS X (.For tg iter body [] pos) (tMS X E Es O (some O2) inv (bA cl (.forr t k src b))):=by
 refine bT (YF hp C.calm (vZ C S (fun m _=>good m) h2 h3) (jG C S h1) hb (vC (tH h2))) fun D σ H=>?_
 rintro ⟨ρ,Hs,o,F,h,kk⟩
 simp only [wA,wB,wC,wD,qW,wF,wG,wH,qX,wI,wJ,wK,qY,qZ] at h
 obtain ⟨ss,hss,hb1⟩:=aj h
 obtain ⟨ds,hds,hrun⟩:=aj hb1
 clear h hb1
 obtain ⟨Hs1,F1,m1,vs⟩:=F.pubU (aP src)
 refine ⟨ρ,Hs1,ds,F1.sub,vs,by simp only [hss,qR];exact hds,fun J H1 Hs2 g2 sr=>?_⟩
 have F2:=F1.grown g2
 obtain ⟨Hs3,F3,m3⟩:=F2.fewer (O':=O2) fun i hi=>(bK.mp (hsub i hi)).1
 have mm:Same Hs Hs3:=(m1.trans (g2.same F1.sub)).trans m3
 refine Wh sr (fun i σ H=>∃ ρ1 Hs',FR (gOf X) E Es O2 ρ1 σ H Hs'∧Same Hs3 Hs'∧gJ (fun d ρ=>do let ρ1 ← dO t d ρ;cJ cl b ρ1) ρ (ds.drop i) ρ1=.ok o) ⟨ρ,Hs3,F3,Same.refl _,hrun⟩ (fun i σ H ⟨ρ1,Hs',F',s',_⟩=>(m3.trans s').trans F'.sub) ?_ ?_
 ·rintro i d x σ1 H1' H2' hdi ⟨ρ1,Hs',F',s',hgo⟩ hy'
  obtain ⟨hlt,ed⟩:=List.getElem?_eq_some_iff.mp hdi
  rw [List.drop_eq_getElem_cons hlt,ed] at hgo
  unfold gJ at hgo
  obtain ⟨o1,ho1,hgo2⟩:=aj hgo
  clear hgo
  obtain ⟨ρ2,hρ2,hrb⟩:=aj ho1
  clear ho1
  obtain ⟨Hs4,g4,rx⟩:=sr.yld i H1' x H2' Hs' d (m3.trans s') F'.sub hdi hy'
  have F4:=F'.grown g4
  have s4:Same Hs3 Hs4:=s'.trans (g4.same F'.sub)
  refine nG (X:=X) g4.sub hρ2 rx fun l hl hrl eρ=>?_
  have F5:=F4.putL (by rw [hl];exact hq) hrl
  rw [hl,← eρ] at F5
  obtain ⟨Hs6,F6,m6⟩:=F5.fewer (O':=O2) fun j hj=>bK.mpr ⟨hj,(bK.mp (hsub j hj)).2⟩
  refine ⟨ρ2,Hs6,o1,F6,hrb,?_⟩
  have s6:Same Hs3 Hs6:=s4.trans m6
  cases o1 with
  | nx ρ3 =>
   intro O3 e3 σ' H' Hs7 F7 s7
   obtain ⟨Hs8,F8,m8⟩:=F7.fewer (hy O3 e3)
   exact ⟨aJ ρ ρ3,Hs8,F8.less (oN _ _) fun j d' q=>o8 q,(s6.trans s7).trans m8,hgo2⟩
  | ct ρ3 =>
   intro σ' H' Hs7 F7 s7
   exact ⟨aJ ρ ρ3,Hs7,F7.less (oN _ _) fun j d' q=>o8 q,s6.trans s7,hgo2⟩
  | bk ρ3 =>
   intro σ' H' Hs7 F7 s7
   cases hgo2
   exact kk O2 rfl σ' H' Hs7 (F7.less (oN _ _) fun j d' q=>o8 q) ((mm.trans s6).trans s7)
  | rt d3 =>
   intro v H' Hs7 g7 r7
   cases hgo2
   exact kk v H' Hs7 g7 r7
  | ro d3 =>
   intro v H' Hs7 g7 r7 f7
   cases hgo2
   exact kk v H' Hs7 g7 r7 f7
 ·rintro σ1 H1' ⟨ρ1,Hs',F',s',hgo⟩
  rw [List.drop_length] at hgo
  cases hgo
  exact kk O2 rfl _ _ _ F' (mm.trans s')
noncomputable def Ut (T:Tx) (cl:Nat→List D→R D) (m:MS):Prop:=∀ (X:Cx) (sc:Scope) (st:Stmt) (inv O:List Nat) (O':Ow) (E:Ent) (Es:Hp),(∀ q∈E.pins,q.1 ∉ RD m)→Cok T cl X→ScRel sc X→PassesOwn (model X.prog X.w) X.A X.env X.xe→okS T X.N sc m st=true→jr inv m O=some O'→PS X st (tMS X E Es O O' inv (bA cl m))
theorem sU {T:Tx}{cl:Nat→List D→R D}:∀ {ms:List MS},(∀ m∈ms,Ut T cl m)→∀ {X:Cx}{sc:Scope}{sts:List Stmt}{inv O:List Nat}{O':Ow}{E:Ent}{Es:Hp},(∀ q∈E.pins,q.1 ∉ vm ms)→Cok T cl X→ScRel sc X→PassesOwn (model X.prog X.w) X.A X.env X.xe→okB T X.N sc ms sts=true→eY inv ms O=some O'→PSs X sts (tMS X E Es O O' inv (cJ cl ms))
 | [],G,X,sc,sts,inv,O,O',E,Es,hq,C,S,hp,h,hc=>by
  rw [VF,List.isEmpty_iff] at h
  subst h
  cases hc
  refine BJ J5 fun D σ H=>?_
  rintro ⟨ρ,Hs,o,F,h,k⟩
  simp only [qz,qS] at h
  cases h
  exact k O rfl σ H Hs F (Same.refl _)
 | m::ms,G,X,sc,[],inv,O,O',E,Es,hq,C,S,hp,h,hc=>by cases h
 | m::ms,G,X,sc,st::sts,inv,O,O',E,Es,hq,C,S,hp,h,hc=>by
  simp only [QG,Bool.and_eq_true] at h
  rw [Nj] at hc
  cases e1:jr inv m O with
  | none=>rw [e1] at hc;cases hc
  | some x =>
   rw [e1] at hc
   have h1:=G m List.mem_cons_self X sc st inv O _ E Es (fun q hm z=>hq q hm (List.mem_append_left _ z)) C S hp h.1 e1
   cases x with
   | none =>
    have hc':O'=none:=by
     have:some (none:Ow)=some O':=hc
     cases this;rfl
    subst hc'
    refine BJ (yc h1 (Dd (sts:=sts))) fun D σ H=>?_
    rintro ⟨ρ,Hs,o,F,h,k⟩
    simp only [qz,qS] at h
    obtain ⟨o1,ho1,h2⟩:=aj h
    clear h
    refine ⟨ρ,Hs,o1,F,ho1,?_⟩
    cases o1 with
    | nx ρ'=>intro O1 e;cases e
    | rt d=>cases h2;exact k
    | ro d=>cases h2;exact k
    | bk ρ'=>cases h2;exact k
    | ct ρ'=>cases h2;exact k
   | some O1 =>
    have h2:=sU (fun q hq=>G q (List.mem_cons_of_mem _ hq)) (E:=E) (Es:=Es) (fun q hm z=>hq q hm (List.mem_append_right _ z)) C S hp h.2 (show eY inv ms O1=some O' from hc)
    refine BJ (yc h1 h2) fun D σ H=>?_
    rintro ⟨ρ,Hs,o,F,h,k⟩
    simp only [qz,qS] at h
    obtain ⟨o1,ho1,h2⟩:=aj h
    clear h
    refine ⟨ρ,Hs,o1,F,ho1,?_⟩
    cases o1 with
    | nx ρ' =>
     intro O2 e σ' H' Hs' F' s'
     cases e
     exact ⟨ρ',Hs',o,F',h2,k.mono s'⟩
    | rt d=>cases h2;exact k
    | ro d=>cases h2;exact k
    | bk ρ'=>cases h2;exact k
    | ct ρ'=>cases h2;exact k
theorem tV {T:Tx}{cl:Nat→List D→R D}:∀ m:MS,Ut T cl m
 | .set t e=>fun X sc st inv O O' E Es hq C S hp h hc=>by
  obtain ⟨tgs,v,p,rfl⟩:=jB h
  rcases tgs with _ | ⟨tg,_ | ⟨tg2,tgs⟩⟩ <;> try (cases h;done)
  rw [V6] at h
  simp only [Bool.and_eq_true,Bool.not_eq_true'] at h
  obtain ⟨⟨⟨h1,h2⟩,h3'⟩,h4⟩:=h
  by_cases hcm:rR e=true
  ·cases e <;> try (cases hcm;done)
   cases t with
   | two i j =>
    skip
    cases hc
    exact Kl C S hq h1 h2 h4
   | one i =>
    cases hc
    exact Kl C S hq h1 h2 h4
  have h3:dG v=true:=by
   simp only [Bool.or_eq_true] at h3'
   rcases h3' with z | z
   ·exact z
   ·exact absurd z hcm
  cases t with
  | two i j =>
   skip
   cases hc
   exact OD C S hq h1 h2 h3 h4
  | one i =>
   skip
   cases hc
   by_cases hf:Qi e=true
   ·rw [if_pos hf]
    cases e <;> try (cases hf;done)
    ·exact V4 C S (fun q hm z=>hq q hm (by rw [z];exact List.mem_singleton.mpr rfl)) h1 h2 h3 h4
    ·exact VB C S (fun q hm z=>hq q hm (by rw [z];exact List.mem_singleton.mpr rfl)) h1 h2 h3 h4
    ·rename_i b ms
     cases b <;> try (cases hf;done)
     exact Rz C S (fun q hm z=>hq q hm (by rw [z];exact List.mem_singleton.mpr rfl)) h1 h2 h4
   ·rw [if_neg hf]
    exact OD C S hq h1 h2 h3 h4
 | .app i e=>fun X sc st inv O O' E Es hq C S hp h hc=>by
  ·obtain ⟨_,_,_,_,_,_,_,rfl,h9⟩:=yN h
   replace h:=h9
   clear h9
   simp only [Bool.and_eq_true,decide_eq_true_eq] at h
   obtain ⟨⟨⟨⟨⟨⟨h1,h2⟩,h3⟩,h4⟩,h5⟩,h6⟩,h7⟩:=h
   subst h4
   rw [Sh] at hc
   split at hc
   ·rename_i hi
    cases hc
    exact Xw C S h1 h2 h3 h5 h6 h7 (by simpa using hi)
   ·cases hc
 | .ext i e=>fun X sc st inv O O' E Es hq C S hp h hc=>by
  ·obtain ⟨_,_,_,_,_,_,_,rfl,h9⟩:=yN h
   replace h:=h9
   clear h9
   simp only [Bool.and_eq_true,decide_eq_true_eq] at h
   obtain ⟨⟨⟨⟨⟨⟨h1,h2⟩,h3⟩,h4⟩,h5⟩,h6⟩,h7⟩:=h
   subst h4
   rw [RL] at hc
   split at hc
   ·rename_i hi
    cases hc
    exact W4 C S h1 h2 h3 h5 h6 h7 (by simpa using hi)
   ·cases hc
 | .put i k v=>fun X sc st inv O O' E Es hq C S hp h hc=>by
  ·obtain ⟨_,_,_,_,_,_,rfl,h9⟩:=Hy h
   replace h:=h9
   clear h9
   simp only [Bool.and_eq_true,decide_eq_true_eq] at h
   obtain ⟨⟨⟨⟨⟨⟨h1,h2⟩,h3⟩,h4⟩,h5⟩,h6⟩,h7⟩:=h
   rw [Sd] at hc
   split at hc
   ·rename_i hi
    cases hc
    exact W3 C S h1 h2 h3 h5 h6 h7 h4 (by simpa using hi)
   ·cases hc
 | .putB i k v=>fun X sc st inv O O' E Es hq C S hp h hc=>by
  ·obtain ⟨_,_,_,_,_,_,rfl,h9⟩:=Hy h
   simp only [Bool.and_eq_true,decide_eq_true_eq] at h9
   obtain ⟨⟨⟨⟨⟨⟨h1,h2⟩,h3⟩,h4⟩,h5⟩,h6⟩,h7⟩:=h9
   rw [NQ] at hc
   split at hc
   ·rename_i hi
    cases hc
    exact Vx C S h1 h2 h3 h5 h6 h7 h4 (by simpa using hi)
   ·cases hc
 | .pop i e=>fun X sc st inv O O' E Es hq C S hp h hc=>by
  ·obtain ⟨_,_,_,_,_,_,_,rfl,h9⟩:=yN h
   simp only [Bool.and_eq_true,decide_eq_true_eq] at h9
   obtain ⟨⟨⟨⟨⟨⟨h1,h2⟩,h3⟩,h4⟩,h5⟩,h6⟩,h7⟩:=h9
   subst h4
   rw [Ry] at hc
   split at hc
   ·rename_i hi
    cases hc
    exact Ys C S h1 h2 h3 h5 h6 h7 (by simpa using hi)
   ·cases hc
 | .retO i=>fun X sc st inv O O' E Es hq C S hp h hc=>by
  obtain ⟨v,p,rfl⟩:=yS h
  cases v with
  | none=>cases h
  | some e =>
   obtain ⟨x,p2,rfl⟩:=eO (show (isK 23 e && _)=true from h)
   replace h:(aK x && eZ sc x && decide (X.N[i]?=some x))=true:=h
   simp only [Bool.and_eq_true,decide_eq_true_eq] at h
   rw [Oj] at hc
   split at hc
   ·rename_i hi
    cases hc
    exact V3 C S h.1.1 h.1.2 h.2 (by simpa using hi)
   ·cases hc
 | .setF i f es=>fun X sc st inv O O' E Es hq C S hp h hc=>by
  obtain ⟨tgs,v,p,rfl⟩:=jB h
  rcases tgs with _ | ⟨tg,_ | ⟨tg2,tgs⟩⟩ <;> try (cases h;done)
  replace h:(tgB X.N sc (.one i) tg && gR v _)=true:=h
  rw [Bool.and_eq_true] at h
  obtain ⟨x,p1,as,q1,rfl,h9⟩:=cI h.2
  simp only [Bool.and_eq_true,decide_eq_true_eq,Bool.not_eq_true'] at h9
  obtain ⟨⟨⟨⟨⟨h1,h2⟩,h3⟩,h4⟩,h5⟩,h6⟩:=h9
  cases hc
  exact Vi C S (fun q hm z=>hq q hm (by rw [z];exact List.mem_singleton.mpr rfl)) h.1 h1 h2 h3 h4 h5 h6
 | .callm i f e=>fun X sc st inv O O' E Es hq C S hp h hc=>by
  obtain ⟨v,p,rfl⟩:=yj h
  obtain ⟨x,p1,es,q1,rfl,h9⟩:=cI (show gR v _=true from h)
  rcases es with _ | ⟨y,_ | ⟨z,_ | ⟨z2,es⟩⟩⟩ <;> try (cases h9;done)
  obtain ⟨n,p2,rfl⟩:=eO (show (isK 23 z && _)=true from h9)
  replace h9:(aK x && eF sc x && decide (T.F[f]?=some x) && okE T X.N e sc y && noStar y && eZ sc n && aK n && decide (X.N[i]?=some n))=true:=h9
  simp only [Bool.and_eq_true,decide_eq_true_eq] at h9
  obtain ⟨⟨⟨⟨⟨⟨⟨h1,h2⟩,h3⟩,h4⟩,h5⟩,h6⟩,h7⟩,h8⟩:=h9
  rw [Ml] at hc
  split at hc
  ·rename_i hi
   cases hc
   exact TQ C S h1 h2 h3 h4 h5 h6 h7 h8 (by simpa using hi)
  ·cases hc
 | .expr e=>fun X sc st inv O O' E Es hq C S hp h hc=>by
  obtain ⟨_,_,rfl⟩:=yj h
  rw [R7] at h
  simp only [Bool.and_eq_true] at h
  cases hc
  exact VN C S h.1 h.2
 | .ret e=>fun X sc st inv O O' E Es hq C S hp h hc=>by
  obtain ⟨v,p,rfl⟩:=yS h
  cases hc
  cases v with
  | none=>exact VG h
  | some v=>exact Xj C S h
 | .ifs c a b=>fun X sc st inv O O' E Es hq C S hp h hc=>by
  obtain ⟨_,_,_,_,rfl⟩:=Yr h
  rw [Vu] at h
  simp only [Bool.and_eq_true] at h
  obtain ⟨⟨h1,h2⟩,h3⟩:=h
  rw [QM] at hc
  cases e1:eY inv a O with
  | none=>rw [e1] at hc;cases hc
  | some x =>
   rw [e1] at hc
   cases e2:eY inv b O with
   | none=>rw [e2] at hc;cases hc
   | some y =>
    rw [e2] at hc
    cases (show some (mW x y)=some O' from hc)
    exact Zn C S h1 (sU (fun m _=>tV m) (fun q hm z=>hq q hm (List.mem_append_left _ z)) C S hp h2 e1) (sU (fun m _=>tV m) (fun q hm z=>hq q hm (List.mem_append_right _ z)) C S hp h3 e2)
 | .forr t k src b=>fun X sc st inv O O' E Es hq C S hp h hc=>by
  ·obtain ⟨tg,iter,body,els,p,rfl⟩:=VJ h
   cases els <;> try (cases h;done)
   replace h:(tgB X.N sc t tg && n8 sc k tg iter && cj T X.N src sc (rO k iter) && okB T X.N sc b body)=true:=h
   simp only [Bool.and_eq_true] at h
   obtain ⟨⟨⟨h1,h2⟩,h3⟩,h4⟩:=h
   rw [RG] at hc
   dsimp only at hc
   cases e1:eY (without (without O (aP src)) (aV t)) b (without (without O (aP src)) (aV t)) with
   | none=>rw [e1] at hc;cases hc
   | some x =>
    rw [e1] at hc
    simp only [Option.bind_eq_bind,Option.bind_some] at hc
    generalize hO2:(mW (some (without (without O (aP src)) (aV t))) x).getD []=O2 at hc
    cases e2:eY O2 b O2 with
    | none=>rw [e2] at hc;cases hc
    | some y =>
     rw [e2] at hc
     simp only [Option.bind_some] at hc
     have hsub:∀ i∈O2,i∈without (without O (aP src)) (aV t):=by
      rw [← hO2]
      cases x with
      | none=>exact fun i hi=>hi
      | some b'=>exact fun i hi=>(List.mem_filter.mp hi).1
     have hOy:O'=some O2∧∀ O3,y=some O3→∀ i∈O2,i∈O3:=by
      cases y with
      | none=>simp only at hc;cases hc;exact ⟨rfl,fun O3 e=>by cases e⟩
      | some O3 =>
       simp only at hc
       split at hc
       ·rename_i ha
        cases hc
        refine ⟨rfl,fun O4 e i hi=>?_⟩
        cases e
        have:=List.all_eq_true.mp ha i hi
        simpa using this
       ·cases hc
     obtain ⟨rfl,hy⟩:=hOy
     exact Oz C S hp (fun q hm z=>hq q hm (List.mem_append_left _ z)) h1 h2 h3 hsub hy (sU (fun m _=>tV m) (fun q hm z=>hq q hm (List.mem_append_right _ z)) C S hp h4 e2)
 | .pass=>fun X sc st inv O O' E Es hq C S hp h hc=>by
  obtain ⟨_,rfl⟩:=Rf h
  cases hc
  refine bT UJ fun D σ H=>?_
  rintro ⟨ρ,Hs,o,F,h,k⟩
  simp only [wA,wB,wC,wD,qW,wF,wG,wH,qX,wI,wJ,wK,qY,qZ] at h
  cases h
  exact k O rfl σ H Hs F (Same.refl _)
 | .brk=>fun X sc st inv O O' E Es hq C S hp h hc=>by
  obtain ⟨_,rfl⟩:=Qk h
  rw [Ti] at hc
  split at hc
  ·rename_i ha
   cases hc
   refine bT R9 fun D σ H=>?_
   rintro ⟨ρ,Hs,o,F,h,k⟩
   simp only [wA,wB,wC,wD,qW,wF,wG,wH,qX,wI,wJ,wK,qY,qZ] at h
   cases h
   obtain ⟨Hs1,F1,m1⟩:=F.fewer (O':=inv) fun i hi=>by
    have:=List.all_eq_true.mp ha i hi
    simpa using this
   exact k σ H Hs1 F1 m1
  ·cases hc
 | .cnt=>fun X sc st inv O O' E Es hq C S hp h hc=>by
  obtain ⟨_,rfl⟩:=FZ h
  rw [QX] at hc
  split at hc
  ·rename_i ha
   cases hc
   refine bT IV fun D σ H=>?_
   rintro ⟨ρ,Hs,o,F,h,k⟩
   simp only [wA,wB,wC,wD,qW,wF,wG,wH,qX,wI,wJ,wK,qY,qZ] at h
   cases h
   obtain ⟨Hs1,F1,m1⟩:=F.fewer (O':=inv) fun i hi=>by
    have:=List.all_eq_true.mp ha i hi
    simpa using this
   exact k σ H Hs1 F1 m1
  ·cases hc
 | .chk j e=>fun X sc st inv O O' E Es hq C S hp h hc=>by cases h
 | .rai=>fun X sc st inv O O' E Es hq C S hp h hc=>by
  refine bT Sq fun D σ H=>?_
  rintro ⟨ρ,Hs,o,F,h,k⟩
  simp only [wA,wB,wC,wD,qW,wF,wG,wH,qX,wI,wJ,wK,qY,qZ] at h
  cases h
 | .setB t e=>fun X sc st inv O O' E Es hq C S hp h hc=>by
  obtain ⟨tgs,v,p,rfl⟩:=jB h
  rcases tgs with _ | ⟨tg,_ | ⟨tg2,tgs⟩⟩ <;> try (cases h;done)
  rw [TF] at h
  simp only [Bool.and_eq_true,Bool.not_eq_true'] at h
  obtain ⟨⟨⟨h1,h2⟩,h3⟩,h4⟩:=h
  cases hc
  exact Vb C S hq h1 h2 h3 h4
 | .setC t e=>fun X sc st inv O O' E Es hq C S hp h hc=>by
  obtain ⟨tgs,v,p,rfl⟩:=jB h
  rcases tgs with _ | ⟨tg,_ | ⟨tg2,tgs⟩⟩ <;> try (cases h;done)
  rw [Tz] at h
  simp only [Bool.and_eq_true,Bool.not_eq_true'] at h
  obtain ⟨⟨⟨h1,h2⟩,h3⟩,h4⟩:=h
  cases hc
  cases e <;> try (cases h3;done)
  exact Vy C S hq h1 h2 h4
termination_by m=>sizeOf m
decreasing_by
 all_goals simp_wf
 all_goals (have:=List.sizeOf_lt_of_mem ‹_∈_›;omega)
end
end Mi
namespace Mi
open PySem L2
open PyProof.Rows hiding St
noncomputable def Il (N ps:List Str) (sc:Scope):Bool :=
 decide (sc.kind=.function) && !sc.isCoroutine && !sc.isGenerator && decide N.Nodup && decide (N.take ps.length=ps) && (ps.all fun x=>jE sc x) && sc.names.all fun y=>decide (y.2≠.free)
theorem lK {N ps:List Str}{sc:Scope} (h:Il N ps sc=true):FnScope N ps sc:=by
 unfold Il at h
 simp only [Bool.and_eq_true,decide_eq_true_eq,Bool.not_eq_true',List.all_eq_true] at h
 obtain ⟨⟨⟨⟨⟨⟨h1,h2⟩,h3⟩,h4⟩,h5⟩,h6⟩,h7⟩:=h
 exact ⟨h1,h2,h3,h4,h5,fun x hx=>jX (h6 x hx),fun y hy=>h7 y hy⟩
noncomputable def aU (T:Tx) (d:Def) (N ps:List Str) (st:Stmt):Bool :=
 Il N ps (aX st) && decide (d.np=ps.length) && decide (d.nn=N.length) && okB T N (aX st) d.body (cY st) && (!d.nrm || (eY [] d.body []).isSome)
theorem Hr {g:G}{H Hs:Hp}{ds:List D}{vs:List V}{m k:Nat} (hs:Same Hs H) (r:Rps g Hs ds vs) (e:m=k):FR g ⟨H,[]⟩ Hs [] (ds.map some++List.replicate m none) (vs.map some++List.replicate k none) H Hs:=by
 subst e
 refine ⟨Grow.refl hs,by simp [r.length],fun i d h _=>?_,fun i hi=>(by cases hi),fun i hi=>(by cases hi),fun q hq=>by cases hq⟩
 by_cases hi:i < ds.length
 ·rw [List.getElem?_append_left (by simpa using hi),List.getElem?_map] at h
  cases q:ds[i]? with
  | none=>rw [q] at h;cases h
  | some d' =>
   rw [q] at h
   cases h
   obtain ⟨v,ev,rv⟩:=r.getD q
   refine ⟨v,?_,rv⟩
   rw [List.getElem?_append_left (by rw [List.length_map,← r.length];exact hi),List.getElem?_map,ev]
   rfl
 ·rw [List.getElem?_append_right (by simpa using hi),List.getElem?_replicate] at h
  split at h <;> cases h
theorem Rg {g:G}{H Hs:Hp}{d0 d:D}{v0:V}{a:Addr}{m k:Nat} (hs:Same Hs H) (r:Rp g Hs d0 v0) (hn:Hs a=none) (ow:dB g H Hs a d) (e:m=k) :
  FR g ⟨hole H a,[(1,a)]⟩ Hs [1] ([d0,d].map some++List.replicate m none) ([v0,.ref a].map some++List.replicate k none) H Hs:=by
 subst e
 have rest:∀ (i:Nat) (x:D),([d0,d].map some++List.replicate m none)[i+2]?≠some (some x):=fun i x h=>by
  rw [List.getElem?_append_right (by simp)] at h
  rw [List.getElem?_replicate] at h
  split at h <;> cases h
 refine ⟨⟨fun b o q=>?_,fun _ _ _=>rfl,hs⟩,by simp,fun i x h hi=>?_,fun i hi x h=>?_,fun i hi j hj hij=>?_,fun q hq=>?_⟩
 ·by_cases hb:b=a
  ·subst hb;have q':hole H b b=some o:=q;rw [vX] at q';cases q'
  ·have q':hole H a b=some o:=q;rw [rW hb] at q';exact q'
 ·match i,h,hi with
  | 0,h,_=>cases h;exact ⟨v0,rfl,r⟩
  | 1,_,hi=>exact absurd (List.mem_singleton.mpr rfl) hi
  | i+2,h,_=>exact absurd h (rest i x)
 ·have e:=List.mem_singleton.mp hi
  subst e
  cases h
  exact ⟨a,rfl,vX,hn,ow⟩
 ·exact absurd ((List.mem_singleton.mp hi).trans (List.mem_singleton.mp hj).symm) hij
 ·rw [List.mem_singleton.mp hq];rfl
section
variable {T:Tx}{tab:List Def}{P:Program}{w:World}{K:PySem.W.Frag}{mg:Str→Option Value}{base:Heap}{n:Nat}{f:Nat}{x:Str}{d:Def}{N ps:List Str}{st:Stmt}{a:Addr}{fd:FuncData}
end
theorem Gb {g:G}{H:Hp}:∀ (ns:List Int),Rps g H (ns.map D.int) (ns.map V.int)
 | []=>Rps.nil
 | n::ns=>Rps.cons (aN.mpr rfl) (Gb ns)
structure FF (K:PySem.W.Frag) (x:Str) (st:Stmt):Prop where
 ex:∃ a fd,PySem.W.nsIn K mainGlobals x=some (some (.ref a))∧Fun K x x st a fd
theorem aQ {K:PySem.W.Frag}{x:Str}{st:Stmt}{f:Addr}{oc:Value}{od an:Option Addr}{osl:Array (Option Value)}{kV doc pm cdv ct:Value} (a:PySem.W.nsIn K mainGlobals x=some (some (.ref f)))
  (l:K.lookup f=some ⟨oc,od,.func (PySem.W.fnOf x x (fC st) (cY st) (aX st) .none kV doc pm an cdv ct),osl⟩) (c:PySem.W.codeIn K cdv x=true) (k:PySem.W.keepIn K (.ref f)=true):FF K x st :=
 ⟨⟨f,_,a,PL l c k⟩⟩
structure GF (K:PySem.W.Frag) (x:Str) (i:Int):Prop where
 ex:∃ t,PySem.W.nsIn K mainGlobals x=some (some (.int i t))
theorem yW {K:PySem.W.Frag}{x:Str}{i:Int}{t:Tok} (a:PySem.W.nsIn K mainGlobals x=some (some (.int i t))):GF K x i:=⟨⟨t,a⟩⟩
theorem us1 {α:Type}{p:List α→Prop} (h:∀ a,p [a]):∀ us:List α,us.length=1→p us
 | [_],_=>h _
theorem us2 {α:Type}{p:List α→Prop} (h:∀ a b,p [a,b]):∀ us:List α,us.length=2→p us
 | [_,_],_=>h _ _
theorem us3 {α:Type}{p:List α→Prop} (h:∀ a b c,p [a,b,c]):∀ us:List α,us.length=3→p us
 | [_,_,_],_=>h _ _ _
theorem us4 {α:Type}{p:List α→Prop} (h:∀ a b c d,p [a,b,c,d]):∀ us:List α,us.length=4→p us
 | [_,_,_,_],_=>h _ _ _ _
end Mi
namespace Mi
open PySem L2
theorem bY {α:Type}{f:D→R (Option D)}{enc e:α→D}{p:α→Bool}:∀ (l:List α),(∀ a∈l,f (enc a)=.ok (if p a then some (e a) else none))→gD f (l.map enc)=.ok ((l.filter p).map e)
 | [],_=>rfl
 | a::l,h=>by
  have h1:=h a List.mem_cons_self
  have h2:=bY l fun b hb=>h b (List.mem_cons_of_mem _ hb)
  simp only [List.map_cons,gD,h1,h2,qR,List.filter_cons]
  cases p a <;> simp
theorem dD {α:Type}{f:D→R (Option D)}{enc e:α→D} (l:List α) (h:∀ a∈l,f (enc a)=.ok (some (e a))):gD f (l.map enc)=.ok (l.map e):=by
 have:=bY (f:=f) (enc:=enc) (e:=e) (p:=fun _=>true) l (by simpa using h)
 rw [List.filter_eq_self.mpr (fun _ _=>rfl)] at this
 exact this
theorem bQ {α β:Type}{f:D→En→R Out}{ρ₀:En} (enc:β→D) (S:α→En) (step:α→β→α) (P:α→List β→Prop)
  (h:∀ a x xs,P a (x::xs)→P (step a x) xs∧∃ ρ',f (enc x) (S a)=.ok (.nx ρ')∧aJ ρ₀ ρ'=S (step a x)):∀ (xs:List β) (a:α),P a xs→gJ f ρ₀ (xs.map enc) (S a)=.ok (.nx (S (xs.foldl step a)))
 | [],a,_=>rfl
 | x::xs,a,p=>by
  obtain ⟨p2,ρ',h1,h2⟩:=h a x xs p
  simp only [List.map_cons,gJ,h1,qR,h2,List.foldl_cons]
  exact bQ enc S step P h xs (step a x) p2
theorem uI {α β:Type} (g:β→List α):∀ (xs:List β) (a:List α),xs.foldl (fun acc x=>acc++g x) a=a++xs.flatMap g
 | [],a=>by simp
 | x::xs,a=>by simp [uI g xs]
theorem aao {α β:Type}{f:D→En→R Out}{ρ₀:En} (enc:β→D) (S:List α→En) (g:β→List α) (B:Nat)
  (h:∀ (acc:List α) x,acc.length+(g x).length≤B→∃ ρ',f (enc x) (S acc)=.ok (.nx ρ')∧aJ ρ₀ ρ'=S (acc++g x)) (xs:List β) (a:List α) (hB:a.length+(xs.flatMap g).length≤B):gJ f ρ₀ (xs.map enc) (S a)=.ok (.nx (S (a++xs.flatMap g))):=by
 rw [← uI]
 refine bQ enc S _ (fun acc xs=>acc.length+(xs.flatMap g).length≤B) (fun acc x xs p=>?_) xs a hB
 simp only [List.flatMap_cons,List.length_append] at p
 exact ⟨by simp only [List.length_append];omega,h acc x (by omega)⟩
theorem cP {α β:Type}{f:D→En→R Out}{ρ₀:En} (enc:β→D) (S:List α→En) (g:β→List α) (B:Nat) (xs:List β)
  (h:∀ (acc:List α),∀ x∈xs,acc.length+(g x).length≤B→∃ ρ',f (enc x) (S acc)=.ok (.nx ρ')∧aJ ρ₀ ρ'=S (acc++g x)) (a:List α) (hB:a.length+(xs.flatMap g).length≤B):gJ f ρ₀ (xs.map enc) (S a)=.ok (.nx (S (a++xs.flatMap g))):=by
 rw [← uI]
 refine bQ enc S _ (fun acc ys=>acc.length+(ys.flatMap g).length≤B∧∀ y∈ys,y∈xs) (fun acc x ys p=>?_) xs a ⟨hB,fun y hy=>hy⟩
 obtain ⟨p,q⟩:=p
 simp only [List.flatMap_cons,List.length_append] at p
 exact ⟨⟨by simp only [List.length_append];omega,fun y hy=>q y (List.mem_cons_of_mem _ hy)⟩,h acc x (q x List.mem_cons_self) (by omega)⟩
theorem Jt {α β:Type}{f:D→En→R Out}{ρ₀:En} (enc:β→D) (S:α→En) (step:α→β→α) (P:α→Prop) (xs:List β)
  (h:∀ a,∀ x∈xs,P a→P (step a x)∧∃ ρ',f (enc x) (S a)=.ok (.nx ρ')∧aJ ρ₀ ρ'=S (step a x)) (a:α) (hP:P a):gJ f ρ₀ (xs.map enc) (S a)=.ok (.nx (S (xs.foldl step a))):=by
 refine bQ enc S step (fun a ys=>P a∧∀ y∈ys,y∈xs) (fun a x ys p=>?_) xs a ⟨hP,fun y hy=>hy⟩
 obtain ⟨h1,h2⟩:=h a x (p.2 x List.mem_cons_self) p.1
 exact ⟨⟨h1,fun y hy=>p.2 y (List.mem_cons_of_mem _ hy)⟩,h2⟩
noncomputable abbrev eN (n:Nat):D:=.int n
noncomputable def aq (r:List Nat):D:=.tup (r.map eN)
noncomputable def eP (p:Nat × Nat):D:=.tup [eN p.1,eN p.2]
noncomputable abbrev Meet:=List (Nat × Nat)
noncomputable def eM (m:Meet):D:=.tup (m.map eP)
noncomputable def eB (lv:List Nat) (bs:List Meet):D:=.tup [aq lv,.tup (bs.map eM)]
structure Enc {α:Type} (enc:α→D):Prop where
 inj:∀ a b,enc a=enc b→a=b
 key:∀ a,keyOk (enc a)=true
 dp:∀ a,dep (enc a)≤4
theorem iM {α:Type}{enc:α→D} (h:∀ a,keyOk (enc a)=true):∀ l:List α,bw (l.map enc)=true
 | []=>rfl
 | a::l=>by simp [bw,h a,iM h l]
theorem j9 {α:Type}{enc:α→D}{n:Nat} (h:∀ a,dep (enc a)≤n):∀ l:List α,deps (l.map enc)≤n
 | []=>Nat.zero_le _
 | a::l=>by
  simp only [List.map_cons,deps]
  have:=h a
  have:=j9 h l
  omega
theorem vU:Enc eN:=⟨fun a b h=>by injection h with h;exact Int.ofNat.inj h,fun _=>rfl,fun _=>Nat.zero_le _⟩
theorem rD:Enc aq:=by
 refine ⟨fun a b h=>?_,fun a=>?_,fun a=>?_⟩
 ·unfold aq at h;injection h with h;exact (List.map_inj_right vU.inj).mp h
 ·simp only [aq,keyOk];exact iM vU.key a
 ·simp only [aq,dep]
  have:=j9 (n:=0) (fun a=>Nat.le_refl (dep (eN a))) a
  omega
theorem El:Enc eP:=by
 refine ⟨fun a b h=>?_,fun a=>rfl,fun a=>by simp [eP,dep,deps,eN]⟩
 unfold eP at h;injection h with h
 injection h with h1 h2
 injection h2 with h2 _
 exact Prod.ext (vU.inj _ _ h1) (vU.inj _ _ h2)
theorem ZJ (p:Nat × Nat):dep (eP p)=1:=by simp [eP,dep,deps,eN]
theorem gU:Enc eM:=by
 refine ⟨fun a b h=>?_,fun a=>?_,fun a=>?_⟩
 ·unfold eM at h;injection h with h;exact (List.map_inj_right El.inj).mp h
 ·simp only [eM,keyOk];exact iM El.key a
 ·simp only [eM,dep]
  have:=j9 (n:=1) (fun p=>Nat.le_of_eq (ZJ p)) a
  omega
section
variable {α:Type}{enc:α→D} [DecidableEq α]
theorem Enc.eqs (E:Enc enc) (l l':List α):eV (l.map enc) (l'.map enc)=decide (l=l'):=by
 rw [uP (iM E.key l) (iM E.key l')]
 by_cases h:l=l'
 ·subst h;simp
 ·rw [decide_eq_false h,decide_eq_false fun z=>h ((List.map_inj_right E.inj).mp z)]
theorem Enc.flat (E:Enc enc) (l l':List α):bU (.lst (l.map enc)) (.lst (l'.map enc))=true:=by
 have h1:=j9 E.dp l
 have h2:=j9 E.dp l'
 have e:∀ l:List α,dep (.lst (l.map enc))=deps (l.map enc)+1:=fun l=>by rw [dep]
 unfold bU
 rw [e,e,Bool.and_eq_true]
 exact ⟨decide_eq_true (by omega),decide_eq_true (by omega)⟩
theorem Enc.cmpEq (E:Enc enc) (l l':List α):bF .eq (.lst (l.map enc)) (.lst (l'.map enc))=.ok (decide (l=l')):=by
 simp only [bF,E.flat,if_true,au,E.eqs]
theorem Enc.cmpNe (E:Enc enc) (l l':List α):bF .ne (.lst (l.map enc)) (.lst (l'.map enc))=.ok (!decide (l=l')):=by
 simp only [bF,E.flat,if_true,au,E.eqs]
theorem Enc.cmpEq0 (E:Enc enc) (l:List α):bF .eq (.lst (l.map enc)) (.lst [])=.ok l.isEmpty:=by
 have:=E.cmpEq l []
 rw [List.map_nil] at this
 rw [this]
 cases l <;> simp
theorem Enc.cmpNe0 (E:Enc enc) (l:List α):bF .ne (.lst (l.map enc)) (.lst [])=.ok (!l.isEmpty):=by
 have:=E.cmpNe l []
 rw [List.map_nil] at this
 rw [this]
 cases l <;> simp
end
theorem vQ (m:Meet):isKey (eM m)=true:=by
 have h1:=gU.key m
 have h2:=gU.dp m
 unfold isKey
 rw [h1,decide_eq_true (show dep (eM m)≤6 by omega)]
 rfl
theorem Vl (m:Meet) (ks:List Meet) (vs:List D):inD (eM m) (.dct (ks.map eM) vs)=.ok (decide (m∈ks)):=by
 have h1:=vQ m
 unfold isKey at h1
 have e:inD (eM m) (.dct (ks.map eM) vs)=.ok (decide (eM m∈ks.map eM)):=if_pos h1
 rw [e]
 congr 1
 by_cases h:m∈ks
 ·rw [decide_eq_true h,decide_eq_true (List.mem_map.mpr ⟨m,h,rfl⟩)]
 ·rw [decide_eq_false h,decide_eq_false]
  intro z
  obtain ⟨a,ha,e⟩:=List.mem_map.mp z
  rw [gU.inj _ _ e] at ha
  exact h ha
noncomputable def cQ {α:Type} [DecidableEq α] (ks:List α) (m:α):List α:=if m∈ks then ks else ks++[m]
noncomputable def eK (ks:List Meet):D:=.dct (ks.map eM) (List.replicate ks.length (.bl true))
theorem Qf (ks:List Meet) (m:Meet) (h:ks.length < lim):putD (eK ks) (eM m) (.bl true)=.ok (eK (cQ ks m)):=by
 have hk:=vQ m
 simp only [eK,putD,List.length_map,List.length_replicate]
 rw [if_pos ⟨hk,h,trivial⟩]
 have hm:eM m∈ks.map eM↔m∈ks:=⟨fun z=>by obtain ⟨a,ha,e⟩:=List.mem_map.mp z;rw [gU.inj _ _ e] at ha;exact ha,fun z=>List.mem_map.mpr ⟨m,z,rfl⟩⟩
 unfold cQ iR
 by_cases hmem:m∈ks
 ·rw [if_pos (hm.mpr hmem),if_pos hmem]
  have:((ks.map eM).zip (List.replicate ks.length (D.bl true))).map (fun p=>if p.1=eM m then D.bl true else p.2)=List.replicate ks.length (D.bl true):=by
   refine List.ext_getElem (by simp) fun i h1 h2=>?_
   simp
  rw [this]
 ·rw [if_neg fun z=>hmem (hm.mp z),if_neg hmem]
  simp [List.replicate_succ']
theorem SJ {α:Type} [DecidableEq α] {ks:List α}{m x:α}:x∈cQ ks m↔x∈ks∨x=m:=by
 unfold cQ
 split
 ·constructor
  ·exact .inl
  ·rintro (h | rfl) <;> assumption
 ·simp
theorem Lq {α:Type} [DecidableEq α] {ks:List α}{m:α} (h:ks.Nodup):(cQ ks m).Nodup:=by
 unfold cQ
 split
 ·exact h
 ·rename_i hm
  rw [List.nodup_append]
  refine ⟨h,by simp,fun a ha b hb=>?_⟩
  rw [List.mem_singleton.mp hb]
  rintro rfl
  exact hm ha
theorem pA {α:Type} [DecidableEq α] {x:α}:∀ {ms ks:List α},x∈ms.foldl cQ ks↔x∈ks∨x∈ms
 | [],ks=>by simp
 | m::ms,ks=>by
  rw [List.foldl_cons,pA,SJ,List.mem_cons,or_assoc]
theorem pL {α:Type} [DecidableEq α]:∀ {ms ks:List α},ks.Nodup→(ms.foldl cQ ks).Nodup
 | [],ks,h=>h
 | m::ms,ks,h=>by rw [List.foldl_cons];exact pL (Lq h)
theorem yG {α:Type} [DecidableEq α] (ks:List α) (m:α):(cQ ks m).length≤ks.length+1:=by
 unfold cQ
 split
 ·omega
 ·simp
theorem lW {α:Type} [DecidableEq α]:∀ (ms ks:List α),(ms.foldl cQ ks).length≤ks.length+ms.length
 | [],ks=>by simp
 | m::ms,ks=>by
  have:=lW ms (cQ ks m)
  have:=yG ks m
  simp only [List.foldl_cons,List.length_cons]
  omega
noncomputable def pLt (p q:Nat × Nat):Prop:=p.1 < q.1∨(p.1=q.1∧p.2 < q.2)
noncomputable def mLt (a b:Meet):Prop:=∃ c x y s t,a=c++x::s∧b=c++y::t∧pLt x y
theorem aac {p q:Nat × Nat} (h:pLt p q):ltD (eP p) (eP q)=true:=by
 obtain ⟨a,b⟩:=p
 obtain ⟨c,d⟩:=q
 simp only [eP,ltD,bJ,eN]
 rcases h with h | ⟨h1,h2⟩
 ·have:¬ (D.int (a:Int)=D.int (c:Int)):=fun z=>by injection z with z;simp only at h;omega
  rw [if_neg this]
  simp only at h
  simp;omega
 ·simp only at h1 h2
  subst h1
  rw [if_pos rfl]
  have:¬ (D.int (b:Int)=D.int (d:Int)):=fun z=>by injection z with z;omega
  rw [if_neg this]
  simp;omega
theorem Xr {p q:Nat × Nat} (h:pLt p q):p≠q:=by
 rintro rfl
 rcases h with h | ⟨_,h⟩ <;> omega
theorem T6 (c:Meet) {x y:Nat × Nat}{s t:Meet} (h:pLt x y):bJ ((c++x::s).map eP) ((c++y::t).map eP)=true:=by
 induction c with
 | nil =>
  simp only [List.nil_append,List.map_cons,bJ]
  rw [if_neg fun z=>Xr h (El.inj _ _ z)]
  exact aac h
 | cons z c ih =>
  simp only [List.cons_append,List.map_cons,bJ,if_true]
  exact ih
theorem Uz {a b:Meet} (h:mLt a b):ltD (eM a) (eM b)=true:=by
 obtain ⟨c,x,y,s,t,rfl,rfl,h⟩:=h
 simp only [eM,ltD]
 exact T6 c h
theorem mLt.app {a b:Meet} (h:mLt a b) (u v:Meet):mLt (a++u) (b++v):=by
 obtain ⟨c,x,y,s,t,rfl,rfl,h⟩:=h
 exact ⟨c,x,y,s++u,t++v,by simp,by simp,h⟩
theorem mLt.last {x y:Nat × Nat} (c:Meet) (h:pLt x y):mLt (c++[x]) (c++[y]):=⟨c,x,y,[],[],rfl,rfl,h⟩
theorem Qp {a b:Meet} (h:mLt a b):a≠b:=by
 rintro rfl
 have:=Uz h
 rw [vY] at this
 cases this
theorem Zo (p q:Nat × Nat):bI (eP p) (eP q)=true:=by
 simp only [eP,bI,fJ]
 split
 ·split
  ·rfl
  ·rfl
 ·rfl
theorem Ni:∀ (a b:Meet),fJ (a.map eP) (b.map eP)=true
 | [],b=>by simp [fJ]
 | x::a,[]=>by simp [fJ]
 | x::a,y::b=>by
  simp only [List.map_cons,fJ]
  split
  ·exact Ni a b
  ·exact Zo x y
theorem aam (a b:Meet):bI (eM a) (eM b)=true:=by simp only [eM,bI];exact Ni a b
theorem HX {ks L:List Meet}{vs:List D} (hn:ks.Nodup) (hL:L.Pairwise mLt) (hm:∀ m,m∈ks↔m∈L) (hl:L.length < 64) (h0:∀ m∈L,m≠[]):nH (.dct (ks.map eM) vs)=.ok (.lst (L.map eM)):=by
 have nL:L.Nodup:=hL.imp fun h=>Qp h
 have perm:L.Perm ks:=(List.perm_ext_iff_of_nodup nL hn).mpr fun m=>(hm m).symm
 have hlen:=perm.length_eq
 have hc:lV (ks.map eM):=fun a ha b hb=>by
  obtain ⟨x,_,rfl⟩:=List.mem_map.mp ha
  obtain ⟨y,_,rfl⟩:=List.mem_map.mp hb
  exact aam x y
 have hsort:mJ (ks.map eM)=L.map eM:=HW hc (perm.map eM) (List.pairwise_map.mpr (hL.imp fun h=>by
  unfold leD
  exact HS (Uz h)))
 have ok:rM (ks.map eM)=true:=by
  unfold rM
  simp only [Bool.and_eq_true,Bool.or_eq_true,decide_eq_true_eq,List.length_map,List.all_eq_true]
  refine ⟨⟨⟨⟨by omega,iM gU.key ks⟩,?_⟩,fun a ha b hb=>hc a ha b hb⟩,.inr ?_⟩
  ·have:=j9 gU.dp ks
   omega
  ·intro d hd
   obtain ⟨m,hmk,rfl⟩:=List.mem_map.mp hd
   have:=h0 m ((hm m).mp hmk)
   cases m with
   | nil=>exact absurd rfl this
   | cons p m=>rfl
 simp only [nH,Eo,qR,ok,if_true,hsort]
noncomputable def bW (rs:List (List Nat)) (l:Nat):List (List Nat):=rs.flatMap fun r=>(List.range l).map fun s=>r++[s]
noncomputable def rows (lv:List Nat):List (List Nat):=lv.foldl bW [[]]
noncomputable def fM:List Nat→List Nat→Prop
 | [],[]=>True
 | l::ls,x::xs=>x < l∧fM ls xs
 | _,_=>False
theorem CT:∀ {lv:List Nat}{rs:List (List Nat)}{r:List Nat},r∈lv.foldl bW rs↔∃ a∈rs,∃ t,r=a++t∧fM lv t
 | [],rs,r=>by
  simp only [List.foldl_nil]
  constructor
  ·intro h;exact ⟨r,h,[],by simp,trivial⟩
  ·rintro ⟨a,ha,t,rfl,ht⟩
   cases t with
   | nil=>simpa using ha
   | cons _ _=>exact ht.elim
 | l::lv,rs,r=>by
  rw [List.foldl_cons,CT]
  constructor
  ·rintro ⟨a,ha,t,rfl,ht⟩
   unfold bW at ha
   rw [List.mem_flatMap] at ha
   obtain ⟨b,hb,ha⟩:=ha
   obtain ⟨s,hs,rfl⟩:=List.mem_map.mp ha
   exact ⟨b,hb,s::t,by simp,List.mem_range.mp hs,ht⟩
  ·rintro ⟨a,ha,t,rfl,ht⟩
   cases t with
   | nil=>exact ht.elim
   | cons s t =>
    refine ⟨a++[s],?_,t,by simp,ht.2⟩
    unfold bW
    rw [List.mem_flatMap]
    exact ⟨a,ha,List.mem_map.mpr ⟨s,List.mem_range.mpr ht.1,rfl⟩⟩
theorem j7 {lv r:List Nat}:r∈rows lv↔fM lv r:=by
 unfold rows
 rw [CT]
 constructor
 ·rintro ⟨a,ha,t,rfl,ht⟩
  rw [List.mem_singleton.mp ha];exact ht
 ·intro h;exact ⟨[],by simp,r,by simp,h⟩
theorem fM.len:∀ {lv r:List Nat},fM lv r→r.length=lv.length
 | [],[],_=>rfl
 | _::_,_::_,h=>by simp [fM.len h.2]
 | [],_::_,h=>h.elim
 | _::_,[],h=>h.elim
theorem fM.get':∀ {lv r:List Nat}{i:Nat},fM lv r→∀ {x:Nat},r[i]?=some x→∃ l,lv[i]?=some l∧x < l
 | _,[],i,_,l,e=>by simp at e
 | [],x::r,i,h,_,e=>h.elim
 | l::lv,x::r,0,h,l',e=>by simp at e;subst e;exact ⟨l,rfl,h.1⟩
 | l::lv,x::r,i+1,h,l',e=>by simpa using fM.get' h.2 (i:=i) (by simpa using e)
noncomputable def prod (lv:List Nat):Nat:=lv.foldl (· * ·) 1
theorem Ci {α:Type} (k:Nat):∀ (l:List α),(l.map fun _=>k).sum=l.length * k
 | []=>by simp
 | a::l=>by simp [Ci k l,Nat.succ_mul,Nat.add_comm]
theorem uJ (rs:List (List Nat)) (l:Nat):(bW rs l).length=rs.length * l:=by
 unfold bW
 rw [List.length_flatMap]
 simp only [List.length_map,List.length_range]
 exact Ci l rs
theorem Cm:∀ (lv:List Nat) (rs:List (List Nat)) (k:Nat),rs.length=k→(lv.foldl bW rs).length=lv.foldl (· * ·) k
 | [],rs,k,h=>h
 | l::lv,rs,k,h=>by
  rw [List.foldl_cons,List.foldl_cons]
  exact Cm lv _ _ (by rw [uJ,h])
theorem tE (lv:List Nat):(rows lv).length=prod lv:=Cm lv [[]] 1 rfl
noncomputable def dM:Nat→List Nat→List (Nat × Nat)
 | _,[]=>[]
 | n,l::ls=>(List.range l).map (fun s=>(n,s))++dM (n+1) ls
theorem jT:∀ {n:Nat}{lv:List Nat}{p:Nat × Nat},p∈dM n lv↔n≤p.1∧∃ l,lv[p.1 - n]?=some l∧p.2 < l
 | n,[],p=>by simp [dM]
 | n,l::ls,p=>by
  obtain ⟨t,s⟩:=p
  simp only [dM,List.mem_append,jT,List.mem_map,List.mem_range,Prod.mk.injEq]
  constructor
  ·rintro (⟨a,ha,rfl,rfl⟩ | ⟨h1,l',h2,h3⟩)
   ·exact ⟨Nat.le_refl _,l,by simp,ha⟩
   ·refine ⟨by omega,l',?_,h3⟩
    rw [show t - n=(t - (n+1))+1 by omega]
    simpa using h2
  ·rintro ⟨h1,l',h2,h3⟩
   by_cases e:t=n
   ·subst e
    simp at h2
    subst h2
    exact .inl ⟨s,h3,rfl,rfl⟩
   ·right
    refine ⟨by omega,l',?_,h3⟩
    rw [show t - n=(t - (n+1))+1 by omega] at h2
    simpa using h2
theorem oW:∀ (n:Nat) (lv:List Nat),(dM n lv).Pairwise pLt
 | n,[]=>List.Pairwise.nil
 | n,l::ls=>by
  simp only [dM]
  rw [List.pairwise_append]
  refine ⟨List.pairwise_map.mpr (List.pairwise_lt_range.imp fun h=>.inr ⟨rfl,h⟩),oW (n+1) ls,fun a ha b hb=>?_⟩
  obtain ⟨s,_,rfl⟩:=List.mem_map.mp ha
  have:=(jT.mp hb).1
  exact .inl (Nat.lt_of_succ_le this)
noncomputable def behind (m:Meet) (p:Nat × Nat):Bool:=match m.getLast? with | none=>true | some q=>decide (q.1 < p.1)
noncomputable def among (ps:List (Nat × Nat)):Nat→List Meet
 | 0=>[[]]
 | k+1=>(among ps k).flatMap fun m=>(ps.filter (behind m)).map fun p=>m++[p]
noncomputable abbrev fj (m:Meet):Prop:=m.Pairwise fun p q=>p.1 < q.1
theorem zp {m:Meet}{p:Nat × Nat} (h:fj m):behind m p=true↔∀ q∈m,q.1 < p.1:=by
 unfold behind
 cases e:m.getLast? with
 | none =>
  rw [List.getLast?_eq_none_iff] at e
  subst e
  simp
 | some q =>
  obtain ⟨m',rfl⟩:=List.getLast?_eq_some_iff.mp e
  simp only [decide_eq_true_eq]
  constructor
  ·intro hq x hx
   rcases List.mem_append.mp hx with hx | hx
   ·have:=(List.pairwise_append.mp h).2.2 x hx q (by simp)
    omega
   ·rw [List.mem_singleton.mp hx];exact hq
  ·intro hx;exact hx q (by simp)
theorem lM {ps:List (Nat × Nat)}:∀ {k:Nat}{m:Meet},m∈among ps k↔m.length=k∧fj m∧∀ p∈m,p∈ps
 | 0,m=>by
  simp only [among,List.mem_singleton]
  constructor
  ·rintro rfl;simp
  ·rintro ⟨h,_⟩;exact List.length_eq_zero_iff.mp h
 | k+1,m=>by
  simp only [among,List.mem_flatMap,List.mem_map,List.mem_filter]
  constructor
  ·rintro ⟨a,ha,p,⟨hp,hb⟩,rfl⟩
   obtain ⟨h1,h2,h3⟩:=lM.mp ha
   refine ⟨by simp [h1],?_,fun q hq=>?_⟩
   ·unfold fj
    rw [List.pairwise_append]
    exact ⟨h2,by simp,fun x hx y hy=>by rw [List.mem_singleton.mp hy];exact (zp h2).mp hb x hx⟩
   ·rcases List.mem_append.mp hq with hq | hq
    ·exact h3 q hq
    ·rw [List.mem_singleton.mp hq];exact hp
  ·rintro ⟨h1,h2,h3⟩
   have hne:m≠[]:=fun z=>by subst z;simp at h1
   obtain ⟨a,p,rfl⟩:∃ a p,m=a++[p]:=⟨m.dropLast,m.getLast hne,(List.dropLast_concat_getLast hne).symm⟩
   obtain ⟨q1,q2,q3⟩:=List.pairwise_append.mp h2
   refine ⟨a,lM.mpr ⟨by simpa using h1,q1,fun x hx=>h3 x (by simp [hx])⟩,p,⟨h3 p (by simp),(zp q1).mpr fun x hx=>q3 x hx p (by simp)⟩,rfl⟩
theorem oE {ps:List (Nat × Nat)} (h:ps.Pairwise pLt):∀ k,(among ps k).Pairwise mLt
 | 0=>by simp [among]
 | k+1=>by
  simp only [among]
  rw [List.pairwise_flatMap]
  refine ⟨fun m _=>List.pairwise_map.mpr ((h.filter _).imp fun q=>mLt.last m q),(oE h k).imp fun q x hx y hy=>?_⟩
  obtain ⟨p,_,rfl⟩:=List.mem_map.mp hx
  obtain ⟨p',_,rfl⟩:=List.mem_map.mp hy
  exact q.app _ _
noncomputable def aR:Nat→List Nat→List (Nat × Nat)
 | _,[]=>[]
 | n,x::xs=>(n,x)::aR (n+1) xs
theorem jt:∀ {n:Nat}{r:List Nat}{p:Nat × Nat},p∈aR n r↔n≤p.1∧r[p.1 - n]?=some p.2
 | n,[],p=>by simp [aR]
 | n,x::xs,p=>by
  obtain ⟨t,s⟩:=p
  simp only [aR,List.mem_cons,jt,Prod.mk.injEq]
  constructor
  ·rintro (⟨rfl,rfl⟩ | ⟨h1,h2⟩)
   ·simp
   ·refine ⟨by omega,?_⟩
    rw [show t - n=(t - (n+1))+1 by omega]
    simpa using h2
  ·rintro ⟨h1,h2⟩
   by_cases e:t=n
   ·subst e
    simp at h2
    exact .inl ⟨rfl,h2.symm⟩
   ·right
    refine ⟨by omega,?_⟩
    rw [show t - n=(t - (n+1))+1 by omega] at h2
    simpa using h2
theorem nj:∀ (n:Nat) (r:List Nat),fj (aR n r)
 | n,[]=>List.Pairwise.nil
 | n,x::xs=>by
  unfold fj aR
  rw [List.pairwise_cons]
  exact ⟨fun p hp=>by have:=(jt.mp hp).1;simp only;omega,nj (n+1) xs⟩
noncomputable def aM (r:List Nat) (m:Meet):Bool:=m.all fun p=>decide (r[p.1]?=some p.2)
theorem sE {r:List Nat}{m:Meet}:aM r m=true↔∀ p∈m,r[p.1]?=some p.2:=by
 unfold aM
 simp [List.all_eq_true]
theorem dZ {r:List Nat}{k:Nat}{m:Meet}:m∈among (aR 0 r) k↔m.length=k∧fj m∧aM r m=true:=by
 rw [lM,sE]
 refine and_congr_right fun _=>and_congr_right fun _=>?_
 constructor
 ·intro h p hp;simpa using (jt.mp (h p hp)).2
 ·intro h p hp;exact jt.mpr ⟨Nat.zero_le _,by simpa using h p hp⟩
noncomputable def eE (acc:List Meet) (p:Nat × Nat):List Meet:=acc++acc.map fun m=>m++[p]
noncomputable def subs (l:Meet):List Meet:=l.foldl eE [[]]
theorem Cz:∀ {l:Meet}{acc:List Meet}{m:Meet},m∈l.foldl eE acc↔∃ a∈acc,∃ t,t.Sublist l∧m=a++t
 | [],acc,m=>by
  simp only [List.foldl_nil,List.sublist_nil]
  constructor
  ·intro h;exact ⟨m,h,[],rfl,by simp⟩
  ·rintro ⟨a,ha,t,rfl,rfl⟩;simpa using ha
 | p::l,acc,m=>by
  rw [List.foldl_cons,Cz]
  constructor
  ·rintro ⟨a,ha,t,ht,rfl⟩
   unfold eE at ha
   rcases List.mem_append.mp ha with ha | ha
   ·exact ⟨a,ha,t,ht.cons p,rfl⟩
   ·obtain ⟨b,hb,rfl⟩:=List.mem_map.mp ha
    exact ⟨b,hb,p::t,ht.cons_cons p,by simp⟩
  ·rintro ⟨a,ha,t,ht,rfl⟩
   cases ht with
   | cons _ h=>exact ⟨a,by unfold eE;simp [ha],t,h,rfl⟩
   | cons_cons _ h =>
    rename_i t'
    exact ⟨a++[p],by unfold eE;simp [ha],t',h,by simp⟩
theorem pK:∀ {l m:Meet},fj l→fj m→(∀ p∈m,p∈l)→m.Sublist l
 | [],m,_,_,h=>by
  cases m with
  | nil=>exact List.Sublist.refl _
  | cons p m=>exact absurd (h p List.mem_cons_self) (by simp)
 | q::l,[],_,_,_=>List.nil_sublist _
 | q::l,p::m,hl,hm,h=>by
  unfold fj at hl hm
  rw [List.pairwise_cons] at hl hm
  rcases List.mem_cons.mp (h p List.mem_cons_self) with rfl | hp
  ·refine List.Sublist.cons_cons p (pK hl.2 hm.2 fun x hx=>?_)
   rcases List.mem_cons.mp (h x (List.mem_cons_of_mem _ hx)) with rfl | h'
   ·have:=hm.1 x hx;omega
   ·exact h'
  ·refine List.Sublist.cons q (pK hl.2 (List.pairwise_cons.mpr hm) fun x hx=>?_)
   rcases List.mem_cons.mp (h x hx) with rfl | h'
   ·exfalso
    have h1:=hl.1 p hp
    rcases List.mem_cons.mp hx with rfl | hx
    ·omega
    ·have:=hm.1 x hx;omega
   ·exact h'
theorem DQ {r:List Nat}{m:Meet}:m∈subs (aR 0 r)↔fj m∧aM r m=true:=by
 unfold subs
 rw [Cz,sE]
 constructor
 ·rintro ⟨a,ha,t,ht,rfl⟩
  rw [List.mem_singleton.mp ha,List.nil_append]
  refine ⟨(nj 0 r).sublist ht,fun p hp=>?_⟩
  simpa using (jt.mp (ht.subset hp)).2
 ·rintro ⟨h1,h2⟩
  exact ⟨[],by simp,m,pK (nj 0 r) h1 fun p hp=>jt.mpr ⟨Nat.zero_le _,by simpa using h2 p hp⟩,by simp⟩
theorem Cu:∀ (l:Meet) (acc:List Meet),(l.foldl eE acc).length=acc.length * 2 ^ l.length
 | [],acc=>by simp
 | p::l,acc=>by
  rw [List.foldl_cons,Cu]
  unfold eE
  rw [List.length_append,List.length_map,List.length_cons,Nat.pow_succ,← Nat.two_mul,Nat.mul_comm 2 acc.length,Nat.mul_assoc,Nat.mul_comm 2]
theorem dX:∀ (n:Nat) (r:List Nat),(aR n r).length=r.length
 | _,[]=>rfl
 | n,x::xs=>by simp [aR,dX (n+1) xs]
noncomputable def nP (lv:List Nat) (m:Meet):Prop:=fj m∧∀ p∈m,∃ l,lv[p.1]?=some l∧p.2 < l
structure WB (lv:List Nat) (bs:List Meet):Prop where
 one:1≤lv.length
 four:lv.length≤4
 lv1:∀ (i l:Nat),lv[i]?=some l→1≤l∧l≤3
 lv2:∀ (i l:Nat),lv[i]?=some l→2≤i→l≤2
 nb:bs.length≤3
 ban:∀ b∈bs,nP lv b∧1≤b.length∧b.length≤3
noncomputable def mY (bs:List Meet) (r:List Nat):Bool:=!(bs.any fun b=>aM r b)
noncomputable def tests (lv:List Nat) (bs:List Meet):List (List Nat):=(rows lv).filter (mY bs)
noncomputable def allM (lv:List Nat) (k:Nat):List Meet:=among (dM 0 lv) k
theorem nR {lv:List Nat}{k:Nat}{m:Meet}:m∈allM lv k↔m.length=k∧nP lv m:=by
 unfold allM nP
 rw [lM]
 refine and_congr_right fun _=>and_congr_right fun _=>?_
 constructor
 ·intro h p hp;simpa using (jT.mp (h p hp)).2
 ·intro h p hp;exact jT.mpr ⟨Nat.zero_le _,by simpa using h p hp⟩
theorem xr (lv:List Nat) (k:Nat):(allM lv k).Pairwise mLt:=oE (oW 0 lv) k
theorem JR:∀ {lv:List Nat}{n:Nat}{m:Meet},(∀ (i l:Nat),lv[i]?=some l→1≤l)→fj m→(∀ p∈m,n≤p.1∧∃ l,lv[p.1 - n]?=some l∧p.2 < l)→∃ r,fM lv r∧∀ p∈m,r[p.1 - n]?=some p.2
 | [],n,m,_,_,h=>⟨[],trivial,fun p hp=>by obtain ⟨_,l,e,_⟩:=h p hp;simp at e⟩
 | l::lv,n,m,h1,hr,h=>by
  have h1':∀ (i l:Nat),lv[i]?=some l→1≤l:=fun i l' e=>h1 (i+1) l' (by simpa using e)
  have go:∀ (m':Meet),fj m'→(∀ p∈m',p∈m∧n+1≤p.1)→∃ r,fM lv r∧∀ p∈m',r[p.1 - (n+1)]?=some p.2:=fun m' hr' hm'=>JR h1' hr' fun p hp=>by
   obtain ⟨hpm,hn⟩:=hm' p hp
   obtain ⟨_,l',e,hl⟩:=h p hpm
   rw [show p.1 - n=(p.1 - (n+1))+1 by omega] at e
   exact ⟨hn,l',by simpa using e,hl⟩
  have up:∀ {r:List Nat}{x:Nat}{p:Nat × Nat},n+1≤p.1→r[p.1 - (n+1)]?=some p.2→(x::r)[p.1 - n]?=some p.2:=fun {r x p} hn e=>by
   rw [show p.1 - n=(p.1 - (n+1))+1 by omega]
   simpa using e
  cases m with
  | nil =>
   obtain ⟨r,q1,q2⟩:=go [] List.Pairwise.nil (by simp)
   exact ⟨0::r,⟨h1 0 l rfl,q1⟩,by simp⟩
  | cons p m =>
   unfold fj at hr
   rw [List.pairwise_cons] at hr
   by_cases e:p.1=n
   ·obtain ⟨r,q1,q2⟩:=go m hr.2 fun q hq=>⟨List.mem_cons_of_mem _ hq,by have:=hr.1 q hq;omega⟩
    obtain ⟨_,l',e',hl⟩:=h p List.mem_cons_self
    rw [e,Nat.sub_self] at e'
    simp at e'
    subst e'
    refine ⟨p.2::r,⟨hl,q1⟩,fun q hq=>?_⟩
    rcases List.mem_cons.mp hq with rfl | hq
    ·rw [e,Nat.sub_self];rfl
    ·exact up (by have:=hr.1 q hq;omega) (q2 q hq)
   ·have hall:∀ q∈p::m,n+1≤q.1:=fun q hq=>by
     have h0:=(h p List.mem_cons_self).1
     rcases List.mem_cons.mp hq with rfl | hq
     ·omega
     ·have:=hr.1 q hq;omega
    obtain ⟨r,q1,q2⟩:=go (p::m) (List.pairwise_cons.mpr hr) fun q hq=>⟨hq,hall q hq⟩
    exact ⟨0::r,⟨h1 0 l rfl,q1⟩,fun q hq=>up (hall q hq) (q2 q hq)⟩
theorem Rk {lv:List Nat}{m:Meet} (h1:∀ (i l:Nat),lv[i]?=some l→1≤l) (h:nP lv m):∃ r∈rows lv,aM r m=true:=by
 obtain ⟨r,q1,q2⟩:=JR (n:=0) h1 h.1 fun p hp=>⟨Nat.zero_le _,by simpa using h.2 p hp⟩
 exact ⟨r,j7.mpr q1,sE.mpr fun p hp=>by simpa using q2 p hp⟩
theorem GK {lv r:List Nat}{m:Meet} (hr:fM lv r) (h:fj m) (hm:aM r m=true):nP lv m :=
 ⟨h,fun p hp=>hr.get' (sE.mp hm p hp)⟩
noncomputable def bR (lv:List Nat) (bs:List Meet) (k:Nat):List Meet:=(allM lv k).filter fun m=>(tests lv bs).any fun t=>aM t m
end Mi
namespace Mi
open PySem L2
theorem bind_eq {α β:Type}{r:R α}{a:α} (h:r=.ok a) {f:α→R β}:(r >>= f)=f a:=by rw [h];rfl
noncomputable def eBs (bs:List Meet):D:=.tup (bs.map eM)
theorem qD (r:List Nat):itemsOf .seq [aq r]=.ok (r.map eN):=rfl
theorem qx (m:Meet):itemsOf .seq [eM m]=.ok (m.map eP):=rfl
theorem qP (bs:List Meet):itemsOf .seq [eBs bs]=.ok (bs.map eM):=rfl
theorem yt:∀ (n:Nat) (r:List Nat),aZ n (r.map eN)=(aR n r).map eP
 | _,[]=>rfl
 | n,x::xs=>by simp [aZ,aR,yt (n+1) xs,eP]
theorem qA (r:List Nat):itemsOf .enum [aq r]=.ok ((aR 0 r).map eP):=by
 show R.ok (aZ 0 (r.map eN))=_
 rw [yt]
theorem qB (r:List Nat):fQ .listEnum [aq r]=.ok (.lst ((aR 0 r).map eP)):=by
 show R.ok (D.lst (aZ 0 (r.map eN)))=_
 rw [yt]
theorem gn (k:Nat) (h:k≤lim):itemsOf .rng [.int k]=.ok ((List.range k).map eN):=by
 show (if _ then _ else _)=_
 rw [if_pos ⟨by omega,by omega⟩]
 simp
theorem qy (r:List Nat):uY (aq r)=.ok (.int r.length):=congrArg (fun n:Nat=>R.ok (D.int n)) (List.length_map eN)
theorem zH (r:Meet):uY (eM r)=.ok (.int r.length):=by simp [uY,eM]
theorem zI {α:Type} (enc:α→D) (l:List α):uY (.lst (l.map enc))=.ok (.int l.length):=by simp [uY]
theorem HB {r:List Nat}{s:Nat} (h:r.length < lim):lZ (aq r) (.tup [eN s])=.ok (aq (r++[s])):=by
 simp only [lZ,aq,List.length_map,List.length_singleton]
 rw [if_pos (by omega)]
 simp
theorem Nq {m:Meet}{p:Nat × Nat} (h:m.length < lim):lZ (eM m) (.tup [eP p])=.ok (eM (m++[p])):=by
 simp only [lZ,eM,List.length_map,List.length_singleton]
 rw [if_pos (by omega)]
 simp
theorem Eh {α:Type}{enc:α→D}{l l':List α} (h:l.length+l'.length≤lim):lZ (.lst (l.map enc)) (.lst (l'.map enc))=.ok (.lst ((l++l').map enc)):=by
 simp only [lZ,List.length_map]
 rw [if_pos h]
 simp
theorem Uq {α:Type}{enc:α→D}{l l':List α} (h:l.length+l'.length≤lim):Bs (.lst (l.map enc)) (.lst (l'.map enc))=.ok (.lst ((l++l').map enc)):=by
 simp only [Bs,List.length_map]
 rw [if_pos h]
 simp
theorem lD {α:Type}{enc:α→D}{l:List α}{a:α} (h:l.length < lim):yh (.lst (l.map enc)) (enc a)=.ok (.lst ((l++[a]).map enc)):=by
 simp only [yh,List.length_map]
 rw [if_pos h]
 simp
theorem zJ (p:Nat × Nat):ixD (eP p) (.int 0)=.ok (eN p.1):=rfl
theorem zK (p:Nat × Nat):ixD (eP p) (.int 1)=.ok (eN p.2):=rfl
theorem zL (lv:List Nat) (bs:List Meet):ixD (eB lv bs) (.int 0)=.ok (aq lv):=rfl
theorem zM (lv:List Nat) (bs:List Meet):ixD (eB lv bs) (.int 1)=.ok (eBs bs):=rfl
theorem EY {r:List Nat}{i x:Nat} (h:r[i]?=some x):ixD (aq r) (.int (i:Int))=.ok (eN x):=by
 have hl:i < r.length:=(List.getElem?_eq_some_iff.mp h).1
 simp only [aq,ixD,ixN,List.length_map]
 rw [if_pos (by omega),if_pos (by omega)]
 simp [h]
theorem Mq {α:Type}{enc:α→D}{l:List α}{i:Nat}{x:α} (h:l[i]?=some x):ixD (.lst (l.map enc)) (.int (i:Int))=.ok (enc x):=by
 have hl:i < l.length:=(List.getElem?_eq_some_iff.mp h).1
 simp only [ixD,ixN,List.length_map]
 rw [if_pos (by omega),if_pos (by omega)]
 simp [h]
theorem UL {m:Meet}{q:Nat × Nat} (h:m.getLast?=some q):ixD (eM m) (.int (-1))=.ok (eP q):=by
 obtain ⟨m',rfl⟩:=List.getLast?_eq_some_iff.mp h
 simp only [eM,ixD,ixN,List.length_map,List.length_append,List.length_singleton]
 rw [if_neg (by omega),if_pos (by omega)]
 simp [show (-1+((m'.length:Int)+1)).toNat=m'.length by omega]
theorem zR (a b:Int):bF .eq (.int a) (.int b)=.ok (decide (a=b)):=by
 have e:bF .eq (.int a) (.int b)=(if bU (.int a) (.int b)=true then R.ok (au (.int a) (.int b)) else .stuck):=rfl
 rw [e,if_pos (by simp [bU,dep])]
 congr 1
theorem zS (a b:Int):bF .ne (.int a) (.int b)=.ok (!decide (a=b)):=by
 have e:bF .ne (.int a) (.int b)=(if bU (.int a) (.int b)=true then R.ok (!au (.int a) (.int b)) else .stuck):=rfl
 rw [e,if_pos (by simp [bU,dep])]
 congr 2
theorem nM (a b:Nat):decide ((a:Int)=(b:Int))=decide (a=b):=by
 by_cases h:a=b
 ·subst h;simp
 ·rw [decide_eq_false h,decide_eq_false (by omega)]
theorem uQ {α:Type} (p:α→Bool):∀ l:List α,boolsOf (l.map fun a=>D.bl (p a))=some (l.map p)
 | []=>rfl
 | a::l=>by simp [boolsOf,uQ p l]
theorem Ef {α:Type} (p:α→Bool) (l:List α):fQ .all [.lst (l.map fun a=>D.bl (p a))]=.ok (.bl (l.all p)):=by
 rw [Ge (uQ p l)]
 simp [List.all_map]
theorem ZQ {α:Type} (p:α→Bool) (l:List α):fQ .any [.lst (l.map fun a=>D.bl (p a))]=.ok (.bl (l.any p)):=by
 rw [Gu (uQ p l)]
 simp [List.any_map]
theorem iQ {α β:Type}{f:α→List β}{k:Nat}:∀ (l:List α),(∀ a∈l,(f a).length≤k)→(l.flatMap f).length≤l.length * k
 | [],_=>by simp
 | a::l,h=>by
  have h1:=h a List.mem_cons_self
  have h2:=iQ l fun b hb=>h b (List.mem_cons_of_mem _ hb)
  simp only [List.flatMap_cons,List.length_append,List.length_cons,Nat.succ_mul]
  omega
theorem lO (ps:List (Nat × Nat)):∀ k,(among ps k).length≤ps.length ^ k
 | 0=>by simp [among]
 | k+1=>by
  have h:=iQ (f:=fun m=>(ps.filter (behind m)).map fun p=>m++[p]) (k:=ps.length) (among ps k) fun m _=>by rw [List.length_map];exact List.length_filter_le _ _
  have h2:=Nat.mul_le_mul_right ps.length (lO ps k)
  rw [Nat.pow_succ]
  exact Nat.le_trans h h2
noncomputable def Li:List (List Nat):=[1,2,3].flatMap fun a=>[a]::[1,2,3].flatMap fun b=>[a,b]::[1,2].flatMap fun c=>[a,b,c]::[1,2].map fun d=>[a,b,c,d]
theorem WB.mem {lv:List Nat}{bs:List Meet} (h:WB lv bs):lv∈Li:=by
 have h1:=h.lv1
 have h2:=h.lv2
 have h3:=h.four
 have h4:=h.one
 have in3:∀ {x:Nat},1≤x∧x≤3→x∈[1,2,3]:=fun {x} hx=>by simp;omega
 have in2:∀ {x:Nat},1≤x→x≤2→x∈[1,2]:=fun {x} hx hy=>by simp;omega
 unfold Li
 rcases lv with _ | ⟨a,_ | ⟨b,_ | ⟨c,_ | ⟨d,_ | ⟨e,es⟩⟩⟩⟩⟩
 ·simp at h4
 ·exact List.mem_flatMap.mpr ⟨a,in3 (h1 0 a rfl),List.mem_cons_self⟩
 ·exact List.mem_flatMap.mpr ⟨a,in3 (h1 0 a rfl),List.mem_cons_of_mem _ (List.mem_flatMap.mpr ⟨b,in3 (h1 1 b rfl),List.mem_cons_self⟩)⟩
 ·exact List.mem_flatMap.mpr ⟨a,in3 (h1 0 a rfl),List.mem_cons_of_mem _ (List.mem_flatMap.mpr ⟨b,in3 (h1 1 b rfl),List.mem_cons_of_mem _ (List.mem_flatMap.mpr ⟨c,in2 (h1 2 c rfl).1 (h2 2 c rfl (by omega)),List.mem_cons_self⟩)⟩)⟩
 ·exact List.mem_flatMap.mpr ⟨a,in3 (h1 0 a rfl),List.mem_cons_of_mem _ (List.mem_flatMap.mpr ⟨b,in3 (h1 1 b rfl),List.mem_cons_of_mem _ (List.mem_flatMap.mpr ⟨c,in2 (h1 2 c rfl).1 (h2 2 c rfl (by omega)),List.mem_cons_of_mem _ (List.mem_map.mpr ⟨d,in2 (h1 3 d rfl).1 (h2 3 d rfl (by omega)),rfl⟩)⟩)⟩)⟩
 ·simp at h3
theorem j5:∀ lv∈Li,prod lv≤36∧(dM 0 lv).length≤10∧(allM lv 1).length < 64∧(allM lv 2).length < 64∧(allM lv 3).length < 64:=by decide +kernel
end Mi
namespace Mi
open PySem L2
theorem qQ {α β γ:Type} (x:R α) (f:α→R β) (g:β→R γ):((x >>= f) >>= g)=(x >>= fun a=>f a >>= g):=by cases x <;> rfl
theorem zN (a b:Int):bF .lt (.int a) (.int b)=.ok (decide (a < b)):=rfl
theorem zO (a b:Int):bF .le (.int a) (.int b)=.ok (decide (a≤b)):=rfl
theorem zP (a b:Int):bF .gt (.int a) (.int b)=.ok (decide (b < a)):=rfl
theorem zQ (a b:Int):bF .ge (.int a) (.int b)=.ok (decide (b≤a)):=rfl
theorem zT (a b:D):bF .in_ a b=inD a b:=rfl
theorem qk (a b:D):bF .notin a b=(do let r ← inD a b;.ok (!r)):=rfl
theorem qm (a b:D):jm .add a b=lZ a b:=rfl
theorem wj (a b:Int):lZ (.int a) (.int b)=.ok (.int (a+b)):=rfl
theorem wx (a b:Int):jm .sub (.int a) (.int b)=.ok (.int (a - b)):=rfl
theorem Eu {a b:Int} (h:jN a=true∨jN b=true):jm .mul (.int a) (.int b)=.ok (.int (a * b)):=by
 show (if (jN a || jN b)=true then _ else _)=_
 rw [if_pos (by simpa using h)]
theorem KQ {a b:Int} (h:0 < b):jm .mod (.int a) (.int b)=.ok (.int (a % b)):=by
 show (if 0 < b then _ else _)=_
 rw [if_pos h]
theorem qp (d:D):fQ .len [d]=uY d:=rfl
theorem qq (a b:Int):fQ .min2 [.int a,.int b]=.ok (.int (if b < a then b else a)):=rfl
theorem qC (d:D):fQ .sorted [d]=nH d:=rfl
theorem qO (l:List D):fQ .tuple [.lst l]=.ok (.tup l):=rfl
theorem qr (x:Int):jJ (.int x) .int=true:=rfl
theorem qu (x:Int):jJ (.int x) .bool=false:=rfl
theorem qv (x:List D):jJ (.tup x) .tuple=true:=rfl
theorem qw (x:List D):jJ (.lst x) .list=true:=rfl
theorem qE (ds:List D):itemsOf .seq [.lst ds]=.ok ds:=rfl
theorem dY {α β:Type} (f:α→β):∀ l:List α,l.flatMap (fun k=>[f k])=l.map f
 | []=>rfl
 | a::l=>by simp [dY f l]
theorem dW {α:Type} (p:α→Bool):∀ l:List α,l.flatMap (fun a=>if p a then [a] else [])=l.filter p
 | []=>rfl
 | a::l=>by
  rw [List.flatMap_cons,dW p l,List.filter_cons]
  cases p a <;> simp
end Mi
namespace Mi
open PySem L2
noncomputable def eC (ks:List Meet) (c:Meet→Int):D:=.dct (ks.map eM) (ks.map fun m=>.int (c m))
theorem NT (m:Meet):keyB (eM m)=true:=vQ m
theorem Bm (c:Meet→Int) (m:Meet):∀ ks:List Meet,jy (ks.map eM) (ks.map fun m=>.int (c m)) (eM m)=if m∈ks then some (.int (c m)) else none
 | []=>rfl
 | x::ks=>by
  simp only [List.map_cons,jy]
  by_cases h:x=m
  ·subst h;simp
  ·rw [if_neg fun z=>h (gU.inj _ _ z),Bm c m ks]
   have:m≠x:=fun z=>h z.symm
   simp [this]
theorem W7 (ks:List Meet) (c:Meet→Int) (m:Meet):tU (eC ks c) (eM m) (.int 0)=.ok (.int (if m∈ks then c m else 0)):=by
 have e:tU (eC ks c) (eM m) (.int 0)=.ok ((jy (ks.map eM) (ks.map fun m=>.int (c m)) (eM m)).getD (.int 0)):=if_pos (NT m)
 rw [e,Bm]
 split <;> rfl
theorem W5 {ks:List Meet}{c:Meet→Int}{m:Meet} (h:m∈ks):ixD (eC ks c) (eM m)=.ok (.int (c m)):=by
 have e:ixD (eC ks c) (eM m)=(match jy (ks.map eM) (ks.map fun m=>.int (c m)) (eM m) with | some d=>.ok d | none=>.stuck):=if_pos (NT m)
 rw [e,Bm,if_pos h]
noncomputable def pU (c:Meet→Int) (m:Meet) (v:Int):Meet→Int:=fun x=>if x=m then v else c x
theorem Uv {ks:List Meet} (c:Meet→Int) (m:Meet) (v:Int) (h:ks.length < lim):putD (eC ks c) (eM m) (.int v)=.ok (eC (cQ ks m) (pU c m v)):=by
 have hk:=vQ m
 simp only [eC,putD,List.length_map]
 rw [if_pos ⟨hk,h,trivial⟩]
 have hm:eM m∈ks.map eM↔m∈ks:=⟨fun z=>by obtain ⟨a,ha,e⟩:=List.mem_map.mp z;rw [gU.inj _ _ e] at ha;exact ha,fun z=>List.mem_map.mpr ⟨m,z,rfl⟩⟩
 unfold cQ iR
 by_cases hmem:m∈ks
 ·rw [if_pos (hm.mpr hmem),if_pos hmem]
  have:((ks.map eM).zip (ks.map fun m=>D.int (c m))).map (fun p=>if p.1=eM m then D.int v else p.2)=ks.map fun x=>D.int (pU c m v x):=by
   refine List.ext_getElem (by simp) fun i h1 h2=>?_
   simp only [List.getElem_map,List.getElem_zip,pU]
   by_cases e:ks[i]'(by simpa using h2)=m
   ·rw [if_pos (by rw [e]),if_pos e]
   ·rw [if_neg fun z=>e (gU.inj _ _ z),if_neg e]
  rw [this]
 ·rw [if_neg fun z=>hmem (hm.mp z),if_neg hmem]
  have:ks.map (fun x=>D.int (c x))=ks.map fun x=>D.int (pU c m v x):=by
   refine List.map_congr_left fun x hx=>?_
   have:x≠m:=fun z=>hmem (z ▸ hx)
   simp [pU,this]
  simp [this,pU]
theorem sH {α:Type}{enc:α→D} (h:∀ a,lfD (enc a)=true):∀ l:List α,lX (l.map enc)=true
 | []=>rfl
 | a::l=>by simp only [List.map_cons,lX,h a,sH h l,Bool.and_self]
theorem aaQ (p:Nat × Nat):lfD (eP p)=true:=rfl
theorem QZ (m:Meet):lfD (eM m)=true:=sH aaQ m
theorem aaK (ks:List Meet) (c:Meet→Int):lfC (eC ks c)=true:=by
 have h1:=sH QZ ks
 have h2:lX (ks.map fun m=>D.int (c m))=true:=sH (fun _=>rfl) ks
 simp only [eC,lfC,h1,h2,Bool.and_self]
noncomputable def eT (l:List Meet):D:=eC (l.foldl cQ []) fun m=>(l.count m:Int)
theorem uT {l:List Meet}{m:Meet}:m∈l.foldl cQ []↔m∈l:=by rw [pA];simp
theorem W9 (l:List Meet) (m:Meet):tU (eT l) (eM m) (.int 0)=.ok (.int (l.count m:Int)):=by
 unfold eT
 rw [W7]
 congr 2
 split
 ·rfl
 ·rename_i h
  rw [uT] at h
  rw [List.count_eq_zero_of_not_mem h]
  rfl
theorem aaj {l:List Meet}{m:Meet} (h:l.length < lim):putD (eT l) (eM m) (.int ((l.count m:Int)+1))=.ok (eT (l++[m])):=by
 have hl:=lW l []
 simp only [List.length_nil] at hl
 unfold eT
 rw [Uv _ _ _ (by omega),List.foldl_append]
 congr 2
 funext x
 unfold pU
 by_cases e:x=m
 ·subst e;simp
 ·have e':m≠x:=fun z=>e z.symm
  simp [e,e',List.count_append,List.count_singleton]
theorem zip_map:∀ (a b:List Nat),pX (a.map eN) (b.map eN)=(a.zip b).map eP
 | [],b=>by cases b <;> rfl
 | x::a,[]=>rfl
 | x::a,y::b=>by simp only [List.map_cons,pX,List.zip_cons_cons,zip_map a b];rfl
theorem Pb (a b:List Nat):itemsOf .zip [aq a,aq b]=.ok ((a.zip b).map eP):=by
 rw [← zip_map];rfl
noncomputable def eAt (ts:List (List Nat)) (i:Nat):D:=.tup [.int (i:Int),aq (ts.getD i [])]
theorem UG:∀ (n:Nat) (ts:List (List Nat)),aZ n (ts.map aq)=(List.range ts.length).map fun i=>.tup [.int ((n+i:Nat):Int),aq (ts.getD i [])]
 | n,[]=>rfl
 | n,t::ts=>by
  rw [List.map_cons,aZ,UG (n+1) ts,List.length_cons,List.range_succ_eq_map,List.map_cons,List.map_map]
  congr 1
  refine List.map_congr_left fun i _=>?_
  simp only [Function.comp,List.getD_cons_succ]
  congr 4
  omega
theorem Ir (ts:List (List Nat)):itemsOf .enum [.lst (ts.map aq)]=.ok ((List.range ts.length).map (eAt ts)):=by
 have:=UG 0 ts
 simp only [Nat.zero_add] at this
 show R.ok _=_
 rw [this]
 rfl
theorem Kw (ts:List (List Nat)):itemsOf .rev [.lst (ts.map aq)]=.ok (ts.reverse.map aq):=by rw [List.map_reverse];rfl
theorem M9 {α:Type} (enc:α→D) (ts:List α):fQ .listRev [.lst (ts.map enc)]=.ok (.lst (ts.reverse.map enc)):=by rw [List.map_reverse];rfl
theorem Lj (k:Nat) (h:k≤lim):itemsOf .rng [.int ((k:Int) - 1),.int (-1),.int (-1)]=.ok ((List.range k).reverse.map eN):=by
 have hlim:lim=100000:=rfl
 have e:itemsOf .rng [.int ((k:Int) - 1),.int (-1),.int (-1)]=.ok ((List.range ((k:Int) - 1 - -1).toNat).map fun (i:Nat)=>D.int ((k:Int) - 1 - (i:Int))):=if_pos ⟨rfl,by omega,by omega,by omega,by omega⟩
 rw [e]
 have e2:((k:Int) - 1 - -1).toNat=k:=by omega
 rw [e2]
 congr 1
 refine List.ext_getElem (by simp) fun i h1 h2=>?_
 simp only [List.length_map,List.length_range] at h1
 simp only [List.getElem_map,List.getElem_range,List.getElem_reverse,List.length_range,eN]
 congr 1
 omega
theorem Od (n:Nat):(List.range (n+1)).reverse=n::(List.range n).reverse:=by rw [List.range_succ];simp
theorem Yq (ds:List D) (i:Nat) (h:i≤ds.length):cutD ds none (some (i:Int))=ds.take i:=by
 unfold cutD HT.sIx
 have:¬ ((i:Int) < 0):=by omega
 simp [this,Nat.min_eq_left h]
theorem Y0 (ds:List D) (i:Nat) (h:i≤ds.length):cutD ds (some (i:Int)) none=ds.drop i:=by
 unfold cutD HT.sIx
 have:¬ ((i:Int) < 0):=by omega
 simp only [this,if_false,Int.toNat_natCast,Nat.min_eq_left h]
 exact List.take_of_length_le (by simp)
noncomputable abbrev mOf (k:Nat) (t:List Nat):List Meet:=among (aR 0 t) k
theorem Cq (k:Nat) (t:List Nat):(mOf k t).Nodup:=by
 have h:(aR 0 t).Pairwise pLt:=(nj 0 t).imp fun h=>.inl h
 exact (oE h k).imp fun h=>Qp h
noncomputable def fZ (k:Nat) (ts:List (List Nat)) (m:Meet):Nat:=(ts.flatMap (mOf k)).count m
theorem Gw (k:Nat) (a b:List (List Nat)) (t:List Nat) (m:Meet):fZ k (a++t::b) m=fZ k (a++b) m+(if m∈mOf k t then 1 else 0):=by
 unfold fZ
 simp only [List.flatMap_append,List.flatMap_cons,List.count_append]
 have:(mOf k t).count m=if m∈mOf k t then 1 else 0:=by
  split
  ·rename_i h
   have h1:=List.count_pos_iff.mpr h
   have h2:=List.nodup_iff_count.mp (Cq k t) m
   omega
  ·rename_i h
   exact List.count_eq_zero_of_not_mem h
 omega
theorem SN {k:Nat}{ts:List (List Nat)}{m:Meet}:0 < fZ k ts m↔∃ u∈ts,m∈mOf k u:=by
 unfold fZ
 rw [List.count_pos_iff,List.mem_flatMap]
noncomputable def c7 (k:Nat) (t:List Nat) (os:List (List Nat)):Bool:=(mOf k t).all fun m=>os.any fun u=>aM u m
theorem Hu (k:Nat) (a b:List (List Nat)) (t:List Nat):((mOf k t).all fun m=>decide ((1:Int) < (fZ k (a++t::b) m:Int)))=c7 k t (a++b):=by
 unfold c7
 rw [Bool.eq_iff_iff,List.all_eq_true,List.all_eq_true]
 refine forall_congr' fun m=>forall_congr' fun hm=>?_
 rw [Gw,if_pos hm,decide_eq_true_eq,List.any_eq_true]
 have h0:=dZ.mp hm
 have:(1:Int) < ((fZ k (a++b) m+1:Nat):Int)↔0 < fZ k (a++b) m:=by omega
 rw [this,SN]
 refine exists_congr fun u=>and_congr_right fun _=>?_
 rw [dZ]
 exact ⟨fun h=>h.2.2,fun h=>⟨h0.1,h0.2.1,h⟩⟩
noncomputable def fH (ps:List Meet) (ts:List (List Nat)):List Meet:=ps.filter fun m=>!(ts.any fun t=>aM t m)
theorem Gi {k:Nat}{ps:List Meet}{X os:List (List Nat)}{t:List Nat} (hX:∀ m,(X.any fun u=>aM u m)=(aM t m || os.any fun u=>aM u m)) (hp:∀ m∈ps,m.length=k∧fj m) (ht:∀ m∈mOf k t,m∈ps):decide (fH ps os=fH ps X)=c7 k t os:=by
 unfold c7
 rw [Bool.eq_iff_iff,decide_eq_true_eq,List.all_eq_true]
 constructor
 ·intro e m hm
  cases h:os.any fun u=>aM u m with
  | true=>rfl
  | false =>
   have h1:m∈fH ps os:=List.mem_filter.mpr ⟨ht m hm,by rw [h];rfl⟩
   rw [e] at h1
   have h2:=(List.mem_filter.mp h1).2
   rw [hX,(dZ.mp hm).2.2] at h2
   simp at h2
 ·intro h
  refine List.filter_congr fun m hm=>?_
  rw [hX]
  cases e:aM t m with
  | false=>rfl
  | true=>rw [h m (dZ.mpr ⟨(hp m hm).1,(hp m hm).2,e⟩)];rfl
noncomputable def iH (k:Nat):List (List Nat)→List (List Nat)→List (List Nat)
 | kept,[]=>kept
 | kept,t::rest=>if c7 k t (kept++rest) then iH k kept rest else iH k (kept++[t]) rest
noncomputable def iU (k:Nat) (ts:List (List Nat)) (i:Nat):Bool:=c7 k (ts.getD i []) (ts.take i++ts.drop (i+1))
theorem Fv {ts:List (List Nat)}{i:Nat} (h:i < ts.length):ts=ts.take i++ts.getD i []::ts.drop (i+1):=by
 have e:ts.getD i []=ts[i]:=by simp [List.getD,h]
 rw [e,List.getElem_cons_drop,List.take_append_drop]
theorem Tj {k:Nat}{ts:List (List Nat)}{i:Nat} (h:i < ts.length):((mOf k (ts.getD i [])).all fun m=>decide ((1:Int) < (fZ k ts m:Int)))=iU k ts i:=by
 have:=Hu k (ts.take i) (ts.drop (i+1)) (ts.getD i [])
 rw [← Fv h] at this
 exact this
theorem Gg (k:Nat) (t:List Nat) (a b:List (List Nat)):c7 k t (b.reverse++a.reverse)=c7 k t (a++b):=by
 unfold c7
 simp only [List.any_append,List.any_reverse,Bool.or_comm]
end Mi
set_option maxHeartbeats 1000000
namespace L2
open PySem PySem.Spec PyProof.Rows
noncomputable def drop (H:Hp) (c:Addr):Hp:=fun b=>if b=c then none else H b
theorem iy {H:Hp}{c:Addr}:drop H c c=none:=if_pos rfl
theorem bZ {H:Hp}{b c:Addr} (h:b≠c):drop H c b=H b:=if_neg h
noncomputable abbrev bV:HO:=.ext fun _=>True
section
variable {P:Program}{w:World}{H H1:Hp}{h h1:Heap}{c:Addr}{o:Obj}{u:HO}{fs:List Addr}
theorem vK (e:h.get? c=some o):cO P w H h c (.frz o bV):=⟨e,trivial,⟨o,e⟩,fun _ _ _ _=>trivial⟩
theorem HOk.lend (ok:HOk P w H h) (hn:H c=none) (e:h.get? c=some o):HOk P w (upd H c (.frz o bV)) h:=fun b u q=>by
 by_cases hb:b=c
 ·subst hb;rw [aC] at q;cases q;exact vK e
 ·rw [ao hb] at q
  exact (ok b u q).stay (fun _ _ _ z=>z) (fun d z=>by rw [ao (ak z hn)];exact z) (fun d xs z=>by rw [ao (ak z hn)];exact z) (fun d _ z _=>by rw [ao (ak z hn)];exact z)
theorem HOk.drop (ok:HOk P w H h) (hf:H c=some (.frz o u)) (hl:¬ lamO o):HOk P w (drop H c) h:=fun b v q=>by
 have hb:b≠c:=fun z=>by subst z;rw [iy] at q;cases q
 rw [bZ hb] at q
 have ne:∀ d y,H d=some y→y≠.frz o u→d≠c:=fun d y z n y'=>by subst y';rw [hf] at z;cases z;exact n rfl
 exact (ok b v q).stay (fun _ _ _ z=>z) (fun d z=>by rw [bZ (ne d _ z fun y=>nomatch y)];exact z) (fun d xs z=>by rw [bZ (ne d _ z fun y=>nomatch y)];exact z) (fun d od z g=>by
  rw [bZ (ne d _ z fun y=>by cases y;exact hl g)];exact z)
theorem Vd (hn:H c=none) (e:h.get? c=some o) (hl:¬ lamO o) (hfs:c ∉ fs) (x:Un fs [] (upd H c (.frz o bV)) H1 h h1) (ok:HOk P w H1 h1):Un fs [] H (drop H1 c) h h1∧HOk P w (drop H1 c) h1:=by
 have f1:H1 c=some (.frz o bV):=x.frzs c o bV aC
 have e1:h1.get? c=some o:=(ok c _ f1).1
 have st:∀ b u,H b=some u→b≠c:=fun b u q z=>by subst z;rw [hn] at q;cases q
 refine ⟨⟨fun b ob q n hb hx=>?_,fun b ob q n hb hx=>?_,fun b ob q n hx=>?_,fun b ob q hx=>x.there b ob q hx,fun b xs q=>?_,fun b ob xs q=>?_,fun b ps q=>?_⟩,ok.drop f1 hl⟩
 ·by_cases hbc:b=c
  ·subst hbc;rw [e] at q;cases q;exact e1
  ·exact x.keep b ob q (by rw [ao hbc];exact n) hb hx
 ·have hbc:b≠c:=fun z=>hfs (z ▸ hb)
  exact x.slot b ob q (by rw [ao hbc];exact n) hb hx
 ·by_cases hbc:b=c
  ·subst hbc;exact iy
  ·rw [bZ hbc];exact x.free b ob q (by rw [ao hbc];exact n) hx
 ·rw [bZ (st b _ q)];exact x.tups b xs (by rw [ao (st b _ q)];exact q)
 ·rw [bZ (st b _ q)];exact x.frzs b ob xs (by rw [ao (st b _ q)];exact q)
 ·rw [bZ (st b _ q)];exact x.tbls b ps (by rw [ao (st b _ q)];exact q)
theorem RM (hf:H c=some (.frz o bV)) (e:h.get? c=some o) (hfs:c ∉ fs) (x:Un fs [] (drop H c) H1 h h1) (ok:HOk P w H1 h1):Un fs [] H (upd H1 c (.frz o bV)) h h1∧HOk P w (upd H1 c (.frz o bV)) h1:=by
 have n1:H1 c=none:=x.free c o e iy (by simp)
 have e1:h1.get? c=some o:=x.keep c o e iy hfs (by simp)
 refine ⟨⟨fun b ob q n hb hx=>?_,fun b ob q n hb hx=>?_,fun b ob q n hx=>?_,fun b ob q hx=>x.there b ob q hx,fun b xs q=>?_,fun b ob xs q=>?_,fun b ps q=>?_⟩,ok.lend n1 e1⟩
 ·have hbc:b≠c:=fun z=>by subst z;rw [hf] at n;cases n
  exact x.keep b ob q (by rw [bZ hbc];exact n) hb hx
 ·have hbc:b≠c:=fun z=>hfs (z ▸ hb)
  exact x.slot b ob q (by rw [bZ hbc];exact n) hb hx
 ·have hbc:b≠c:=fun z=>by subst z;rw [hf] at n;cases n
  rw [ao hbc];exact x.free b ob q (by rw [bZ hbc];exact n) hx
 ·have hbc:b≠c:=fun z=>by subst z;rw [hf] at q;cases q
  rw [ao hbc];exact x.tups b xs (by rw [bZ hbc];exact q)
 ·by_cases hbc:b=c
  ·subst hbc;rw [aC];rw [hf] at q;exact q
  ·rw [ao hbc];exact x.frzs b ob xs (by rw [bZ hbc];exact q)
 ·have hbc:b≠c:=fun z=>by subst z;rw [hf] at q;cases q
  obtain ⟨m,z⟩:=x.tbls b ps (by rw [bZ hbc];exact q)
  exact ⟨m,by rw [ao hbc];exact z⟩
end
theorem Du {p0 p:Pos}{c v:Value}{l:List Value} (h:TriplesOk l) (e:codeAmong p0 (l++[rawInt p.line,rawInt p.col,c])=some v):codeAmong p0 l=some v∨v=c:=by
 fun_induction TriplesOk l with
 | case1 =>
  right
  simp only [List.nil_append,rawInt,codeAmong] at e
  split at e
  ·cases e;rfl
  ·cases e
 | case2 a t b u x rest ih =>
  simp only [List.cons_append,codeAmong] at e ⊢
  split at e
  ·rename_i hc
   rw [if_pos hc];exact .inl e
  ·rename_i hc
   rw [if_neg hc];exact ih h e
 | case3=>exact h.elim
section
variable {X:Cx}{pins:List (Addr × Obj)}{σ:St}{H H':Hp}{s:Shared}
theorem Inv.grew {h2:Heap}{tk:Nat}{Pt:Addr}{q:Array Value} (I:Inv X pins σ H s) (hP:H Pt=some (.tbl q)) (hx:Heap.ExtBut Pt s.heap h2) (mono:∀ b o,H b=some o→H' b=some o) (new:∀ b,H' b≠none→H b=none→s.heap.objs.size≤b) (ok:HOk X.prog X.w H' h2) :
  Inv X pins σ H' { s with heap:=h2,toks:=tk }:=by
 have neP:∀ b,H b=none→b≠Pt:=fun b n z=>by subst z;rw [n] at hP;cases hP
 refine I.step (g':=s.gens) (d':=s.drawn) (ch:=[]) (fun _ z=>nomatch z) (fun b o _ _ _ e n=>hx b o (neP b n) e) (fun b o _ _ _ e n=>⟨o.slots,hx b o (neP b n) e⟩) (fun b o _ e n=>?_) (fun b o _ e=>?_) (fun b xs e=>mono _ _ e) (fun b o u e=>mono _ _ e) (fun b ps e=>⟨#[],by rw [mono _ _ e];simp⟩) (fun m hm=>hm.extBut hx (neP _ I.free)) ok I.bare
 ·cases z:H' b with
  | none=>rfl
  | some u=>exact absurd (Nat.lt_of_lt_of_le (Heap.lt_size e) (new b (by rw [z];simp) n)) (Nat.lt_irrefl _)
 ·by_cases hb:b=Pt
  ·subst hb
   obtain ⟨ps,e2,_⟩:=ok b _ (mono _ _ hP)
   exact ⟨_,e2⟩
  ·exact ⟨o,hx b o hb e⟩
theorem Q9 {params:Arguments}{body:Expr}{scope:Scope}{pos:Pos}{E:Value→Shared→Prop}{Q:Value→Shared→Prop}{cc Pt:Addr}{q:Array Value}{clos:List (Str × Addr)}
  (I : Inv X pins σ H s) (hcl : closureFor scope X.env = pure clos) (hcode : X.env.code = .ref cc) (C : PySem.W.CodeHd s.heap cc Pt) (hP : H Pt = some (.tbl q)) (hdef : defaultsOf params X.env = ([], [])) (hqn : X.env.qual ++ "<lambda>" = dH)
  (h : ∀ f c' oc pm ctv h' tk H', Inv X pins σ H' { s with heap:=h', toks:=tk } → (∀ b o, H b = some o → H' b = some o) → (∀ b, H' b ≠ none → H b = none → s.heap.objs.size ≤ b) → H f = none → H' f = some (.frz (PySem.W.kla_obj "<lambda>" dH params body scope clos pm c' ctv) bV) →
   H' c'=some (.frz oc bV)→lamO oc→(∀ b o,b≠Pt→s.heap.get? b=some o→h'.get? b=some o)→Q (.ref f) { s with heap:=h',toks:=tk }) :
  wpAny (model X.prog X.w) X.A (eval (.Lambda params body scope pos) X.env) Q E s:=by
 obtain ⟨ps,hPs,tr,good⟩:=I.hok Pt _ hP
 obtain ⟨bm,ob,b1,b2,b3,b4,b5,b6,b7⟩:=I.mod.bm
 have hg:s.heap.Ns mainGlobals X.mg:=I.mod.glob.keeps I.bk
 have hgP:mainGlobals≠Pt:=fun z=>by
  obtain ⟨o,es,ep,e,_⟩:=I.mod.glob
  have:=(I.bs _ _ e).2
  rw [z,hP] at this;cases this
 have hbP:bm≠Pt:=fun z=>by
  have:=(I.bs _ _ b4).2
  rw [z,hP] at this;cases this
 have hB:s.heap.BuiltinsAt X.mg Pt:=⟨bm,ob,b1,b2,b3,hbP,I.bk _ _ b4,b5,b6,b7⟩
 refine PySem.W.kla_eval hdef ?_
 rw [hqn]
 cases hca:codeAmong pos ps.toList with
 | none =>
  refine PySem.W.kla_makeFunction (mg:=X.mg) (ps:=ps) hcl I.ok.glob hg hcode C hPs tr hca hgP hB fun c' ctv h' tk hx hge hlt hrec htb=>?_
  obtain ⟨c₂,oc,vs,t,e2,hoc,hd,hv⟩:=hrec
  cases e2
  have nc:H c'=none:=I.hok.fresh hge
  have szle:s.heap.objs.size≤h'.objs.size:=Nat.le_trans hge (Nat.le_of_lt hlt)
  have nf:H h'.objs.size=none:=I.hok.fresh szle
  have hfc:h'.objs.size≠c':=Nat.ne_of_gt hlt
  have hx2 : Heap.ExtBut Pt s.heap (h'.push (PySem.W.kla_obj "<lambda>" dH params body scope clos ((X.mg "__name__").getD .none) c' ctv)):=fun b o hb e => Heap.get?_push_of_some _ (hx b o hb e)
  have mono : ∀ b o, H b = some o → upd (upd H c' (.frz oc bV)) h'.objs.size (.frz (PySem.W.kla_obj "<lambda>" dH params body scope clos ((X.mg "__name__").getD .none) c' ctv) bV) b = some o:=fun b o e => by
   rw [ao (ak e nf),ao (ak e nc)];exact e
  have newb : ∀ b, upd (upd H c' (.frz oc bV)) h'.objs.size (.frz (PySem.W.kla_obj "<lambda>" dH params body scope clos ((X.mg "__name__").getD .none) c' ctv) bV) b ≠ none → H b = none → s.heap.objs.size ≤ b:=fun b n1 n2 => by
   by_cases z:b=h'.objs.size
   ·rw [z];exact szle
   ·rw [ao z] at n1
    by_cases z2:b=c'
    ·rw [z2];exact hge
    ·rw [ao z2] at n1;exact absurd n2 n1
  have cH : upd (upd H c' (.frz oc bV)) h'.objs.size (.frz (PySem.W.kla_obj "<lambda>" dH params body scope clos ((X.mg "__name__").getD .none) c' ctv) bV) c' = some (.frz oc bV):=by rw [ao (Ne.symm hfc), aC]
  have okk : HOk X.prog X.w (upd (upd H c' (.frz oc bV)) h'.objs.size (.frz (PySem.W.kla_obj "<lambda>" dH params body scope clos ((X.mg "__name__").getD .none) c' ctv) bV)) (h'.push (PySem.W.kla_obj "<lambda>" dH params body scope clos ((X.mg "__name__").getD .none) c' ctv)):=fun b u e => by
   by_cases z:b=h'.objs.size
   ·subst z
    rw [aC] at e;cases e
    exact vK (Heap.get?_push_size _ rfl)
   ·by_cases z2:b=c'
    ·subst z2
     rw [cH] at e;cases e
     exact vK (Heap.get?_push_of_some _ hoc)
    ·have e':=e
     rw [ao z,ao z2] at e'
     by_cases z3:b=Pt
     ·subst z3
      rw [hP] at e';cases e'
      refine ⟨_,Heap.get?_push_of_some _ htb,?_,fun p0 v hv0=>?_⟩
      ·rw [Array.toList_append];exact TriplesOk_snoc _ _ _ _ tr
      ·rw [Array.toList_append] at hv0
       rcases Du tr hv0 with q1 | q1
       ·obtain ⟨d,od,e1,g1,g2⟩:=good p0 v q1
        exact ⟨d,od,e1,mono _ _ g1,g2⟩
       ·exact ⟨c',oc,q1,cH,vs,t,hd,hv⟩
     ·refine (I.hok b u e').stay (fun b2 o2 hb2 q2=>hx2 b2 o2 ?_ q2) (fun d z=>mono _ _ z) (fun d xs z=>mono _ _ z) (fun d od z _=>mono _ _ z)
      rcases hb2 with rfl | hb2
      ·exact z3
      ·rintro rfl
       rw [hP] at hb2;cases hb2
  exact h h'.objs.size c' oc _ ctv _ tk _ (I.grew hP hx2 mono newb okk) mono newb nf aC cH ⟨vs,t,hd,hv⟩ (fun b o hb e=>hx2 b o hb e)
 | some v =>
  obtain ⟨c',oc,rfl,g1,g2⟩:=good pos v hca
  refine PySem.W.kla_makeFunctionHit (mg:=X.mg) (ps:=ps) hcl I.ok.glob hg hcode C hPs tr hca hB fun ctv h' tk hk hsz=>?_
  have nf:H h'.objs.size=none:=I.hok.fresh hsz
  have hk2 : ∀ b o, s.heap.get? b = some o → (h'.push (PySem.W.kla_obj "<lambda>" dH params body scope clos ((X.mg "__name__").getD .none) c' ctv)).get? b = some o:=fun b o e => Heap.get?_push_of_some _ (hk b o e)
  have mono : ∀ b o, H b = some o → upd H h'.objs.size (.frz (PySem.W.kla_obj "<lambda>" dH params body scope clos ((X.mg "__name__").getD .none) c' ctv) bV) b = some o:=fun b o e => by rw [ao (ak e nf)]; exact e
  have newb : ∀ b, upd H h'.objs.size (.frz (PySem.W.kla_obj "<lambda>" dH params body scope clos ((X.mg "__name__").getD .none) c' ctv) bV) b ≠ none → H b = none → s.heap.objs.size ≤ b:=fun b n1 n2 => by
   by_cases z:b=h'.objs.size
   ·rw [z];exact hsz
   ·rw [ao z] at n1;exact absurd n2 n1
  exact h h'.objs.size c' oc _ ctv _ tk _ (I.laid hk2 hsz (vK (Heap.get?_push_size _ rfl))) mono newb nf aC (mono _ _ g1) g2 (fun b o _ e=>hk2 b o e)
end
structure LamScope (scope:Scope) (xb xt:Str):Prop where
 kind:scope.kind=.function
 co:scope.isCoroutine=false
 gen:scope.isGenerator=false
 nocell:∀ x∈scope.names,x.2≠.cell
 par:scope.names.lookup xt=some .local
 cap:scope.names.lookup xb=some .free
 only:∀ y,scope.names.lookup y=some .free→y=xb
 ne:xb≠xt
noncomputable def pD (P:Program) (w:World) (K:PySem.W.Frag) (mg:Str→Option Value) (base:Heap) (xb xt:Str) (scope:Scope) (f c:Addr) (cdv:Value) (A:Around) (outer:List Env) (s:Shared) (H:Hp):Cx where
 prog:=P
 w:=w
 K:=K
 mg:=mg
 base:=base
 A:=A.deeper (PySem.W.envX dH scope s.heap.objs.size f cdv [(xb,c)])
 N:=[xb,xt]
 s₀:=s
 H₀:=drop H c
 env:=PySem.W.envX dH scope s.heap.objs.size f cdv [(xb,c)]
 outer:=outer
 stack:=PySem.W.envX dH scope s.heap.objs.size f cdv [(xb,c)]::outer
 ex:=[]
 calm:=true
 fn:=fun _=>false
 pn:=[]
 xe:=fun _ _=>False
section
variable {P:Program}{w:World}{K:PySem.W.Frag}{mg:Str→Option Value}{base:Heap}{A:Around}{outer:List Env}{s:Shared}{H:Hp}{f c c':Addr}{params:Arguments}{body:Expr}{scope:Scope}{pm ctv:Value}{oc ocell:Obj}{xb xt:Str}{ub u:Value}{vb vt:V}
theorem U3 {Q : VK} {E : XK} {t : TE} (e0 : Env0 P w K mg base A outer s H) (hdp : A.depth < recursionLimit) (hh : A.handled = none) (L : LamScope scope xb xt) (hf : H f = some (.frz (PySem.W.kla_obj "<lambda>" dH params body scope [(xb, c)] pm c' ctv) bV)) (hc' : H c' = some (.frz oc bV)) (hlo : lamO oc)
  (hc : H c = some (.frz ocell bV)) (hcell : ocell.data = .cell (some ub)) (hbind : bindArgs (PySem.W.kla_fn "<lambda>" dH params body scope [(xb, c)] pm (.ref c') ctv) ⟨[u], []⟩ = pure [(xt, u)]) (rb : RelV vb ub) (rt : RelV vt u)
  (hbody:PE (pD P w K mg base xb xt scope f c (.ref c') A outer s H) body t) (ht:t [some vb,some vt] (drop H c) fun v H1=>H1 c=none→Q v (upd H1 c (.frz ocell bV))) :
  codeAny (model P w) A (.call (.ref f) ⟨[u],[]⟩) (CR CX0 outer P w H s Q E) s:=by
 have ef:=(e0.hok f _ hf).1
 have ec':=(e0.hok c' _ hc').1
 have ec:=(e0.hok c _ hc).1
 have hnl:¬ lamO ocell:=fun ⟨vs,t,z,_⟩=>by rw [hcell] at z;cases z
 have cfr:c ∉ frs outer:=fun z=>by rw [e0.frf c z] at hc;cases hc
 have hcd:s.heap.CodeRec (.ref c') dH:=by
  obtain ⟨vs,t,h1,h2⟩:=hlo
  exact ⟨c',oc,vs,t,rfl,ec',h1,h2⟩
 have lim:s.heap.NoLimit:=e0.mod.nolimit.keeps fun b o e=>(e0.bs b o e).1
 refine PySem.W.kla_callFunE hdp ef rfl L.co L.gen rfl hcd ?_
 rw [hbind]
 refine wpAny_pure (wpAny_newFunctionEnv L.nocell (fun y hy=>by cases List.mem_singleton.mp hy;exact L.par) (fun h₁ hns hsb=>⟨lim.fresh _ hsb,?_⟩) L.kind)
 show codeAny _ _ (.expr body (PySem.W.envX dH scope s.heap.objs.size f (.ref c') [(xb,c)])) _ _
 have hk₁:∀ b o,s.heap.get? b=some o→h₁.get? b=some o:=fun b o e=>hsb.extBut b o (Nat.ne_of_lt (Heap.lt_size e)) (Heap.get?_push_of_some _ e)
 have I:Inv (pD P w K mg base xb xt scope f c (.ref c') A outer s H) [] [some vb,some vt] (drop H c) { s with heap:=h₁,toks:=s.toks+1 }:=by
  have noA:∀ b:Addr,b ∉ (pD P w K mg base xb xt scope f c (.ref c') A outer s H).ex:=fun b z=>absurd (show b∈([]:List Addr) from z) (by simp)
  have look:∀ y d,(pD P w K mg base xb xt scope f c (.ref c') A outer s H).env.cells.lookup y=some d→y=xb∧d=c:=fun y d h=>by
   have h':(match y == xb with | true=>some c | false=>none)=some d:=h
   split at h'
   ·rename_i e
    cases h'
    exact ⟨beq_iff_eq.mp e,rfl⟩
   ·cases h'
  have lookc:(pD P w K mg base xb xt scope f c (.ref c') A outer s H).env.cells.lookup xb=some c:=by
   show (match xb == xb with | true=>some c | false=>none)=some c
   rw [beq_self_eq_true]
  have dn:∀ b,H b=none→drop H c b=none:=fun b n=>by
   by_cases z:b=c
   ·rw [z];exact iy
   ·rw [bZ z];exact n
  refine ⟨⟨e0.mod,L.kind,rfl,rfl,Nat.le_refl _,fun y z d h1 h2=>(look y d h1).1.trans (look z d h2).1.symm,fun y hy=>?_,fun y d z _=>(by cases z),fun _=>hh,Around.frames_deeper e0.frames,.inr ⟨rfl,rfl⟩,fun b z=>absurd z (noA b),fun b o e=>⟨(e0.bs b o e).1,dn b (e0.bs b o e).2⟩,e0.bsz,fun b _ _=>noA b,fun b z=>absurd z (noA b),e0.funs,fun b hb=>dn b (e0.frf b hb),?_⟩,
   rfl,e0.bare,Un.kept hk₁,⟨_,hns,fun i y v h1 h2 h3=>?_⟩,fun y d h=>?_,(e0.hok.drop hc hnl).fresh (Nat.le_refl _),fun y d h=>?_,fun p hp=>absurd (show p∈([]:List (Addr × Obj)) from hp) (by simp),(e0.hok.drop hc hnl).kept hk₁,rfl⟩
  ·have hy:scope.names.lookup y=some .cell∨scope.names.lookup y=some .free:=hy
   rcases hy with hy | hy
   ·exact absurd rfl (L.nocell _ (PySem.mem_of_lookup hy))
   ·exact ⟨c,by rw [L.only y hy];exact lookc⟩
  ·intro a o fd d oc2 vs p e1 e2 e3 e4 e5 e6 e7
   obtain ⟨q,e⟩:=e0.tab a o fd d oc2 vs p e1 e2 e3 e4 e5 e6 e7
   refine ⟨q,?_⟩
   show drop H c p=_
   rw [bZ (fun z=>by rw [z,hc] at e;cases e)]
   exact e
  ·match i,h1,h2 with
   | 0,h1,h2 =>
    cases h1
    cases h2
    exact ⟨ub,rb,.inr ⟨.inr L.cap,c,lookc,ocell,hk₁ _ _ ec,hcell⟩⟩
   | 1,h1,h2 =>
    cases h1
    cases h2
    refine ⟨u,rt,.inl ⟨L.par,?_⟩⟩
    show (match xt == xt with | true=>some u | false=>none)=some u
    rw [beq_self_eq_true]
   | i+2,h1,h2=>cases h1
  ·obtain ⟨_,rfl⟩:=look y d h
   exact ⟨some ub,ocell,hk₁ _ _ ec,hcell⟩
  ·obtain ⟨_,rfl⟩:=look y d h
   exact iy
 refine PySem.W.kla_codeExpr (wpAny_mono (hbody [] _ _ _ _ I ht) (fun v s' hq=>?_) fun _ _ z=>False.elim z)
 obtain ⟨v',H1,J,rv,q⟩:=hq
 obtain ⟨un,ok⟩:=RM hc ec cfr J.base J.hok
 exact ⟨v',_,J.os,J.bare,un,ok,rv,q (J.base.free c ocell ec iy (show c ∉ ([]:List Addr) by simp))⟩
end
structure RunAt (P:Program) (w:World) (K:PySem.W.Frag) (mg:Str→Option Value) (base:Heap) (A:Around) (outer:List Env) (f:Addr) (fd:FuncData) (ps:List Str) (sp:Sp):Prop where
 len:∀ vs H Q E,sp vs H Q E→vs.length=ps.length
 run:∀ (s:Shared) (H:Hp) (args:Args) (us:List Value) (vs:List V) (Q:VK) (E:XK),Env0 P w K mg base A outer s H→BindsTo s fd args (ps.zip us)→Vals vs us→sp vs H Q E→codeAny (model P w) A (.call (.ref f) args) (CR CX0 outer P w H s Q E) s
theorem Ng {P:Program}{w:World}{K:PySem.W.Frag}{mg:Str→Option Value}{base:Heap}{A:Around}{outer:List Env}{f:Addr}{name qual:Str}{params:Arguments}{body:List Stmt}{scope:Scope}{dV kV doc pm cdv ct oc:Value}{an od:Option Addr}
  {osl:Array (Option Value)}{N ps:List Str}{sp:Sp} (lk:K.lookup f=some ⟨oc,od,.func (PySem.W.fnOf name qual params body scope dV kV doc pm an cdv ct),osl⟩) (hcd:PySem.W.codeIn K cdv qual=true) (S:FnScope N ps scope) (hdp:A.depth < recursionLimit) (hh:A.handled=none)
  (len:∀ vs H Q E,sp vs H Q E→vs.length=ps.length)
  (hbody:∀ (s:Shared) (H:Hp) (vs:List V) (Q:VK) (E:XK),sp vs H Q E →
   ∃ t,PSs (gH CX0 P w K mg base N qual scope f cdv A outer s H E) body t∧t { nx:=fun _ H'=>Q .non H',rt:=Q } (start N vs) H) :
  RunAt P w K mg base A outer f (PySem.W.fnOf name qual params body scope dV kV doc pm an cdv ct) ps sp:=by
 refine ⟨len,fun s H args us vs Q E e0 hb r hsp=>?_⟩
 have hl:=len _ _ _ _ hsp
 have KX:K.In s.heap:=e0.mod.kin.keeps fun b o e=>(e0.bs b o e).1
 have lim:s.heap.NoLimit:=e0.mod.nolimit.keeps fun b o e=>(e0.bs b o e).1
 have hkind:∀ y∈ps.zip us,scope.names.lookup y.1=some .local∨(scope.names.lookup y.1=some .cell∧((cellsFrom (s.heap.objs.size+1) scope.names []).lookup y.1).isSome=true):=fun ⟨n,v⟩ hy=>by
  rcases S.par n (List.of_mem_zip hy).1 with q | q
  ·exact .inl q
  ·exact .inr ⟨q,PySem.W.cellsFrom_some _ _ _ (.inl q)⟩
 refine codeAny_call_function hdp (KX _ _ lk) rfl S.co S.gen rfl (PySem.W.codeRec_of KX hcd) (hb _ _ _ _ ?_)
 refine wpAny_newFunctionEnv_cells S.kind hkind fun env he s1 x=>?_
 subst he
 refine ⟨lim.keeps x.toInCall.keep,codeAny_func ?_⟩
 obtain ⟨t,ht,hq⟩:=hbody s H vs Q E hsp
 have I:Inv (gH CX0 P w K mg base N qual scope f cdv A outer s H E) [] (start N vs) H s1:=Cg S hh e0 hl r x
 refine wpAny_mono (ht [] s1 (start N vs) H _ I hq) (fun fl s' hs=>?_) fun e s' hs=>hs
 have fin:∀ {σ':St}{H':Hp}{v:V}{u:Value},Inv (gH CX0 P w K mg base N qual scope f cdv A outer s H E) [] σ' H' s'→RelV v u→Q v H'→CE outer P w H s Q u s' :=
  fun {σ' H' v u} J rv q=>⟨v,H',J.os,J.bare,J.base,J.hok,rv,q⟩
 cases fl with
 | ret u =>
  obtain ⟨v,σ',H',J,rv,q⟩:=hs
  exact fin J rv q
 | next =>
  obtain ⟨σ',H',J,q⟩:=hs
  exact fin (v:=V.non) (u:=Value.none) J rfl q
 | brk =>
  obtain ⟨_,_,_,q⟩:=hs
  exact False.elim q
 | cont =>
  obtain ⟨_,_,_,q⟩:=hs
  exact False.elim q
section
variable {X:Cx}{pins:List (Addr × Obj)}{σ:St}{H:Hp}{s:Shared}{k:Nat}{fa c:Addr}{fd:FuncData}{ps:List Str}{sp:Sp}{xb:Str}{ocell:Obj}{ub:Value}
theorem TJ {Q:VK}{vs:List V}{us:List Value} (F:RunAt X.prog X.w X.K X.mg X.base X.A X.stack fa fd ps sp) (hb:Binds X.K fd ps []) (I:Inv X pins σ H s) (hcl:X.env.cells.lookup xb=some c) (hfn:X.fn xb=true)
  (ec:s.heap.get? c=some ocell) (hcell:ocell.data=.cell (some ub)) (r:Vals vs us) (h:sp vs (upd H c (.frz ocell bV)) (fun v H1=>Q v (drop H1 c)) E0):wpAny (model X.prog X.w) X.A (call (.ref fa) us) (EP X pins σ Q) X.xe s:=by
 have hn:H c=none:=I.freeC xb c hcl
 have hnl:¬ lamO ocell:=fun ⟨vs,t,z,_⟩=>by rw [hcell] at z;cases z
 have c0:X.s₀.heap.objs.size≤c:=I.ok.cab xb c hfn hcl
 have old:∀ b o,X.s₀.heap.get? b=some o→b≠c:=fun b o e z=>absurd (Nat.lt_of_lt_of_le (Heap.lt_size e) (z ▸ c0)) (Nat.lt_irrefl _)
 have cfr:c ∉ frs X.stack:=fun z=>by
  rcases List.mem_cons.mp (I.stkSub c z) with e | e
  ·exact I.cne xb c hcl e
  ·obtain ⟨_,o,ho,_⟩:=I.ok.funs.mem e
   exact old c o ho rfl
 have e0:=I.env0
 have e1:Env0 X.prog X.w X.K X.mg X.base X.A X.stack s (upd H c (.frz ocell bV)):=⟨e0.frames,e0.mod,fun b o e=>⟨(e0.bs b o e).1,by rw [ao (old b o (I.ok.bs b o e).1)];exact (e0.bs b o e).2⟩,e0.bsz,e0.funs,fun b hb=>by rw [ao (fun z:b=c=>cfr (by rw [← z];exact hb))];exact e0.frf b hb,e0.hok.lend hn ec,e0.bare,fun a o fd d oc vs p e1 e2 e3 e4 e5 e6 e7=>by
  obtain ⟨q,e⟩:=e0.tab a o fd d oc vs p e1 e2 e3 e4 e5 e6 e7
  exact ⟨q,by rw [ao (ak e hn)];exact e⟩⟩
 have hl:(us++[]).length=ps.length:=by rw [List.append_nil,← r.length];exact F.len _ _ _ _ h
 have hb':=hb s us I.kIn hl
 rw [List.append_nil] at hb'
 refine wpAny_call (codeAny_mono (F.run s _ ⟨us,[]⟩ us vs _ E0 e1 hb' r h) fun r s' hq=>?_)
 cases r with
 | error e=>exact False.elim hq
 | ok fl =>
  cases fl with
  | ret u =>
   obtain ⟨v,H',os,bare,un,ok,rv,q⟩:=hq
   obtain ⟨un2,ok2⟩:=Vd hn ec hnl cfr un ok
   exact I.after ⟨v,drop H' c,os,bare,un2,ok2,rv,q⟩
  | next=>exact False.elim hq
  | brk=>exact False.elim hq
  | cont=>exact False.elim hq
noncomputable def aau (X : Cx) (xb : Str) (params : Arguments) (body : Expr) (scope : Scope) : TE:=fun σ H Q => ∀ f c' oc pm ctv c H', X.env.cells.lookup xb = some c → (∀ b o, H b = some o → H' b = some o) → H f = none → H c = none → H' c = none → H' f = some (.frz (PySem.W.kla_obj "<lambda>" dH params body scope [(xb, c)] pm c' ctv) bV) →
 H' c'=some (.frz oc bV)→lamO oc→Q (.ref f) H'
theorem YQ {params:Arguments}{body:Expr}{scope:Scope}{pos:Pos}{cc Pt:Addr} (hsc:X.env.scope.names.lookup xb=some .cell) (hclo:∀ c,X.env.cells.lookup xb=some c→closureFor scope X.env=pure [(xb,c)]) (hcode:X.env.code=.ref cc)
  (C : ∀ h : Heap, X.K.In h → PySem.W.CodeHd h cc Pt) (hPt : ∀ H, oX X.K X.mg H → ∃ q, H Pt = some (.tbl q)) (hdef : defaultsOf params X.env = ([], [])) (hqn : X.env.qual ++ "<lambda>" = dH) :
  PE X (.Lambda params body scope pos) (aau X xb params body scope):=by
 intro pins s σ H Q I h
 obtain ⟨c,hc⟩:=I.ok.has xb (.inl hsc)
 obtain ⟨q,hP⟩:=hPt H I.env0.tab
 have hn:H c=none:=I.freeC xb c hc
 refine Q9 I (hclo c hc) hcode (C _ I.kIn) hP hdef hqn fun f c' oc pm ctv h' tk H' J mono newb nf hf hc' hlo _=>?_
 exact ⟨.ref f,H',J,rfl,h f c' oc pm ctv c H' hc mono nf hn (J.freeC xb c hc) hf hc' hlo⟩
theorem Vj {params:Arguments}{body:Expr}{scope:Scope}{lpos p p2 pos:Pos}{cc Pt:Addr}{xc y:Str}{i0 i1:Nat} (F:RunAt X.prog X.w X.K X.mg X.base X.A X.stack fa fd ps sp) (hb:Binds X.K fd ps []) (hg:Gl X xc) (hm:X.mg xc=some (.ref fa)) (hk:PySem.W.keepIn X.K (.ref fa)=true)
  (h0 : X.N[i0]? = some xb) (hsc : X.env.scope.names.lookup xb = some .cell) (hfn : X.fn xb = true) (h1 : X.N[i1]? = some y) (hv1 : Vis X.env.scope y) (hd1 : (y == ("__debug__" : Str)) = false) (hd2 : (y == ("__classdict__" : Str)) = false) (hdb : (xc == ("__debug__" : Str)) = false)
  (hclo : ∀ c, X.env.cells.lookup xb = some c → closureFor scope X.env = pure [(xb, c)]) (hcode : X.env.code = .ref cc) (C : ∀ h : Heap, X.K.In h → PySem.W.CodeHd h cc Pt) (hPt : ∀ H, oX X.K X.mg H → ∃ q, H Pt = some (.tbl q)) (hdef : defaultsOf params X.env = ([], [])) (hqn : X.env.qual ++ "<lambda>" = dH) :
  PE X (.Call (.Name xc p) [.Name y p2,.Lambda params body scope lpos] [] pos) (fun σ H Q=>∃ vb vt,σ[i0]?=some (some vb)∧σ[i1]?=some (some vt)∧∀ f c' oc pm ctv c ocell ub H',(∀ b o,H b=some o→H' b=some o)→H c=none→H' c=none →
   H' f = some (.frz (PySem.W.kla_obj "<lambda>" dH params body scope [(xb, c)] pm c' ctv) bV) → H' c' = some (.frz oc bV) → lamO oc → ocell.data = .cell (some ub) → RelV vb ub → sp [vt, .ref f] (upd H' c (.frz ocell bV)) (fun v H1 => Q v (drop H1 c)) E0):=by
 intro pins s σ H Q I h
 obtain ⟨vb,vt,e0,e1,h⟩:=h
 refine wpAny_Call_Name_kw (vD I hg hm ?_ hdb)
 have pa:=fW (iw (pos:=p2) h1 hv1 hd1 hd2) (fW (YQ (X:=X) (pos:=lpos) (params:=params) (body:=body) hsc hclo hcode C hPt hdef hqn) lJ)
 refine PySem.W.callWith_K (h₀:=X.base) I.ok.mod.kin hk (thn (pa pos pins s σ H (fun vs H1 => ∃ f c' oc pm ctv c, vs = [vt, .ref f] ∧ X.env.cells.lookup xb = some c ∧ (∀ b o, H b = some o → H1 b = some o) ∧ H c = none ∧ H1 f = some (.frz (PySem.W.kla_obj "<lambda>" dH params body scope [(xb, c)] pm c' ctv) bV) ∧ H1 c' = some (.frz oc bV) ∧ lamO oc) I ?_) fun us s1 ⟨vs, H1, I1, r, f, c', oc, pm, ctv, c, ev, hc, mono, hn, hf, hc', hlo⟩ => ⟨I1.kIn, ?_⟩)
 ·exact ⟨vt,e1,fun f c' oc pm ctv c H' hc mono nf hn hn' hf hc' hlo=>⟨f,c',oc,pm,ctv,c,rfl,hc,mono,hn,hf,hc',hlo⟩⟩
 ·subst ev
  obtain ⟨m,hns,hl⟩:=I1.loc
  obtain ⟨ub,rb,lk⟩:=hl i0 xb vb h0 e0 (.inr (.inl hsc))
  rcases lk with ⟨hk',_⟩ | ⟨_,c2,hc2,ocell,hoc,hcell⟩
  ·have:X.env.scope.names.lookup xb=some .local:=hk'
   rw [hsc] at this;cases this
  ·rw [hc] at hc2;cases hc2
   exact TJ F hb I1 hc hfn hoc hcell r (h f c' oc pm ctv c ocell ub H1 mono hn (I1.freeC xb c hc) hf hc' hlo hcell rb)
theorem Sv {x : Str} {j : Nat} {e : Expr} {ta : TE} {p pos : Pos} {W : Addr → V → Hp → VK → Prop} (hN : X.N[j]? = some x) (hv : Vis X.env.scope x) (hd1 : (x == ("__debug__" : Str)) = false) (hd2 : (x == ("__classdict__" : Str)) = false) (ha : PE X e ta) (hs : starEach [e] X.env = (false, eval e X.env) :: starEach [] X.env)
  (hW:∀ f pins s σ H v u Q,Inv X pins σ H s→RelV v u→W f v H Q→PySem.W.FnAt f s.heap∧wpAny (model X.prog X.w) X.A (call (.ref f) [u]) (EP X pins σ Q) X.xe s) (hF:∀ f s H,HOk X.prog X.w H s→(∃ ob,H f=some (.frz ob bV)∧∃ oc od fd sl,ob=⟨oc,od,.func fd,sl⟩)→PySem.W.FnAt f s) :
  PE X (.Call (.Name x p) [e] [] pos) (fun σ H Q=>∃ f,σ[j]?=some (some (.ref f))∧(∃ ob,H f=some (.frz ob bV)∧∃ oc od fd sl,ob=⟨oc,od,.func fd,sl⟩)∧ta σ H fun v H1=>W f v H1 Q):=by
 intro pins s σ H Q I h
 obtain ⟨f,ef,hf,ht⟩:=h
 refine wpAny_Call_Name_kw (thn (iw (pos:=p) hN hv hd1 hd2 pins s σ H (fun v H1=>v=.ref f∧H1=H) I ⟨.ref f,ef,rfl,rfl⟩) fun fv s0 ⟨v0,H0,I0,r0,e0,eH⟩=>?_)
 subst e0 eH
 obtain rfl:fv=Value.ref f:=r0
 refine PySem.W.callWith_F (hF f _ _ I0.hok hf) (thn ((fW ha lJ hs) pos pins s0 σ H0 (fun vs H1=>match vs with | [v]=>W f v H1 Q | _=>False) I0 ht) fun us s1 ⟨vs,H1,I1,r,hw⟩=>?_) hs rfl
 rcases vs with _ | ⟨v,_ | ⟨v2,vs⟩⟩
 ·exact hw.elim
 ·obtain ⟨u,rfl,ru⟩:=vals1 r
  exact hW f pins s1 σ H1 v u Q I1 ru hw
 ·exact hw.elim
end
end L2
set_option maxHeartbeats 1000000
namespace Mi
open PySem L2
open PyProof.Rows hiding St
noncomputable def Br (p : Pos) : Arguments:={ posonlyargs:=[], args:=[{ arg:="test", annotation:=none, pos:=p }], vararg:=none, kwonlyargs:=[], kw_defaults:=[], kwarg:=none, defaults:=[] }
noncomputable def vM (p1 p2 p3 p4 : Pos) : Expr:=.Call (.Name "is_test" p1) [.Name "book" p2, .Name "test" p3] [] p4
noncomputable def cW : Scope:={ kind:=.function, names:=[(Str.ofString "test", .local), (Str.ofString "book", .free), (Str.ofString "is_test", .globalImplicit)], isGenerator:=false, isCoroutine:=false, more:=[] }
theorem CV : LamScope cW "book" "test":=by
 refine ⟨rfl,rfl,rfl,by decide +kernel,by decide +kernel,by decide +kernel,fun y h=>?_,by decide +kernel⟩
 have h2:=PySem.mem_of_lookup h
 simp only [cW,List.mem_cons,List.not_mem_nil,or_false] at h2
 rcases h2 with h2 | h2 | h2
 ·cases h2
 ·cases h2;rfl
 ·cases h2
noncomputable abbrev Zz (p0 p1 p2 p3 p4 : Pos) (c : Addr) (pm : Value) (c' : Addr) (ctv : Value) : Obj:=PySem.W.kla_obj "<lambda>" dH (Br p0) (vM p1 p2 p3 p4) cW [("book", c)] pm c' ctv
noncomputable def vW (p:D→R D):List D→Prop
 | []=>True
 | d::ds=>p d=.ok (.bl true)∧vW p ds
structure CloAt (g:G) (H Hs:Hp) (f:Addr) (b:D):Prop where
 ex:∃ p0 p1 p2 p3 p4 c c' oc ocell ub vb pm ctv,H f=some (.frz (Zz p0 p1 p2 p3 p4 c pm c' ctv) bV)∧H c'=some (.frz oc bV)∧lamO oc∧H c=some (.frz ocell bV)∧ocell.data=.cell (some ub)∧RelV vb ub∧Hs c=none∧Rp g Hs b vb
theorem CloAt.grow {g:G}{H Hs H' Hs':Hp}{f:Addr}{b:D} (x:CloAt g H Hs f b) (hs:Same Hs H) (w:Grow H Hs H' Hs'):CloAt g H' Hs' f b:=by
 obtain ⟨p0,p1,p2,p3,p4,c,c',oc,ocell,ub,vb,pm,ctv,h1,h2,h3,h4,h5,h6,h7,h8⟩:=x.ex
 exact ⟨p0,p1,p2,p3,p4,c,c',oc,ocell,ub,vb,pm,ctv,w.keep _ _ h1,w.keep _ _ h2,h3,w.keep _ _ h4,h5,h6,(w.old _ _ h4).trans h7,h8.mono (w.same hs)⟩
structure FnsP (T:Tx) (cl:Nat→List D→R D) (P:Program) (w:World) (K:PySem.W.Frag) (mg:Str→Option Value) (base:Heap) (n:Nat):Prop where
 blt:∀ f∈jY,mg f=none
 gl:∀ x i,T.gl.lookup x=some (.int i)→∃ t,mg x=some (.int i t)
 fns:∀ f x,T.F[f]?=some x→∃ a fd ps,FnOk P w K mg base CX0 n a fd ps (spD ⟨P,w,K⟩ (cl f) ps.length)∧FnOk P w K mg base CX0 n a fd ps (K4 ⟨P,w,K⟩ (cl (1000+f)) ps.length)∧mg x=some (.ref a)∧PySem.W.keepIn K (.ref a)=true∧Binds K fd ps []∧(∀ ds d,cl f ds=.ok d→ds.length=ps.length)∧(∀ ds d,cl (1000+f) ds=.ok d→ps.length=2)∧FnOk P w K mg base CX0 n a fd ps (spF ⟨P,w,K⟩ (cl (2000+f)) ps.length)∧∀ ds d,cl (2000+f) ds=.ok d→ds.length=ps.length
section
variable {T:Tx}{cl:Nat→List D→R D}{P:Program}{w:World}{K:PySem.W.Frag}{mg:Str→Option Value}{base:Heap}{n:Nat}
theorem FnsP.cok {X:Cx} (F:FnsP T cl X.prog X.w X.K X.mg X.base n) (hc:X.calm=true) (hnd:X.N.Nodup) (hr:Room n X.A):Cok T cl X:=by
 refine ⟨hc,hnd,by have:=hr.un;omega,F.blt,F.gl,fun f x hF=>?_⟩
 obtain ⟨a,fd,ps,q1,q2,q3,q4,q5,q6,q7,q8⟩:=F.fns f x hF
 exact ⟨n,a,fd,ps,q1,q2,hr,q3,q4,q5,q6,q7,q8⟩
variable {A:Around}{outer:List Env}{s:Shared}{H:Hp}
theorem QD {f c : Addr} {cdv : Value} : ScRel cW (pD P w K mg base "book" "test" cW f c cdv A outer s H) :=
 ⟨fun y h=>tu h,fun y h=>tD h,fun y h=>h,fun y h=>by
  have h1:=jX h
  refine ⟨h1,?_⟩
  rcases h1 with e | e
  ·exact .inr e
  ·exact absurd rfl (CV.nocell _ (PySem.mem_of_lookup e))⟩
theorem Ra {X : Cx} {g : Nat} {Q : VK} {fa : Addr} {pins : List (Addr × Obj)} {σ : St} {v : V} {u : Value} {Hs : Hp} {b d z : D} (F : FnsP T cl X.prog X.w X.K X.mg X.base n) (hT : T.F[g]? = some (Str.ofString "is_test")) (hr : ∀ env, Room n (X.A.deeper env)) (hdp : X.A.depth < recursionLimit) (hh : X.A.handled = none)
  (I:Inv X pins σ H s) (ru:RelV v u) (hs:Same Hs H) (hc:CloAt (gOf X) H Hs fa b) (rd:Rp (gOf X) Hs d v) (hz:cl g [b,d]=.ok z) (k:XD X H Hs Q z) :
  PySem.W.FnAt fa s.heap∧wpAny (model X.prog X.w) X.A (call (.ref fa) [u]) (EP X pins σ Q) X.xe s:=by
 obtain ⟨p0,p1,p2,p3,p4,c,c',oc,ocell,ub,vb,pm,ctv,h1,h2,h3,h4,h5,h6,h7,h8⟩:=hc.ex
 have ef:=(I.hok fa _ h1).1
 refine ⟨⟨_,_,_,_,ef⟩,?_⟩
 have ok : okE T ["book", "test"] (.call g [.var 0, .var 1]) cW (vM p1 p2 p3 p4) = true:=by
  show (aK "is_test" && eF cW "is_test" && decide (T.F[g]? = some (Str.ofString "is_test")) && cj T ["book", "test"] [.var 0, .var 1] cW [.Name "book" p2, .Name "test" p3] && [Expr.Name "book" p2, .Name "test" p3].all noStar) = true
  rw [decide_eq_true hT]
  rfl
 have C : Cok T cl (pD X.prog X.w X.K X.mg X.base "book" "test" cW fa c (.ref c') X.A X.stack s H):=FnsP.cok (X:=pD X.prog X.w X.K X.mg X.base "book" "test" cW fa c (.ref c') X.A X.stack s H) F rfl (show ([("book" : Str), "test"] : List Str).Nodup by decide +kernel) (hr _)
 have hb:=(good (T:=T) (cl:=cl) (.call g [.var 0,.var 1]) C QD ok).1
 have dropS:Same Hs (drop H c):=fun b o e=>by
  rw [bZ (fun z=>by rw [z,h7] at e;cases e)]
  exact hs b o e
 refine wpAny_call (codeAny_mono (U3 (E:=E0) (vb:=vb) (vt:=v) (Q:=Q) I.env0 hdp hh CV h1 h2 h3 h4 h5 ?_ h6 ru hb ?_) fun r s' hq=>?_)
 ·rfl
 ·refine ⟨[some b,some d],Hs,z,dropS,⟨rfl,fun i hi e he=>?_⟩,?_,fun v' H' Hs' g' r' n'=>?_⟩
  ·match i,he with
   | 0,he=>cases he;exact ⟨vb,rfl,h8⟩
   | 1,he=>cases he;exact ⟨v,rfl,rd⟩
   | i+2,he=>cases he
  ·show (do let ds ← cu cl [.var 0,.var 1] [some b,some d];cl g ds)=_
   exact hz
  ·have hs'c:Hs' c=none:=g'.sub.free n'
   refine k v' _ Hs' ⟨fun a o e=>?_,fun a o e=>?_,fun a o e=>?_⟩ r'
   ·by_cases za:a=c
    ·subst za;rw [aC];rw [h4] at e;exact e
    ·rw [ao za];exact g'.keep a o (by rw [bZ za];exact e)
   ·by_cases za:a=c
    ·subst za;rw [hs'c,h7]
    ·exact g'.old a o (by rw [bZ za];exact e)
   ·rw [ao (fun za=>by rw [za,hs'c] at e;cases e)]
    exact g'.sub a o e
 ·cases r with
  | error e=>exact False.elim hq
  | ok fl =>
   cases fl with
   | ret u=>exact I.after hq
   | next=>exact False.elim hq
   | brk=>exact False.elim hq
   | cont=>exact False.elim hq
noncomputable def clN : List Str:=["things", "is_right", "place", "thing"]
noncomputable def cL : Scope:={ kind:=.function, names:=[(Str.ofString "things", .local), (Str.ofString "is_right", .local), (Str.ofString "place", .local), (Str.ofString "thing", .local), (Str.ofString "isinstance", .globalImplicit), (Str.ofString "list", .globalImplicit), (Str.ofString "BadTests", .globalImplicit), (Str.ofString "enumerate", .globalImplicit)], isGenerator:=false, isCoroutine:=false, more:=[] }
noncomputable def HF (p1 p2 p3 p4 p5 : Pos) (r : List Stmt) : Stmt:=.If (.UnaryOp .Not (.Call (.Name "is_right" p1) [.Name "thing" p2] [] p3) p4) r [] p5
noncomputable def uR (p1 p2 p3 p4 p5 p6:Pos) (e1 c1:Option Expr) (q1 q2 q3 q4 q5 q6 q7 q8 q9 q10 q11 q12 q13:Pos) (j:Nat) (r2:List Stmt):List Stmt :=
 [.If (.UnaryOp .Not (.Call (.Name "isinstance" p1) [.Name "things" p2, .Name "list" p3] [] p4) p5) [.Raise e1 c1 q13] [] p6,
  .For (.Tuple [.Name "place" q1, .Name "thing" q2] j q3) (.Call (.Name "enumerate" q4) [.Name "things" q5] [] q6) [HF q7 q8 q9 q10 q11 r2] [] q12]
noncomputable def clB (cl:Nat→List D→R D) (g:Nat) (b:D):Nat→List D→R D:=fun k ds=>if k=5000 then (match ds with | [t]=>cl g [b,t] | _=>.stuck) else cl k ds
section
variable {cl:Nat→List D→R D}{X:Cx}{n g:Nat}{T:Tx}{b:D}{E:Ent}{Es:Hp}{fa:Addr}{O inv:List Nat}
theorem XR {p1 p2 p3 p4 p5 : Pos} {r : List Stmt} (F : FnsP T cl X.prog X.w X.K X.mg X.base n) (hT : T.F[g]? = some (Str.ofString "is_test")) (hr : ∀ env, Room n (X.A.deeper env)) (hdp : X.A.depth < recursionLimit) (hh : X.A.handled = none) (hN : X.N = clN) (hsc : X.env.scope = cL)
  (hp:E.pins=[(1,fa)]) (hs:Same Es E.hp) (hc:CloAt (gOf X) E.hp Es fa b):PS X (HF p1 p2 p3 p4 p5 r) (tMS X E Es O (some (without O [3])) inv (bA (clB cl g b) (.chk 1 (.var 3)))):=by
 have vis:∀ x∈clN,Vis X.env.scope x:=fun x hx=>by
  rw [hsc]
  refine .inl ?_
  have:∀ x∈clN,cL.names.lookup x=some .local:=by decide +kernel
  exact this x hx
 have hpe : PE X (.Name "thing" p2) (Xn 3):=iw (by rw [hN]; rfl) (vis _ (by decide +kernel)) (by decide +kernel) (by decide +kernel)
 have hcall:=Sv (X:=X) (p:=p1) (pos:=p3) (W:=fun f v H Q => ∃ Hs d z, Same Hs H ∧ CloAt (gOf X) H Hs f b ∧ Rp (gOf X) Hs d v ∧ cl g [b, d] = .ok z ∧ XD X H Hs Q z) (j:=1) (x:="is_right") (by rw [hN]; rfl) (vis _ (by decide +kernel)) (by decide +kernel) (by decide +kernel) hpe rfl
  (fun f pins s σ H v u Q I ru ⟨Hs,d,z,h1,h2,h3,h4,h5⟩=>Ra F hT hr hdp hh I ru h1 h2 h3 h4 h5)
  (fun f s H ok ⟨ob,h1,oc,od,fd,sl,h2⟩=>by subst h2;exact ⟨oc,od,fd,sl,(ok f _ h1).1⟩)
 have hpt:=O8 (pos:=p4) (Qz hcall (uc rfl))
 refine bT (Uk hpt Dd J5) fun D σ H=>?_
 rintro ⟨ρ,Hs,o,Fr,h,k⟩
 rw [NP] at h
 obtain ⟨d,hd,h⟩:=aj h
 obtain ⟨z,hz,h⟩:=aj h
 have hz':cl g [b,d]=.ok z:=hz
 cases z <;> try (cases h;done)
 rename_i bb
 cases bb <;> try (cases h;done)
 cases h
 obtain ⟨Hs1,F1,m1,vs⟩:=Fr.pubU [3]
 have hd3:ρ[3]?=some (some d):=iW hd
 obtain ⟨v,ev,rv⟩:=vs.2 3 (List.mem_singleton.mpr rfl) d hd3
 have ep:=F1.pin (1,fa) (by rw [hp];exact List.mem_singleton.mpr rfl)
 have cg:=hc.grow hs F1.grow
 refine ⟨fa,ep,?_,v,ev,Hs1,d,.bl true,F1.sub,cg,rv,hz',fun v' H' Hs' g' r'=>⟨true,mH.mp r',?_⟩⟩
 ·obtain ⟨p0,p1,p2,p3,p4,c,c',oc,ocell,ub,vb,pm,ctv,h1,_⟩:=cg.ex
  exact ⟨_,h1,_,_,_,_,rfl⟩
 ·show (if (!true)=true then Hv D σ H' else _)
  exact k _ rfl σ H' Hs' (F1.grown g') (m1.trans (g'.same F1.sub))
theorem Ez {ts0:D}:∀ (ts:List D) (k:Nat),vW (fun t=>cl g [b,t]) ts→gJ (fun d ρ=>do let ρ1 ← dO (.two 2 3) d ρ;cJ (clB cl g b) [.chk 1 (.var 3)] ρ1) [some ts0,none,none,none] (aZ k ts) [some ts0,none,none,none]=.ok (.nx [some ts0,none,none,none])
 | [],_,_=>rfl
 | t::ts,k,h=>by
  have h1:(clB cl g b) 5000 [t]=.ok (.bl true):=h.1
  show gJ _ _ (.tup [.int k,t]::aZ (k+1) ts) _=_
  unfold gJ
  have h2:(dO (.two 2 3) (.tup [.int k,t]) [some ts0,none,none,none] >>= fun ρ1=>cJ (clB cl g b) [.chk 1 (.var 3)] ρ1)=.ok (.nx [some ts0,none,some (.int k),some t]):=by
   show (bA (clB cl g b) (.chk 1 (.var 3)) [some ts0,none,some (.int k),some t] >>= mL _ [])=_
   rw [NP]
   show (((clB cl g b) 5000 [t] >>= fun r=>QV [some ts0,none,some (.int k),some t] r) >>= mL _ [])=_
   rw [h1]
   rfl
  show ((dO (.two 2 3) (.tup [.int k,t]) [some ts0,none,none,none] >>= fun ρ1=>cJ (clB cl g b) [.chk 1 (.var 3)] ρ1) >>= _)=_
  rw [h2]
  exact Ez ts (k+1) h.2
end
noncomputable def aax (g:G) (cl:Nat→List D→R D) (q:Nat):Sp:=fun vs H Q _=>∃ vt fa b ts Hs,vs=[vt,.ref fa]∧Same Hs H∧CloAt g H Hs fa b∧Rp g Hs (.lst ts) vt∧vW (fun t=>cl q [b,t]) ts∧∀ H' Hs',Grow H Hs H' Hs'→Q .non H'
theorem aaE {cl':Nat→List D→R D} (F:FnsP T cl P w K mg base n):FnsP ⟨[],[]⟩ cl' P w K mg base n:=⟨F.blt,fun x d h=>(by cases h),fun f x h=>(by simp at h)⟩
theorem Zw {A:Around} (r:Room (n+1) A) (e1 e2 e3:Env):Room n (((A.deeper e1).deeper e2).deeper e3) :=
 ⟨r.hd,by have:=r.dp;show A.depth+1+1+1+3 * n+5 < _;omega,by have:=r.un;show A.units+3+3+3+16 * n+200 < _;omega⟩
theorem ZD {A:Around} (r:Room (n+1) A) (e1 e2:Env):Room n ((A.deeper e1).deeper e2) :=
 ⟨r.hd,by have:=r.dp;show A.depth+1+1+3 * n+5 < _;omega,by have:=r.un;show A.units+3+3+16 * n+200 < _;omega⟩
theorem Xh {q:Nat}{f:Addr}{params:Arguments}{dV kV doc pm cdv ct oc:Value}{an od:Option Addr}{osl:Array (Option Value)}{p1 p2 p3 p4 p5 p6:Pos}{x1 c1:Option Expr}{q1 q2 q3 q4 q5 q6 q7 q8 q9 q10 q11 q12 q13:Pos}{j:Nat}{r2:List Stmt}{A:Around}{outer:List Env}{e1:Env}
  (F : FnsP T cl P w K mg base n) (hT : T.F[q]? = some (Str.ofString "is_test")) (hr : Room (n + 1) A)
  (lk : K.lookup f = some ⟨oc, od, .func (PySem.W.fnOf "check_list" "check_list" params (uR p1 p2 p3 p4 p5 p6 x1 c1 q1 q2 q3 q4 q5 q6 q7 q8 q9 q10 q11 q12 q13 j r2) cL dV kV doc pm an cdv ct), osl⟩) (hcd : PySem.W.codeIn K cdv "check_list" = true) :
  RunAt P w K mg base (A.deeper e1) outer f (PySem.W.fnOf "check_list" "check_list" params (uR p1 p2 p3 p4 p5 p6 x1 c1 q1 q2 q3 q4 q5 q6 q7 q8 q9 q10 q11 q12 q13 j r2) cL dV kV doc pm an cdv ct) ["things", "is_right"] (aax ⟨P, w, K⟩ cl q):=by
 have S : FnScope clN ["things", "is_right"] cL:=lK (by decide +kernel)
 refine Ng lk hcd S (by have:=hr.dp;show A.depth+1 < _;omega) hr.hd (fun vs H Q E h=>?_) fun s H vs Q E h=>?_
 ·obtain ⟨vt,fa,b,ts,Hs,rfl,_⟩:=h
  rfl
 ·obtain ⟨vt,fa,b,ts,Hs,rfl,hs,hc,rt,hall,k⟩:=h
  have hr2:=ZD hr e1 (envOfC "check_list" cL s.heap.objs.size f cdv)
  have C : Cok ⟨[], []⟩ (clB cl q b) (gH CX0 P w K mg base clN "check_list" cL f cdv (A.deeper e1) outer s H E):=FnsP.cok (X:=gH CX0 P w K mg base clN "check_list" cL f cdv (A.deeper e1) outer s H E) (aaE F) rfl S.nd hr2
  have SR : ScRel cL (gH CX0 P w K mg base clN "check_list" cL f cdv (A.deeper e1) outer s H E):=⟨fun y h => tu h, fun y h => tD h, fun y h => h, fun y h => ⟨jX h, .inl rfl⟩⟩
  have h1:=tV (T:=⟨[], []⟩) (cl:=clB cl q b) (.ifs (.not (.isin (.var 0) .list)) [.rai] []) (gH CX0 P w K mg base clN "check_list" cL f cdv (A.deeper e1) outer s H E) cL (.If (.UnaryOp .Not (.Call (.Name "isinstance" p1) [.Name "things" p2, .Name "list" p3] [] p4) p5) [.Raise x1 c1 q13] [] p6) [] [] (some []) ⟨H, [(1, fa)]⟩ Hs (fun z hz => by simp [RD,vm]) C SR PassesOwn.leaving rfl rfl
  have h2:=XR (cl:=cl) (g:=q) (X:=gH CX0 P w K mg base clN "check_list" cL f cdv (A.deeper e1) outer s H E) (T:=T) (b:=b) (E:=⟨H, [(1, fa)]⟩) (Es:=Hs) (fa:=fa) (O:=[]) (inv:=[]) (p1:=q7) (p2:=q8) (p3:=q9) (p4:=q10) (p5:=q11) (r:=r2) F hT (fun env => Zw hr e1 _ env) (by have:=hr.dp; show A.depth + 1 + 1 < _; omega) hr.hd rfl rfl rfl hs hc
  have h3:=Oz (T:=⟨[], []⟩) (cl:=clB cl q b) (X:=gH CX0 P w K mg base clN "check_list" cL f cdv (A.deeper e1) outer s H E) (sc:=cL) (E:=⟨H, [(1, fa)]⟩) (Es:=Hs) (O:=[]) (inv:=[]) (pos:=q12) (t:=.two 2 3) (k:=.enum) (src:=[.var 0]) (b:=[.chk 1 (.var 3)]) (tg:=.Tuple [.Name "place" q1, .Name "thing" q2] j q3) (iter:=.Call (.Name "enumerate" q4) [.Name "things" q5] [] q6) (body:=[HF q7 q8 q9 q10 q11 r2]) (O2:=[]) (y:=some []) C SR PassesOwn.leaving (fun z hz => by rw [List.mem_singleton.mp hz]; show (1 : Nat) ∉ [2, 3]; decide) rfl rfl rfl (fun i hi => by cases hi) (fun O3 _ i hi => by cases hi) (Bx ?_)
  ·refine ⟨_,yc h1 (Bx h3),?_⟩
   have FR0:FR ⟨P,w,K⟩ ⟨H,[(1,fa)]⟩ Hs [] [some (.lst ts),none,none,none] [some vt,some (.ref fa),none,none] H Hs:=by
    refine ⟨Grow.refl hs,rfl,fun i d h _=>?_,fun i hi=>(by cases hi),fun i hi=>(by cases hi),fun z hz=>by rw [List.mem_singleton.mp hz];rfl⟩
    match i,h with
    | 0,h=>cases h;exact ⟨vt,rfl,rt⟩
    | 1,h=>cases h
    | 2,h=>cases h
    | 3,h=>cases h
    | i+4,h=>cases h
   refine ⟨[some (.lst ts),none,none,none],Hs,.nx [some (.lst ts),none,none,none],FR0,rfl,fun O1 e σ' H' Hs' F' s'=>?_⟩
   cases e
   refine ⟨[some (.lst ts),none,none,none],Hs',.nx [some (.lst ts),none,none,none],F',Ez ts 0 hall,fun O1 e σ2 H2 Hs2 F2 s2=>?_⟩
   exact k H2 Hs2 F2.grow
  ·refine bT h2 fun D σ H=>?_
   rintro ⟨ρ,Hs,o,Fr,h,kk⟩
   refine ⟨ρ,Hs,o,Fr,?_,kk⟩
   obtain ⟨o1,ho1,h4⟩:=aj (show (bA (clB cl q b) (.chk 1 (.var 3)) ρ >>= mL (clB cl q b) [])=.ok o from h)
   cases o1 <;> cases h4 <;> exact ho1
noncomputable def ctN : List Str:=["book", "tests"]
noncomputable def fX : Scope:={ kind:=.function, names:=[(Str.ofString "book", .cell), (Str.ofString "tests", .local), (Str.ofString "check_list", .globalImplicit)], isGenerator:=false, isCoroutine:=false, more:=[] }
noncomputable def zu (p1 p2 p3 p4 p5 p6 p7 p8 p9 p10 : Pos) : List Stmt:=[.Expr (.Call (.Name "check_list" p1) [.Name "tests" p2, .Lambda (Br p3) (vM p4 p5 p6 p7) cW p8] [] p9) p10]
theorem Vv {env : Env} {c : Addr} (h : env.cells.lookup (Str.ofString "book") = some c) : closureFor cW env = pure [(Str.ofString "book", c)]:=by
 unfold closureFor
 simp [cW,cellOf,h]
structure LamK (K:PySem.W.Frag) (mg:Str→Option Value) (act:Addr) (cdv:Value):Prop where
 cl : ∃ f params dV kV doc pm cv ct oc an od osl p1 p2 p3 p4 p5 p6 x1 c1 q1 q2 q3 q4 q5 q6 q7 q8 q9 q10 q11 q12 q13 j r2, K.lookup f = some ⟨oc, od, .func (PySem.W.fnOf "check_list" "check_list" params (uR p1 p2 p3 p4 p5 p6 x1 c1 q1 q2 q3 q4 q5 q6 q7 q8 q9 q10 q11 q12 q13 j r2) cL dV kV doc pm an cv ct), osl⟩ ∧ PySem.W.codeIn K cv "check_list" = true ∧
  mg (Str.ofString "check_list") = some (.ref f) ∧ PySem.W.keepIn K (.ref f) = true ∧ Binds K (PySem.W.fnOf "check_list" "check_list" params (uR p1 p2 p3 p4 p5 p6 x1 c1 q1 q2 q3 q4 q5 q6 q7 q8 q9 q10 q11 q12 q13 j r2) cL dV kV doc pm an cv ct) ["things", "is_right"] []
 code : ∃ cc Pt oc vs file tf flags tg inF text tt, cdv = .ref cc ∧ K.lookup cc = some oc ∧ oc.cls = .type "code" ∧ oc.data = .fields vs ∧ vs[11]? = some (.ref Pt) ∧ vs.getD 11 .none = .ref Pt ∧ vs.getD 18 .none = .str file tf ∧ vs.getD 7 .none = .int flags tg ∧ vs.getD 9 .none = .bool inF ∧ vs.getD 10 .none = .int text tt ∧ cc ≠ Pt
 me : mg "check_tests" = some (.ref act)
theorem TY {q:Nat}{act:Addr}{params:Arguments}{dV kV doc pm cdv ct oc:Value}{an od:Option Addr}{osl:Array (Option Value)}{p1 p2 p3 p4 p5 p6 p7 p8 p9 p10:Pos}{c:List D→R D}
  (F : FnsP T cl P w K mg base n) (hT : T.F[q]? = some (Str.ofString "is_test")) (hc : ∀ ds z, c ds = .ok z → ∃ b ts, ds = [b, .lst ts] ∧ z = .non ∧ vW (fun t => cl q [b, t]) ts)
  (lk : K.lookup act = some ⟨oc, od, .func (PySem.W.fnOf "check_tests" "check_tests" params (zu p1 p2 p3 p4 p5 p6 p7 p8 p9 p10) fX dV kV doc pm an cdv ct), osl⟩) (hcd : PySem.W.codeIn K cdv "check_tests" = true) (L : LamK K mg act cdv) :
  FnOk P w K mg base CX0 (n + 1) act (PySem.W.fnOf "check_tests" "check_tests" params (zu p1 p2 p3 p4 p5 p6 p7 p8 p9 p10) fX dV kV doc pm an cdv ct) ["book", "tests"] (spD ⟨P, w, K⟩ c 2):=by
 have S : FnScope ctN ["book", "tests"] fX:=lK (by decide +kernel)
 have len : ∀ (vs : List V) (H : Hp) (Q : VK) (E : XK), spD ⟨P, w, K⟩ c 2 vs H Q E → vs.length = ([("book" : Str), "tests"] : List Str).length:=fun vs H Q E h => by
  obtain ⟨ds,Hs,z,h,_⟩:=h;exact h
 refine ⟨len,fun A outer s H args us vs Q E hr e0 hb r hsp=>(Ng (N:=ctN) lk hcd S (by have:=hr.dp;omega) hr.hd len fun s H vs Q E h=>?_).run s H args us vs Q E e0 hb r hsp⟩
 obtain ⟨ds,Hs,z,hlen,hs,rs,hcz,k⟩:=h
 obtain ⟨b,ts,rfl,rfl,hall⟩:=hc _ _ hcz
 obtain ⟨vb,ws,rfl,rb,rs2⟩:=rs.cons_inv
 obtain ⟨vt,ws,rfl,rt,rs3⟩:=rs2.cons_inv
 cases rs3.nil_inv
 obtain ⟨fc,params',dV',kV',doc',pm',cv',ct',oc',an',od',osl',a1,a2,a3,a4,a5,a6,x1,c1,b1,b2,b3,b4,b5,b6,b7,b8,b9,b10,b11,b12,b13,j,r2,g1,g2,g3,g4,g5⟩:=L.cl
 obtain ⟨cc,Pt,ocd,vsd,file,tf,flags,tg,inF,text,tt,d1,d2,d3,d4,d5,d6,d7,d8,d9,d10,d11⟩:=L.code
 have RA:=Xh (e1:=envOfC "check_tests" fX s.heap.objs.size act cdv) (outer:=envOfC "check_tests" fX s.heap.objs.size act cdv :: outer) F hT hr g1 g2
 have hpe:=Vj (X:=gH CX0 P w K mg base ctN "check_tests" fX act cdv A outer s H E) (xb:="book") (y:="tests") (xc:="check_list") (i0:=0) (i1:=1) (params:=Br p3) (body:=vM p4 p5 p6 p7) (scope:=cW) (lpos:=p8) (p:=p1) (p2:=p2) (pos:=p9) (cc:=cc) (Pt:=Pt)
  RA g5 (show fX.names.lookup (Str.ofString "check_list") = some .globalImplicit by decide +kernel) g3 g4 rfl (show fX.names.lookup (Str.ofString "book") = some .cell by decide +kernel) rfl rfl (.inl (show fX.names.lookup (Str.ofString "tests") = some .local by decide +kernel)) (by decide +kernel) (by decide +kernel) (by decide +kernel)
  (fun c h => Vv h) d1 (fun h X => ⟨ocd, vsd, file, tf, flags, tg, inF, text, tt, X _ _ d2, d3, d4, d5, d6, d7, d8, d9, d10, d11⟩) (fun H' tab => tab act _ _ cc ocd vsd Pt L.me lk rfl d1 d2 d4 d5) rfl (show ("check_tests" : Str) ++ ".<locals>." ++ "<lambda>" = dH by decide +kernel)
 refine ⟨_,Bx (nF hpe (gZ rfl)),?_⟩
 refine ⟨vb,vt,rfl,rfl,fun f c' oc pm ctv cx ocell ub H' mono hn hn' hf hc' hlo hcell rub=>?_⟩
 have nf:f≠cx:=fun z=>by rw [z,hn'] at hf;cases hf
 have nc:c'≠cx:=fun z=>by rw [z,hn'] at hc';cases hc'
 have hsc:Hs cx=none:=hs.free hn
 refine ⟨vt,f,b,ts,Hs,rfl,fun a o e=>?_,⟨p3,p4,p5,p6,p7,cx,c',oc,ocell,ub,vb,pm,ctv,by rw [ao nf];exact hf,by rw [ao nc];exact hc',hlo,aC,hcell,rub,hsc,rb⟩,rt,hall,fun H1 Hs1 w1=>?_⟩
 ·rw [ao (fun z=>by rw [z,hsc] at e;cases e)]
  exact mono _ _ (hs a o e)
 ·have o1:Hs1 cx=none:=(w1.old cx _ aC).trans hsc
  refine k .non (drop H1 cx) Hs1 ⟨fun a o e=>?_,fun a o e=>?_,fun a o e=>?_⟩ (Ao.mpr rfl)
  ·have na:a≠cx:=fun z=>by rw [z,hn] at e;cases e
   rw [bZ na]
   exact w1.keep a o (by rw [ao na];exact mono _ _ e)
  ·have na:a≠cx:=fun z=>by rw [z,hn] at e;cases e
   exact w1.old a o (by rw [ao na];exact mono _ _ e)
  ·rw [bZ (fun z=>by rw [z,o1] at e;cases e)]
   exact w1.sub a o e
end
end Mi
namespace Mi
open PySem L2
open PyProof.Rows hiding St
inductive XS where
 | lam (g:Nat)
noncomputable def j6 (p:D→R D):List D→R Unit
 | []=>.ok ()
 | d::ds=>(match p d with
   | .ok (.bl true)=>j6 p ds
   | _=>.stuck)
noncomputable def La (cl:Nat→List D→R D) (g:Nat) (ρ:En):R Out:=match cN ρ 0,cN ρ 1 with
 | .ok b,.ok (.lst ts)=>(match j6 (fun t=>cl g [b,t]) ts with
   | .ok _=>.ok (.nx ρ)
   | _=>.stuck)
 | _,_=>.stuck
noncomputable def Ae (cl:Nat→List D→R D):List XS→En→R Out
 | [.lam g],ρ=>La cl g ρ
 | _,_=>.stuck
noncomputable def uy:R Out→R D
 | .ok (.rt d)=>.ok d
 | .ok (.nx _)=>.ok .non
 | .ok (.ro d)=>.ok d
 | _=>.stuck
noncomputable def Mf:R Out→R D
 | .ok (.ro d)=>.ok d
 | _=>.stuck
noncomputable def MJ:R Out→R D
 | .ok (.nx ρ)=>cN ρ 1
 | _=>.stuck
noncomputable def pY:R Out→R D
 | .ok (.rt d)=>.ok d
 | .ok (.nx _)=>.ok .non
 | .exc x=>.exc x
 | _=>.stuck
noncomputable def st0 (d:Def) (args:List D):En:=args.map some++List.replicate (d.nn - d.np) none
noncomputable def iV (cl:Nat→List D→R D) (tab:List Def) (f:Nat) (args:List D):R D:=match tab[f]? with
 | some d=>if args.length=d.np∧d.nrm=true then uy (cJ cl d.body (st0 d args)) else .stuck
 | none=>if 2000≤f then (match tab[f - 2000]? with
   | none=>.stuck
   | some d=>if args.length=d.np∧d.nrm=true then Mf (cJ cl d.body (st0 d args)) else .stuck)
  else (match tab[f - 1000]? with
   | none=>.stuck
   | some d=>if args.length=2∧uK d=true then MJ (cJ cl d.body (st0 d args)) else .stuck)
noncomputable def vI (cl:Nat→List D→R D) (b:List XS) (args:List D):Option Def→R D
 | none=>.stuck
 | some d=>if args.length=d.np then pY (Ae cl b (st0 d args)) else .stuck
noncomputable abbrev pW:=List (Nat × List XS)
noncomputable def aA (tab:List Def) (xt:pW):Nat→Nat→List D→R D
 | 0,_,_=>.stuck
 | n+1,f,args=>match xt.lookup f with
  | some b=>vI (aA tab xt n) b args tab[f]?
  | none=>iV (aA tab xt n) tab f args
section
variable {tab:List Def}{xt:pW}{n f:Nat}{d:Def}{args:List D}{z:D}{b:List XS}
theorem Tn (hx:xt.lookup f=none) (ht:tab[f]?=some d) (hl:args.length=d.np) (hn:d.nrm=true):aA tab xt (n+1) f args=uy (cJ (aA tab xt n) d.body (st0 d args)):=by
 show (match xt.lookup f with | some b=>_ | none=>_)=_
 rw [hx]
 show iV _ _ _ _=_
 unfold iV
 rw [ht]
 exact if_pos ⟨hl,hn⟩
theorem Oc (hx:xt.lookup f=some b) (ht:tab[f]?=some d) (hl:args.length=d.np):aA tab xt (n+1) f args=pY (Ae (aA tab xt n) b (st0 d args)):=by
 show (match xt.lookup f with | some b=>_ | none=>_)=_
 rw [hx]
 show vI _ _ _ _=_
 rw [ht]
 exact if_pos hl
theorem bD (d:D):uy (.ok (.rt d))=.ok d:=rfl
theorem bC (d:D):uy (.ok (.ro d))=.ok d:=rfl
theorem bO (ρ:En):uy (.ok (.nx ρ))=.ok .non:=rfl
theorem bL (d:D):pY (.ok (.rt d))=.ok d:=rfl
theorem bM (ρ:En):pY (.ok (.nx ρ))=.ok .non:=rfl
theorem Gq (hx:xt.lookup f=none) (ht:tab[f]?=some d) (h:aA tab xt (n+1) f args=.ok z):∃ o,args.length=d.np∧d.nrm=true∧cJ (aA tab xt n) d.body (st0 d args)=.ok o∧(o=.rt z∨o=.ro z∨(z=.non∧∃ ρ,o=.nx ρ)):=by
 replace h:(match xt.lookup f with | some b=>vI (aA tab xt n) b args tab[f]? | none=>iV (aA tab xt n) tab f args)=.ok z:=h
 rw [hx] at h
 unfold iV at h
 rw [ht] at h
 obtain ⟨hl,h1⟩:=bN h
 cases hr:cJ (aA tab xt n) d.body (st0 d args) with
 | exc x=>rw [hr] at h1;cases h1
 | stuck=>rw [hr] at h1;cases h1
 | ok o =>
  rw [hr] at h1
  refine ⟨o,hl.1,hl.2,rfl,?_⟩
  cases o with
  | rt d'=>cases h1;exact .inl rfl
  | ro d'=>cases h1;exact .inr (.inl rfl)
  | nx ρ=>cases h1;exact .inr (.inr ⟨rfl,ρ,rfl⟩)
  | bk ρ=>cases h1
  | ct ρ=>cases h1
theorem uD (hf:f < 1000) (hx:xt.lookup (1000+f)=none) (hn:tab[1000+f]?=none) (ht:tab[f]?=some d) (h:aA tab xt (n+1) (1000+f) args=.ok z):∃ ρ,args.length=2∧uK d=true∧cJ (aA tab xt n) d.body (st0 d args)=.ok (.nx ρ)∧cN ρ 1=.ok z:=by
 replace h:(match xt.lookup (1000+f) with | some b=>vI (aA tab xt n) b args tab[1000+f]? | none=>iV (aA tab xt n) tab (1000+f) args)=.ok z:=h
 rw [hx] at h
 unfold iV at h
 rw [hn,show 1000+f - 1000=f by omega] at h
 simp only [ht,if_neg (show ¬ 2000≤1000+f by omega)] at h
 obtain ⟨hl,h1⟩:=bN h
 cases hr:cJ (aA tab xt n) d.body (st0 d args) with
 | exc x=>rw [hr] at h1;cases h1
 | stuck=>rw [hr] at h1;cases h1
 | ok o =>
  rw [hr] at h1
  cases o with
  | rt d'=>cases h1
  | ro d'=>cases h1
  | nx ρ=>exact ⟨ρ,hl.1,hl.2,rfl,h1⟩
  | bk ρ=>cases h1
  | ct ρ=>cases h1
theorem vh (hx:xt.lookup (2000+f)=none) (hn:tab[2000+f]?=none) (ht:tab[f]?=some d) (h:aA tab xt (n+1) (2000+f) args=.ok z):args.length=d.np∧d.nrm=true∧cJ (aA tab xt n) d.body (st0 d args)=.ok (.ro z):=by
 replace h:(match xt.lookup (2000+f) with | some b=>vI (aA tab xt n) b args tab[2000+f]? | none=>iV (aA tab xt n) tab (2000+f) args)=.ok z:=h
 rw [hx] at h
 unfold iV at h
 rw [hn,show 2000+f - 2000=f by omega] at h
 simp only [ht,if_pos (show 2000≤2000+f by omega)] at h
 obtain ⟨hl,h1⟩:=bN h
 cases hr:cJ (aA tab xt n) d.body (st0 d args) with
 | exc x=>rw [hr] at h1;cases h1
 | stuck=>rw [hr] at h1;cases h1
 | ok o =>
  rw [hr] at h1
  cases o with
  | rt d'=>cases h1
  | ro d'=>cases h1;exact ⟨hl.1,hl.2,rfl⟩
  | nx ρ=>cases h1
  | bk ρ=>cases h1
  | ct ρ=>cases h1
end
structure LamD (T:Tx) (K:PySem.W.Frag) (mg:Str→Option Value) (x:Str) (b:List XS) (d:Def) (ps:List Str) (st:Stmt) (a:Addr) (fd:FuncData):Prop where
 ex : ∃ q p1 p2 p3 p4 p5 p6 p7 p8 p9 p10, b = [.lam q] ∧ T.F[q]? = some (Str.ofString "is_test") ∧ cY st = zu p1 p2 p3 p4 p5 p6 p7 p8 p9 p10
 sc:aX st=fX
 nm : x = Str.ofString "check_tests"
 par : ps = [("book" : Str), "tests"]
 np:d.np=2
 nn:d.nn=2
 nomut:uK d=false
 nonrm:d.nrm=false
 lam:LamK K mg a fd.code
structure PrX (T:Tx) (tab:List Def) (xt:pW) (K:PySem.W.Frag) (mg:Str→Option Value):Prop where
 len:tab.length≤1000
 xlen:∀ f b,xt.lookup f=some b→f < 1000
 blt:∀ f∈jY,mg f=none
 gl:∀ x i,T.gl.lookup x=some (.int i)→∃ t,mg x=some (.int i t)
 fn:∀ (f:Nat) (x:Str),T.F[f]?=some x→∃ d N ps st a fd,tab[f]?=some d∧Fun K x x st a fd∧mg x=some (.ref a)∧Binds K fd ps []∧(match xt.lookup f with | none=>aU T d N ps st=true | some b=>LamD T K mg x b d ps st a fd)
noncomputable def Bg (T:Tx) (tab:List Def) (xt:pW) (P:Program) (w:World) (K:PySem.W.Frag) (mg:Str→Option Value) (base:Heap) (n:Nat):Prop:=∀ (f:Nat) (x:Str),T.F[f]?=some x →
  ∃ a fd ps,FnOk P w K mg base CX0 n a fd ps (spD ⟨P,w,K⟩ (aA tab xt n f) ps.length)∧FnOk P w K mg base CX0 n a fd ps (K4 ⟨P,w,K⟩ (aA tab xt n (1000+f)) ps.length)∧mg x=some (.ref a)∧PySem.W.keepIn K (.ref a)=true∧Binds K fd ps []∧(∀ ds d,aA tab xt n f ds=.ok d→ds.length=ps.length)∧(∀ ds d,aA tab xt n (1000+f) ds=.ok d→ps.length=2)∧FnOk P w K mg base CX0 n a fd ps (spF ⟨P,w,K⟩ (aA tab xt n (2000+f)) ps.length)∧(∀ ds d,aA tab xt n (2000+f) ds=.ok d→ds.length=ps.length)
section
variable {T:Tx}{tab:List Def}{xt:pW}{P:Program}{w:World}{K:PySem.W.Frag}{mg:Str→Option Value}{base:Heap}{n:Nat}{f:Nat}{x:Str}{d:Def}{N ps:List Str}{st:Stmt}{a:Addr}{fd:FuncData}{b:List XS}
theorem PrX.no1 (Pr:PrX T tab xt K mg):xt.lookup (1000+f)=none:=by
 cases q:xt.lookup (1000+f) with
 | none=>rfl
 | some b=>have:=Pr.xlen _ b q;omega
theorem PrX.no2 (Pr:PrX T tab xt K mg):xt.lookup (2000+f)=none:=by
 cases q:xt.lookup (2000+f) with
 | none=>rfl
 | some b=>have:=Pr.xlen _ b q;omega
theorem Bp (Pr:PrX T tab xt K mg) (IH:Bg T tab xt P w K mg base n) {CX:CXT}{cdv:Value}{A:Around}{outer:List Env}{s:Shared}{H:Hp}{E:XK}{q:Str} (S:FnScope N ps (aX st)) (hr:Room n (A.deeper (envOfC q (aX st) s.heap.objs.size a cdv))) {xe:Value→Shared→Prop} :
  Cok T (aA tab xt n) ((gH CX P w K mg base N q (aX st) a cdv A outer s H E).wish xe):=by
 refine ⟨rfl,S.nd,?_,Pr.blt,Pr.gl,fun f' x' hF'=>?_⟩
 ·have:=hr.un
  show (A.deeper _).units+100 < cLine
  omega
 ·obtain ⟨a',fd',ps',q1,q1m,q2,q3,q4,q5,q6,q7,q8⟩:=IH f' x' hF'
  exact ⟨n,a',fd',ps',q1,q1m,hr,q2,q3,q4,q5,q6,q7,q8⟩
theorem u6 {CX:CXT}{cdv:Value}{A:Around}{outer:List Env}{s:Shared}{H:Hp}{E:XK}{q:Str}{xe:Value→Shared→Prop}:ScRel (aX st) ((gH CX P w K mg base N q (aX st) a cdv A outer s H E).wish xe) :=
 ⟨fun y h=>tu h,fun y h=>tD h,fun y h=>h,fun y h=>⟨jX h,.inl rfl⟩⟩
theorem Fq (Pr:PrX T tab xt K mg) (IH:Bg T tab xt P w K mg base n) (hx:xt.lookup f=none) (ht:tab[f]?=some d) (F:Fun K x x st a fd) (hd:aU T d N ps st=true) :
  FnOk P w K mg base CX0 (n+1) a fd ps (spD ⟨P,w,K⟩ (aA tab xt (n+1) f) ps.length)∧∀ ds z,aA tab xt (n+1) f ds=.ok z→ds.length=ps.length:=by
 unfold aU at hd
 simp only [Bool.and_eq_true,decide_eq_true_eq] at hd
 obtain ⟨⟨⟨⟨h1,h2⟩,h3⟩,h4⟩,h5⟩:=hd
 have S:=lK h1
 refine ⟨F.ok S (fun vs H Q E h=>?_) (fun cdv A outer s H vs Q E hr h=>?_),fun ds z h=>?_⟩
 ·obtain ⟨ds,Hs,z,h,_⟩:=h;exact h
 ·obtain ⟨ds,Hs,z,hlen,hs,r,hc,k⟩:=h
  obtain ⟨o,hnp,hnr,hrun,ho⟩:=Gq hx ht hc
  rw [hnr] at h5
  obtain ⟨O',hO⟩:=Option.isSome_iff_exists.mp (show (eY [] d.body []).isSome=true from h5)
  have C:=Bp (CX:=CX0) (outer:=outer) (H:=H) (E:=E) (xe:=fun _ _=>False) Pr IH S hr
  have SR:=u6 (CX:=CX0) (P:=P) (w:=w) (K:=K) (mg:=mg) (base:=base) (N:=N) (st:=st) (a:=a) (cdv:=cdv) (A:=A) (outer:=outer) (s:=s) (H:=H) (E:=E) (q:=x) (xe:=fun _ _=>False)
  refine ⟨_,sU (E:=⟨H,[]⟩) (Es:=Hs) (fun m _=>tV m) (fun q hm=>by cases hm) C SR PassesOwn.never h4 hO,?_⟩
  refine ⟨_,Hs,o,?_,hrun,?_⟩
  ·have hl:=r.length
   exact Hr hs r (by rw [h3,h2];omega)
  ·rcases ho with rfl | rfl | ⟨rfl,ρ',rfl⟩
   ·exact fun v H' Hs' g' r'=>k v H' Hs' g' r'
   ·exact fun v H' Hs' g' r' _=>k v H' Hs' g' r'
   ·exact fun O1 _ σ' H' Hs' F' _=>k .non H' Hs' F'.grow (Ao.mpr rfl)
 ·obtain ⟨o,hnp,_⟩:=Gq hx ht h
  rw [hnp,h2]
theorem Wu (Pr:PrX T tab xt K mg) (IH:Bg T tab xt P w K mg base n) (ht:tab[f]?=some d) (F:Fun K x x st a fd) (hd:aU T d N ps st=true) :
  FnOk P w K mg base CX0 (n+1) a fd ps (K4 ⟨P,w,K⟩ (aA tab xt (n+1) (1000+f)) ps.length)∧∀ ds z,aA tab xt (n+1) (1000+f) ds=.ok z→ps.length=2:=by
 unfold aU at hd
 simp only [Bool.and_eq_true,decide_eq_true_eq] at hd
 obtain ⟨⟨⟨⟨h1,h2⟩,h3⟩,h4⟩,h5⟩:=hd
 have S:=lK h1
 have hn:tab[1000+f]?=none:=List.getElem?_eq_none (by have:=Pr.len;omega)
 have hf:f < 1000:=by
  have:=Pr.len
  have:=(List.getElem?_eq_some_iff.mp ht).1
  omega
 refine ⟨F.ok S (fun vs H Q E h=>?_) (fun cdv A outer s H vs Q E hr h=>?_),fun ds z h=>?_⟩
 ·obtain ⟨d0,d1,d',v0,b,Hs,_,h,_⟩:=h;exact h
 ·obtain ⟨d0,d1,d',v0,b,Hs,rfl,hlen,hs,r0,hb,ow,hc,k⟩:=h
  obtain ⟨ρ,hl2,hm,hrun,hg⟩:=uD hf Pr.no1 hn ht hc
  unfold uK at hm
  simp only [Bool.and_eq_true,decide_eq_true_eq,Bool.not_eq_true'] at hm
  obtain ⟨⟨m1,m2⟩,m3⟩:=hm
  cases hO:eY [] d.body [1] with
  | none=>rw [hO] at m3;cases m3
  | some O' =>
   cases O' with
   | none=>rw [hO] at m3;cases m3
   | some O1 =>
    rw [hO] at m3
    replace m3:1∈O1:=by simpa using m3
    have m2':(1:Nat) ∉ vm d.body:=by simpa using m2
    have C:=Bp (CX:=CX0) (outer:=outer) (H:=H) (E:=E) (xe:=fun _ _=>False) Pr IH S hr
    have SR:=u6 (CX:=CX0) (P:=P) (w:=w) (K:=K) (mg:=mg) (base:=base) (N:=N) (st:=st) (a:=a) (cdv:=cdv) (A:=A) (outer:=outer) (s:=s) (H:=H) (E:=E) (q:=x) (xe:=fun _ _=>False)
    refine ⟨_,sU (E:=⟨hole H b,[(1,b)]⟩) (Es:=Hs) (fun m _=>tV m) (fun q hm=>by rw [List.mem_singleton.mp hm];exact m2') C SR PassesOwn.never h4 hO,?_⟩
    refine ⟨_,Hs,.nx ρ,Rg hs r0 hb ow (by rw [h3,h2,hlen]),hrun,?_⟩
    intro O2 e2 σ' H' Hs' F' _
    cases e2
    obtain ⟨c,ec,_,c1,oc⟩:=F'.own 1 m3 d' (iW hg)
    have ep:=F'.pin (1,b) (List.mem_singleton.mpr rfl)
    rw [ec] at ep
    cases ep
    exact k H' Hs' F'.grow c1 oc
 ·obtain ⟨ρ,hl2,hm,_⟩:=uD hf Pr.no1 hn ht h
  unfold uK at hm
  simp only [Bool.and_eq_true,decide_eq_true_eq] at hm
  rw [← h2];exact hm.1.1
theorem Wb (Pr:PrX T tab xt K mg) (IH:Bg T tab xt P w K mg base n) (ht:tab[f]?=some d) (F:Fun K x x st a fd) (hd:aU T d N ps st=true) :
  FnOk P w K mg base CX0 (n+1) a fd ps (spF ⟨P,w,K⟩ (aA tab xt (n+1) (2000+f)) ps.length)∧∀ ds z,aA tab xt (n+1) (2000+f) ds=.ok z→ds.length=ps.length:=by
 unfold aU at hd
 simp only [Bool.and_eq_true,decide_eq_true_eq] at hd
 obtain ⟨⟨⟨⟨h1,h2⟩,h3⟩,h4⟩,h5⟩:=hd
 have S:=lK h1
 have hn:tab[2000+f]?=none:=List.getElem?_eq_none (by have:=Pr.len;omega)
 refine ⟨F.ok S (fun vs H Q E h=>?_) (fun cdv A outer s H vs Q E hr h=>?_),fun ds z h=>?_⟩
 ·obtain ⟨ds,Hs,z,h,_⟩:=h;exact h
 ·obtain ⟨ds,Hs,z,hlen,hs,r,hc,k⟩:=h
  obtain ⟨hnp,hnr,hrun⟩:=vh Pr.no2 hn ht hc
  rw [hnr] at h5
  obtain ⟨O',hO⟩:=Option.isSome_iff_exists.mp (show (eY [] d.body []).isSome=true from h5)
  have C:=Bp (CX:=CX0) (outer:=outer) (H:=H) (E:=E) (xe:=fun _ _=>False) Pr IH S hr
  have SR:=u6 (CX:=CX0) (P:=P) (w:=w) (K:=K) (mg:=mg) (base:=base) (N:=N) (st:=st) (a:=a) (cdv:=cdv) (A:=A) (outer:=outer) (s:=s) (H:=H) (E:=E) (q:=x) (xe:=fun _ _=>False)
  refine ⟨_,sU (E:=⟨H,[]⟩) (Es:=Hs) (fun m _=>tV m) (fun q hm=>by cases hm) C SR PassesOwn.never h4 hO,?_⟩
  refine ⟨_,Hs,.ro z,?_,hrun,fun v H' Hs' g' r' f'=>k v H' Hs' g' r' f'⟩
  have hl:=r.length
  exact Hr hs r (by rw [h3,h2];omega)
 ·obtain ⟨hnp,_⟩:=vh Pr.no2 hn ht h
  rw [hnp,h2]
theorem JK {p:D→R D}:∀ {ts:List D}{u:Unit},j6 p ts=.ok u→vW p ts
 | [],_,_=>trivial
 | t::ts,u,h=>by
  replace h:(match p t with | .ok (.bl true)=>j6 p ts | _=>.stuck)=.ok u:=h
  split at h
  ·rename_i e
   exact ⟨e,JK h⟩
  ·cases h
theorem V0 (Pr:PrX T tab xt K mg) (IH:Bg T tab xt P w K mg base n) (hx:xt.lookup f=some b) (ht:tab[f]?=some d) (F:Fun K x x st a fd) (hd:LamD T K mg x b d ps st a fd) :
  FnOk P w K mg base CX0 (n+1) a fd ps (spD ⟨P,w,K⟩ (aA tab xt (n+1) f) ps.length)∧(∀ ds z,aA tab xt (n+1) f ds=.ok z→ds.length=ps.length)∧∀ ds y,aA tab xt (n+1) f ds=.exc y→False:=by
 obtain ⟨q,p1,p2,p3,p4,p5,p6,p7,p8,p9,p10,rfl,hT,hbd⟩:=hd.ex
 have ce:∀ ds,aA tab xt (n+1) f ds=if ds.length=d.np then pY (Ae (aA tab xt n) [.lam q] (st0 d ds)) else .stuck:=fun ds=>by
  show (match xt.lookup f with | some b=>_ | none=>_)=_
  rw [hx]
  show vI _ _ _ _=_
  rw [ht]
  rfl
 have two:∀ ds:List D,ds.length=d.np→∃ u v,ds=[u,v]∧st0 d ds=[some u,some v]:=fun ds hl=>by
  rw [hd.np] at hl
  match ds,hl with
  | [u,v],_ =>
   refine ⟨u,v,rfl,?_⟩
   unfold st0
   rw [hd.nn,hd.np]
   rfl
 have lam:∀ u v,pY (Ae (aA tab xt n) [.lam q] [some u,some v])=(match v with | .lst ts=>(match j6 (fun t=>aA tab xt n q [u,t]) ts with | .ok _=>.ok .non | _=>.stuck) | _=>.stuck):=fun u v=>by
  show pY (La (aA tab xt n) q [some u,some v])=_
  cases v <;> try rfl
  rename_i ts
  show pY ((match j6 (fun t=>aA tab xt n q [u,t]) ts with | .ok _=>.ok (.nx [some u,some (.lst ts)]) | _=>.stuck))=(match j6 (fun t=>aA tab xt n q [u,t]) ts with | .ok _=>.ok .non | _=>.stuck)
  cases j6 (fun t=>aA tab xt n q [u,t]) ts <;> rfl
 have hc:∀ ds z,aA tab xt (n+1) f ds=.ok z→∃ u ts,ds=[u,.lst ts]∧z=.non∧vW (fun t=>aA tab xt n q [u,t]) ts:=fun ds z h=>by
  rw [ce] at h
  obtain ⟨hl,h1⟩:=bN h
  obtain ⟨u,v,rfl,e⟩:=two ds hl
  rw [e,lam] at h1
  cases v <;> try (cases h1;done)
  rename_i ts
  replace h1:(match j6 (fun t=>aA tab xt n q [u,t]) ts with | .ok _=>R.ok D.non | _=>.stuck)=.ok z:=h1
  split at h1
  ·rename_i e2
   cases h1
   exact ⟨u,ts,rfl,rfl,JK e2⟩
  ·cases h1
 refine ⟨?_,fun ds z h=>?_,fun ds y h=>?_⟩
 ·have FP:FnsP T (aA tab xt n) P w K mg base n:=⟨Pr.blt,Pr.gl,fun f' x' hF'=>by
   obtain ⟨a',fd',ps',q1,q1m,q2,q3,q4,q5,q6,q7,q8⟩:=IH f' x' hF'
   exact ⟨a',fd',ps',q1,q1m,q2,q3,q4,q5,q6,q7,q8⟩⟩
  have hlam:=hd.lam
  have hnm:=hd.nm
  have hpar:=hd.par
  subst hnm hpar
  obtain ⟨oc,od,kV,doc,pm,an,cdv,ct,osl,rfl,lk,hcd⟩:=F.ex
  rw [hbd,hd.sc] at lk ⊢
  exact TY FP hT hc lk hcd hlam
 ·obtain ⟨u,ts,rfl,_⟩:=hc ds z h
  rw [hd.par];rfl
 ·rw [ce] at h
  by_cases hl:ds.length=d.np
  ·rw [if_pos hl] at h
   obtain ⟨u,v,rfl,e⟩:=two ds hl
   rw [e,lam] at h
   cases v <;> try (cases h;done)
   rename_i ts
   replace h:(match j6 (fun t=>aA tab xt n q [u,t]) ts with | .ok _=>R.ok D.non | _=>.stuck)=.exc y:=h
   split at h <;> cases h
  ·rw [if_neg hl] at h;cases h
end
theorem rB {T:Tx}{tab:List Def}{xt:pW}{P:Program}{w:World}{K:PySem.W.Frag}{mg:Str→Option Value} (Pr:PrX T tab xt K mg) (base:Heap):∀ (n:Nat),Bg T tab xt P w K mg base n
 | 0,f,x,hF=>by
  obtain ⟨d,N,ps,st,a,fd,ht,F,hm,hb,hd⟩:=Pr.fn f x hF
  refine ⟨a,fd,ps,⟨fun vs H Q E h=>?_,fun A outer s H args us vs Q E hr he hbt hv h=>?_⟩,⟨fun vs H Q E h=>?_,fun A outer s H args us vs Q E hr he hbt hv h=>?_⟩,hm,F.kp,hb,fun ds d h=>?_,fun ds d h=>?_,⟨fun vs H Q E h=>?_,fun A outer s H args us vs Q E hr he hbt hv h=>?_⟩,fun ds d h=>?_⟩
  ·obtain ⟨ds,Hs,d,_,_,_,h,_⟩:=h;cases h
  ·obtain ⟨ds,Hs,d,_,_,_,h,_⟩:=h;cases h
  ·obtain ⟨_,_,_,_,_,_,_,_,_,_,_,_,h,_⟩:=h;cases h
  ·obtain ⟨_,_,_,_,_,_,_,_,_,_,_,_,h,_⟩:=h;cases h
  ·cases h
  ·cases h
  ·obtain ⟨ds,Hs,d,_,_,_,h,_⟩:=h;cases h
  ·obtain ⟨ds,Hs,d,_,_,_,h,_⟩:=h;cases h
  ·cases h
 | n+1,f,x,hF=>by
  obtain ⟨d,N,ps,st,a,fd,ht,F,hm,hb,hd⟩:=Pr.fn f x hF
  cases hx:xt.lookup f with
  | none =>
   rw [hx] at hd
   obtain ⟨q1,q2⟩:=Fq Pr (rB Pr base n) hx ht F hd
   obtain ⟨q3,q4⟩:=Wu Pr (rB Pr base n) ht F hd
   obtain ⟨q5,q6⟩:=Wb Pr (rB Pr base n) ht F hd
   exact ⟨a,fd,ps,q1,q3,hm,F.kp,hb,q2,q4,q5,q6⟩
  | some b =>
   rw [hx] at hd
   have hm6:uK d=false:=hd.nomut
   have hn7:d.nrm=false:=hd.nonrm
   have hn1:tab[1000+f]?=none:=List.getElem?_eq_none (by have:=Pr.len;omega)
   have hn2:tab[2000+f]?=none:=List.getElem?_eq_none (by have:=Pr.len;omega)
   have hf:f < 1000:=Pr.xlen f b hx
   have no1:∀ ds z,aA tab xt (n+1) (1000+f) ds=.ok z→False:=fun ds z h=>by
    obtain ⟨_,_,hmm,_⟩:=uD hf Pr.no1 hn1 ht h
    rw [hm6] at hmm
    cases hmm
   have no2:∀ ds z,aA tab xt (n+1) (2000+f) ds=.ok z→False:=fun ds z h=>by
    obtain ⟨_,hmm,_⟩:=vh Pr.no2 hn2 ht h
    rw [hn7] at hmm
    cases hmm
   obtain ⟨q1,q2,q3⟩:=V0 Pr (rB Pr base n) hx ht F hd
   refine ⟨a,fd,ps,q1,⟨fun vs H Q E h=>?_,fun A outer s H args us vs Q E hr he hbt hv h=>?_⟩,hm,F.kp,hb,q2,fun ds z h=>(no1 ds z h).elim,⟨fun vs H Q E h=>?_,fun A outer s H args us vs Q E hr he hbt hv h=>?_⟩,fun ds z h=>(no2 ds z h).elim⟩
   ·obtain ⟨_,_,_,_,_,_,_,_,_,_,_,_,h,_⟩:=h;exact (no1 _ _ h).elim
   ·obtain ⟨_,_,_,_,_,_,_,_,_,_,_,_,h,_⟩:=h;exact (no1 _ _ h).elim
   ·obtain ⟨ds,Hs,d,_,_,_,h,_⟩:=h;exact (no2 _ _ h).elim
   ·obtain ⟨ds,Hs,d,_,_,_,h,_⟩:=h;exact (no2 _ _ h).elim
theorem ZM {l:PySem.W.OpenLaw}{q:Program}{loose:List Str}{XP:(Str→Option Value)→Heap→Prop}{YP:World→Heap→Prop}{dr:DefRec}{K:Params→PySem.W.Frag}{T:Tx}{tab:List Def}{xt:pW}{n fl:Nat}{par:Str}{N:List Str}{st:Stmt}{d:Def}
  (hn:l.most=some 63) (hdf:dr.params.defaults=[]) (hr:Room (n+1) callerA) (ht:tab[fl]?=some d) (hx:xt.lookup fl=none) (hd:aU T d N [par] st=true)
  (hY:∀ (w:World) (h:Heap),YP w h→(K w.params).In h) (hKc:∀ (p:Params) (b:Addr) (o:Obj),(K p).lookup b=some o→o.cls≠.none) (hT:∀ (w:World) (s₀:Shared) (mg mb:Str→Option Value) (h:Heap),PySem.W.Ground q loose [] XP w s₀ mg mb h→YP w h→∃ tP,Az mg h tP)
  (F:∀ (w:World) (mg:Str→Option Value) (h:Heap),(K w.params).In h→h.Ns mainGlobals mg→PrX T tab xt (K w.params) mg)
  (FL:∀ (w:World),FF (K w.params) dr.name st)
  (hb:∀ (kV doc pm:Value) (an:Option Addr) (cdv ct u:Value),bindArgs (PySem.W.fnOf dr.name dr.name (fC st) (cY st) (aX st) .none kV doc pm an cdv ct) ⟨[u],[]⟩=pure [(par,u)])
  (law:∀ ns:List Int,ns.length≤63→aA tab xt (n+1) fl [.lst (ns.map D.int)]=.ok (.bl true)) :
  PySem.W.WalkO q loose XP YP l.row.toRowW dr [] (fun f vs=>PySem.call f vs):=by
 refine L2.Vm (n:=63) (k:=n+1) (x:=par) (CX:=fun _=>CX0) (sp:=fun w=>spD ⟨l.prog,w,K w.params⟩ (aA tab xt (n+1) fl) 1) hn (by decide) hdf hr hY hKc hT (fun w mg fa h KX G hmg=>?_) (fun w H a ns hl hO hS=>?_) (fun _ _ _ _ _ z=>z)
 ·obtain ⟨a,fd,ha,FF⟩:=(FL w).ex
  have e:=hmg.symm.trans (PySem.W.mg_of KX G ha)
  cases e
  refine ⟨fd,fun s u=>?_,fun base kb nb=>(Fq (F w mg h KX G) (rB (F w mg h KX G) base n) hx ht FF hd).1⟩
  obtain ⟨oc,od,kV,doc,pm,an,cdv,ct,osl,rfl,lk,hcd⟩:=FF.ex
  exact .of_eq (hb kV doc pm an cdv ct u)
 ·exact ⟨[.lst (ns.map D.int)],H,.bl true,rfl,Same.refl _,Rps.one (cB.mpr ⟨a,_,rfl,hS,Gb ns⟩),law ns hl,fun v H' Hs' g' r=>mH.mp r⟩
end Mi
set_option maxHeartbeats 1000000
namespace Mi
open PySem L2
open PyProof.Rows hiding St
noncomputable def vJ (K:PySem.W.Frag):Value→Bool
 | .ref cc=>(match K.lookup cc with
  | some ⟨.type t, _, .fields vs, _⟩ => decide (t = "code") && (match (vs[11]? : Option Value) with
   | some (.ref p)=>(match vs.getD 18 .none with
    | .str _ _=>(match vs.getD 7 .none with
     | .int _ _=>(match vs.getD 9 .none with
      | .bool _=>(match vs.getD 10 .none with
       | .int _ _=>decide (cc≠p)
       | _=>false)
      | _=>false)
     | _=>false)
    | _=>false)
   | _=>false)
  | _=>false)
 | _=>false
theorem Lk {K : PySem.W.Frag} {v : Value} (h : vJ K v = true) : ∃ cc Pt oc vs file tf flags tg inF text tt, v = .ref cc ∧ K.lookup cc = some oc ∧ oc.cls = .type "code" ∧ oc.data = .fields vs ∧ vs[11]? = some (.ref Pt) ∧ vs.getD 11 .none = .ref Pt ∧ vs.getD 18 .none = .str file tf ∧ vs.getD 7 .none = .int flags tg ∧ vs.getD 9 .none = .bool inF ∧ vs.getD 10 .none = .int text tt ∧ cc ≠ Pt:=by
 unfold vJ at h
 split at h <;> try (cases h;done)
 rename_i cc
 split at h <;> try (cases h;done)
 rename_i t dd vs sl e
 rw [Bool.and_eq_true] at h
 obtain ⟨h0,h⟩:=h
 cases of_decide_eq_true h0
 split at h <;> try (cases h;done)
 rename_i p e11
 split at h <;> try (cases h;done)
 rename_i f18 t18 e18
 split at h <;> try (cases h;done)
 rename_i f7 t7 e7
 split at h <;> try (cases h;done)
 rename_i f9 e9
 split at h <;> try (cases h;done)
 rename_i f10 t10 e10
 refine ⟨cc,p,_,vs,f18,t18,f7,t7,f9,f10,t10,rfl,e,rfl,rfl,e11,?_,e18,e7,e9,e10,of_decide_eq_true h⟩
 simp [Array.getD_eq_getD_getElem?,e11]
structure FL (K:PySem.W.Frag) (x:Str) (st:Stmt):Prop where
 ex:∃ a fd,PySem.W.nsIn K mainGlobals x=some (some (.ref a))∧Fun K x x st a fd∧vJ K fd.code=true
theorem Z7 {K:PySem.W.Frag}{x:Str}{st:Stmt}{f:Addr}{oc:Value}{od an:Option Addr}{osl:Array (Option Value)}{kV doc pm cdv ct:Value} (a:PySem.W.nsIn K mainGlobals x=some (some (.ref f)))
  (l:K.lookup f=some ⟨oc,od,.func (PySem.W.fnOf x x (fC st) (cY st) (aX st) .none kV doc pm an cdv ct),osl⟩) (c:PySem.W.codeIn K cdv x=true) (k:PySem.W.keepIn K (.ref f)=true) (h:vJ K cdv=true):FL K x st :=
 ⟨⟨f,_,a,PL l c k,h⟩⟩
theorem W6 {T:Tx}{tab:List Def}{xt:pW}{K:PySem.W.Frag}{h:Heap}{mg:Str→Option Value}{st stc:Stmt}{d:Def}{i q:Nat}{p1 p2 p3 p4 p5 p6 p7 p8 p9 p10:Pos}{a1 a2 a3 a4 a5 a6:Pos}{x1 c1:Option Expr}{b1 b2 b3 b4 b5 b6 b7 b8 b9 b10 b11 b12 b13:Pos}{j:Nat}{r2:List Stmt}
  (X : K.In h) (G : h.Ns mainGlobals mg) (fl : FL K (Str.ofString "check_tests") st) (fc : FF K (Str.ofString "check_list") stc) (hx : xt.lookup i = some [.lam q]) (ht : tab[i]? = some d) (hq : T.F[q]? = some (Str.ofString "is_test"))
  (hb:cY st=zu p1 p2 p3 p4 p5 p6 p7 p8 p9 p10) (hs:aX st=fX) (hbc:cY stc=uR a1 a2 a3 a4 a5 a6 x1 c1 b1 b2 b3 b4 b5 b6 b7 b8 b9 b10 b11 b12 b13 j r2) (hsc:aX stc=cL) (hnp:d.np=2) (hnn:d.nn=2) (hmu:uK d=false) (hnr:d.nrm=false)
  (hb1 : ∀ (kV doc pm : Value) (an : Option Addr) (cdv ct : Value) (us : List Value), us.length = ([("book" : Str), "tests"] : List Str).length → bindArgs (PySem.W.fnOf (Str.ofString "check_tests") (Str.ofString "check_tests") (fC st) (cY st) (aX st) .none kV doc pm an cdv ct) ⟨us, []⟩ = pure (([("book" : Str), "tests"] : List Str).zip us))
  (hb2 : ∀ (kV doc pm : Value) (an : Option Addr) (cdv ct : Value) (us : List Value), us.length = ([("things" : Str), "is_right"] : List Str).length → bindArgs (PySem.W.fnOf (Str.ofString "check_list") (Str.ofString "check_list") (fC stc) (cY stc) (aX stc) .none kV doc pm an cdv ct) ⟨us, []⟩ = pure (([("things" : Str), "is_right"] : List Str).zip us)) :
  ∃ d N ps st a fd, tab[i]? = some d ∧ Fun K (Str.ofString "check_tests") (Str.ofString "check_tests") st a fd ∧ mg (Str.ofString "check_tests") = some (.ref a) ∧ L2.Binds K fd ps [] ∧ (match xt.lookup i with | none => aU T d N ps st = true | some b => LamD T K mg (Str.ofString "check_tests") b d ps st a fd):=by
 obtain ⟨a,fd,e,F,hco⟩:=fl.ex
 obtain ⟨ac,fdc,ec,FC⟩:=fc.ex
 have me:=PySem.W.mg_of X G e
 refine ⟨d, [], [("book" : Str), "tests"], st, a, fd, ht, F, me, F.binds hb1, ?_⟩
 rw [hx]
 refine ⟨⟨q,p1,p2,p3,p4,p5,p6,p7,p8,p9,p10,rfl,hq,hb⟩,hs,rfl,rfl,hnp,hnn,hmu,hnr,?_,Lk hco,me⟩
 have bc:=FC.binds hb2
 have kp:=FC.kp
 obtain ⟨oc,od,kV,doc,pm,an,cdv,ct,osl,rfl,lk,hcd⟩:=FC.ex
 rw [hbc,hsc] at lk bc
 exact ⟨ac,fC stc,.none,kV,doc,pm,cdv,ct,oc,an,od,osl,a1,a2,a3,a4,a5,a6,x1,c1,b1,b2,b3,b4,b5,b6,b7,b8,b9,b10,b11,b12,b13,j,r2,lk,hcd,PySem.W.mg_of X G ec,kp,bc⟩
theorem Pj:∀ {l:pW}{f:Nat}{b:List XS},l.lookup f=some b→(f,b)∈l
 | [],_,_,h=>by cases h
 | (k,v)::l,f,b,h=>by
  rw [List.lookup_cons] at h
  split at h
  ·rename_i e
   cases h
   rw [beq_iff_eq.mp e]
   exact List.mem_cons_self
  ·exact List.mem_cons_of_mem _ (Pj h)
theorem JQ:∀ {l:List (Addr × Obj)}{f:Addr}{b:Obj},l.lookup f=some b→(f,b)∈l
 | [],_,_,h=>by cases h
 | (k,v)::l,f,b,h=>by
  rw [List.lookup_cons] at h
  split at h
  ·rename_i e
   cases h
   rw [beq_iff_eq.mp e]
   exact List.mem_cons_self
  ·exact List.mem_cons_of_mem _ (JQ h)
noncomputable def Y4:Value→Bool
 | .none=>false
 | _=>true
theorem Zq {K:PySem.W.Frag} (h:(K.all fun p=>Y4 p.2.cls)=true) (b:Addr) (o:Obj) (e:K.lookup b=some o):o.cls≠.none:=fun z=>by
 have:=List.all_eq_true.mp h (b,o) (JQ e)
 simp only [z] at this
 cases this
theorem tab_of {q : Program} {loose : List Str} {XP : (Str → Option Value) → Heap → Prop} {w : World} {s₀ : Shared} {mg mb : Str → Option Value} {h : Heap} (hr : ((recsOf q).any fun d => decide (d.name = Str.ofString "check_tests")) = true) (G : PySem.W.Ground q loose [] XP w s₀ mg mb h) : ∃ tP, Az mg h tP:=by
 obtain ⟨d,hd,e⟩:=List.any_eq_true.mp hr
 obtain ⟨a,o,fd,c,P,t1,t2,t3,t4,_,t6⟩:=G.T.tab d hd
 rw [of_decide_eq_true e] at t1
 exact ⟨some P,a,o,fd,c,t1,t2,t3,t4,t6⟩
end Mi
namespace E05
open PySem L2 Mi
noncomputable def T : Tx:=⟨[("is_whole" : Str), ("is_tuple" : Str), ("are_levels" : Str), ("is_setting" : Str), ("is_meeting" : Str), ("is_book" : Str), ("checked" : Str), ("meets" : Str), ("meets_any" : Str), ("all_rows" : Str), ("all_tests" : Str), ("is_row" : Str), ("is_test" : Str), ("check_tests" : Str), ("most_strength" : Str), ("check_book_and_strength" : Str), ("is_behind" : Str), ("meetings_among" : Str), ("meetings_of" : Str), ("met_by" : Str), ("possible" : Str), ("check_all" : Str), ("missing" : Str), ("is_cover" : Str), ("times_met" : Str), ("meet_without" : Str), ("needless" : Str), ("count_less" : Str), ("trimmed" : Str), ("_law_cell" : Str), ("_law_mix" : Str), ("_law_book" : Str), ("_law_rows" : Str), ("_law_meets" : Str), ("_law_tests" : Str), ("_law_meetings" : Str), ("_law_possible" : Str), ("_law_left" : Str), ("_law_drawn" : Str), ("_law_strength" : Str), ("law" : Str)], [("MOST_THINGS", .int 6), ("MOST_SETTINGS", .int 4), ("MOST_ROWS", .int 400), ("MOST_BANS", .int 12), ("MOST_IN_MEETING", .int 3)]⟩
noncomputable abbrev gq:Nat:=0
noncomputable abbrev cF:Nat:=1
noncomputable abbrev nW:Nat:=2
noncomputable abbrev nO:Nat:=3
noncomputable abbrev oG:Nat:=4
noncomputable abbrev vo:Nat:=5
noncomputable abbrev oV:Nat:=6
noncomputable abbrev BK:Nat:=7
noncomputable abbrev kO:Nat:=8
noncomputable abbrev sG:Nat:=9
noncomputable abbrev pQ:Nat:=10
noncomputable abbrev yE:Nat:=11
noncomputable abbrev iC:Nat:=12
noncomputable abbrev gG:Nat:=13
noncomputable abbrev jR:Nat:=14
noncomputable abbrev cT:Nat:=15
noncomputable abbrev pP:Nat:=16
noncomputable abbrev jk:Nat:=17
noncomputable abbrev fB:Nat:=18
noncomputable abbrev tR:Nat:=19
noncomputable abbrev sW:Nat:=20
noncomputable abbrev iY:Nat:=21
noncomputable abbrev pH:Nat:=22
noncomputable abbrev tO:Nat:=23
noncomputable abbrev je:Nat:=24
noncomputable abbrev iJ:Nat:=25
noncomputable abbrev tW:Nat:=26
noncomputable abbrev nY:Nat:=27
noncomputable abbrev uO:Nat:=28
noncomputable abbrev dj:Nat:=29
noncomputable abbrev dF:Nat:=30
noncomputable abbrev kE:Nat:=31
noncomputable abbrev kI:Nat:=32
noncomputable abbrev gW:Nat:=33
noncomputable abbrev jF:Nat:=34
noncomputable abbrev jV:Nat:=35
noncomputable abbrev jM:Nat:=36
noncomputable abbrev jc:Nat:=37
noncomputable abbrev jD:Nat:=38
noncomputable abbrev jH:Nat:=39
noncomputable abbrev K6:Nat:=40
noncomputable def nq:Def:=⟨3,3,[.ret (.and [(.isin (.var 0) .int),(.not (.isin (.var 0) .bool)),(.chain .le .le (.var 1) (.var 0) (.var 2))])],true⟩
noncomputable def nA:Def:=⟨3,3,[.ret (.and [(.isin (.var 0) .tuple),(.chain .le .le (.var 1) (.blt .len [(.var 0)]) (.var 2))])],true⟩
noncomputable def jz:Def:=⟨1,3,[.ifs (.not (.call cF [(.var 0),(.con (.int 1)),(.con (.int 6))])) [.ret (.con (.bl false))] [],.set (.one 1) (.con (.int 1)),.forr (.one 2) .seq [(.var 0)] [.ifs (.not (.call gq [(.var 2),(.con (.int 1)),(.con (.int 4))])) [.ret (.con (.bl false))] [],.set (.one 1) (.bin .mul (.var 1) (.var 2))],.ret (.cmp .le (.var 1) (.con (.int 400)))],true⟩
noncomputable def jA:Def:=⟨2,2,[.ifs (.or [(.not (.call cF [(.var 1),(.con (.int 2)),(.con (.int 2))])),(.not (.call gq [(.ix (.var 1) (.con (.int 0))),(.con (.int 0)),(.bin .sub (.blt .len [(.var 0)]) (.con (.int 1)))]))]) [.ret (.con (.bl false))] [],.ret (.call gq [(.ix (.var 1) (.con (.int 1))),(.con (.int 0)),(.bin .sub (.ix (.var 0) (.ix (.var 1) (.con (.int 0)))) (.con (.int 1)))])],true⟩
noncomputable def jL:Def:=⟨2,4,[.ifs (.not (.call cF [(.var 1),(.con (.int 1)),(.con (.int 3))])) [.ret (.con (.bl false))] [],.set (.one 2) (.con (.int 0)),.forr (.one 3) .seq [(.var 1)] [.ifs (.or [(.not (.call nO [(.var 0),(.var 3)])),(.cmp .lt (.ix (.var 3) (.con (.int 0))) (.var 2))]) [.ret (.con (.bl false))] [],.set (.one 2) (.bin .add (.ix (.var 3) (.con (.int 0))) (.con (.int 1)))],.ret (.con (.bl true))],true⟩
noncomputable def oO:Def:=⟨1,2,[.ifs (.or [(.not (.call cF [(.var 0),(.con (.int 2)),(.con (.int 2))])),(.not (.call nW [(.ix (.var 0) (.con (.int 0)))])),(.not (.call cF [(.ix (.var 0) (.con (.int 1))),(.con (.int 0)),(.con (.int 12))]))]) [.ret (.con (.bl false))] [],.ret (.blt .all [(.comp (.call oG [(.ix (.var 0) (.con (.int 0))),(.var 1)]) (.one 1) .seq [(.ix (.var 0) (.con (.int 1)))] false (.con (.bl true)) [true,false])])],true⟩
noncomputable def pF:Def:=⟨1,1,[.ifs (.not (.call vo [(.var 0)])) [.rai] [],.ret (.var 0)],true⟩
noncomputable def vL:Def:=⟨2,3,[.ret (.blt .all [(.comp (.cmp .eq (.ix (.var 0) (.ix (.var 2) (.con (.int 0)))) (.ix (.var 2) (.con (.int 1)))) (.one 2) .seq [(.var 1)] false (.con (.bl true)) [true,false,false])])],true⟩
noncomputable def lg:Def:=⟨2,3,[.ret (.blt .any [(.comp (.call BK [(.var 0),(.var 2)]) (.one 2) .seq [(.var 1)] false (.con (.bl true)) [true,false,false])])],true⟩
noncomputable def mX:Def:=⟨1,6,[.set (.one 1) (.lst [(.tup [])]),.forr (.one 2) .seq [(.var 0)] [.set (.one 3) (.lst []),.forr (.one 4) .seq [(.var 1)] [.ext 3 (.comp (.bin .add (.var 4) (.tup [(.var 5)])) (.one 5) .rng [(.var 2)] false (.con (.bl true)) [false,false,false,false,true,false])],.set (.one 1) (.var 3)],.ret (.var 1)],true⟩
noncomputable def lu:Def:=⟨1,2,[.expr (.call oV [(.var 0)]),.ret (.comp (.var 1) (.one 1) .seq [(.call sG [(.ix (.var 0) (.con (.int 0)))])] true (.not (.call kO [(.var 1),(.ix (.var 0) (.con (.int 1)))])) [true,false])],true⟩
noncomputable def sI:Def:=⟨2,4,[.ifs (.not (.call cF [(.var 1),(.blt .len [(.var 0)]),(.blt .len [(.var 0)])])) [.ret (.con (.bl false))] [],.ret (.blt .all [(.comp (.call gq [(.var 2),(.con (.int 0)),(.bin .sub (.var 3) (.con (.int 1)))]) (.two 2 3) .zip [(.var 1),(.var 0)] false (.con (.bl true)) [false,false,false,false])])],true⟩
noncomputable def oH:Def:=⟨2,2,[.ret (.and [(.call yE [(.ix (.var 0) (.con (.int 0))),(.var 1)]),(.not (.call kO [(.var 1),(.ix (.var 0) (.con (.int 1)))]))])],true⟩
noncomputable def mG:Def:=⟨2,2,[.rai],false⟩
noncomputable def ug:List XS:=[.lam iC]
noncomputable def gO:Def:=⟨1,1,[.ret (.blt .min2 [(.con (.int 3)),(.blt .len [(.ix (.var 0) (.con (.int 0)))])])],true⟩
noncomputable def cV:Def:=⟨2,2,[.expr (.call oV [(.var 0)]),.ifs (.not (.call gq [(.var 1),(.con (.int 1)),(.call jR [(.var 0)])])) [.rai] []],true⟩
noncomputable def kW:Def:=⟨2,2,[.ret (.or [(.cmp .eq (.blt .len [(.var 1)]) (.con (.int 0))),(.cmp .lt (.ix (.ix (.var 1) (.neg (.con (.int 1)))) (.con (.int 0))) (.ix (.var 0) (.con (.int 0))))])],true⟩
noncomputable def gw:Def:=⟨2,7,[.set (.one 2) (.lst [(.tup [])]),.forr (.one 3) .rng [(.var 1)] [.set (.one 4) (.lst []),.forr (.one 5) .seq [(.var 2)] [.ext 4 (.comp (.bin .add (.var 5) (.tup [(.var 6)])) (.one 6) .seq [(.var 0)] true (.call pP [(.var 6),(.var 5)]) [false,false,false,false,false,true,false])],.set (.one 2) (.var 4)],.ret (.var 2)],true⟩
noncomputable def jg:Def:=⟨2,2,[.ret (.call jk [(.blt .listEnum [(.var 0)]),(.var 1)])],true⟩
noncomputable def tK:Def:=⟨2,5,[.set (.one 2) .dct0,.forr (.one 3) .seq [(.var 0)] [.forr (.one 4) .seq [(.call fB [(.var 3),(.var 1)])] [.put 2 (.var 4) (.con (.bl true))]],.ret (.var 2)],true⟩
noncomputable def mR:Def:=⟨2,2,[.expr (.call cT [(.var 0),(.var 1)]),.ret (.blt .sorted [(.call tR [(.call pQ [(.var 0)]),(.var 1)])])],true⟩
noncomputable def lC:Def:=⟨3,3,[.expr (.call cT [(.var 0),(.var 1)]),.expr (.call gG [(.var 0),(.var 2)])],true⟩
noncomputable def pq:Def:=⟨3,5,[.expr (.call iY [(.var 0),(.var 1),(.var 2)]),.set (.one 3) (.call tR [(.var 2),(.var 1)]),.ret (.comp (.var 4) (.one 4) .seq [(.call sW [(.var 0),(.var 1)])] true (.cmp .notin (.var 4) (.var 3)) [false,false,false,true,false])],true⟩
noncomputable def nD:Def:=⟨3,3,[.ret (.cmp .eq (.blt .len [(.call pH [(.var 0),(.var 1),(.var 2)])]) (.con (.int 0)))],true⟩
noncomputable def fU:Def:=⟨2,5,[.set (.one 2) .dct0,.forr (.one 3) .seq [(.var 0)] [.forr (.one 4) .seq [(.call fB [(.var 3),(.var 1)])] [.putB 2 (.var 4) (.bin .add (.dget (.var 2) (.var 4) (.con (.int 0))) (.con (.int 1)))]],.retO 2],true⟩
noncomputable def iT:Def:=⟨2,3,[.ret (.blt .all [(.comp (.cmp .gt (.ix (.var 1) (.var 2)) (.con (.int 1))) (.one 2) .seq [(.var 0)] false (.con (.bl true)) [false,true,false])])],true⟩
noncomputable def mK:Def:=⟨3,6,[.expr (.call iY [(.var 0),(.var 1),(.var 2)]),.set (.one 3) (.call je [(.var 2),(.var 1)]),.ret (.comp (.var 4) (.two 4 5) .enum [(.var 2)] true (.call iJ [(.call fB [(.var 5),(.var 1)]),(.var 3)]) [false,true,false,true,false,false])],true⟩
noncomputable def jO:Def:=⟨2,3,[.forr (.one 2) .seq [(.var 0)] [.putB 1 (.var 2) (.bin .sub (.ix (.var 1) (.var 2)) (.con (.int 1)))]],false⟩
noncomputable def pG:Def:=⟨3,7,[.expr (.call iY [(.var 0),(.var 1),(.var 2)]),.setF 3 je [(.var 2),(.var 1)],.set (.one 4) (.lst []),.forr (.one 5) .rev [(.var 2)] [.set (.one 6) (.call fB [(.var 5),(.var 1)]),.ifs (.call iJ [(.var 6),(.var 3)]) [.callm 3 nY (.var 6)] [.app 4 (.var 5)]],.ret (.blt .listRev [(.var 4)])],true⟩
noncomputable def lB:Def:=⟨2,2,[.ifs (.cmp .lt (.var 1) (.blt .len [(.var 0)])) [.ret (.ix (.var 0) (.var 1))] [],.ret (.con (.int 0))],true⟩
noncomputable def ni:Def:=⟨3,3,[.ret (.bin .mod (.bin .mod (.bin .mul (.var 0) (.con (.int 48271))) (.var 1)) (.var 2))],true⟩
noncomputable def lE:Def:=⟨2,11,[.set (.one 2) (.call dj [(.var 0),(.var 1)]),.set (.one 3) (.bin .add (.con (.int 1)) (.call dF [(.var 2),(.con (.int 9973)),(.con (.int 4))])),.set (.one 4) (.lst []),.forr (.one 5) .rng [(.var 3)] [.set (.one 7) (.con (.int 2)),.ifs (.or [(.cmp .lt (.var 5) (.con (.int 2))),(.cmp .gt (.blt .len [(.var 0)]) (.con (.int 63)))]) [.set (.one 7) (.con (.int 3))] [],.app 4 (.bin .add (.con (.int 1)) (.call dF [(.bin .add (.bin .add (.call dj [(.var 0),(.bin .add (.var 1) (.con (.int 1)))]) (.bin .mul (.bin .mul (.con (.int 31)) (.var 5)) (.var 5))) (.var 5)),(.con (.int 9967)),(.var 7)]))],.set (.one 6) (.lst []),.forr (.one 5) .rng [(.call dF [(.var 2),(.con (.int 9949)),(.con (.int 4))])] [.set (.one 8) (.bin .add (.bin .add (.call dj [(.var 0),(.bin .add (.var 1) (.con (.int 2)))]) (.bin .mul (.bin .mul (.con (.int 53)) (.var 5)) (.var 5))) (.bin .mul (.con (.int 7)) (.var 5))),.set (.one 9) (.slc (.comp (.var 10) (.one 10) .rng [(.var 3)] true (.cmp .eq (.call dF [(.bin .add (.var 8) (.bin .mul (.con (.int 17)) (.var 10))),(.con (.int 9941)),(.con (.int 2))]) (.con (.int 1))) [false,false,false,false,false,false,false,false,true,false,false]) (.con .non) (.con (.int 3))),.ifs (.cmp .eq (.var 9) (.lst [])) [.set (.one 9) (.lst [(.call dF [(.var 8),(.con (.int 9931)),(.var 3)])])] [],.app 6 (.blt .tuple [(.comp (.tup [(.var 10),(.call dF [(.bin .add (.var 8) (.bin .mul (.con (.int 5)) (.var 10))),(.con (.int 9929)),(.ix (.var 4) (.var 10))])]) (.one 10) .seq [(.var 9)] false (.con (.bl true)) [false,false,false,false,true,false,false,false,true,false,false])])],.ret (.tup [(.blt .tuple [(.var 4)]),(.blt .tuple [(.var 6)])])],true⟩
noncomputable def kY:Def:=⟨1,6,[.set (.one 1) (.lst [(.tup [])]),.forr (.one 2) .seq [(.var 0)] [.set (.one 3) (.lst []),.forr (.one 4) .seq [(.var 1)] [.set (.one 3) (.bin .add (.var 3) (.comp (.bin .add (.var 4) (.tup [(.var 5)])) (.one 5) .rng [(.var 2)] false (.con (.bl true)) [false,false,false,false,true,false]))],.set (.one 1) (.var 3)],.ret (.var 1)],true⟩
noncomputable def jw:Def:=⟨2,3,[.ret (.cmp .eq (.comp (.var 2) (.one 2) .seq [(.var 1)] true (.cmp .ne (.ix (.var 0) (.ix (.var 2) (.con (.int 0)))) (.ix (.var 2) (.con (.int 1)))) [true,false,false]) (.lst []))],true⟩
noncomputable def jW:Def:=⟨1,4,[.set (.one 1) (.lst []),.forr (.one 2) .seq [(.call kI [(.ix (.var 0) (.con (.int 0)))])] [.ifs (.cmp .eq (.comp (.var 3) (.one 3) .seq [(.ix (.var 0) (.con (.int 1)))] true (.call gW [(.var 2),(.var 3)]) [false,false,true,false]) (.lst [])) [.app 1 (.var 2)] []],.ret (.var 1)],true⟩
noncomputable def gK:Def:=⟨2,8,[.set (.one 2) .dct0,.forr (.one 3) .seq [(.call kI [(.ix (.var 0) (.con (.int 0)))])] [.set (.one 4) (.lst [(.tup [])]),.forr (.two 5 6) .enum [(.var 3)] [.set (.one 4) (.bin .add (.var 4) (.comp (.bin .add (.var 7) (.tup [(.tup [(.var 5),(.var 6)])])) (.one 7) .seq [(.var 4)] false (.con (.bl true)) [false,false,false,false,false,true,true,false]))],.forr (.one 7) .seq [(.var 4)] [.ifs (.cmp .eq (.blt .len [(.var 7)]) (.var 1)) [.put 2 (.var 7) (.con (.bl true))] []]],.ret (.blt .sorted [(.var 2)])],true⟩
noncomputable def gQ:Def:=⟨2,6,[.set (.one 2) (.call jF [(.var 0)]),.set (.one 3) (.lst []),.forr (.one 4) .seq [(.call jV [(.var 0),(.var 1)])] [.ifs (.cmp .ne (.comp (.var 5) (.one 5) .seq [(.var 2)] true (.call gW [(.var 5),(.var 4)]) [false,false,false,false,true,false]) (.lst [])) [.app 3 (.var 4)] []],.ret (.var 3)],true⟩
noncomputable def lq:Def:=⟨2,5,[.set (.one 2) (.lst []),.forr (.one 3) .seq [(.var 0)] [.ifs (.cmp .eq (.comp (.var 4) (.one 4) .seq [(.var 1)] true (.call gW [(.var 4),(.var 3)]) [false,false,false,true,false]) (.lst [])) [.app 2 (.var 3)] []],.ret (.var 2)],true⟩
noncomputable def iu:Def:=⟨4,7,[.set (.one 4) (.call jF [(.var 2)]),.set (.one 5) (.lst []),.ifs (.cmp .ne (.var 4) (.lst [])) [.forr (.one 6) .rng [(.call dF [(.call dj [(.var 0),(.var 1)]),(.con (.int 9923)),(.bin .add (.var 3) (.con (.int 1)))])] [.app 5 (.ix (.var 4) (.call dF [(.bin .add (.bin .add (.call dj [(.var 0),(.var 1)]) (.bin .mul (.bin .mul (.con (.int 29)) (.var 6)) (.var 6))) (.var 6)),(.con (.int 9907)),(.blt .len [(.var 4)])]))]] [],.ret (.var 5)],true⟩
noncomputable def gP:Def:=⟨2,2,[.ret (.blt .min2 [(.ix (.lst [(.con (.int 2)),(.con (.int 2)),(.con (.int 1)),(.con (.int 3))]) (.bin .mod (.var 1) (.con (.int 4)))),(.blt .len [(.ix (.var 0) (.con (.int 0)))])])],true⟩
noncomputable def Et:Def:=⟨1,11,[.set (.one 1) (.call kE [(.var 0),(.con (.int 2))]),.set (.one 2) (.call jH [(.var 1),(.call dj [(.var 0),(.con (.int 0))])]),.set (.one 3) (.call jD [(.var 0),(.con (.int 5)),(.var 1),(.con (.int 7))]),.set (.one 4) (.blt .list [(.var 3)]),.set (.one 5) (.call jM [(.var 1),(.var 2)]),.set (.one 6) (.call jc [(.var 5),(.var 3)]),.ifs (.or [(.cmp .ne (.call pH [(.var 1),(.var 2),(.var 3)]) (.var 6)),(.cmp .ne (.call tO [(.var 1),(.var 2),(.var 3)]) (.cmp .eq (.var 6) (.lst [])))]) [.ret (.con (.bl false))] [],.set (.one 7) (.lst []),.forr (.one 8) .rng [(.blt .len [(.var 3)])] [.ifs (.cmp .eq (.call jc [(.var 5),(.bin .add (.slc (.var 3) (.con .non) (.var 8)) (.slc (.var 3) (.bin .add (.var 8) (.con (.int 1))) (.con .non)))]) (.var 6)) [.app 7 (.var 8)] []],.ifs (.cmp .ne (.call tW [(.var 1),(.var 2),(.var 3)]) (.var 7)) [.ret (.con (.bl false))] [],.set (.one 9) (.blt .list [(.var 3)]),.forr (.one 8) .rng [(.bin .sub (.blt .len [(.var 3)]) (.con (.int 1))),(.neg (.con (.int 1))),(.neg (.con (.int 1)))] [.ifs (.cmp .eq (.call jc [(.var 5),(.bin .add (.slc (.var 9) (.con .non) (.var 8)) (.slc (.var 9) (.bin .add (.var 8) (.con (.int 1))) (.con .non)))]) (.var 6)) [.pop 9 (.var 8)] []],.set (.one 10) (.call uO [(.var 1),(.var 2),(.var 3)]),.ret (.and [(.isin (.var 10) .list),(.cmp .eq (.var 10) (.var 9)),(.cmp .eq (.var 3) (.var 4))])],true⟩
noncomputable def tab:List Def:=[nq,nA,jz,jA,jL,oO,pF,vL,lg,mX,lu,sI,oH,mG,gO,cV,kW,gw,jg,tK,mR,lC,pq,nD,fU,iT,mK,jO,pG,lB,ni,lE,kY,jw,jW,gK,gQ,lq,iu,gP,Et]
noncomputable def aH:pW:=[(gG,ug)]
theorem aW {n f:Nat}{d:Def}{args:List D} (ht:tab[f]?=some d) (hl:args.length=d.np) (hn:d.nrm=true:=by rfl) (hx:aH.lookup f=none:=by rfl):aA tab aH (n+1) f args=uy (cJ (aA tab aH n) d.body (args.map some++List.replicate (d.nn - d.np) none)):=Tn hx ht hl hn
theorem X7 {n f:Nat}{d:Def}{b:List XS}{args:List D} (ht:tab[f]?=some d) (hx:aH.lookup f=some b) (hl:args.length=d.np):aA tab aH (n+1) f args=pY (Ae (aA tab aH n) b (args.map some++List.replicate (d.nn - d.np) none)):=Oc hx ht hl
theorem Mg:tab[gq]?=some nq:=rfl
theorem Jh : aU T nq ["thing", "least", "most"] ["thing", "least", "most"] (top 11) = true:=by decide +kernel
theorem LR:tab[cF]?=some nA:=rfl
theorem Jj : aU T nA ["thing", "least", "most"] ["thing", "least", "most"] (top 12) = true:=by decide +kernel
theorem G7:tab[nW]?=some jz:=rfl
theorem Dv : aU T jz ["thing", "rows", "level"] ["thing"] (top 13) = true:=by decide +kernel
theorem Hl:tab[nO]?=some jA:=rfl
theorem DW : aU T jA ["levels", "thing"] ["levels", "thing"] (top 14) = true:=by decide +kernel
theorem Fb:tab[oG]?=some jL:=rfl
theorem DK : aU T jL ["levels", "thing", "behind", "pair"] ["levels", "thing"] (top 15) = true:=by decide +kernel
theorem Nu:tab[vo]?=some oO:=rfl
theorem MK : aU T oO ["thing", "ban"] ["thing"] (top 16) = true:=by decide +kernel
theorem Px:tab[oV]?=some pF:=rfl
theorem Mv : aU T pF ["book"] ["book"] (top 17) = true:=by decide +kernel
theorem Vn:tab[BK]?=some vL:=rfl
theorem T5 : aU T vL ["row", "meeting", "pair"] ["row", "meeting"] (top 18) = true:=by decide +kernel
theorem Jk:tab[kO]?=some lg:=rfl
theorem Hf : aU T lg ["row", "meetings", "meeting"] ["row", "meetings"] (top 19) = true:=by decide +kernel
theorem Lf:tab[sG]?=some mX:=rfl
theorem Ji : aU T mX ["levels", "rows", "level", "longer", "row", "setting"] ["levels"] (top 20) = true:=by decide +kernel
theorem Jd:tab[pQ]?=some lu:=rfl
theorem Gp : aU T lu ["book", "row"] ["book"] (top 21) = true:=by decide +kernel
theorem Te:tab[yE]?=some sI:=rfl
theorem Qs : aU T sI ["levels", "thing", "setting", "level"] ["levels", "thing"] (top 22) = true:=by decide +kernel
theorem Pz:tab[iC]?=some oH:=rfl
theorem Ku : aU T oH ["book", "thing"] ["book", "thing"] (top 23) = true:=by decide +kernel
theorem uw:tab[gG]?=some mG:=rfl
theorem uo:aH.lookup gG=some ug:=rfl
theorem yU:tab[jR]?=some gO:=rfl
theorem yM : aU T gO ["book"] ["book"] (top 27) = true:=by decide +kernel
theorem nC:tab[cT]?=some cV:=rfl
theorem lY : aU T cV ["book", "strength"] ["book", "strength"] (top 28) = true:=by decide +kernel
theorem Jy:tab[pP]?=some kW:=rfl
theorem Fy : aU T kW ["pair", "meeting"] ["pair", "meeting"] (top 29) = true:=by decide +kernel
theorem yR:tab[jk]?=some gw:=rfl
theorem v9 : aU T gw ["pairs", "many", "meetings", "step", "longer", "meeting", "pair"] ["pairs", "many"] (top 30) = true:=by decide +kernel
theorem Dw:tab[fB]?=some jg:=rfl
theorem BP : aU T jg ["test", "strength"] ["test", "strength"] (top 31) = true:=by decide +kernel
theorem S6:tab[tR]?=some tK:=rfl
theorem Qx : aU T tK ["tests", "strength", "met", "test", "meeting"] ["tests", "strength"] (top 32) = true:=by decide +kernel
theorem KD:tab[sW]?=some mR:=rfl
theorem JC : aU T mR ["book", "strength"] ["book", "strength"] (top 33) = true:=by decide +kernel
theorem Jp:tab[iY]?=some lC:=rfl
theorem Hj : aU T lC ["book", "strength", "tests"] ["book", "strength", "tests"] (top 35) = true:=by decide +kernel
theorem QB:tab[pH]?=some pq:=rfl
theorem MN : aU T pq ["book", "strength", "tests", "met", "meeting"] ["book", "strength", "tests"] (top 36) = true:=by decide +kernel
theorem Lg:tab[tO]?=some nD:=rfl
theorem Iu : aU T nD ["book", "strength", "tests"] ["book", "strength", "tests"] (top 37) = true:=by decide +kernel
theorem xU:tab[je]?=some fU:=rfl
theorem Fj : aU T fU ["tests", "strength", "times", "test", "meeting"] ["tests", "strength"] (top 38) = true:=by decide +kernel
theorem Bo:tab[iJ]?=some iT:=rfl
theorem Ar : aU T iT ["meetings", "times", "meeting"] ["meetings", "times"] (top 39) = true:=by decide +kernel
theorem Mz:tab[tW]?=some mK:=rfl
theorem JD : aU T mK ["book", "strength", "tests", "times", "place", "test"] ["book", "strength", "tests"] (top 40) = true:=by decide +kernel
theorem Ie:tab[nY]?=some jO:=rfl
theorem Dy : aU T jO ["meetings", "times", "meeting"] ["meetings", "times"] (top 41) = true:=by decide +kernel
theorem Pa:tab[uO]?=some pG:=rfl
theorem Ls : aU T pG ["book", "strength", "tests", "times", "left", "test", "meetings"] ["book", "strength", "tests"] (top 42) = true:=by decide +kernel
theorem Ip:tab[dj]?=some lB:=rfl
theorem Ey : aU T lB ["_law_script", "_law_k"] ["_law_script", "_law_k"] (top 44) = true:=by decide +kernel
theorem Lx:tab[dF]?=some ni:=rfl
theorem Jv : aU T ni ["_law_cell_here", "_law_prime", "_law_many"] ["_law_cell_here", "_law_prime", "_law_many"] (top 45) = true:=by decide +kernel
theorem Jq:tab[kE]?=some lE:=rfl
theorem Ig : aU T lE ["_law_script", "_law_at", "_law_cell_here", "_law_many", "_law_levels", "_law_k", "_law_bans", "_law_most", "_law_seed", "_law_things", "_law_thing"] ["_law_script", "_law_at"] (top 46) = true:=by decide +kernel
theorem Ja:tab[kI]?=some kY:=rfl
theorem GR : aU T kY ["_law_levels", "_law_found", "_law_level", "_law_more", "_law_row", "_law_setting"] ["_law_levels"] (top 47) = true:=by decide +kernel
theorem GC:tab[gW]?=some jw:=rfl
theorem Dm : aU T jw ["_law_test", "_law_meeting", "_law_pair"] ["_law_test", "_law_meeting"] (top 48) = true:=by decide +kernel
theorem Hh:tab[jF]?=some jW:=rfl
theorem Eb : aU T jW ["_law_book_here", "_law_found", "_law_row", "_law_ban"] ["_law_book_here"] (top 49) = true:=by decide +kernel
theorem Ag:tab[jV]?=some gK:=rfl
theorem yu : aU T gK ["_law_book_here", "_law_strength_here", "_law_found", "_law_row", "_law_some", "_law_thing", "_law_setting", "_law_one"] ["_law_book_here", "_law_strength_here"] (top 50) = true:=by decide +kernel
theorem Ak:tab[jM]?=some gQ:=rfl
theorem xY : aU T gQ ["_law_book_here", "_law_strength_here", "_law_tests_here", "_law_found", "_law_one", "_law_test"] ["_law_book_here", "_law_strength_here"] (top 51) = true:=by decide +kernel
theorem Io:tab[jc]?=some lq:=rfl
theorem HJ : aU T lq ["_law_some", "_law_tests_here", "_law_found", "_law_one", "_law_test"] ["_law_some", "_law_tests_here"] (top 52) = true:=by decide +kernel
theorem Gv:tab[jD]?=some iu:=rfl
theorem DP : aU T iu ["_law_script", "_law_at", "_law_book_here", "_law_most", "_law_tests_here", "_law_found", "_law_k"] ["_law_script", "_law_at", "_law_book_here", "_law_most"] (top 53) = true:=by decide +kernel
theorem Ai:tab[jH]?=some gP:=rfl
theorem yp : aU T gP ["_law_book_here", "_law_cell_here"] ["_law_book_here", "_law_cell_here"] (top 54) = true:=by decide +kernel
theorem Zv:tab[K6]?=some Et:=rfl
theorem Og : aU T Et ["_law_script", "_law_book_here", "_law_strength_here", "_law_tests_here", "_law_kept_tests", "_law_some", "_law_left_here", "_law_due", "_law_at", "_law_rest", "_law_found"] ["_law_script"] (top 55) = true:=by decide +kernel
section
variable {K:PySem.W.Frag}{h:Heap}{mg:Str→Option Value}
theorem aG {x:Str}{st:Stmt}{d:Def}{N ps:List Str}{i:Nat} (X:K.In h) (G:h.Ns mainGlobals mg) (f:FF K x st) (ht:tab[i]?=some d) (ok:aU T d N ps st=true)
  (hb:∀ (kV doc pm:Value) (an:Option Addr) (cdv ct:Value) (us:List Value),us.length=ps.length→bindArgs (PySem.W.fnOf x x (fC st) (cY st) (aX st) .none kV doc pm an cdv ct) ⟨us,[]⟩=pure (ps.zip us)) (hx:aH.lookup i=none:=by rfl) :
  ∃ d N ps st a fd,tab[i]?=some d∧Fun K x x st a fd∧mg x=some (.ref a)∧L2.Binds K fd ps []∧(match aH.lookup i with | none=>aU T d N ps st=true | some b=>LamD T K mg x b d ps st a fd):=by
 obtain ⟨a,fd,e,F⟩:=f.ex
 refine ⟨d,N,ps,st,a,fd,ht,F,PySem.W.mg_of X G e,F.binds hb,?_⟩
 rw [hx];exact ok
theorem pr (X : K.In h) (G : h.Ns mainGlobals mg) (f0 : FF K "is_whole" (top 11)) (f1 : FF K "is_tuple" (top 12)) (f2 : FF K "are_levels" (top 13)) (f3 : FF K "is_setting" (top 14)) (f4 : FF K "is_meeting" (top 15)) (f5 : FF K "is_book" (top 16)) (f6 : FF K "checked" (top 17)) (f7 : FF K "meets" (top 18)) (f8 : FF K "meets_any" (top 19)) (f9 : FF K "all_rows" (top 20)) (f10 : FF K "all_tests" (top 21)) (f11 : FF K "is_row" (top 22)) (f12 : FF K "is_test" (top 23)) (f13 : FL K "check_tests" (top 25)) (f14 : FF K "most_strength" (top 27)) (f15 : FF K "check_book_and_strength" (top 28)) (f16 : FF K "is_behind" (top 29)) (f17 : FF K "meetings_among" (top 30)) (f18 : FF K "meetings_of" (top 31)) (f19 : FF K "met_by" (top 32)) (f20 : FF K "possible" (top 33)) (f21 : FF K "check_all" (top 35)) (f22 : FF K "missing" (top 36)) (f23 : FF K "is_cover" (top 37)) (f24 : FF K "times_met" (top 38)) (f25 : FF K "meet_without" (top 39)) (f26 : FF K "needless" (top 40)) (f27 : FF K "count_less" (top 41)) (f28 : FF K "trimmed" (top 42)) (f29 : FF K "_law_cell" (top 44)) (f30 : FF K "_law_mix" (top 45)) (f31 : FF K "_law_book" (top 46)) (f32 : FF K "_law_rows" (top 47)) (f33 : FF K "_law_meets" (top 48)) (f34 : FF K "_law_tests" (top 49)) (f35 : FF K "_law_meetings" (top 50)) (f36 : FF K "_law_possible" (top 51)) (f37 : FF K "_law_left" (top 52)) (f38 : FF K "_law_drawn" (top 53)) (f39 : FF K "_law_strength" (top 54)) (f40 : FF K "law" (top 55)) (fcl : FF K "check_list" (top 24)) (g0 : GF K "MOST_THINGS" 6) (g1 : GF K "MOST_SETTINGS" 4) (g2 : GF K "MOST_ROWS" 400) (g3 : GF K "MOST_BANS" 12) (g4 : GF K "MOST_IN_MEETING" 3) (hb : ∀ f ∈ jY, PySem.W.nsIn K mainGlobals f = some none) : PrX T tab aH K mg:=by
 refine ⟨by decide,fun f b hf=>?_,fun f hf=>PySem.W.mg_none_of X G (hb f hf),fun x i e=>?_,fun f x e=>?_⟩
 ·have hm:∀ p∈aH,p.1 < 1000:=by decide
  exact hm (f,b) (Pj hf)
 ·have key:∀ (l:List (Str × D)),l.lookup x=some (.int i)→(∀ p∈l,∀ j,p.2=.int j→GF K p.1 j)→∃ t,mg x=some (.int i t):=by
   intro l
   induction l with
   | nil=>intro e;cases e
   | cons q l ih =>
    intro e H
    rw [List.lookup_cons] at e
    split at e
    ·rename_i hx
     obtain ⟨t,e2⟩:=(H q List.mem_cons_self i (by simpa using e)).ex
     exact ⟨t,PySem.W.mg_of X G (by rw [beq_iff_eq.mp hx];exact e2)⟩
    ·exact ih e fun p hp=>H p (List.mem_cons_of_mem _ hp)
  refine key T.gl e fun p hp j ej=>?_
  simp only [T,List.mem_cons,List.not_mem_nil,or_false] at hp
  rcases hp with rfl | rfl | rfl | rfl | rfl
  ·cases ej;exact g0
  ·cases ej;exact g1
  ·cases ej;exact g2
  ·cases ej;exact g3
  ·cases ej;exact g4
 ·have hlt:f < 41:=(List.getElem?_eq_some_iff.mp e).1
  match f,hlt,e with
  | 0,_,e=>cases e;exact aG X G f0 rfl Jh fun _ _ _ _ _ _=>us3 fun _ _ _=>rfl
  | 1,_,e=>cases e;exact aG X G f1 rfl Jj fun _ _ _ _ _ _=>us3 fun _ _ _=>rfl
  | 2,_,e=>cases e;exact aG X G f2 rfl Dv fun _ _ _ _ _ _=>us1 fun _=>rfl
  | 3,_,e=>cases e;exact aG X G f3 rfl DW fun _ _ _ _ _ _=>us2 fun _ _=>rfl
  | 4,_,e=>cases e;exact aG X G f4 rfl DK fun _ _ _ _ _ _=>us2 fun _ _=>rfl
  | 5,_,e=>cases e;exact aG X G f5 rfl MK fun _ _ _ _ _ _=>us1 fun _=>rfl
  | 6,_,e=>cases e;exact aG X G f6 rfl Mv fun _ _ _ _ _ _=>us1 fun _=>rfl
  | 7,_,e=>cases e;exact aG X G f7 rfl T5 fun _ _ _ _ _ _=>us2 fun _ _=>rfl
  | 8,_,e=>cases e;exact aG X G f8 rfl Hf fun _ _ _ _ _ _=>us2 fun _ _=>rfl
  | 9,_,e=>cases e;exact aG X G f9 rfl Ji fun _ _ _ _ _ _=>us1 fun _=>rfl
  | 10,_,e=>cases e;exact aG X G f10 rfl Gp fun _ _ _ _ _ _=>us1 fun _=>rfl
  | 11,_,e=>cases e;exact aG X G f11 rfl Qs fun _ _ _ _ _ _=>us2 fun _ _=>rfl
  | 12,_,e=>cases e;exact aG X G f12 rfl Ku fun _ _ _ _ _ _=>us2 fun _ _=>rfl
  | 13,_,e=>cases e;exact W6 (d:=mG) (q:=iC) X G f13 fcl uo uw rfl rfl rfl rfl rfl rfl rfl rfl rfl (fun _ _ _ _ _ _=>us2 fun _ _=>rfl) (fun _ _ _ _ _ _=>us2 fun _ _=>rfl)
  | 14,_,e=>cases e;exact aG X G f14 rfl yM fun _ _ _ _ _ _=>us1 fun _=>rfl
  | 15,_,e=>cases e;exact aG X G f15 rfl lY fun _ _ _ _ _ _=>us2 fun _ _=>rfl
  | 16,_,e=>cases e;exact aG X G f16 rfl Fy fun _ _ _ _ _ _=>us2 fun _ _=>rfl
  | 17,_,e=>cases e;exact aG X G f17 rfl v9 fun _ _ _ _ _ _=>us2 fun _ _=>rfl
  | 18,_,e=>cases e;exact aG X G f18 rfl BP fun _ _ _ _ _ _=>us2 fun _ _=>rfl
  | 19,_,e=>cases e;exact aG X G f19 rfl Qx fun _ _ _ _ _ _=>us2 fun _ _=>rfl
  | 20,_,e=>cases e;exact aG X G f20 rfl JC fun _ _ _ _ _ _=>us2 fun _ _=>rfl
  | 21,_,e=>cases e;exact aG X G f21 rfl Hj fun _ _ _ _ _ _=>us3 fun _ _ _=>rfl
  | 22,_,e=>cases e;exact aG X G f22 rfl MN fun _ _ _ _ _ _=>us3 fun _ _ _=>rfl
  | 23,_,e=>cases e;exact aG X G f23 rfl Iu fun _ _ _ _ _ _=>us3 fun _ _ _=>rfl
  | 24,_,e=>cases e;exact aG X G f24 rfl Fj fun _ _ _ _ _ _=>us2 fun _ _=>rfl
  | 25,_,e=>cases e;exact aG X G f25 rfl Ar fun _ _ _ _ _ _=>us2 fun _ _=>rfl
  | 26,_,e=>cases e;exact aG X G f26 rfl JD fun _ _ _ _ _ _=>us3 fun _ _ _=>rfl
  | 27,_,e=>cases e;exact aG X G f27 rfl Dy fun _ _ _ _ _ _=>us2 fun _ _=>rfl
  | 28,_,e=>cases e;exact aG X G f28 rfl Ls fun _ _ _ _ _ _=>us3 fun _ _ _=>rfl
  | 29,_,e=>cases e;exact aG X G f29 rfl Ey fun _ _ _ _ _ _=>us2 fun _ _=>rfl
  | 30,_,e=>cases e;exact aG X G f30 rfl Jv fun _ _ _ _ _ _=>us3 fun _ _ _=>rfl
  | 31,_,e=>cases e;exact aG X G f31 rfl Ig fun _ _ _ _ _ _=>us2 fun _ _=>rfl
  | 32,_,e=>cases e;exact aG X G f32 rfl GR fun _ _ _ _ _ _=>us1 fun _=>rfl
  | 33,_,e=>cases e;exact aG X G f33 rfl Dm fun _ _ _ _ _ _=>us2 fun _ _=>rfl
  | 34,_,e=>cases e;exact aG X G f34 rfl Eb fun _ _ _ _ _ _=>us1 fun _=>rfl
  | 35,_,e=>cases e;exact aG X G f35 rfl yu fun _ _ _ _ _ _=>us2 fun _ _=>rfl
  | 36,_,e=>cases e;exact aG X G f36 rfl xY fun _ _ _ _ _ _=>us2 fun _ _=>rfl
  | 37,_,e=>cases e;exact aG X G f37 rfl HJ fun _ _ _ _ _ _=>us2 fun _ _=>rfl
  | 38,_,e=>cases e;exact aG X G f38 rfl DP fun _ _ _ _ _ _=>us4 fun _ _ _ _=>rfl
  | 39,_,e=>cases e;exact aG X G f39 rfl yp fun _ _ _ _ _ _=>us2 fun _ _=>rfl
  | 40,_,e=>cases e;exact aG X G f40 rfl Og fun _ _ _ _ _ _=>us1 fun _=>rfl
end
end E05
namespace E05
open PySem L2 Mi
local macro_rules | `(tactic| simpa only [$xs,*])=>`(tactic| simp only [qQ,qR,qz,qS,qF,qG,qH,qI,qJ,wA,wB,wC,wD,qT,wE,qK,qU,qV,qW,wF,wG,wH,qX,wI,wJ,wK,qY,qZ,wL,wM,wN,wO,wP,wQ,wR,qL,wS,wn,wT,wU,wV,wo,wW,qa,qb,wX,qd,qf,qg,qM,qh,qN,wY,qi,wq,wr,qj,wZ,wa,wb,wc,wd,we,wt,wu,wv,ww,↓wf,↓wg,zN,zO,zP,zQ,zR,zS,zT,qk,qm,wj,wx,qp,qq,qC,qO,qr,qu,qv,qw,bD,bC,bO,wy,wz,zA,zB,zC,zD,zE,zU,zV,zW,zX,zY,zZ,wk,wl,wm,if_true,zF,zG,zb,if_false,qD,qx,qP,qE,qA,qB,qy,zH,zI,zJ,zK,zL,zM,bL,bM,$xs,*])
theorem mO {n:Nat} (x a b:Int):aA tab aH (n+1) gq [.int x,.int a,.int b]=.ok (.bl (decide (a≤x) && decide (x≤b))):=by
 rw [aW Mg rfl]
 delta nq;simpa only []
 by_cases h:a≤x <;> by_cases h2:x≤b <;> simpa only [h,h2,decide_true,decide_false,Bool.and_true,Bool.and_false,Bool.and_self,qj]
theorem jP {n:Nat} (ds:List D) (a b:Int):aA tab aH (n+1) cF [.tup ds,.int a,.int b]=.ok (.bl (decide (a≤ds.length) && decide ((ds.length:Int)≤b))):=by
 rw [aW LR rfl]
 delta nA;simpa only [uY]
 by_cases h:a≤ds.length <;> by_cases h2:(ds.length:Int)≤b <;> simpa only [h,h2,decide_true,decide_false,Bool.and_true,Bool.and_false,Bool.and_self,qj]
theorem rC {n:Nat} (r:List Nat) (a b:Int):aA tab aH (n+1) cF [aq r,.int a,.int b]=.ok (.bl (decide (a≤r.length) && decide ((r.length:Int)≤b))):=by
 have:=jP (n:=n) (r.map eN) a b
 rw [List.length_map] at this
 exact this
theorem Ij {n:Nat} (r:Meet) (a b:Int):aA tab aH (n+1) cF [eM r,.int a,.int b]=.ok (.bl (decide (a≤r.length) && decide ((r.length:Int)≤b))):=by
 have:=jP (n:=n) (r.map eP) a b
 rw [List.length_map] at this
 exact this
theorem DX {n:Nat} (r:List Meet) (a b:Int):aA tab aH (n+1) cF [eBs r,.int a,.int b]=.ok (.bl (decide (a≤r.length) && decide ((r.length:Int)≤b))):=by
 have:=jP (n:=n) (r.map eM) a b
 rw [List.length_map] at this
 exact this
theorem Fz {n:Nat} (p:Nat × Nat):aA tab aH (n+1) cF [eP p,.int 2,.int 2]=.ok (.bl true):=jP (n:=n) [eN p.1,eN p.2] 2 2
theorem Gf {n:Nat} (lv:List Nat) (bs:List Meet):aA tab aH (n+1) cF [eB lv bs,.int 2,.int 2]=.ok (.bl true):=jP (n:=n) [aq lv,eBs bs] 2 2
theorem Nv {x:Nat} (h:x≤1000000):jN (x:Int)=true:=Nat.ble_eq_true_of_le (by omega)
theorem Hq {n:Nat} (lv:List Nat) (h1:1≤lv.length) (h6:lv.length≤6) (hl:∀ l∈lv,1≤l∧l≤4):aA tab aH (n+2) nW [aq lv]=.ok (.bl (decide (prod lv≤400))):=by
 rw [aW G7 rfl]
 delta jz;simpa only [rC,decide_eq_true (show (1:Int)≤lv.length by omega),decide_eq_true (show (lv.length:Int)≤6 by omega),Bool.and_self]
 rw [bind_eq (a:=.nx [some (aq lv),some (.int (prod lv:Nat)),none])]
 ·simpa only []
  congr 2
  by_cases h:prod lv≤400
  ·rw [decide_eq_true h,decide_eq_true (by omega)]
  ·rw [decide_eq_false h,decide_eq_false (by omega)]
 ·refine Jt eN (fun a:Nat=>[some (aq lv),some (.int (a:Int)),none]) (fun a l=>a * l) (fun _=>True) lv (fun a l hlm _=>⟨trivial,?_⟩) 1 trivial
  have:=hl l hlm
  have hmul:jm .mul (.int (a:Int)) (.int (l:Int))=.ok (.int ((a:Int) * (l:Int))):=Eu (.inr (Nv (by omega)))
  simpa only [mO,decide_eq_true (show (1:Int)≤l by omega),decide_eq_true (show (l:Int)≤4 by omega),Bool.and_self,hmul]
  exact ⟨_,rfl,by simp [aJ]⟩
theorem Hw {n:Nat}{lv:List Nat}{p:Nat × Nat}{l:Nat} (h1:lv[p.1]?=some l) (h2:p.2 < l):aA tab aH (n+2) nO [aq lv,eP p]=.ok (.bl true):=by
 have hlt:p.1 < lv.length:=(List.getElem?_eq_some_iff.mp h1).1
 rw [aW Hl rfl]
 delta jA;simpa only [Fz,mO,EY h1,decide_eq_true (show (0:Int)≤p.1 by omega),decide_eq_true (show (p.1:Int)≤lv.length - 1 by omega),decide_eq_true (show (0:Int)≤p.2 by omega),decide_eq_true (show (p.2:Int)≤l - 1 by omega),Bool.and_self]
theorem Gj {n:Nat}{lv:List Nat}{m:Meet} (h:nP lv m) (h1:1≤m.length) (h3:m.length≤3):aA tab aH (n+3) oG [aq lv,eM m]=.ok (.bl true):=by
 rw [aW Fb rfl]
 delta jL;simpa only [Ij,decide_eq_true (show (1:Int)≤m.length by omega),decide_eq_true (show (m.length:Int)≤3 by omega),Bool.and_self]
 rw [bind_eq (a:=.nx [some (aq lv),some (eM m),some (.int (m.foldl (fun _ p=>p.1+1) 0:Nat)),none])]
 ·simpa only []
 ·refine bQ eP (fun a:Nat=>[some (aq lv),some (eM m),some (.int (a:Int)),none]) (fun _ p=>p.1+1) (fun b rest=>fj rest∧∀ q∈rest,b≤q.1∧∃ l,lv[q.1]?=some l∧q.2 < l) (fun b p rest hp=>?_) m 0 ⟨h.1,fun q hq=>⟨Nat.zero_le _,h.2 q hq⟩⟩
  obtain ⟨hr,hq⟩:=hp
  unfold fj at hr
  rw [List.pairwise_cons] at hr
  obtain ⟨hb,l,hl,hlt⟩:=hq p List.mem_cons_self
  refine ⟨⟨hr.2,fun q hq'=>⟨by have:=hr.1 q hq';omega,(hq q (List.mem_cons_of_mem _ hq')).2⟩⟩,?_⟩
  simpa only [Hw hl hlt,decide_eq_false (show ¬ ((p.1:Int) < b) by omega)]
  exact ⟨_,rfl,by simp [aJ]⟩
end E05
namespace E05
open PySem L2 Mi
local macro_rules | `(tactic| simpa only [$xs,*])=>`(tactic| simp only [qQ,qR,qz,qS,qF,qG,qH,qI,qJ,wA,wB,wC,wD,qT,wE,qK,qU,qV,qW,wF,wG,wH,qX,wI,wJ,wK,qY,qZ,wL,wM,wN,wO,wP,wQ,wR,qL,wS,wn,wT,wU,wV,wo,wW,qa,qb,wX,qd,qf,qg,qM,qh,qN,wY,qi,wq,wr,qj,wZ,wa,wb,wc,wd,we,wt,wu,wv,ww,↓wf,↓wg,zN,zO,zP,zQ,zR,zS,zT,qk,qm,wj,wx,qp,qq,qC,qO,qr,qu,qv,qw,bD,bC,bO,wy,wz,zA,zB,zC,zD,zE,zU,zV,zW,zX,zY,zZ,wk,wl,wm,if_true,zF,zG,zb,if_false,qD,qx,qP,qE,qA,qB,qy,zH,zI,zJ,zK,zL,zM,bL,bM,$xs,*])
theorem WB.lvAll {lv:List Nat}{bs:List Meet} (h:WB lv bs):∀ l∈lv,1≤l∧l≤4:=fun l hl=>by
 obtain ⟨i,hi⟩:=List.mem_iff_getElem?.mp hl
 have:=h.lv1 i l hi
 omega
theorem Oq {n:Nat}{lv:List Nat}{bs:List Meet} (h:WB lv bs):aA tab aH (n+4) vo [eB lv bs]=.ok (.bl true):=by
 have f:=j5 lv h.mem
 have h1:=h.one
 have h4:=h.four
 have hb:=h.nb
 rw [aW Nu rfl]
 delta oO;simpa only [Gf,DX,Hq lv h.one (by omega) (WB.lvAll h),decide_eq_true (show prod lv≤400 by omega),decide_eq_true (show (0:Int)≤bs.length by omega),decide_eq_true (show (bs.length:Int)≤12 by omega),Bool.and_self]
 rw [bind_eq (a:=bs.map fun _=>D.bl true)]
 ·simpa only [List.length_map,if_pos (show bs.length≤lim by unfold lim;omega)]
  rw [bind_eq (Ef (fun _=>true) bs)]
  simp [uy]
 ·refine dD bs fun b hbm=>?_
  obtain ⟨q1,q2,q3⟩:=h.ban b hbm
  simpa only [Gj q1 q2 q3]
theorem CJ {n:Nat}{lv:List Nat}{bs:List Meet} (h:WB lv bs):aA tab aH (n+5) oV [eB lv bs]=.ok (eB lv bs):=by
 rw [aW Px rfl]
 delta pF;simpa only [Oq h]
theorem Vk {n:Nat}{r:List Nat}{m:Meet} (h:∀ p∈m,p.1 < r.length) (hl:m.length≤lim):aA tab aH (n+1) BK [aq r,eM m]=.ok (.bl (aM r m)):=by
 rw [aW Vn rfl]
 delta vL;simpa only []
 rw [bind_eq (a:=m.map fun p=>D.bl (decide (r[p.1]?=some p.2)))]
 ·simpa only [List.length_map,if_pos hl]
  rw [bind_eq (Ef (fun p:Nat × Nat=>decide (r[p.1]?=some p.2)) m)]
  rfl
 ·refine dD m fun p hp=>?_
  obtain ⟨x,hx⟩:∃ x,r[p.1]?=some x:=⟨_,List.getElem?_eq_getElem (h p hp)⟩
  simpa only [EY hx,nM,hx,Option.some.injEq]
theorem xK {n:Nat}{r:List Nat}{bs:List Meet} (h:∀ b∈bs,(∀ p∈b,p.1 < r.length)∧b.length≤lim) (hl:bs.length≤lim):aA tab aH (n+2) kO [aq r,eBs bs]=.ok (.bl (bs.any fun b=>aM r b)):=by
 rw [aW Jk rfl]
 delta lg;simpa only []
 rw [bind_eq (a:=bs.map fun b=>D.bl (aM r b))]
 ·simpa only [List.length_map,if_pos hl]
  rw [bind_eq (ZQ (fun b=>aM r b) bs)]
  rfl
 ·refine dD bs fun b hb=>?_
  simpa only [Vk (h b hb).1 (h b hb).2]
theorem xX (rs:List (List Nat)) (l:Nat):rs.flatMap (fun r=>(List.range l).map fun s=>r++[s])=bW rs l:=rfl
theorem v7 {rs:List (List Nat)}{l:Nat} (h:1≤l):rs.length≤(bW rs l).length:=by
 rw [uJ]
 exact Nat.le_mul_of_pos_right _ h
noncomputable def rH (lv0:List Nat) (rs:List (List Nat)) (rest:List Nat):Prop:=rest.foldl bW rs=rows lv0∧(∀ r∈rs,r.length+rest.length=lv0.length)∧∀ l∈rest,1≤l
theorem rG:∀ (rest:List Nat) (rs:List (List Nat)),(∀ l∈rest,1≤l)→rs.length≤(rest.foldl bW rs).length
 | [],rs,_=>Nat.le_refl _
 | l::rest,rs,h=>Nat.le_trans (v7 (h l List.mem_cons_self)) (rG rest _ fun x hx=>h x (List.mem_cons_of_mem _ hx))
theorem rH.step {lv0 rest:List Nat}{l:Nat}{rs:List (List Nat)} (h:rH lv0 rs (l::rest)):rH lv0 (bW rs l) rest∧(bW rs l).length≤prod lv0:=by
 obtain ⟨h1,h2,h3⟩:=h
 have h4:∀ x∈rest,1≤x:=fun x hx=>h3 x (List.mem_cons_of_mem _ hx)
 refine ⟨⟨h1,fun r hr=>?_,h4⟩,?_⟩
 ·unfold bW at hr
  obtain ⟨a,ha,hr⟩:=List.mem_flatMap.mp hr
  obtain ⟨s,_,rfl⟩:=List.mem_map.mp hr
  have:=h2 a ha
  simp only [List.length_cons,List.length_append,List.length_nil] at this ⊢
  omega
 ·have:=rG rest (bW rs l) h4
  rw [← tE,← h1]
  exact this
theorem Mj {n:Nat}{lv:List Nat} (h1:∀ l∈lv,1≤l) (hp:prod lv≤lim) (hlen:lv.length≤lim) (hl:∀ l∈lv,l≤lim):aA tab aH (n+1) sG [aq lv]=.ok (.lst ((rows lv).map aq)):=by
 rw [aW Lf rfl]
 delta mX;simpa only [if_pos (show 0≤lim from Nat.zero_le _),if_pos (show 1≤lim by decide)]
 rw [bind_eq (a:=.nx [some (aq lv),some (.lst ((rows lv).map aq)),none,none,none,none])]
 ·simpa only []
 ·refine bQ eN (fun rs:List (List Nat)=>[some (aq lv),some (.lst (rs.map aq)),none,none,none,none]) bW (fun rs rest=>rH lv rs rest∧∀ l∈rest,l≤lim) (fun rs l rest hi=>?_) lv [[]] ⟨⟨rfl,by simp,h1⟩,hl⟩
  obtain ⟨hi,hll⟩:=hi
  obtain ⟨hs,hsz⟩:=hi.step
  have hrl:∀ r∈rs,r.length < lim:=fun r hr=>by
   have:=hi.2.1 r hr
   simp only [List.length_cons] at this
   omega
  refine ⟨⟨hs,fun x hx=>hll x (List.mem_cons_of_mem _ hx)⟩,?_⟩
  simpa only [if_pos (show 0≤lim from Nat.zero_le _)]
  rw [bind_eq (a:=.nx [some (aq lv),some (.lst (rs.map aq)),some (eN l),some (.lst ((bW rs l).map aq)),none,none])]
  ·simpa only []
   exact ⟨_,rfl,by simp [aJ]⟩
  ·refine cP aq (fun acc:List (List Nat)=>[some (aq lv),some (.lst (rs.map aq)),some (eN l),some (.lst (acc.map aq)),none,none]) (fun r=>(List.range l).map fun s=>r++[s]) lim rs (fun acc r hr hB=>?_) [] (by rw [xX,List.length_nil];omega)
   simpa only [gn l (hll l List.mem_cons_self)]
   rw [bind_eq (a:=((List.range l).map fun s=>r++[s]).map aq)]
   ·have hll':=hll l List.mem_cons_self
    simpa only [List.length_map,List.length_range,if_pos hll']
    rw [bind_eq (Uq (enc:=aq) hB)]
    exact ⟨_,rfl,by simp [aJ]⟩
   ·rw [List.map_map]
    refine dD (List.range l) fun s hs=>?_
    simpa only [HB (hrl r hr),if_pos (show 1≤lim by decide)]
    rfl
theorem Jm {n:Nat}{lv:List Nat}{bs:List Meet} (h:WB lv bs):aA tab aH (n+6) pQ [eB lv bs]=.ok (.lst ((tests lv bs).map aq)):=by
 have f:=j5 lv h.mem
 have h4:=h.four
 have hb:=h.nb
 have hlim:lim=100000:=rfl
 rw [aW Jd rfl]
 delta lu;simpa only [CJ h,Mj (fun l hl=>(WB.lvAll h l hl).1) (show prod lv≤lim by omega) (show lv.length≤lim by omega) (fun l hl=>by have:=WB.lvAll h l hl;omega)]
 rw [bind_eq (a:=(tests lv bs).map aq)]
 ·have:(tests lv bs).length≤lim:=by
   have h1:=List.length_filter_le (mY bs) (rows lv)
   rw [tE] at h1
   unfold tests
   omega
  simpa only [List.length_map,if_pos this]
 ·refine bY (rows lv) fun r hr=>?_
  have hok:=j7.mp hr
  simpa only [xK (r:=r) (bs:=bs) (fun b hbm=>⟨fun p hp=>by
   obtain ⟨l,e,_⟩:=(h.ban b hbm).1.2 p hp
   rw [hok.len]
   exact (List.getElem?_eq_some_iff.mp e).1,by have:=(h.ban b hbm).2.2;omega⟩) (by omega)]
  unfold mY
  cases (bs.any fun b=>aM r b) <;> simp [qQ,qR,qz,qS,qF,qG,qH,qI,qJ,wA,wB,wC,wD,qT,wE,qK,qU,qV,qW,wF,wG,wH,qX,wI,wJ,wK,qY,qZ,wL,wM,wN,wO,wP,wQ,wR,qL,wS,wn,wT,wU,wV,wo,wW,qa,qb,wX,qd,qf,qg,qM,qh,qN,wY,qi,wq,wr,qj,wZ,wa,wb,wc,wd,we,wt,wu,wv,ww,↓wf,↓wg,zN,zO,zP,zQ,zR,zS,zT,qk,qm,wj,wx,qp,qq,qC,qO,qr,qu,qv,qw,bD,bC,bO,wy,wz,zA,zB,zC,zD,zE,zU,zV,zW,zX,zY,zZ,wk,wl,wm,if_true,zF,zG,zb,if_false,qD,qx,qP,qE,qA,qB,qy,zH,zI,zJ,zK,zL,zM,bL,bM]
end E05
namespace E05
open PySem L2 Mi
local macro_rules | `(tactic| simpa only [$xs,*])=>`(tactic| simp only [qQ,qR,qz,qS,qF,qG,qH,qI,qJ,wA,wB,wC,wD,qT,wE,qK,qU,qV,qW,wF,wG,wH,qX,wI,wJ,wK,qY,qZ,wL,wM,wN,wO,wP,wQ,wR,qL,wS,wn,wT,wU,wV,wo,wW,qa,qb,wX,qd,qf,qg,qM,qh,qN,wY,qi,wq,wr,qj,wZ,wa,wb,wc,wd,we,wt,wu,wv,ww,↓wf,↓wg,zN,zO,zP,zQ,zR,zS,zT,qk,qm,wj,wx,qp,qq,qC,qO,qr,qu,qv,qw,bD,bC,bO,wy,wz,zA,zB,zC,zD,zE,zU,zV,zW,zX,zY,zZ,wk,wl,wm,if_true,zF,zG,zb,if_false,qD,qx,qP,qE,qA,qB,qy,zH,zI,zJ,zK,zL,zM,bL,bM,$xs,*])
theorem Aa {n:Nat} (lv:List Nat) (bs:List Meet):aA tab aH (n+1) jR [eB lv bs]=.ok (.int (min 3 lv.length:Nat)):=by
 rw [aW yU rfl]
 delta gO;simpa only []
 congr 2
 split <;> omega
theorem JT {n:Nat}{lv:List Nat}{bs:List Meet} (h:WB lv bs) {k:Nat} (h1:1≤k) (h3:k≤3) (hk:k≤lv.length):aA tab aH (n+6) cT [eB lv bs,.int k]=.ok .non:=by
 rw [aW nC rfl]
 delta cV;simpa only [CJ h,Aa,mO,decide_eq_true (show (1:Int)≤k by omega),decide_eq_true (show (k:Int)≤(min 3 lv.length:Nat) by omega),Bool.and_self]
theorem Iv {n:Nat} (p:Nat × Nat) (m:Meet):aA tab aH (n+1) pP [eP p,eM m]=.ok (.bl (behind m p)):=by
 rw [aW Jy rfl]
 delta kW;simpa only []
 cases e:m.getLast? with
 | none =>
  rw [List.getLast?_eq_none_iff] at e
  subst e
  simp [behind,uy]
 | some q =>
  have hm:m≠[]:=fun z=>by subst z;simp at e
  have hl:¬ ((m.length:Int)=0):=fun z=>hm (List.length_eq_zero_iff.mp (by omega))
  simpa only [decide_eq_false hl,show (-(1:Int))=-1 from rfl,UL e]
  unfold behind
  rw [e]
  simp only [bD]
  congr 2
  by_cases h:q.1 < p.1
  ·rw [decide_eq_true h,decide_eq_true (by omega)]
  ·rw [decide_eq_false h,decide_eq_false (by omega)]
theorem yL {n:Nat}{ps:List (Nat × Nat)}{k:Nat} (hk:k≤3) (hps:ps.length≤16):aA tab aH (n+2) jk [.lst (ps.map eP),.int k]=.ok (.lst ((among ps k).map eM)):=by
 have hlim:lim=100000:=rfl
 have hpow:∀ j,j≤3→ps.length ^ j≤4096:=fun j hj=>by
  have h1:ps.length ^ j≤16 ^ j:=Nat.pow_le_pow_left hps j
  have h2:16 ^ j≤16 ^ 3:=Nat.pow_le_pow_right (by omega) hj
  have h3:(16:Nat) ^ 3=4096:=by decide
  omega
 rw [aW yR rfl]
 delta gw;simpa only [if_pos (show 0≤lim from Nat.zero_le _),if_pos (show 0+1≤lim by decide),gn k (show k≤lim by omega)]
 rw [bind_eq (a:=.nx [some (.lst (ps.map eP)),some (.int (k:Int)),some (.lst ((among ps k).map eM)),none,none,none,none])]
 ·simpa only []
 ·refine (bQ eN (fun j:Nat=>[some (.lst (ps.map eP)),some (.int (k:Int)),some (.lst ((among ps j).map eM)),none,none,none,none]) (fun j _=>j+1) (fun j rest=>j+rest.length=k) (fun j s rest hj=>?_) (List.range k) 0 (by simp)).trans ?_
  ·simp only [List.length_cons] at hj
   refine ⟨by omega,?_⟩
   simpa only [if_pos (show 0≤lim from Nat.zero_le _)]
   have hla:=lO ps (j+1)
   have hp1:=hpow (j+1) (by omega)
   have hp0:=hpow j (by omega)
   have hla0:=lO ps j
   rw [bind_eq (a:=.nx [some (.lst (ps.map eP)),some (.int (k:Int)),some (.lst ((among ps j).map eM)),some (.int (s:Int)),some (.lst ((among ps (j+1)).map eM)),none,none])]
   ·simpa only []
    exact ⟨_,rfl,by simp [aJ]⟩
   ·refine cP eM (fun acc:List Meet=>[some (.lst (ps.map eP)),some (.int (k:Int)),some (.lst ((among ps j).map eM)),some (.int (s:Int)),some (.lst (acc.map eM)),none,none]) (fun m=>(ps.filter (behind m)).map fun p=>m++[p]) lim (among ps j) (fun acc m hm hB=>?_) [] (by
      show 0+(among ps (j+1)).length≤lim
      omega)
    simpa only []
    rw [bind_eq (a:=((ps.filter (behind m)).map fun p=>m++[p]).map eM)]
    ·have:(ps.filter (behind m)).length≤lim:=by
      have:=List.length_filter_le (behind m) ps
      omega
     simpa only [List.length_map,if_pos this]
     rw [bind_eq (Uq (enc:=eM) hB)]
     exact ⟨_,rfl,by simp [aJ]⟩
    ·rw [List.map_map]
     refine bY ps fun p hp=>?_
     have hml:m.length < lim:=by
      have:=(lM.mp hm).1
      omega
     simpa only [Iv,Nq hml,if_pos (show 0+1≤lim by decide)]
     cases behind m p <;> simp [qQ,qR,qz,qS,qF,qG,qH,qI,qJ,wA,wB,wC,wD,qT,wE,qK,qU,qV,qW,wF,wG,wH,qX,wI,wJ,wK,qY,qZ,wL,wM,wN,wO,wP,wQ,wR,qL,wS,wn,wT,wU,wV,wo,wW,qa,qb,wX,qd,qf,qg,qM,qh,qN,wY,qi,wq,wr,qj,wZ,wa,wb,wc,wd,we,wt,wu,wv,ww,↓wf,↓wg,zN,zO,zP,zQ,zR,zS,zT,qk,qm,wj,wx,qp,qq,qC,qO,qr,qu,qv,qw,bD,bC,bO,wy,wz,zA,zB,zC,zD,zE,zU,zV,zW,zX,zY,zZ,wk,wl,wm,if_true,zF,zG,zb,if_false,qD,qx,qP,qE,qA,qB,qy,zH,zI,zJ,zK,zL,zM,bL,bM]
  ·have e:∀ (l:List Nat) (a:Nat),l.foldl (fun j _=>j+1) a=a+l.length:=by
    intro l
    induction l with
    | nil=>simp
    | cons x l ih=>intro a;simp [ih];omega
   rw [e,List.length_range,Nat.zero_add]
end E05
namespace E05
open PySem L2 Mi
local macro_rules | `(tactic| simpa only [$xs,*])=>`(tactic| simp only [qQ,qR,qz,qS,qF,qG,qH,qI,qJ,wA,wB,wC,wD,qT,wE,qK,qU,qV,qW,wF,wG,wH,qX,wI,wJ,wK,qY,qZ,wL,wM,wN,wO,wP,wQ,wR,qL,wS,wn,wT,wU,wV,wo,wW,qa,qb,wX,qd,qf,qg,qM,qh,qN,wY,qi,wq,wr,qj,wZ,wa,wb,wc,wd,we,wt,wu,wv,ww,↓wf,↓wg,zN,zO,zP,zQ,zR,zS,zT,qk,qm,wj,wx,qp,qq,qC,qO,qr,qu,qv,qw,bD,bC,bO,wy,wz,zA,zB,zC,zD,zE,zU,zV,zW,zX,zY,zZ,wk,wl,wm,if_true,zF,zG,zb,if_false,qD,qx,qP,qE,qA,qB,qy,zH,zI,zJ,zK,zL,zM,bL,bM,$xs,*])
noncomputable def oJ (ts:List (List Nat)) (k:Nat):List Meet:=(ts.flatMap fun t=>among (aR 0 t) k).foldl cQ []
theorem Dg {ts:List (List Nat)}{k:Nat}{m:Meet}:m∈oJ ts k↔m.length=k∧fj m∧∃ t∈ts,aM t m=true:=by
 unfold oJ
 rw [pA]
 simp only [List.not_mem_nil,false_or,List.mem_flatMap,dZ]
 constructor
 ·rintro ⟨t,ht,h1,h2,h3⟩;exact ⟨h1,h2,t,ht,h3⟩
 ·rintro ⟨h1,h2,t,ht,h3⟩;exact ⟨t,ht,h1,h2,h3⟩
theorem Jg (ts:List (List Nat)) (k:Nat):(oJ ts k).Nodup:=pL List.nodup_nil
theorem ji {n:Nat}{t:List Nat}{k:Nat} (hk:k≤3) (hle:(aR 0 t).length≤16):aA tab aH (n+3) fB [aq t,.int k]=.ok (.lst ((among (aR 0 t) k).map eM)):=by
 rw [aW Dw rfl]
 delta jg;simpa only [yL hk hle]
theorem Gy {n:Nat}{ts:List (List Nat)}{k:Nat} (hk:k≤3) (ht:∀ t∈ts,t.length≤6) (hts:ts.length≤400):aA tab aH (n+4) tR [.lst (ts.map aq),.int k]=.ok (eK (oJ ts k)):=by
 have hlim:lim=100000:=rfl
 have ham:∀ t∈ts,(among (aR 0 t) k).length≤216:=fun t h=>by
  have h1:=lO (aR 0 t) k
  rw [dX] at h1
  have h2:t.length ^ k≤6 ^ k:=Nat.pow_le_pow_left (ht t h) k
  have h3:6 ^ k≤6 ^ 3:=Nat.pow_le_pow_right (by omega) hk
  have h4:(6:Nat) ^ 3=216:=by decide
  omega
 rw [aW S6 rfl]
 delta tK;simpa only []
 rw [bind_eq (a:=.nx [some (.lst (ts.map aq)),some (.int (k:Int)),some (eK (oJ ts k)),none,none])]
 ·simpa only []
 ·refine (bQ aq (fun ks:List Meet=>[some (.lst (ts.map aq)),some (.int (k:Int)),some (eK ks),none,none]) (fun ks t=>(among (aR 0 t) k).foldl cQ ks) (fun ks rest=>(∀ t∈rest,t∈ts)∧ks.length+rest.length * 216≤86400) (fun ks t rest hp=>?_) ts [] ⟨fun _ h=>h,by simp only [List.length_nil];omega⟩).trans ?_
  ·obtain ⟨hin,hsz⟩:=hp
   have htm:=hin t List.mem_cons_self
   have hat:=ham t htm
   have hfl:=lW (among (aR 0 t) k) ks
   simp only [List.length_cons,Nat.succ_mul] at hsz
   refine ⟨⟨fun x hx=>hin x (List.mem_cons_of_mem _ hx),by omega⟩,?_⟩
   have hle:(aR 0 t).length≤16:=by rw [dX];have:=ht t htm;omega
   simpa only [ji hk hle]
   rw [bind_eq (a:=.nx [some (.lst (ts.map aq)),some (.int (k:Int)),some (eK ((among (aR 0 t) k).foldl cQ ks)),some (aq t),none])]
   ·exact ⟨_,rfl,by simp [aJ]⟩
   ·refine bQ eM (fun ks:List Meet=>[some (.lst (ts.map aq)),some (.int (k:Int)),some (eK ks),some (aq t),none]) cQ (fun ks rest=>ks.length+rest.length≤90000) (fun ks m rest hp=>?_) (among (aR 0 t) k) ks (by omega)
    simp only [List.length_cons] at hp
    have:=yG ks m
    refine ⟨by omega,?_⟩
    simpa only []
    rw [bind_eq (Qf ks m (by omega))]
    exact ⟨_,rfl,by simp [aJ]⟩
  ·unfold oJ
   rw [List.foldl_flatMap]
theorem pI {lv:List Nat}{bs:List Meet} (h:WB lv bs):(tests lv bs).length≤36:=by
 have f:=j5 lv h.mem
 have h1:=List.length_filter_le (mY bs) (rows lv)
 rw [tE] at h1
 unfold tests
 omega
theorem lQ {lv:List Nat}{bs:List Meet}{t:List Nat} (ht:t∈tests lv bs):fM lv t:=j7.mp (List.mem_filter.mp ht).1
theorem kZ {lv:List Nat}{bs:List Meet} (h:WB lv bs):∀ t∈tests lv bs,t.length≤6:=fun t ht=>by
 rw [(lQ ht).len]
 have:=h.four
 omega
theorem oZ {lv:List Nat}{bs:List Meet}{k:Nat}{m:Meet}:m∈bR lv bs k↔m.length=k∧fj m∧∃ t∈tests lv bs,aM t m=true:=by
 unfold bR
 rw [List.mem_filter,nR,List.any_eq_true]
 constructor
 ·rintro ⟨⟨h1,h2⟩,h3⟩;exact ⟨h1,h2.1,h3⟩
 ·rintro ⟨h1,h2,t,ht,h3⟩;exact ⟨⟨h1,GK (lQ ht) h2 h3⟩,t,ht,h3⟩
theorem tQ {lv:List Nat}{bs:List Meet} (h:WB lv bs) {k:Nat} (h1:1≤k) (h3:k≤3):(allM lv k).length < 64:=by
 have f:=j5 lv h.mem
 have:k=1∨k=2∨k=3:=by omega
 rcases this with rfl | rfl | rfl
 ·exact f.2.2.1
 ·exact f.2.2.2.1
 ·exact f.2.2.2.2
theorem Kq {lv:List Nat}{k:Nat} (h1:1≤k):∀ m∈allM lv k,m≠[]:=fun m hm z=>by
 have:=(nR.mp hm).1
 subst z
 simp at this
 omega
end E05
namespace E05
open PySem L2 Mi
local macro_rules | `(tactic| simpa only [$xs,*])=>`(tactic| simp only [qQ,qR,qz,qS,qF,qG,qH,qI,qJ,wA,wB,wC,wD,qT,wE,qK,qU,qV,qW,wF,wG,wH,qX,wI,wJ,wK,qY,qZ,wL,wM,wN,wO,wP,wQ,wR,qL,wS,wn,wT,wU,wV,wo,wW,qa,qb,wX,qd,qf,qg,qM,qh,qN,wY,qi,wq,wr,qj,wZ,wa,wb,wc,wd,we,wt,wu,wv,ww,↓wf,↓wg,zN,zO,zP,zQ,zR,zS,zT,qk,qm,wj,wx,qp,qq,qC,qO,qr,qu,qv,qw,bD,bC,bO,wy,wz,zA,zB,zC,zD,zE,zU,zV,zW,zX,zY,zZ,wk,wl,wm,if_true,zF,zG,zb,if_false,qD,qx,qP,qE,qA,qB,qy,zH,zI,zJ,zK,zL,zM,bL,bM,$xs,*])
theorem Kz {n:Nat}{lv:List Nat}{bs:List Meet} (h:WB lv bs) {k:Nat} (h1:1≤k) (h3:k≤3) (hk:k≤lv.length):aA tab aH (n+7) sW [eB lv bs,.int k]=.ok (.lst ((bR lv bs k).map eM)):=by
 have hl:=pI h
 have ha:=tQ h h1 h3
 rw [aW KD rfl]
 have hsort:nH (eK (oJ (tests lv bs) k))=.ok (.lst ((bR lv bs k).map eM)):=by
  refine HX (Jg _ _) ((xr lv k).filter _) (fun m=>?_) ?_ fun m hm=>Kq h1 m (List.mem_filter.mp hm).1
  ·rw [Dg,oZ]
  ·have:=List.length_filter_le (fun m=>(tests lv bs).any fun t=>aM t m) (allM lv k)
   unfold bR
   omega
 delta mR;simpa only [JT h h1 h3 hk,Jm h,Gy h3 (kZ h) (show (tests lv bs).length≤400 by omega),hsort]
end E05
namespace E05
open PySem L2 Mi
local macro_rules | `(tactic| simpa only [$xs,*])=>`(tactic| simp only [qQ,qR,qz,qS,qF,qG,qH,qI,qJ,wA,wB,wC,wD,qT,wE,qK,qU,qV,qW,wF,wG,wH,qX,wI,wJ,wK,qY,qZ,wL,wM,wN,wO,wP,wQ,wR,qL,wS,wn,wT,wU,wV,wo,wW,qa,qb,wX,qd,qf,qg,qM,qh,qN,wY,qi,wq,wr,qj,wZ,wa,wb,wc,wd,we,wt,wu,wv,ww,↓wf,↓wg,zN,zO,zP,zQ,zR,zS,zT,qk,qm,wj,wx,qp,qq,qC,qO,qr,qu,qv,qw,bD,bC,bO,wy,wz,zA,zB,zC,zD,zE,zU,zV,zW,zX,zY,zZ,wk,wl,wm,if_true,zF,zG,zb,if_false,qD,qx,qP,qE,qA,qB,qy,zH,zI,zJ,zK,zL,zM,bL,bM,$xs,*])
noncomputable def bG (ns:List Int) (k:Nat):Int:=ns.getD k 0
theorem oh {n:Nat} (ns:List Int) (k:Nat):aA tab aH (n+1) dj [.lst (ns.map D.int),.int k]=.ok (.int (bG ns k)):=by
 rw [aW Ip rfl]
 delta lB;simpa only []
 unfold bG
 by_cases h:k < ns.length
 ·have e:ns[k]?=some ns[k]:=List.getElem?_eq_getElem h
  simpa only [decide_eq_true (show (k:Int) < ns.length by omega),Mq (enc:=D.int) e,List.getD,e,Option.getD]
 ·simpa only [decide_eq_false (show ¬ ((k:Int) < ns.length) by omega),List.getD,List.getElem?_eq_none (Nat.le_of_not_lt h),Option.getD]
noncomputable def cA (c p m:Int):Nat:=(c * 48271 % p % m).toNat
theorem Dh {c p m:Int} (hm:0 < m):((cA c p m:Nat):Int)=c * 48271 % p % m:=Int.toNat_of_nonneg (Int.emod_nonneg _ (by omega))
theorem ju {c p m:Int} (hm:0 < m):((cA c p m:Nat):Int) < m:=by rw [Dh hm];exact Int.emod_lt_of_pos _ hm
theorem lF {n:Nat}{c p m:Int} (hp:0 < p) (hm:0 < m):aA tab aH (n+1) dF [.int c,.int p,.int m]=.ok (.int (cA c p m:Nat)):=by
 rw [aW Lx rfl]
 have e:jm .mul (.int c) (.int 48271)=.ok (.int (c * 48271)):=Eu (.inr rfl)
 delta ni;simpa only [e,KQ hp,KQ hm,Dh hm]
noncomputable def aY (ns:List Int) (a:Nat):Nat:=1+cA (bG ns a) 9973 4
noncomputable def jd (k:Nat):Nat:=if k < 2 then 3 else 2
noncomputable def cM (ns:List Int) (a k:Nat):Nat:=1+cA (bG ns (a+1)+31 * (k:Int) * (k:Int)+(k:Int)) 9967 (jd k:Nat)
noncomputable def fY (ns:List Int) (a:Nat):List Nat:=(List.range (aY ns a)).map (cM ns a)
noncomputable def dN (ns:List Int) (a k:Nat):Int:=bG ns (a+2)+53 * (k:Int) * (k:Int)+7 * (k:Int)
noncomputable def drawn (ns:List Int) (a k:Nat):List Nat:=((List.range (aY ns a)).filter fun (x:Nat)=>decide (cA (dN ns a k+17 * (x:Int)) 9941 2=1)).take 3
noncomputable def dh (ns:List Int) (a k:Nat):List Nat:=if (drawn ns a k).isEmpty then [cA (dN ns a k) 9931 (aY ns a:Nat)] else drawn ns a k
noncomputable def eU (ns:List Int) (a k:Nat):Meet:=(dh ns a k).map fun (x:Nat)=>(x,cA (dN ns a k+5 * (x:Int)) 9929 ((fY ns a).getD x 1:Nat))
noncomputable def lR (ns:List Int) (a:Nat):List Meet:=(List.range (cA (bG ns a) 9949 4)).map (eU ns a)
theorem yP (ns:List Int) (a:Nat):1≤aY ns a∧aY ns a≤4:=by
 have:=ju (c:=bG ns a) (p:=9973) (m:=4) (by decide)
 unfold aY
 omega
theorem SM (k:Nat):0 < ((jd k:Nat):Int):=by unfold jd;split <;> decide
theorem n6 (ns:List Int) (a k:Nat):1≤cM ns a k∧cM ns a k≤jd k:=by
 have:=ju (c:=bG ns (a+1)+31 * (k:Int) * (k:Int)+(k:Int)) (p:=9967) (SM k)
 unfold cM
 omega
theorem Qu (ns:List Int) (a:Nat):(fY ns a).length=aY ns a:=by simp [fY]
theorem Qq {ns:List Int}{a i l:Nat} (h:(fY ns a)[i]?=some l):l=cM ns a i∧i < aY ns a:=by
 unfold fY at h
 rw [List.getElem?_map] at h
 cases e:(List.range (aY ns a))[i]? with
 | none=>rw [e] at h;cases h
 | some j =>
  rw [e] at h
  obtain ⟨h1,h2⟩:=List.getElem?_eq_some_iff.mp e
  simp at h1 h2
  subst h2
  cases h
  exact ⟨rfl,h1⟩
theorem vO {ns:List Int}{a i:Nat} (h:i < aY ns a):(fY ns a)[i]?=some (cM ns a i):=by
 unfold fY
 rw [List.getElem?_map,List.getElem?_range h]
 rfl
theorem N5 {ns:List Int}{a k:Nat}:∀ x∈drawn ns a k,x < aY ns a:=fun x hx=>by
 unfold drawn at hx
 have:=List.mem_of_mem_take hx
 exact List.mem_range.mp (List.mem_filter.mp this).1
theorem lN (ns:List Int) (a k:Nat):(dh ns a k).Pairwise (· < ·)∧(∀ x∈dh ns a k,x < aY ns a)∧1≤(dh ns a k).length∧(dh ns a k).length≤3:=by
 have hm:=yP ns a
 unfold dh
 split
 ·have:=ju (c:=dN ns a k) (p:=9931) (m:=(aY ns a:Nat)) (by omega)
  refine ⟨by simp,fun x hx=>?_,by simp,by simp⟩
  rw [List.mem_singleton.mp hx]
  omega
 ·rename_i h
  refine ⟨?_,N5,?_,?_⟩
  ·unfold drawn
   exact ((List.pairwise_lt_range.filter _).sublist (List.take_sublist _ _))
  ·cases e:drawn ns a k with
   | nil=>rw [e] at h;simp at h
   | cons _ _=>simp
  ·unfold drawn
   rw [List.length_take]
   omega
theorem Wq (ns:List Int) (a:Nat):WB (fY ns a) (lR ns a):=by
 have hm:=yP ns a
 refine ⟨by rw [Qu];omega,by rw [Qu];omega,fun i l h=>?_,fun i l h h2=>?_,?_,fun b hb=>?_⟩
 ·obtain ⟨rfl,_⟩:=Qq h
  have:=n6 ns a i
  have h3:jd i≤3:=by unfold jd;split <;> decide
  omega
 ·obtain ⟨rfl,_⟩:=Qq h
  have:=n6 ns a i
  have h3:jd i=2:=by unfold jd;rw [if_neg (by omega)]
  omega
 ·have:=ju (c:=bG ns a) (p:=9949) (m:=4) (by decide)
  unfold lR
  rw [List.length_map,List.length_range]
  omega
 ·unfold lR at hb
  obtain ⟨k,_,rfl⟩:=List.mem_map.mp hb
  obtain ⟨t1,t2,t3,t4⟩:=lN ns a k
  refine ⟨⟨?_,fun p hp=>?_⟩,?_,?_⟩
  ·unfold eU fj
   exact List.pairwise_map.mpr t1
  ·unfold eU at hp
   obtain ⟨x,hx,rfl⟩:=List.mem_map.mp hp
   have hx':=t2 x hx
   refine ⟨cM ns a x,vO hx',?_⟩
   have e:(fY ns a).getD x 1=cM ns a x:=by simp [List.getD,vO hx']
   simp only [e]
   have hl:=n6 ns a x
   have:=ju (c:=dN ns a k+5 * (x:Int)) (p:=9929) (m:=(cM ns a x:Nat)) (by omega)
   omega
  ·unfold eU;rw [List.length_map];exact t3
  ·unfold eU;rw [List.length_map];exact t4
theorem one_add (x:Nat):(1:Int)+(x:Int)=((1+x:Nat):Int):=by omega
theorem aaB (ds:List D):cutD ds none (some 3)=ds.take 3:=by
 unfold cutD
 rw [HT.RP]
 have e:HT.sIx ds.length ds.length (some 3)=min 3 ds.length:=HT.V7 ds.length ds.length 3
 rw [e,Nat.sub_zero,List.drop_zero]
 by_cases h:3≤ds.length
 ·rw [Nat.min_eq_left h]
 ·rw [Nat.min_eq_right (by omega),List.take_of_length_le (by omega),List.take_of_length_le (by omega)]
theorem FT (x:Nat) (h:x≤1000):jN (x:Int)=true:=Nat.ble_eq_true_of_le (by omega)
theorem sS {c:Nat} (h:c≤1000) (x:Int):jm .mul (.int (c:Int)) (.int x)=.ok (.int ((c:Int) * x)):=Eu (.inl (FT c h))
theorem mul_k {k:Nat} (h:k≤1000) (x:Int):jm .mul (.int x) (.int (k:Int))=.ok (.int (x * (k:Int))):=Eu (.inr (FT k h))
theorem Y6 {n:Nat}{ns:List Int} (hns:ns.length≤63) (a:Nat):aA tab aH (n+2) kE [.lst (ns.map D.int),.int a]=.ok (eB (fY ns a) (lR ns a)):=by
 have hm:=yP ns a
 have hlim:lim=100000:=rfl
 have hbn:=ju (c:=bG ns a) (p:=9949) (m:=4) (by decide)
 rw [aW Jq rfl]
 have ea:∀ j:Nat,(a:Int)+(j:Int)=((a+j:Nat):Int):=fun j=>by omega
 have ea1:(a:Int)+1=((a+1:Nat):Int):=by omega
 have ea2:(a:Int)+2=((a+2:Nat):Int):=by omega
 have em:(1:Int)+(cA (bG ns a) 9973 4:Nat)=((aY ns a:Nat):Int):=by unfold aY;omega
 delta lE;simpa only [oh,lF (show (0:Int) < 9973 by decide) (show (0:Int) < 4 by decide),em,if_pos (show 0≤lim from Nat.zero_le _),gn (aY ns a) (show aY ns a≤lim by omega)]
 rw [bind_eq (a:=.nx [some (.lst (ns.map D.int)),some (.int (a:Int)),some (.int (bG ns a)),some (.int (aY ns a:Nat)),some (.lst ((fY ns a).map eN)),none,none,none,none,none,none])]
 ·simpa only [lF (show (0:Int) < 9949 by decide) (show (0:Int) < 4 by decide),if_pos (show 0≤lim from Nat.zero_le _),gn (cA (bG ns a) 9949 4) (show cA (bG ns a) 9949 4≤lim by omega)]
  rw [bind_eq (a:=.nx [some (.lst (ns.map D.int)),some (.int (a:Int)),some (.int (bG ns a)),some (.int (aY ns a:Nat)),some (.lst ((fY ns a).map eN)),none,some (.lst ((lR ns a).map eM)),none,none,none,none])]
  ·simpa only [if_pos (show 0+1+1≤lim by decide)]
   rfl
  ·refine (cP eN (fun acc:List Meet=>[some (.lst (ns.map D.int)),some (.int (a:Int)),some (.int (bG ns a)),some (.int (aY ns a:Nat)),some (.lst ((fY ns a).map eN)),none,some (.lst (acc.map eM)),none,none,none,none]) (fun k=>[eU ns a k]) lim (List.range (cA (bG ns a) 9949 4)) (fun acc k hk hB=>?_) [] ?_).trans ?_
   ·have hk':=List.mem_range.mp hk
    have m53:=sS (show 53≤1000 by decide) (k:Int)
    have m53k:=mul_k (show k≤1000 by omega) (((53:Nat):Int) * (k:Int))
    have m7:=sS (show 7≤1000 by decide) (k:Int)
    have es:bG ns (a+2)+((53:Nat):Int) * (k:Int) * (k:Int)+((7:Nat):Int) * (k:Int)=dN ns a k:=rfl
    simp only [show ((53:Nat):Int)=53 from rfl,show ((7:Nat):Int)=7 from rfl] at m53 m53k m7 es
    simpa only [ea2,oh,m53,m53k,m7,es,if_pos (show 0≤lim from Nat.zero_le _),gn (aY ns a) (show aY ns a≤lim by omega)]
    rw [bind_eq (a:=((List.range (aY ns a)).filter fun (x:Nat)=>decide (cA (dN ns a k+17 * (x:Int)) 9941 2=1)).map eN)]
    ·have hfl:=List.length_filter_le (fun x:Nat=>decide (cA (dN ns a k+17 * (x:Int)) 9941 2=1)) (List.range (aY ns a))
     rw [List.length_range] at hfl
     have hfl2:((List.range (aY ns a)).filter fun (x:Nat)=>decide (cA (dN ns a k+17 * (x:Int)) 9941 2=1)).length≤lim:=by omega
     have ed:(((List.range (aY ns a)).filter fun (x:Nat)=>decide (cA (dN ns a k+17 * (x:Int)) 9941 2=1)).map eN).take 3=(drawn ns a k).map eN:=by unfold drawn;rw [List.map_take]
     simpa only [List.length_map,if_pos hfl2,slD,aaB,ed,vU.cmpEq0]
     have hal:acc.length < lim:=by simp only [List.length_singleton] at hB;omega
     by_cases hd:(drawn ns a k).isEmpty=true
     ·have et:dh ns a k=[cA (dN ns a k) 9931 (aY ns a:Nat)]:=if_pos hd
      simpa only [hd,lF (show (0:Int) < 9931 by decide) (show (0:Int) < (aY ns a:Nat) by omega),if_pos (show 0+1≤lim by decide)]
      rw [show ([D.int ((cA (dN ns a k) 9931 (aY ns a:Nat):Nat):Int)]:List D)=(dh ns a k).map eN by rw [et];rfl]
      rw [bind_eq (a:=(eU ns a k).map eP)]
      ·have hbl:(eU ns a k).length≤lim:=by
        have:=(lN ns a k).2.2.2
        unfold eU
        rw [List.length_map]
        omega
       simpa only [List.length_map,if_pos hbl]
       rw [bind_eq (show yh (.lst (acc.map eM)) (.tup ((eU ns a k).map eP))=_ from lD (enc:=eM) (a:=eU ns a k) hal)]
       exact ⟨_,rfl,by simp [aJ]⟩
      ·rw [show eU ns a k=(dh ns a k).map fun (x:Nat)=>(x,cA (dN ns a k+5 * (x:Int)) 9929 ((fY ns a).getD x 1:Nat)) from rfl,List.map_map]
       refine dD (dh ns a k) fun x hx=>?_
       have hx':=(lN ns a k).2.1 x hx
       have m5:=sS (show 5≤1000 by decide) (x:Int)
       simp only [show ((5:Nat):Int)=5 from rfl] at m5
       have eg:(fY ns a).getD x 1=cM ns a x:=by simp [List.getD,vO hx']
       have hlp:=n6 ns a x
       simpa only [m5,Mq (enc:=eN) (vO hx'),lF (show (0:Int) < 9929 by decide) (show (0:Int) < (cM ns a x:Nat) by omega),if_pos (show 0+1+1≤lim by decide)]
       simp only [Function.comp,eg,eP]
     ·have et:dh ns a k=drawn ns a k:=if_neg hd
      simpa only [eq_false_of_ne_true hd]
      rw [← et]
      rw [bind_eq (a:=(eU ns a k).map eP)]
      ·have hbl:(eU ns a k).length≤lim:=by
        have:=(lN ns a k).2.2.2
        unfold eU
        rw [List.length_map]
        omega
       simpa only [List.length_map,if_pos hbl]
       rw [bind_eq (show yh (.lst (acc.map eM)) (.tup ((eU ns a k).map eP))=_ from lD (enc:=eM) (a:=eU ns a k) hal)]
       exact ⟨_,rfl,by simp [aJ]⟩
      ·rw [show eU ns a k=(dh ns a k).map fun (x:Nat)=>(x,cA (dN ns a k+5 * (x:Int)) 9929 ((fY ns a).getD x 1:Nat)) from rfl,List.map_map]
       refine dD (dh ns a k) fun x hx=>?_
       have hx':=(lN ns a k).2.1 x hx
       have m5:=sS (show 5≤1000 by decide) (x:Int)
       simp only [show ((5:Nat):Int)=5 from rfl] at m5
       have eg:(fY ns a).getD x 1=cM ns a x:=by simp [List.getD,vO hx']
       have hlp:=n6 ns a x
       simpa only [m5,Mq (enc:=eN) (vO hx'),lF (show (0:Int) < 9929 by decide) (show (0:Int) < (cM ns a x:Nat) by omega),if_pos (show 0+1+1≤lim by decide)]
       simp only [Function.comp,eg,eP]
    ·refine bY (List.range (aY ns a)) fun x hx=>?_
     have m17:=sS (show 17≤1000 by decide) (x:Int)
     simp only [show ((17:Nat):Int)=17 from rfl] at m17
     simpa only [m17,lF (show (0:Int) < 9941 by decide) (show (0:Int) < 2 by decide)]
     have e1:decide (((cA (dN ns a k+17 * (x:Int)) 9941 2:Nat):Int)=1)=decide (cA (dN ns a k+17 * (x:Int)) 9941 2=1):=nM _ 1
     rw [e1]
     by_cases hh:cA (dN ns a k+17 * (x:Int)) 9941 2=1 <;> simp [hh,qQ,qR,qz,qS,qF,qG,qH,qI,qJ,wA,wB,wC,wD,qT,wE,qK,qU,qV,qW,wF,wG,wH,qX,wI,wJ,wK,qY,qZ,wL,wM,wN,wO,wP,wQ,wR,qL,wS,wn,wT,wU,wV,wo,wW,qa,qb,wX,qd,qf,qg,qM,qh,qN,wY,qi,wq,wr,qj,wZ,wa,wb,wc,wd,we,wt,wu,wv,ww,↓wf,↓wg,zN,zO,zP,zQ,zR,zS,zT,qk,qm,wj,wx,qp,qq,qC,qO,qr,qu,qv,qw,bD,bC,bO,wy,wz,zA,zB,zC,zD,zE,zU,zV,zW,zX,zY,zZ,wk,wl,wm,if_true,zF,zG,zb,if_false,qD,qx,qP,qE,qA,qB,qy,zH,zI,zJ,zK,zL,zM,bL,bM]
   ·rw [dY,List.length_nil,List.length_map,List.length_range]
    omega
   ·rw [dY]
    rfl
 ·refine (cP eN (fun acc:List Nat=>[some (.lst (ns.map D.int)),some (.int (a:Int)),some (.int (bG ns a)),some (.int (aY ns a:Nat)),some (.lst (acc.map eN)),none,none,none,none,none,none]) (fun k=>[cM ns a k]) lim (List.range (aY ns a)) (fun acc k hk hB=>?_) [] ?_).trans ?_
  ·have hk':=List.mem_range.mp hk
   have m31:=sS (show 31≤1000 by decide) (k:Int)
   have m31k:=mul_k (show k≤1000 by omega) (((31:Nat):Int) * (k:Int))
   simp only [show ((31:Nat):Int)=31 from rfl] at m31 m31k
   have hal:acc.length < lim:=by simp only [List.length_singleton] at hB;omega
   have h63:decide ((63:Int) < (ns.length:Int))=false:=decide_eq_false (by omega)
   by_cases h2:k < 2
   ·have e3:jd k=3:=if_pos h2
    have el:cM ns a k=1+cA (bG ns (a+1)+31 * (k:Int) * (k:Int)+(k:Int)) 9967 3:=by unfold cM;rw [e3];rfl
    simpa only [decide_eq_true (show (k:Int) < 2 by omega),ea1,oh,m31,m31k,lF (show (0:Int) < 9967 by decide) (show (0:Int) < 3 by decide),one_add,← el]
    rw [bind_eq (lD (enc:=eN) hal)]
    exact ⟨_,rfl,by simp [aJ]⟩
   ·have e3:jd k=2:=if_neg h2
    have el:cM ns a k=1+cA (bG ns (a+1)+31 * (k:Int) * (k:Int)+(k:Int)) 9967 2:=by unfold cM;rw [e3];rfl
    simpa only [decide_eq_false (show ¬ ((k:Int) < 2) by omega),h63,ea1,oh,m31,m31k,lF (show (0:Int) < 9967 by decide) (show (0:Int) < 2 by decide),one_add,← el]
    rw [bind_eq (lD (enc:=eN) hal)]
    exact ⟨_,rfl,by simp [aJ]⟩
  ·rw [dY,List.length_nil,List.length_map,List.length_range]
   omega
  ·rw [dY]
   rfl
end E05
namespace E05
open PySem L2 Mi
local macro_rules | `(tactic| simpa only [$xs,*])=>`(tactic| simp only [qQ,qR,qz,qS,qF,qG,qH,qI,qJ,wA,wB,wC,wD,qT,wE,qK,qU,qV,qW,wF,wG,wH,qX,wI,wJ,wK,qY,qZ,wL,wM,wN,wO,wP,wQ,wR,qL,wS,wn,wT,wU,wV,wo,wW,qa,qb,wX,qd,qf,qg,qM,qh,qN,wY,qi,wq,wr,qj,wZ,wa,wb,wc,wd,we,wt,wu,wv,ww,↓wf,↓wg,zN,zO,zP,zQ,zR,zS,zT,qk,qm,wj,wx,qp,qq,qC,qO,qr,qu,qv,qw,bD,bC,bO,wy,wz,zA,zB,zC,zD,zE,zU,zV,zW,zX,zY,zZ,wk,wl,wm,if_true,zF,zG,zb,if_false,qD,qx,qP,qE,qA,qB,qy,zH,zI,zJ,zK,zL,zM,bL,bM,$xs,*])
theorem JM {n:Nat}{lv:List Nat} (h1:∀ l∈lv,1≤l) (hp:prod lv≤lim) (hlen:lv.length≤lim) (hl:∀ l∈lv,l≤lim):aA tab aH (n+1) kI [aq lv]=.ok (.lst ((rows lv).map aq)):=by
 rw [aW Ja rfl]
 delta kY;simpa only [if_pos (show 0≤lim from Nat.zero_le _),if_pos (show 0+1≤lim by decide)]
 rw [bind_eq (a:=.nx [some (aq lv),some (.lst ((rows lv).map aq)),none,none,none,none])]
 ·simpa only []
 ·refine bQ eN (fun rs:List (List Nat)=>[some (aq lv),some (.lst (rs.map aq)),none,none,none,none]) bW (fun rs rest=>rH lv rs rest∧∀ l∈rest,l≤lim) (fun rs l rest hi=>?_) lv [[]] ⟨⟨rfl,by simp,h1⟩,hl⟩
  obtain ⟨hi,hll⟩:=hi
  obtain ⟨hs,hsz⟩:=hi.step
  have hrl:∀ r∈rs,r.length < lim:=fun r hr=>by
   have:=hi.2.1 r hr
   simp only [List.length_cons] at this
   omega
  refine ⟨⟨hs,fun x hx=>hll x (List.mem_cons_of_mem _ hx)⟩,?_⟩
  simpa only [if_pos (show 0≤lim from Nat.zero_le _)]
  rw [bind_eq (a:=.nx [some (aq lv),some (.lst (rs.map aq)),some (eN l),some (.lst ((bW rs l).map aq)),none,none])]
  ·simpa only []
   exact ⟨_,rfl,by simp [aJ]⟩
  ·refine cP aq (fun acc:List (List Nat)=>[some (aq lv),some (.lst (rs.map aq)),some (eN l),some (.lst (acc.map aq)),none,none]) (fun r=>(List.range l).map fun s=>r++[s]) lim rs (fun acc r hr hB=>?_) [] (by rw [xX,List.length_nil];omega)
   simpa only [gn l (hll l List.mem_cons_self)]
   rw [bind_eq (a:=((List.range l).map fun s=>r++[s]).map aq)]
   ·have hll':=hll l List.mem_cons_self
    simpa only [List.length_map,List.length_range,if_pos hll']
    rw [bind_eq (Eh (enc:=aq) hB)]
    exact ⟨_,rfl,by simp [aJ]⟩
   ·rw [List.map_map]
    refine dD (List.range l) fun s hs=>?_
    simpa only [HB (hrl r hr),if_pos (show 0+1≤lim by decide)]
    rfl
theorem yJ {n:Nat}{r:List Nat}{m:Meet} (h:∀ p∈m,p.1 < r.length) (hl:m.length≤lim):aA tab aH (n+1) gW [aq r,eM m]=.ok (.bl (aM r m)):=by
 rw [aW GC rfl]
 delta jw;simpa only [if_pos (show 0≤lim from Nat.zero_le _)]
 rw [bind_eq (a:=(m.filter fun p=>!decide (r[p.1]?=some p.2)).map eP)]
 ·have:=List.length_filter_le (fun p:Nat × Nat=>!decide (r[p.1]?=some p.2)) m
  have h2:(m.filter fun p=>!decide (r[p.1]?=some p.2)).length≤lim:=by omega
  simpa only [List.length_map,if_pos h2,El.cmpEq0]
  congr 2
  unfold aM
  rw [Bool.eq_iff_iff,List.isEmpty_iff,List.filter_eq_nil_iff,List.all_eq_true]
  simp
 ·refine bY m fun p hp=>?_
  obtain ⟨x,hx⟩:∃ x,r[p.1]?=some x:=⟨_,List.getElem?_eq_getElem (h p hp)⟩
  simpa only [EY hx,nM,hx,Option.some.injEq]
  by_cases hh:x=p.2 <;> simp [hh,qQ,qR,qz,qS,qF,qG,qH,qI,qJ,wA,wB,wC,wD,qT,wE,qK,qU,qV,qW,wF,wG,wH,qX,wI,wJ,wK,qY,qZ,wL,wM,wN,wO,wP,wQ,wR,qL,wS,wn,wT,wU,wV,wo,wW,qa,qb,wX,qd,qf,qg,qM,qh,qN,wY,qi,wq,wr,qj,wZ,wa,wb,wc,wd,we,wt,wu,wv,ww,↓wf,↓wg,zN,zO,zP,zQ,zR,zS,zT,qk,qm,wj,wx,qp,qq,qC,qO,qr,qu,qv,qw,bD,bC,bO,wy,wz,zA,zB,zC,zD,zE,zU,zV,zW,zX,zY,zZ,wk,wl,wm,if_true,zF,zG,zb,if_false,qD,qx,qP,qE,qA,qB,qy,zH,zI,zJ,zK,zL,zM,bL,bM]
theorem Gk {lv:List Nat}{bs:List Meet} (h:WB lv bs) {r:List Nat} (hr:fM lv r) {b:Meet} (hb:b∈bs):(∀ p∈b,p.1 < r.length)∧b.length≤lim:=by
 have hlim:lim=100000:=rfl
 refine ⟨fun p hp=>?_,by have:=(h.ban b hb).2.2;omega⟩
 obtain ⟨l,e,_⟩:=(h.ban b hb).1.2 p hp
 rw [hr.len]
 exact (List.getElem?_eq_some_iff.mp e).1
theorem yF {n:Nat}{lv:List Nat}{bs:List Meet} (h:WB lv bs):aA tab aH (n+2) jF [eB lv bs]=.ok (.lst ((tests lv bs).map aq)):=by
 have f:=j5 lv h.mem
 have h4:=h.four
 have hb:=h.nb
 have hlim:lim=100000:=rfl
 rw [aW Hh rfl]
 delta jW;simpa only [if_pos (show 0≤lim from Nat.zero_le _),JM (fun l hl=>(WB.lvAll h l hl).1) (show prod lv≤lim by omega) (show lv.length≤lim by omega) (fun l hl=>by have:=WB.lvAll h l hl;omega)]
 rw [bind_eq (a:=.nx [some (eB lv bs),some (.lst ((tests lv bs).map aq)),none,none])]
 ·simpa only []
 ·refine (cP aq (fun acc:List (List Nat)=>[some (eB lv bs),some (.lst (acc.map aq)),none,none]) (fun r=>if mY bs r then [r] else []) lim (rows lv) (fun acc r hr hB=>?_) [] ?_).trans ?_
  ·have hok:=j7.mp hr
   simpa only [if_pos (show 0≤lim from Nat.zero_le _)]
   rw [bind_eq (a:=(bs.filter fun b=>aM r b).map eM)]
   ·have:=List.length_filter_le (fun b=>aM r b) bs
    have h2:(bs.filter fun b=>aM r b).length≤lim:=by omega
    simpa only [List.length_map,if_pos h2,gU.cmpEq0]
    have et:(bs.filter fun b=>aM r b).isEmpty=mY bs r:=by
     unfold mY
     rw [Bool.eq_iff_iff,List.isEmpty_iff,List.filter_eq_nil_iff]
     simp
    rw [et]
    cases e:mY bs r with
    | false=>simpa only [];exact ⟨_,rfl,by simp [aJ]⟩
    | true =>
     rw [e] at hB
     have hal:acc.length < lim:=by simp at hB;omega
     simpa only []
     rw [bind_eq (lD (enc:=aq) hal)]
     exact ⟨_,rfl,by simp [aJ]⟩
   ·refine bY bs fun b hbm=>?_
    simpa only [yJ (Gk h hok hbm).1 (Gk h hok hbm).2]
    cases aM r b <;> simp [qQ,qR,qz,qS,qF,qG,qH,qI,qJ,wA,wB,wC,wD,qT,wE,qK,qU,qV,qW,wF,wG,wH,qX,wI,wJ,wK,qY,qZ,wL,wM,wN,wO,wP,wQ,wR,qL,wS,wn,wT,wU,wV,wo,wW,qa,qb,wX,qd,qf,qg,qM,qh,qN,wY,qi,wq,wr,qj,wZ,wa,wb,wc,wd,we,wt,wu,wv,ww,↓wf,↓wg,zN,zO,zP,zQ,zR,zS,zT,qk,qm,wj,wx,qp,qq,qC,qO,qr,qu,qv,qw,bD,bC,bO,wy,wz,zA,zB,zC,zD,zE,zU,zV,zW,zX,zY,zZ,wk,wl,wm,if_true,zF,zG,zb,if_false,qD,qx,qP,qE,qA,qB,qy,zH,zI,zJ,zK,zL,zM,bL,bM]
  ·rw [dW,List.length_nil]
   have:=pI h
   unfold tests at this
   omega
  ·rw [dW]
   rfl
noncomputable def Ah (lv:List Nat) (k:Nat):List Meet:=((rows lv).flatMap fun r=>(subs (aR 0 r)).filter fun m=>decide (m.length=k)).foldl cQ []
theorem Nz {lv:List Nat}{k:Nat}{m:Meet} (h1:∀ (i l:Nat),lv[i]?=some l→1≤l):m∈Ah lv k↔m∈allM lv k:=by
 unfold Ah
 rw [pA,nR]
 simp only [List.not_mem_nil,false_or,List.mem_flatMap,List.mem_filter,DQ,decide_eq_true_eq]
 constructor
 ·rintro ⟨r,hr,⟨h2,h3⟩,h4⟩;exact ⟨h4,GK (j7.mp hr) h2 h3⟩
 ·rintro ⟨h4,h5⟩
  obtain ⟨r,hr,h6⟩:=Rk h1 h5
  exact ⟨r,hr,⟨h5.1,h6⟩,h4⟩
theorem YD {m:Meet}{t s:Nat} (h:m.length < lim):lZ (eM m) (.tup [.tup [.int (t:Int),.int (s:Int)]])=.ok (eM (m++[(t,s)])):=Nq (p:=(t,s)) h
theorem HD {α β:Type} (p:β→Bool) (g:α→β→α):∀ (l:List β) (a:α),l.foldl (fun a x=>if p x then g a x else a) a=(l.filter p).foldl g a
 | [],a=>rfl
 | x::l,a=>by
  rw [List.foldl_cons,HD p g l,List.filter_cons]
  cases p x <;> simp
theorem Jr {n:Nat}{lv:List Nat}{bs:List Meet} (h:WB lv bs) {k:Nat} (h1:1≤k) (h3:k≤3):aA tab aH (n+2) jV [eB lv bs,.int k]=.ok (.lst ((allM lv k).map eM)):=by
 have f:=j5 lv h.mem
 have h4:=h.four
 have hlim:lim=100000:=rfl
 rw [aW Ag rfl]
 have hsort:nH (eK (Ah lv k))=.ok (.lst ((allM lv k).map eM)) :=
  HX (pL List.nodup_nil) (xr lv k) (fun m=>Nz fun i l e=>(h.lv1 i l e).1) (tQ h h1 h3) (Kq h1)
 delta gK;simpa only [if_pos (show 0≤lim from Nat.zero_le _),JM (fun l hl=>(WB.lvAll h l hl).1) (show prod lv≤lim by omega) (show lv.length≤lim by omega) (fun l hl=>by have:=WB.lvAll h l hl;omega)]
 rw [bind_eq (a:=.nx [some (eB lv bs),some (.int (k:Int)),some (eK (Ah lv k)),none,none,none,none,none])]
 ·simpa only [hsort]
 ·refine (bQ aq (fun ks:List Meet=>[some (eB lv bs),some (.int (k:Int)),some (eK ks),none,none,none,none,none]) (fun ks r=>((subs (aR 0 r)).filter fun m=>decide (m.length=k)).foldl cQ ks) (fun ks rest=>(∀ r∈rest,r∈rows lv)∧ks.length+rest.length * 16≤640) (fun ks r rest hp=>?_) (rows lv) [] ⟨fun _ h=>h,by rw [tE,List.length_nil];omega⟩).trans ?_
  ·obtain ⟨hin,hsz⟩:=hp
   have hok:=j7.mp (hin r List.mem_cons_self)
   have hrl:=hok.len
   have hsl:(subs (aR 0 r)).length≤16:=by
    unfold subs
    rw [Cu,dX,List.length_singleton,Nat.one_mul]
    have:2 ^ r.length≤2 ^ 4:=Nat.pow_le_pow_right (by omega) (by omega)
    have e:(2:Nat) ^ 4=16:=by decide
    omega
   have hfl:=lW ((subs (aR 0 r)).filter fun m=>decide (m.length=k)) ks
   have hff:=List.length_filter_le (fun m:Meet=>decide (m.length=k)) (subs (aR 0 r))
   simp only [List.length_cons,Nat.succ_mul] at hsz
   refine ⟨⟨fun x hx=>hin x (List.mem_cons_of_mem _ hx),by omega⟩,?_⟩
   simpa only [if_pos (show 0≤lim from Nat.zero_le _),if_pos (show 0+1≤lim by decide)]
   rw [bind_eq (a:=.nx [some (eB lv bs),some (.int (k:Int)),some (eK ks),some (aq r),some (.lst ((subs (aR 0 r)).map eM)),none,none,none])]
   ·simpa only []
    rw [bind_eq (a:=.nx [some (eB lv bs),some (.int (k:Int)),some (eK (((subs (aR 0 r)).filter fun m=>decide (m.length=k)).foldl cQ ks)),some (aq r),some (.lst ((subs (aR 0 r)).map eM)),none,none,none])]
    ·exact ⟨_,rfl,by simp [aJ]⟩
    ·refine (bQ eM (fun ks:List Meet=>[some (eB lv bs),some (.int (k:Int)),some (eK ks),some (aq r),some (.lst ((subs (aR 0 r)).map eM)),none,none,none]) (fun ks m=>if decide (m.length=k) then cQ ks m else ks) (fun ks rest=>ks.length+rest.length≤90000) (fun ks m rest hp=>?_) (subs (aR 0 r)) ks (by omega)).trans ?_
     ·simp only [List.length_cons] at hp
      have:=yG ks m
      by_cases hm:m.length=k
      ·refine ⟨by simp only [hm];simp;omega,?_⟩
       simpa only [nM,hm,decide_eq_true (Eq.refl k)]
       rw [bind_eq (Qf ks m (by omega))]
       exact ⟨_,rfl,by simp [aJ]⟩
      ·refine ⟨by simp only [hm];simp;omega,?_⟩
       simpa only [nM,decide_eq_false hm]
       exact ⟨_,rfl,by simp [aJ]⟩
     ·rw [HD]
   ·refine (bQ eP (fun acc:List Meet=>[some (eB lv bs),some (.int (k:Int)),some (eK ks),some (aq r),some (.lst (acc.map eM)),none,none,none]) eE (fun acc rest=>acc.length * 2 ^ rest.length≤16∧∀ m∈acc,m.length+rest.length≤4) (fun acc p rest hp=>?_) (aR 0 r) [[]] ⟨?_,?_⟩).trans ?_
    ·obtain ⟨q1,q2⟩:=hp
     have hal:acc.length≤8:=by
      rw [List.length_cons,Nat.pow_succ] at q1
      have:1≤2 ^ rest.length:=Nat.one_le_two_pow
      have h5:acc.length * 2≤acc.length * (2 ^ rest.length * 2):=Nat.mul_le_mul_left _ (by omega)
      omega
     refine ⟨⟨?_,fun m hm=>?_⟩,?_⟩
     ·unfold eE
      rw [List.length_append,List.length_map,← Nat.two_mul,Nat.mul_comm 2,Nat.mul_assoc]
      rw [List.length_cons,Nat.pow_succ,Nat.mul_comm (2 ^ rest.length)] at q1
      exact q1
     ·unfold eE at hm
      rcases List.mem_append.mp hm with hm | hm
      ·have:=q2 m hm
       simp only [List.length_cons] at this
       omega
      ·obtain ⟨m',hm',rfl⟩:=List.mem_map.mp hm
       have:=q2 m' hm'
       simp only [List.length_cons,List.length_append,List.length_nil] at this ⊢
       omega
     ·simpa only [eP]
      rw [bind_eq (a:=(acc.map fun m=>m++[p]).map eM)]
      ·simpa only [List.length_map,if_pos (show acc.length≤lim by omega)]
       rw [bind_eq (Eh (enc:=eM) (l:=acc) (l':=acc.map fun m=>m++[p]) (by rw [List.length_map];omega))]
       exact ⟨_,rfl,by simp [aJ,eE]⟩
      ·rw [List.map_map]
       refine dD acc fun m hm=>?_
       have:=q2 m hm
       simp only [List.length_cons] at this
       simpa only [YD (show m.length < lim by omega),if_pos (show 0+1≤lim by decide),if_pos (show 0+1+1≤lim by decide)]
       rfl
    ·rw [dX,List.length_singleton,Nat.one_mul]
     have:2 ^ r.length≤2 ^ 4:=Nat.pow_le_pow_right (by omega) (by omega)
     have e:(2:Nat) ^ 4=16:=by decide
     omega
    ·intro m hm
     rw [List.mem_singleton.mp hm,dX,List.length_nil]
     omega
    ·rfl
  ·unfold Ah
   rw [List.foldl_flatMap]
theorem J0 {lv:List Nat}{r:List Nat} (hr:fM lv r) {m:Meet} (hm:nP lv m):∀ p∈m,p.1 < r.length:=fun p hp=>by
 obtain ⟨l,e,_⟩:=hm.2 p hp
 rw [hr.len]
 exact (List.getElem?_eq_some_iff.mp e).1
theorem Jf {n:Nat}{lv:List Nat}{bs:List Meet} (h:WB lv bs) {k:Nat} (h1:1≤k) (h3:k≤3):aA tab aH (n+3) jM [eB lv bs,.int k]=.ok (.lst ((bR lv bs k).map eM)):=by
 have hlim:lim=100000:=rfl
 have htl:=pI h
 have ha:=tQ h h1 h3
 rw [aW Ak rfl]
 delta gQ;simpa only [if_pos (show 0≤lim from Nat.zero_le _),yF h,Jr h h1 h3]
 rw [bind_eq (a:=.nx [some (eB lv bs),some (.int (k:Int)),some (.lst ((tests lv bs).map aq)),some (.lst ((bR lv bs k).map eM)),none,none])]
 ·simpa only []
 ·refine (cP eM (fun acc:List Meet=>[some (eB lv bs),some (.int (k:Int)),some (.lst ((tests lv bs).map aq)),some (.lst (acc.map eM)),none,none]) (fun m=>if ((tests lv bs).any fun t=>aM t m) then [m] else []) lim (allM lv k) (fun acc m hm hB=>?_) [] ?_).trans ?_
  ·have hmo:=(nR.mp hm)
   simpa only [if_pos (show 0≤lim from Nat.zero_le _)]
   rw [bind_eq (a:=((tests lv bs).filter fun t=>aM t m).map aq)]
   ·have:=List.length_filter_le (fun t=>aM t m) (tests lv bs)
    have h2:((tests lv bs).filter fun t=>aM t m).length≤lim:=by omega
    simpa only [List.length_map,if_pos h2,rD.cmpNe0]
    have et:(!((tests lv bs).filter fun t=>aM t m).isEmpty)=(tests lv bs).any fun t=>aM t m:=by
     rw [Bool.eq_iff_iff]
     simp [List.any_eq_true,List.filter_eq_nil_iff]
    rw [et]
    cases e:(tests lv bs).any fun t=>aM t m with
    | false=>simpa only [];exact ⟨_,rfl,by simp [aJ]⟩
    | true =>
     rw [e] at hB
     have hal:acc.length < lim:=by simp at hB;omega
     simpa only []
     rw [bind_eq (lD (enc:=eM) hal)]
     exact ⟨_,rfl,by simp [aJ]⟩
   ·refine bY (tests lv bs) fun t ht=>?_
    simpa only [yJ (J0 (lQ ht) hmo.2) (show m.length≤lim by omega)]
    cases aM t m <;> simp [qQ,qR,qz,qS,qF,qG,qH,qI,qJ,wA,wB,wC,wD,qT,wE,qK,qU,qV,qW,wF,wG,wH,qX,wI,wJ,wK,qY,qZ,wL,wM,wN,wO,wP,wQ,wR,qL,wS,wn,wT,wU,wV,wo,wW,qa,qb,wX,qd,qf,qg,qM,qh,qN,wY,qi,wq,wr,qj,wZ,wa,wb,wc,wd,we,wt,wu,wv,ww,↓wf,↓wg,zN,zO,zP,zQ,zR,zS,zT,qk,qm,wj,wx,qp,qq,qC,qO,qr,qu,qv,qw,bD,bC,bO,wy,wz,zA,zB,zC,zD,zE,zU,zV,zW,zX,zY,zZ,wk,wl,wm,if_true,zF,zG,zb,if_false,qD,qx,qP,qE,qA,qB,qy,zH,zI,zJ,zK,zL,zM,bL,bM]
  ·rw [dW,List.length_nil]
   have:=List.length_filter_le (fun m=>(tests lv bs).any fun t=>aM t m) (allM lv k)
   omega
  ·rw [dW]
   rfl
end E05
namespace E05
open PySem L2 Mi
local macro_rules | `(tactic| simpa only [$xs,*])=>`(tactic| simp only [qQ,qR,qz,qS,qF,qG,qH,qI,qJ,wA,wB,wC,wD,qT,wE,qK,qU,qV,qW,wF,wG,wH,qX,wI,wJ,wK,qY,qZ,wL,wM,wN,wO,wP,wQ,wR,qL,wS,wn,wT,wU,wV,wo,wW,qa,qb,wX,qd,qf,qg,qM,qh,qN,wY,qi,wq,wr,qj,wZ,wa,wb,wc,wd,we,wt,wu,wv,ww,↓wf,↓wg,zN,zO,zP,zQ,zR,zS,zT,qk,qm,wj,wx,qp,qq,qC,qO,qr,qu,qv,qw,bD,bC,bO,wy,wz,zA,zB,zC,zD,zE,zU,zV,zW,zX,zY,zZ,wk,wl,wm,if_true,zF,zG,zb,if_false,qD,qx,qP,qE,qA,qB,qy,zH,zI,zJ,zK,zL,zM,bL,bM,$xs,*])
theorem J1:∀ {lv r:List Nat},fM lv r→∀ p∈r.zip lv,p.1 < p.2
 | [],[],_,p,h=>by simp at h
 | l::lv,x::r,h,p,hp=>by
  rw [List.zip_cons_cons,List.mem_cons] at hp
  rcases hp with rfl | hp
  ·exact h.1
  ·exact J1 h.2 p hp
theorem S5 {n:Nat}{lv r:List Nat} (hr:fM lv r) (hl:lv.length≤6):aA tab aH (n+2) yE [aq lv,aq r]=.ok (.bl true):=by
 have hlim:lim=100000:=rfl
 have hlen:=hr.len
 have hz:(r.zip lv).length≤lim:=by rw [List.length_zip];omega
 rw [aW Te rfl]
 delta sI;simpa only [rC,decide_eq_true (show (lv.length:Int)≤r.length by omega),decide_eq_true (show (r.length:Int)≤lv.length by omega),Bool.and_self,Pb]
 rw [bind_eq (a:=(r.zip lv).map fun _=>D.bl true)]
 ·simpa only [List.length_map,if_pos hz]
  rw [bind_eq (Ef (fun _=>true) (r.zip lv))]
  simp [qQ,qR,qz,qS,qF,qG,qH,qI,qJ,wA,wB,wC,wD,qT,wE,qK,qU,qV,qW,wF,wG,wH,qX,wI,wJ,wK,qY,qZ,wL,wM,wN,wO,wP,wQ,wR,qL,wS,wn,wT,wU,wV,wo,wW,qa,qb,wX,qd,qf,qg,qM,qh,qN,wY,qi,wq,wr,qj,wZ,wa,wb,wc,wd,we,wt,wu,wv,ww,↓wf,↓wg,zN,zO,zP,zQ,zR,zS,zT,qk,qm,wj,wx,qp,qq,qC,qO,qr,qu,qv,qw,bD,bC,bO,wy,wz,zA,zB,zC,zD,zE,zU,zV,zW,zX,zY,zZ,wk,wl,wm,if_true,zF,zG,zb,if_false,qD,qx,qP,qE,qA,qB,qy,zH,zI,zJ,zK,zL,zM,bL,bM]
 ·refine dD (r.zip lv) fun p hp=>?_
  have:=J1 hr p hp
  simpa only [eP,mO,decide_eq_true (show (0:Int)≤p.1 by omega),decide_eq_true (show (p.1:Int)≤p.2 - 1 by omega),Bool.and_self]
theorem Pk {n:Nat}{lv:List Nat}{bs:List Meet} (h:WB lv bs) {t:List Nat} (ht:t∈tests lv bs):aA tab aH (n+3) iC [eB lv bs,aq t]=.ok (.bl true):=by
 have hlim:lim=100000:=rfl
 have h4:=h.four
 have hb:=h.nb
 have hr:=lQ ht
 have hany:(bs.any fun b=>aM t b)=false:=by
  have:=(List.mem_filter.mp ht).2
  unfold mY at this
  simpa using this
 rw [aW Pz rfl]
 delta oH;simpa only [S5 hr (show lv.length≤6 by omega),xK (fun b hb=>Gk h hr hb) (show bs.length≤lim by omega),hany]
theorem Fd {p:D→R D}:∀ (ts:List (List Nat)),(∀ t∈ts,p (aq t)=.ok (.bl true))→j6 p (ts.map aq)=.ok ()
 | [],_=>rfl
 | t::ts,h=>by
  show (match p (aq t) with | .ok (.bl true)=>j6 p (ts.map aq) | _=>.stuck)=_
  rw [h t List.mem_cons_self]
  exact Fd ts fun u hu=>h u (List.mem_cons_of_mem _ hu)
theorem Dn {n:Nat}{lv:List Nat}{bs:List Meet} (h:WB lv bs) {ts:List (List Nat)} (ht:∀ t∈ts,t∈tests lv bs):aA tab aH (n+4) gG [eB lv bs,.lst (ts.map aq)]=.ok .non:=by
 rw [X7 uw uo rfl]
 have e:La (aA tab aH (n+3)) iC [some (eB lv bs),some (.lst (ts.map aq))]=.ok (.nx [some (eB lv bs),some (.lst (ts.map aq))]):=by
  show (match j6 (fun t=>aA tab aH (n+3) iC [eB lv bs,t]) (ts.map aq) with | .ok _=>R.ok (Out.nx [some (eB lv bs),some (.lst (ts.map aq))]) | _=>.stuck)=_
  rw [Fd ts fun t hh=>Pk h (ht t hh)]
 show pY (La (aA tab aH (n+3)) iC [some (eB lv bs),some (.lst (ts.map aq))])=_
 rw [e]
 rfl
theorem pO {n:Nat}{lv:List Nat}{bs:List Meet} (h:WB lv bs) {k:Nat} (h1:1≤k) (h3:k≤3) (hk:k≤lv.length) {ts:List (List Nat)} (ht:∀ t∈ts,t∈tests lv bs):aA tab aH (n+7) iY [eB lv bs,.int k,.lst (ts.map aq)]=.ok .non:=by
 rw [aW Jp rfl]
 delta lC;simpa only [JT h h1 h3 hk,Dn h ht]
theorem oM {lv:List Nat}{bs:List Meet}{k:Nat}:∀ m∈bR lv bs k,m.length=k∧fj m:=fun m hm=>⟨(oZ.mp hm).1,(oZ.mp hm).2.1⟩
theorem G5 {lv:List Nat}{bs:List Meet} (h:WB lv bs) {k:Nat} (h1:1≤k) (h3:k≤3):(bR lv bs k).length < 64:=by
 have:=tQ h h1 h3
 have:=List.length_filter_le (fun m=>(tests lv bs).any fun t=>aM t m) (allM lv k)
 unfold bR
 omega
theorem Cv {n:Nat}{lv:List Nat}{bs:List Meet} (h:WB lv bs) {k:Nat} (h1:1≤k) (h3:k≤3) (hk:k≤lv.length) {ts:List (List Nat)} (ht:∀ t∈ts,t∈tests lv bs) (hts:ts.length≤400):aA tab aH (n+8) pH [eB lv bs,.int k,.lst (ts.map aq)]=.ok (.lst ((fH (bR lv bs k) ts).map eM)):=by
 have hlim:lim=100000:=rfl
 have hpl:=G5 h h1 h3
 rw [aW QB rfl]
 delta pq;simpa only [pO h h1 h3 hk ht,Gy h3 (fun t hh=>kZ h t (ht t hh)) hts,Kz h h1 h3 hk]
 rw [bind_eq (a:=(fH (bR lv bs k) ts).map eM)]
 ·have:=List.length_filter_le (fun m=>!(ts.any fun t=>aM t m)) (bR lv bs k)
  have h2:(fH (bR lv bs k) ts).length≤lim:=by unfold fH;omega
  simpa only [List.length_map,if_pos h2]
 ·refine bY (bR lv bs k) fun m hm=>?_
  have e:decide (m∈oJ ts k)=ts.any fun t=>aM t m:=by
   rw [Bool.eq_iff_iff,decide_eq_true_eq,Dg,List.any_eq_true]
   exact ⟨fun z=>z.2.2,fun z=>⟨(oM m hm).1,(oM m hm).2,z⟩⟩
  simpa only [eK,Vl,e]
  cases ts.any fun t=>aM t m <;> simp [qQ,qR,qz,qS,qF,qG,qH,qI,qJ,wA,wB,wC,wD,qT,wE,qK,qU,qV,qW,wF,wG,wH,qX,wI,wJ,wK,qY,qZ,wL,wM,wN,wO,wP,wQ,wR,qL,wS,wn,wT,wU,wV,wo,wW,qa,qb,wX,qd,qf,qg,qM,qh,qN,wY,qi,wq,wr,qj,wZ,wa,wb,wc,wd,we,wt,wu,wv,ww,↓wf,↓wg,zN,zO,zP,zQ,zR,zS,zT,qk,qm,wj,wx,qp,qq,qC,qO,qr,qu,qv,qw,bD,bC,bO,wy,wz,zA,zB,zC,zD,zE,zU,zV,zW,zX,zY,zZ,wk,wl,wm,if_true,zF,zG,zb,if_false,qD,qx,qP,qE,qA,qB,qy,zH,zI,zJ,zK,zL,zM,bL,bM]
theorem LK {n:Nat}{lv:List Nat}{bs:List Meet} (h:WB lv bs) {k:Nat} (h1:1≤k) (h3:k≤3) (hk:k≤lv.length) {ts:List (List Nat)} (ht:∀ t∈ts,t∈tests lv bs) (hts:ts.length≤400):aA tab aH (n+9) tO [eB lv bs,.int k,.lst (ts.map aq)]=.ok (.bl (fH (bR lv bs k) ts).isEmpty):=by
 rw [aW Lg rfl]
 delta nD;simpa only [Cv h h1 h3 hk ht hts]
 congr 2
 cases fH (bR lv bs k) ts <;> simp
 omega
end E05
namespace E05
open PySem L2 Mi
local macro_rules | `(tactic| simpa only [$xs,*])=>`(tactic| simp only [qQ,qR,qz,qS,qF,qG,qH,qI,qJ,wA,wB,wC,wD,qT,wE,qK,qU,qV,qW,wF,wG,wH,qX,wI,wJ,wK,qY,qZ,wL,wM,wN,wO,wP,wQ,wR,qL,wS,wn,wT,wU,wV,wo,wW,qa,qb,wX,qd,qf,qg,qM,qh,qN,wY,qi,wq,wr,qj,wZ,wa,wb,wc,wd,we,wt,wu,wv,ww,↓wf,↓wg,zN,zO,zP,zQ,zR,zS,zT,qk,qm,wj,wx,qp,qq,qC,qO,qr,qu,qv,qw,bD,bC,bO,wy,wz,zA,zB,zC,zD,zE,zU,zV,zW,zX,zY,zZ,wk,wl,wm,if_true,zF,zG,zb,if_false,qD,qx,qP,qE,qA,qB,qy,zH,zI,zJ,zK,zL,zM,bL,bM,$xs,*])
theorem Q7 (d:D):Mf (.ok (.ro d))=.ok d:=rfl
theorem T9 (ρ:En):MJ (.ok (.nx ρ))=cN ρ 1:=rfl
theorem WW {n f:Nat}{d:Def}{args:List D} (h0:tab[2000+f]?=none) (ht:tab[f]?=some d) (hl:args.length=d.np) (hn:d.nrm=true:=by rfl) (hx:aH.lookup (2000+f)=none:=by rfl):aA tab aH (n+1) (2000+f) args=Mf (cJ (aA tab aH n) d.body (args.map some++List.replicate (d.nn - d.np) none)):=by
 show (match aH.lookup (2000+f) with | some b=>_ | none=>_)=_
 rw [hx]
 show iV _ _ _ _=_
 unfold iV
 rw [h0]
 have e:2000+f - 2000=f:=by omega
 simp only [if_pos (show 2000≤2000+f by omega),e,ht]
 exact if_pos ⟨hl,hn⟩
theorem YX {n f:Nat}{d:Def}{args:List D} (h0:tab[1000+f]?=none) (ht:tab[f]?=some d) (hf:f < 1000) (hl:args.length=2) (hn:uK d=true) (hx:aH.lookup (1000+f)=none:=by rfl):aA tab aH (n+1) (1000+f) args=MJ (cJ (aA tab aH n) d.body (args.map some++List.replicate (d.nn - d.np) none)):=by
 show (match aH.lookup (1000+f) with | some b=>_ | none=>_)=_
 rw [hx]
 show iV _ _ _ _=_
 unfold iV
 rw [h0]
 have e:1000+f - 1000=f:=by omega
 simp only [if_neg (show ¬ 2000≤1000+f by omega),e,ht]
 exact if_pos ⟨hl,hn⟩
theorem vV {k:Nat} (hk:k≤3) {t:List Nat} (ht:t.length≤6):(mOf k t).length≤216:=by
 have h1:=lO (aR 0 t) k
 rw [dX] at h1
 have h2:t.length ^ k≤6 ^ k:=Nat.pow_le_pow_left ht k
 have h3:6 ^ k≤6 ^ 3:=Nat.pow_le_pow_right (by omega) hk
 have h4:(6:Nat) ^ 3=216:=by decide
 unfold mOf
 omega
theorem ud {n:Nat}{ts:List (List Nat)}{k:Nat} (hk:k≤3) (ht:∀ t∈ts,t.length≤6) (hts:ts.length≤400):cJ (aA tab aH (n+3)) fU.body ([D.lst (ts.map aq),D.int k].map some++List.replicate (fU.nn - fU.np) none)=.ok (.ro (eT (ts.flatMap (mOf k)))):=by
 have hlim:lim=100000:=rfl
 have hfl:(ts.flatMap (mOf k)).length≤ts.length * 216:=iQ ts fun t h=>vV hk (ht t h)
 delta fU;simpa only []
 rw [bind_eq (a:=.nx [some (.lst (ts.map aq)),some (.int (k:Int)),some (eT (ts.flatMap (mOf k))),none,none])]
 ·simpa only []
 ·refine (cP aq (fun acc:List Meet=>[some (.lst (ts.map aq)),some (.int (k:Int)),some (eT acc),none,none]) (mOf k) 90000 ts (fun acc t htm hB=>?_) [] (by rw [List.length_nil];omega))
  have hle:(aR 0 t).length≤16:=by rw [dX];have:=ht t htm;omega
  simpa only [ji hk hle]
  rw [bind_eq (a:=.nx [some (.lst (ts.map aq)),some (.int (k:Int)),some (eT (acc++mOf k t)),some (aq t),none])]
  ·exact ⟨_,rfl,by simp [aJ]⟩
  ·have hfm:(mOf k t).flatMap (fun m=>[m])=mOf k t:=by rw [dY (fun m=>m)];simp
   refine (cP eM (fun acc:List Meet=>[some (.lst (ts.map aq)),some (.int (k:Int)),some (eT acc),some (aq t),none]) (fun m=>[m]) 90000 (mOf k t) (fun acc m hm hB=>?_) acc (by rw [hfm];exact hB)).trans (by rw [hfm])
   simp only [List.length_cons,List.length_nil] at hB
   simpa only [W9]
   rw [bind_eq (aaj (show acc.length < lim by omega))]
   have e:(lfD (.int ((acc.count m:Int)+1)) && lfD (eM m))=true:=by rw [QZ];rfl
   simpa only [e]
   exact ⟨_,rfl,by simp [aJ]⟩
theorem Jx {n:Nat}{ts:List (List Nat)}{k:Nat} (hk:k≤3) (ht:∀ t∈ts,t.length≤6) (hts:ts.length≤400):aA tab aH (n+4) je [.lst (ts.map aq),.int k]=.ok (eT (ts.flatMap (mOf k))):=by
 rw [aW xU rfl,ud hk ht hts,bC]
theorem Dp {n:Nat}{ts:List (List Nat)}{k:Nat} (hk:k≤3) (ht:∀ t∈ts,t.length≤6) (hts:ts.length≤400):aA tab aH (n+4) (2000+je) [.lst (ts.map aq),.int k]=.ok (eT (ts.flatMap (mOf k))):=by
 rw [WW rfl xU rfl,ud hk ht hts,Q7]
theorem rZ {n:Nat}{ms ks:List Meet}{c:Meet→Int} (h:∀ m∈ms,m∈ks) (hl:ms.length≤lim):aA tab aH (n+1) iJ [.lst (ms.map eM),eC ks c]=.ok (.bl (ms.all fun m=>decide (1 < c m))):=by
 rw [aW Bo rfl]
 delta iT;simpa only []
 rw [bind_eq (a:=ms.map fun m=>D.bl (decide (1 < c m)))]
 ·simpa only [List.length_map,if_pos hl]
  rw [bind_eq (Ef (fun m=>decide (1 < c m)) ms)]
  simp [qQ,qR,qz,qS,qF,qG,qH,qI,qJ,wA,wB,wC,wD,qT,wE,qK,qU,qV,qW,wF,wG,wH,qX,wI,wJ,wK,qY,qZ,wL,wM,wN,wO,wP,wQ,wR,qL,wS,wn,wT,wU,wV,wo,wW,qa,qb,wX,qd,qf,qg,qM,qh,qN,wY,qi,wq,wr,qj,wZ,wa,wb,wc,wd,we,wt,wu,wv,ww,↓wf,↓wg,zN,zO,zP,zQ,zR,zS,zT,qk,qm,wj,wx,qp,qq,qC,qO,qr,qu,qv,qw,bD,bC,bO,wy,wz,zA,zB,zC,zD,zE,zU,zV,zW,zX,zY,zZ,wk,wl,wm,if_true,zF,zG,zb,if_false,qD,qx,qP,qE,qA,qB,qy,zH,zI,zJ,zK,zL,zM,bL,bM]
 ·refine dD ms fun m hm=>?_
  simpa only [W5 (h m hm)]
theorem Ld {n:Nat}{lv:List Nat}{bs:List Meet} (h:WB lv bs) {k:Nat} (h1:1≤k) (h3:k≤3) (hk:k≤lv.length) {ts:List (List Nat)} (ht:∀ t∈ts,t∈tests lv bs) (hts:ts.length≤400):aA tab aH (n+8) tW [eB lv bs,.int k,.lst (ts.map aq)]=.ok (.lst (((List.range ts.length).filter (iU k ts)).map eN)):=by
 have hlim:lim=100000:=rfl
 have hsh:∀ t∈ts,t.length≤6:=fun t hh=>kZ h t (ht t hh)
 rw [aW Mz rfl]
 delta mK;simpa only [pO h h1 h3 hk ht,Jx h3 hsh hts,Ir]
 rw [bind_eq (a:=((List.range ts.length).filter (iU k ts)).map eN)]
 ·have:=List.length_filter_le (iU k ts) (List.range ts.length)
  rw [List.length_range] at this
  have h2:((List.range ts.length).filter (iU k ts)).length≤lim:=by omega
  simpa only [List.length_map,if_pos h2]
 ·refine bY (List.range ts.length) fun i hi=>?_
  have hi':=List.mem_range.mp hi
  have hm:ts.getD i []∈ts:=by simp [List.getD,hi']
  have hs:=hsh _ hm
  have hle:(aR 0 (ts.getD i [])).length≤16:=by rw [dX];omega
  have hml:=vV h3 hs
  have e:=Tj (k:=k) hi'
  unfold fZ at e
  simpa only [eAt,ji h3 hle,eT,rZ (n:=n+6) (ms:=mOf k (ts.getD i [])) (ks:=(ts.flatMap (mOf k)).foldl cQ []) (c:=fun m=>((ts.flatMap (mOf k)).count m:Int)) (fun m hmm=>uT.mpr (List.mem_flatMap.mpr ⟨_,hm,hmm⟩)) (by omega),e]
  cases iU k ts i <;> simp [qQ,qR,qz,qS,qF,qG,qH,qI,qJ,wA,wB,wC,wD,qT,wE,qK,qU,qV,qW,wF,wG,wH,qX,wI,wJ,wK,qY,qZ,wL,wM,wN,wO,wP,wQ,wR,qL,wS,wn,wT,wU,wV,wo,wW,qa,qb,wX,qd,qf,qg,qM,qh,qN,wY,qi,wq,wr,qj,wZ,wa,wb,wc,wd,we,wt,wu,wv,ww,↓wf,↓wg,zN,zO,zP,zQ,zR,zS,zT,qk,qm,wj,wx,qp,qq,qC,qO,qr,qu,qv,qw,bD,bC,bO,wy,wz,zA,zB,zC,zD,zE,zU,zV,zW,zX,zY,zZ,wk,wl,wm,if_true,zF,zG,zb,if_false,qD,qx,qP,qE,qA,qB,qy,zH,zI,zJ,zK,zL,zM,bL,bM]
theorem zj {n:Nat}{ks ms:List Meet}{c:Meet→Int} (hn:ms.Nodup) (h:∀ m∈ms,m∈ks) (hl:ks.length < lim):aA tab aH (n+1) (1000+nY) [.lst (ms.map eM),eC ks c]=.ok (eC ks fun m=>if m∈ms then c m - 1 else c m):=by
 rw [YX rfl Ie (by decide) rfl (by decide +kernel)]
 delta jO;simpa only []
 have ef:∀ (l:List Meet) (c:Meet→Int),l.Nodup→l.foldl (fun c m=>pU c m (c m - 1)) c=fun m=>if m∈l then c m - 1 else c m:=by
  intro l
  induction l with
  | nil=>intro c _;funext m;simp
  | cons a l ih =>
   intro c hn
   rw [List.nodup_cons] at hn
   rw [List.foldl_cons,ih _ hn.2]
   funext m
   unfold pU
   by_cases e:m=a
   ·subst e;simp [hn.1]
   ·simp [e]
 rw [bind_eq (a:=.nx [some (.lst (ms.map eM)),some (eC ks fun m=>if m∈ms then c m - 1 else c m),none])]
 ·simpa only [T9]
 ·refine (bQ eM (fun c:Meet→Int=>[some (.lst (ms.map eM)),some (eC ks c),none]) (fun c m=>pU c m (c m - 1)) (fun _ rest=>∀ m∈rest,m∈ks) (fun c m rest hp=>⟨fun x hx=>hp x (List.mem_cons_of_mem _ hx),?_⟩) ms c h).trans (by rw [ef ms c hn])
  have hm:=hp m List.mem_cons_self
  simpa only [W5 hm]
  rw [bind_eq (Uv c m (c m - 1) hl)]
  have e:(lfD (.int (c m - 1)) && lfD (eM m))=true:=by rw [QZ];rfl
  have ea:cQ ks m=ks:=by unfold cQ;rw [if_pos hm]
  simpa only [e,ea]
  exact ⟨_,rfl,by simp [aJ]⟩
end E05
namespace E05
open PySem L2 Mi
local macro_rules | `(tactic| simpa only [$xs,*])=>`(tactic| simp only [qQ,qR,qz,qS,qF,qG,qH,qI,qJ,wA,wB,wC,wD,qT,wE,qK,qU,qV,qW,wF,wG,wH,qX,wI,wJ,wK,qY,qZ,wL,wM,wN,wO,wP,wQ,wR,qL,wS,wn,wT,wU,wV,wo,wW,qa,qb,wX,qd,qf,qg,qM,qh,qN,wY,qi,wq,wr,qj,wZ,wa,wb,wc,wd,we,wt,wu,wv,ww,↓wf,↓wg,zN,zO,zP,zQ,zR,zS,zT,qk,qm,wj,wx,qp,qq,qC,qO,qr,qu,qv,qw,bD,bC,bO,wy,wz,zA,zB,zC,zD,zE,zU,zV,zW,zX,zY,zZ,wk,wl,wm,if_true,zF,zG,zb,if_false,qD,qx,qP,qE,qA,qB,qy,zH,zI,zJ,zK,zL,zM,bL,bM,$xs,*])
theorem Vo (k:Nat) (ts:List (List Nat)) (m:Meet):fZ k ts.reverse m=fZ k ts m:=((List.reverse_perm ts).flatMap_right (mOf k)).count_eq m
noncomputable def dU (k:Nat) (a:List (List Nat) × List (List Nat)):List (List Nat) × List (List Nat):=match a.2 with
 | []=>a
 | t::rest=>if c7 k t (a.1++rest) then (a.1,rest) else (a.1++[t],rest)
theorem jj (k:Nat) (l r:List (List Nat)) (t:List Nat):dU k (l,t::r)=if c7 k t (l++r) then (l,r) else (l++[t],r):=rfl
theorem uX {β:Type} (k:Nat):∀ (xs:List β) (l r:List (List Nat)),r.length=xs.length→xs.foldl (fun a _=>dU k a) (l,r)=(iH k l r,[])
 | [],l,[],_=>rfl
 | x::xs,l,t::r,h=>by
  rw [List.foldl_cons,jj,iH]
  have h':r.length=xs.length:=by simpa using h
  split
  ·exact uX k xs l r h'
  ·exact uX k xs (l++[t]) r h'
theorem Ov {n:Nat}{lv:List Nat}{bs:List Meet} (h:WB lv bs) {k:Nat} (h1:1≤k) (h3:k≤3) (hk:k≤lv.length) {ts:List (List Nat)} (ht:∀ t∈ts,t∈tests lv bs) (hts:ts.length≤400):aA tab aH (n+8) uO [eB lv bs,.int k,.lst (ts.map aq)]=.ok (.lst ((iH k [] ts.reverse).reverse.map aq)):=by
 have hlim:lim=100000:=rfl
 have hsh:∀ t∈ts,t.length≤6:=fun t hh=>kZ h t (ht t hh)
 have hfl:(ts.flatMap (mOf k)).length≤ts.length * 216:=iQ ts fun t h=>vV h3 (hsh t h)
 have hkl:=lW (ts.flatMap (mOf k)) []
 rw [List.length_nil] at hkl
 have hT:eT (ts.flatMap (mOf k))=eC ((ts.flatMap (mOf k)).foldl cQ []) fun m=>(fZ k ([]++ts.reverse) m:Int):=by
  unfold eT
  congr 1
  funext m
  rw [List.nil_append,Vo]
  rfl
 rw [aW Pa rfl]
 delta pG;simpa only [pO h h1 h3 hk ht,Dp h3 hsh hts,hT,aaK,if_pos (show 0≤lim from Nat.zero_le _),Kw]
 rw [bind_eq (a:=.nx [some (eB lv bs),some (.int (k:Int)),some (.lst (ts.map aq)),some (eC ((ts.flatMap (mOf k)).foldl cQ []) fun m=>(fZ k (iH k [] ts.reverse++[]) m:Int)),some (.lst ((iH k [] ts.reverse).map aq)),none,none])]
 ·simpa only [M9]
 ·refine (bQ aq (fun a:List (List Nat) × List (List Nat)=>[some (eB lv bs),some (.int (k:Int)),some (.lst (ts.map aq)),some (eC ((ts.flatMap (mOf k)).foldl cQ []) fun m=>(fZ k (a.1++a.2) m:Int)),some (.lst (a.1.map aq)),none,none]) (fun a _=>dU k a) (fun a xs=>a.2=xs∧(∀ t∈xs,t∈ts)∧a.1.length+xs.length≤400) (fun a t rest hp=>?_) ts.reverse ([],ts.reverse) ⟨rfl,fun t ht=>List.mem_reverse.mp ht,by simp;omega⟩).trans (by rw [uX k ts.reverse [] ts.reverse rfl])
  obtain ⟨l,r⟩:=a
  obtain ⟨rfl,hin,hsz⟩:=hp
  have htm:=hin t List.mem_cons_self
  have hs:=hsh t htm
  have hle:(aR 0 t).length≤16:=by rw [dX];omega
  have hml:=vV h3 hs
  have hkeys:∀ m∈mOf k t,m∈(ts.flatMap (mOf k)).foldl cQ []:=fun m hmm=>uT.mpr (List.mem_flatMap.mpr ⟨_,htm,hmm⟩)
  have e:=Hu k l rest t
  simp only [List.length_cons] at hsz
  simp only [jj]
  simpa only [ji h3 hle,rZ (n:=n+6) (c:=fun m=>(fZ k (l++t::rest) m:Int)) hkeys (by omega),e]
  cases hc:c7 k t (l++rest) with
  | true =>
   refine ⟨⟨rfl,fun x hx=>hin x (List.mem_cons_of_mem _ hx),by simp;omega⟩,?_⟩
   simpa only [zj (n:=n+6) (c:=fun m=>(fZ k (l++t::rest) m:Int)) (Cq k t) hkeys (by omega)]
   have hc2:(fun m=>if m∈mOf k t then (fZ k (l++t::rest) m:Int) - 1 else (fZ k (l++t::rest) m:Int))=fun m=>(fZ k (l++rest) m:Int):=by
    funext m
    rw [Gw]
    split <;> omega
   refine ⟨_,rfl,?_⟩
   simp [aJ,hc2]
  | false =>
   refine ⟨⟨rfl,fun x hx=>hin x (List.mem_cons_of_mem _ hx),by simp;omega⟩,?_⟩
   simpa only []
   rw [bind_eq (lD (enc:=aq) (l:=l) (a:=t) (by omega))]
   refine ⟨_,rfl,?_⟩
   simp [aJ]
end E05
namespace E05
open PySem L2 Mi
local macro_rules | `(tactic| simpa only [$xs,*])=>`(tactic| simp only [qQ,qR,qz,qS,qF,qG,qH,qI,qJ,wA,wB,wC,wD,qT,wE,qK,qU,qV,qW,wF,wG,wH,qX,wI,wJ,wK,qY,qZ,wL,wM,wN,wO,wP,wQ,wR,qL,wS,wn,wT,wU,wV,wo,wW,qa,qb,wX,qd,qf,qg,qM,qh,qN,wY,qi,wq,wr,qj,wZ,wa,wb,wc,wd,we,wt,wu,wv,ww,↓wf,↓wg,zN,zO,zP,zQ,zR,zS,zT,qk,qm,wj,wx,qp,qq,qC,qO,qr,qu,qv,qw,bD,bC,bO,wy,wz,zA,zB,zC,zD,zE,zU,zV,zW,zX,zY,zZ,wk,wl,wm,if_true,zF,zG,zb,if_false,qD,qx,qP,qE,qA,qB,qy,zH,zI,zJ,zK,zL,zM,bL,bM,$xs,*])
theorem Jl {n:Nat}{lv:List Nat}{bs:List Meet} (h:WB lv bs) (c:Int):∃ k:Nat,1≤k∧k≤3∧k≤lv.length∧aA tab aH (n+1) jH [eB lv bs,.int c]=.ok (.int k):=by
 have h1:=h.one
 rw [aW Ai rfl]
 delta gP;simpa only [if_pos (show 0+1+1+1+1≤lim by decide),KQ (show (0:Int) < 4 by decide)]
 have h0:=Int.emod_nonneg c (show (4:Int)≠0 by decide)
 have h4:=Int.emod_lt_of_pos c (show (0:Int) < 4 by decide)
 have key:∃ s:Nat,1≤s∧s≤3∧ixD (.lst [.int 2,.int 2,.int 1,.int 3]) (.int (c % 4))=.ok (.int (s:Int)):=by
  have:c % 4=0∨c % 4=1∨c % 4=2∨c % 4=3:=by omega
  rcases this with e | e | e | e <;> rw [e]
  ·exact ⟨2,by decide,by decide,rfl⟩
  ·exact ⟨2,by decide,by decide,rfl⟩
  ·exact ⟨1,by decide,by decide,rfl⟩
  ·exact ⟨3,by decide,by decide,rfl⟩
 obtain ⟨s,q1,q2,q3⟩:=key
 refine ⟨min s lv.length,by omega,by omega,by omega,?_⟩
 simpa only [q3]
 congr 2
 split <;> omega
end E05
namespace E05
open PySem L2 Mi
local macro_rules | `(tactic| simpa only [$xs,*])=>`(tactic| simp only [qQ,qR,qz,qS,qF,qG,qH,qI,qJ,wA,wB,wC,wD,qT,wE,qK,qU,qV,qW,wF,wG,wH,qX,wI,wJ,wK,qY,qZ,wL,wM,wN,wO,wP,wQ,wR,qL,wS,wn,wT,wU,wV,wo,wW,qa,qb,wX,qd,qf,qg,qM,qh,qN,wY,qi,wq,wr,qj,wZ,wa,wb,wc,wd,we,wt,wu,wv,ww,↓wf,↓wg,zN,zO,zP,zQ,zR,zS,zT,qk,qm,wj,wx,qp,qq,qC,qO,qr,qu,qv,qw,bD,bC,bO,wy,wz,zA,zB,zC,zD,zE,zU,zV,zW,zX,zY,zZ,wk,wl,wm,if_true,zF,zG,zb,if_false,qD,qx,qP,qE,qA,qB,qy,zH,zI,zJ,zK,zL,zM,bL,bM,$xs,*])
theorem Ul {ts:List (List Nat)}{i:Nat} (h:i≤ts.length):slD (.lst (ts.map aq)) none (some (i:Int))=.ok (.lst ((ts.take i).map aq)):=by
 simp only [slD,Yq (ts.map aq) i (by rw [List.length_map];exact h),List.map_take]
theorem Ux {ts:List (List Nat)}{i:Nat} (h:i+1≤ts.length):slD (.lst (ts.map aq)) (some ((i:Int)+1)) none=.ok (.lst ((ts.drop (i+1)).map aq)):=by
 have:=Y0 (ts.map aq) (i+1) (by rw [List.length_map];exact h)
 rw [show ((i+1:Nat):Int)=(i:Int)+1 by omega] at this
 simp only [slD,this,List.map_drop]
theorem ZR {α:Type}{enc:α→D}{l:List α}{i:Nat} (h:i < l.length) (hl:l.length≤lim):Lh (.lst (l.map enc)) (.int (i:Int))=.ok (.lst ((l.eraseIdx i).map enc)):=by
 simp only [Lh,ixN,List.length_map,if_pos hl]
 rw [if_pos (by omega),if_pos (by omega)]
 simp [List.eraseIdx_eq_take_drop_succ,List.map_take,List.map_drop]
theorem aaP (a b:Bool):bF .ne (.bl a) (.bl b)=.ok (!decide (a=b)):=by cases a <;> cases b <;> rfl
theorem Np (l:List D):fQ .list [.lst l]=.ok (.lst l):=rfl
theorem Fe {n:Nat}{ps:List Meet}{ts:List (List Nat)} (h:∀ m∈ps,(∀ t∈ts,∀ p∈m,p.1 < t.length)∧m.length≤lim) (hp:ps.length≤lim) (ht:ts.length≤lim):aA tab aH (n+2) jc [.lst (ps.map eM),.lst (ts.map aq)]=.ok (.lst ((fH ps ts).map eM)):=by
 rw [aW Io rfl]
 delta lq;simpa only [if_pos (show 0≤lim from Nat.zero_le _)]
 rw [bind_eq (a:=.nx [some (.lst (ps.map eM)),some (.lst (ts.map aq)),some (.lst ((fH ps ts).map eM)),none,none])]
 ·simpa only []
 ·refine (cP eM (fun acc:List Meet=>[some (.lst (ps.map eM)),some (.lst (ts.map aq)),some (.lst (acc.map eM)),none,none]) (fun m=>if (!(ts.any fun t=>aM t m)) then [m] else []) lim ps (fun acc m hm hB=>?_) [] ?_).trans ?_
  ·simpa only [if_pos (show 0≤lim from Nat.zero_le _)]
   rw [bind_eq (a:=(ts.filter fun t=>aM t m).map aq)]
   ·have:=List.length_filter_le (fun t=>aM t m) ts
    have h2:(ts.filter fun t=>aM t m).length≤lim:=by omega
    simpa only [List.length_map,if_pos h2,rD.cmpEq0]
    have et:(ts.filter fun t=>aM t m).isEmpty=!(ts.any fun t=>aM t m):=by
     rw [Bool.eq_iff_iff]
     simp [List.any_eq_true,List.filter_eq_nil_iff]
    rw [et]
    cases e:!(ts.any fun t=>aM t m) with
    | false=>simpa only [];exact ⟨_,rfl,by simp [aJ]⟩
    | true =>
     rw [e] at hB
     have hal:acc.length < lim:=by simp at hB;omega
     simpa only []
     rw [bind_eq (lD (enc:=eM) hal)]
     exact ⟨_,rfl,by simp [aJ]⟩
   ·refine bY ts fun t htm=>?_
    simpa only [yJ ((h m hm).1 t htm) (h m hm).2]
    cases aM t m <;> simp [qQ,qR,qz,qS,qF,qG,qH,qI,qJ,wA,wB,wC,wD,qT,wE,qK,qU,qV,qW,wF,wG,wH,qX,wI,wJ,wK,qY,qZ,wL,wM,wN,wO,wP,wQ,wR,qL,wS,wn,wT,wU,wV,wo,wW,qa,qb,wX,qd,qf,qg,qM,qh,qN,wY,qi,wq,wr,qj,wZ,wa,wb,wc,wd,we,wt,wu,wv,ww,↓wf,↓wg,zN,zO,zP,zQ,zR,zS,zT,qk,qm,wj,wx,qp,qq,qC,qO,qr,qu,qv,qw,bD,bC,bO,wy,wz,zA,zB,zC,zD,zE,zU,zV,zW,zX,zY,zZ,wk,wl,wm,if_true,zF,zG,zb,if_false,qD,qx,qP,qE,qA,qB,qy,zH,zI,zJ,zK,zL,zM,bL,bM]
  ·rw [dW,List.length_nil]
   have:=List.length_filter_le (fun m=>!(ts.any fun t=>aM t m)) ps
   omega
  ·rw [dW]
   rfl
theorem U6 {n:Nat}{ns:List Int}{lv:List Nat}{bs:List Meet} (h:WB lv bs) (a:Nat) {w:Nat} (hw:w≤100):∃ ts:List (List Nat),(∀ t∈ts,t∈tests lv bs)∧ts.length≤w∧aA tab aH (n+3) jD [.lst (ns.map D.int),.int a,eB lv bs,.int w]=.ok (.lst (ts.map aq)):=by
 have hlim:lim=100000:=rfl
 have htl:=pI h
 rw [aW Gv rfl]
 cases hT:(tests lv bs).isEmpty with
 | true =>
  refine ⟨[],by simp,Nat.zero_le _,?_⟩
  delta iu;simpa only [yF h,if_pos (show 0≤lim from Nat.zero_le _),rD.cmpNe0,hT]
 | false =>
  have hpos:0 < (tests lv bs).length:=by
   cases e:tests lv bs with
   | nil=>rw [e] at hT;cases hT
   | cons x l=>simp
  have hNl:=ju (c:=bG ns a) (p:=9923) (m:=(w:Int)+1) (by omega)
  have hix:∀ k:Nat,cA (bG ns a+29 * (k:Int) * (k:Int)+(k:Int)) 9907 ((tests lv bs).length:Nat) < (tests lv bs).length:=fun k=>by
   have:=ju (c:=bG ns a+29 * (k:Int) * (k:Int)+(k:Int)) (p:=9907) (m:=((tests lv bs).length:Nat)) (by omega)
   omega
  have hget:∀ k:Nat,(tests lv bs)[cA (bG ns a+29 * (k:Int) * (k:Int)+(k:Int)) 9907 ((tests lv bs).length:Nat)]?=some ((tests lv bs)[cA (bG ns a+29 * (k:Int) * (k:Int)+(k:Int)) 9907 ((tests lv bs).length:Nat)]'(hix k)):=fun k=>List.getElem?_eq_getElem (hix k)
  refine ⟨(List.range (cA (bG ns a) 9923 ((w:Int)+1))).map fun k:Nat=>(tests lv bs)[cA (bG ns a+29 * (k:Int) * (k:Int)+(k:Int)) 9907 ((tests lv bs).length:Nat)]'(hix k),fun t htm=>?_,?_,?_⟩
  ·obtain ⟨k,_,rfl⟩:=List.mem_map.mp htm
   exact List.getElem_mem _
  ·rw [List.length_map,List.length_range];omega
  ·delta iu;simpa only [yF h,if_pos (show 0≤lim from Nat.zero_le _),rD.cmpNe0,hT,oh,lF (show (0:Int) < 9923 by decide) (show (0:Int) < (w:Int)+1 by omega),gn (cA (bG ns a) 9923 ((w:Int)+1)) (show _≤lim by omega)]
   rw [bind_eq (a:=.nx [some (.lst (ns.map D.int)),some (.int (a:Int)),some (eB lv bs),some (.int (w:Int)),some (.lst ((tests lv bs).map aq)),some (.lst (((List.range (cA (bG ns a) 9923 ((w:Int)+1))).map fun k:Nat=>(tests lv bs)[cA (bG ns a+29 * (k:Int) * (k:Int)+(k:Int)) 9907 ((tests lv bs).length:Nat)]'(hix k)).map aq)),none])]
   ·simpa only []
   ·refine (cP eN (fun acc:List (List Nat)=>[some (.lst (ns.map D.int)),some (.int (a:Int)),some (eB lv bs),some (.int (w:Int)),some (.lst ((tests lv bs).map aq)),some (.lst (acc.map aq)),none]) (fun k:Nat=>[(tests lv bs)[cA (bG ns a+29 * (k:Int) * (k:Int)+(k:Int)) 9907 ((tests lv bs).length:Nat)]'(hix k)]) lim (List.range (cA (bG ns a) 9923 ((w:Int)+1))) (fun acc k hk hB=>?_) [] ?_).trans ?_
    ·have hk':=List.mem_range.mp hk
     have m29:=sS (show 29≤1000 by decide) (k:Int)
     have m29k:=mul_k (show k≤1000 by omega) (((29:Nat):Int) * (k:Int))
     simp only [show ((29:Nat):Int)=29 from rfl] at m29 m29k
     have hal:acc.length < lim:=by simp only [List.length_singleton] at hB;omega
     simpa only [oh,m29,m29k,lF (show (0:Int) < 9907 by decide) (show (0:Int) < ((tests lv bs).length:Nat) by omega),Mq (enc:=aq) (hget k)]
     rw [bind_eq (lD (enc:=aq) hal)]
     exact ⟨_,rfl,by simp [aJ]⟩
    ·rw [dY,List.length_map,List.length_range,List.length_nil];omega
    ·rw [dY];rfl
end E05
namespace E05
open PySem L2 Mi
local macro_rules | `(tactic| simpa only [$xs,*])=>`(tactic| simp only [qQ,qR,qz,qS,qF,qG,qH,qI,qJ,wA,wB,wC,wD,qT,wE,qK,qU,qV,qW,wF,wG,wH,qX,wI,wJ,wK,qY,qZ,wL,wM,wN,wO,wP,wQ,wR,qL,wS,wn,wT,wU,wV,wo,wW,qa,qb,wX,qd,qf,qg,qM,qh,qN,wY,qi,wq,wr,qj,wZ,wa,wb,wc,wd,we,wt,wu,wv,ww,↓wf,↓wg,zN,zO,zP,zQ,zR,zS,zT,qk,qm,wj,wx,qp,qq,qC,qO,qr,qu,qv,qw,bD,bC,bO,wy,wz,zA,zB,zC,zD,zE,zU,zV,zW,zX,zY,zZ,wk,wl,wm,if_true,zF,zG,zb,if_false,qD,qx,qP,qE,qA,qB,qy,zH,zI,zJ,zK,zL,zM,bL,bM,$xs,*])
noncomputable def pB (k:Nat) (a:List (List Nat) × List (List Nat) × List (List Nat)):List (List Nat) × List (List Nat) × List (List Nat):=((dU k a.2).2.reverse++(dU k a.2).1.reverse,dU k a.2)
theorem sO {β:Type} (k:Nat):∀ (xs:List β) (l r:List (List Nat)),r.length=xs.length→xs.foldl (fun a _=>pB k a) (r.reverse++l.reverse,l,r)=((iH k l r).reverse,iH k l r,[])
 | [],l,[],_=>rfl
 | x::xs,l,t::r,h=>by
  have h':r.length=xs.length:=by simpa using h
  have e:pB k ((t::r).reverse++l.reverse,l,t::r)=((dU k (l,t::r)).2.reverse++(dU k (l,t::r)).1.reverse,dU k (l,t::r)):=rfl
  rw [List.foldl_cons,e,jj,iH]
  cases c7 k t (l++r) with
  | true=>exact sO k xs l r h'
  | false=>exact sO k xs (l++[t]) r h'
theorem U8 (t:List Nat) (rest l:List (List Nat)):((t::rest).reverse++l.reverse).take rest.length=rest.reverse∧((t::rest).reverse++l.reverse).drop (rest.length+1)=l.reverse∧((t::rest).reverse++l.reverse).length=rest.length+1+l.length:=by
 have e:(t::rest).reverse++l.reverse=rest.reverse++t::l.reverse:=by simp
 rw [e]
 refine ⟨?_,?_,by simp;omega⟩
 ·rw [List.take_append_of_le_length (by simp),List.take_of_length_le (by simp)]
 ·have:rest.length+1=rest.reverse.length+1:=by simp
  rw [this,List.drop_append]
  simp
theorem ZS (t:List Nat) (rest l:List (List Nat)) (m:Meet):(((t::rest).reverse++l.reverse).any fun u=>aM u m)=(aM t m || (rest.reverse++l.reverse).any fun u=>aM u m):=by
 simp only [List.any_append,List.any_reverse,List.any_cons,Bool.or_assoc]
theorem Xd {ts:List (List Nat)}{i:Nat} (h:i < ts.length) (m:Meet):(ts.any fun u=>aM u m)=(aM (ts.getD i []) m || (ts.take i++ts.drop (i+1)).any fun u=>aM u m):=by
 have e:=Fv h
 have e2:(ts.any fun u=>aM u m)=((ts.take i++ts.getD i []::ts.drop (i+1)).any fun u=>aM u m):=by rw [← e]
 rw [e2]
 simp only [List.any_append,List.any_cons]
 rw [← Bool.or_assoc,← Bool.or_assoc,Bool.or_comm (aM (ts.getD i []) m)]
theorem JL {lv:List Nat}{bs:List Meet}{k:Nat}{t:List Nat} (ht:t∈tests lv bs):∀ m∈mOf k t,m∈bR lv bs k:=fun m hm=>by
 obtain ⟨q1,q2,q3⟩:=dZ.mp hm
 exact oZ.mpr ⟨q1,q2,t,ht,q3⟩
theorem yq {lv:List Nat}{bs:List Meet}{k:Nat} (h3:k≤3) {ts:List (List Nat)} (ht:∀ t∈ts,t∈tests lv bs):∀ m∈bR lv bs k,(∀ t∈ts,∀ p∈m,p.1 < t.length)∧m.length≤lim:=fun m hm=>by
 have hlim:lim=100000:=rfl
 have hmo:=nR.mp (List.mem_filter.mp hm).1
 exact ⟨fun t htm=>J0 (lQ (ht t htm)) hmo.2,by omega⟩
theorem QT (ns:List Int) (hns:ns.length≤63):aA tab aH 31 K6 [.lst (ns.map D.int)]=.ok (.bl true):=by
 have W:=Wq ns 2
 obtain ⟨k,h1,h3,hk,hs⟩:=Jl (n:=29) W (bG ns 0)
 have hlim:lim=100000:=rfl
 have hcell:aA tab aH 30 dj [.lst (ns.map D.int),.int 0]=.ok (.int (bG ns 0)):=oh (n:=29) ns 0
 have hbook:aA tab aH 30 kE [.lst (ns.map D.int),.int 2]=.ok (eB (fY ns 2) (lR ns 2)):=Y6 (n:=28) hns 2
 obtain ⟨ts,ht,htl,hd⟩:=U6 (n:=27) (ns:=ns) W 5 (w:=7) (by decide)
 have hd':aA tab aH 30 jD [.lst (ns.map D.int),.int 5,eB (fY ns 2) (lR ns 2),.int 7]=.ok (.lst (ts.map aq)):=hd
 revert hs hbook hd' ht hk W
 generalize fY ns 2=lv
 generalize lR ns 2=bs
 intro W hk hs hbook ht hd'
 have hpl:=G5 W h1 h3
 show aA tab aH (30+1) K6 _=_
 rw [aW Zv rfl]
 delta Et;simpa only [hbook,hcell,hs,hd',Np,Jf (n:=27) W h1 h3,Fe (n:=28) (yq (bs:=bs) h3 ht) (show (bR lv bs k).length≤lim by omega) (show ts.length≤lim by omega),Cv (n:=22) W h1 h3 hk ht (show ts.length≤400 by omega),LK (n:=21) W h1 h3 hk ht (show ts.length≤400 by omega),gU.cmpNe,gU.cmpEq0,aaP,decide_true,if_pos (show 0≤lim from Nat.zero_le _),gn ts.length (show ts.length≤lim by omega)]
 rw [bind_eq (a:=.nx [some (.lst (ns.map D.int)),some (eB lv bs),some (.int (k:Int)),some (.lst (ts.map aq)),some (.lst (ts.map aq)),some (.lst ((bR lv bs k).map eM)),some (.lst ((fH (bR lv bs k) ts).map eM)),some (.lst (((List.range ts.length).filter (iU k ts)).map eN)),none,none,none])]
 ·simpa only [Ld (n:=22) W h1 h3 hk ht (show ts.length≤400 by omega),vU.cmpNe,decide_true,Np,Lj ts.length (show ts.length≤lim by omega)]
  rw [bind_eq (a:=.nx [some (.lst (ns.map D.int)),some (eB lv bs),some (.int (k:Int)),some (.lst (ts.map aq)),some (.lst (ts.map aq)),some (.lst ((bR lv bs k).map eM)),some (.lst ((fH (bR lv bs k) ts).map eM)),some (.lst (((List.range ts.length).filter (iU k ts)).map eN)),none,some (.lst ((iH k [] ts.reverse).reverse.map aq)),none])]
  ·simpa only [Ov (n:=22) W h1 h3 hk ht (show ts.length≤400 by omega),rD.cmpEq,decide_true]
  ·refine (bQ eN (fun a:List (List Nat) × List (List Nat) × List (List Nat)=>[some (.lst (ns.map D.int)),some (eB lv bs),some (.int (k:Int)),some (.lst (ts.map aq)),some (.lst (ts.map aq)),some (.lst ((bR lv bs k).map eM)),some (.lst ((fH (bR lv bs k) ts).map eM)),some (.lst (((List.range ts.length).filter (iU k ts)).map eN)),none,some (.lst (a.1.map aq)),none]) (fun a _=>pB k a) (fun a xs=>a.1=a.2.2.reverse++a.2.1.reverse∧xs=(List.range a.2.2.length).reverse∧(∀ t∈a.1,t∈tests lv bs)∧fH (bR lv bs k) a.1=fH (bR lv bs k) ts∧a.1.length≤7) (fun a x xs hp=>?_) (List.range ts.length).reverse (ts,[],ts.reverse) ⟨by simp,by simp,ht,rfl,htl⟩).trans ?_
   ·obtain ⟨R,l,r⟩:=a
    obtain ⟨e1,e2,e3,e4,e5⟩:=hp
    simp only at e1 e2 e3 e4 e5
    cases r with
    | nil=>cases e2
    | cons t rest =>
     rw [List.length_cons,Od] at e2
     injection e2 with ex exs
     subst e1 ex exs
     obtain ⟨p1,p2,p3⟩:=U8 t rest l
     have ht0:t∈tests lv bs:=e3 t (by simp)
     have hos:∀ u∈rest.reverse++l.reverse,u∈tests lv bs:=fun u hu=>e3 u (by
      rcases List.mem_append.mp hu with hu | hu
      ·simp [List.mem_reverse.mp hu]
      ·exact List.mem_append.mpr (.inr hu))
     have hol:(rest.reverse++l.reverse).length≤7:=by
      rw [p3] at e5
      simp only [List.length_append,List.length_reverse]
      omega
     have hol2:rest.reverse.length+l.reverse.length≤lim:=by
      rw [List.length_append] at hol
      omega
     have s1:=Ul (ts:=(t::rest).reverse++l.reverse) (i:=rest.length) (by omega)
     have s2:=Ux (ts:=(t::rest).reverse++l.reverse) (i:=rest.length) (by omega)
     rw [p1] at s1
     rw [p2] at s2
     have hc:=Gi (os:=rest.reverse++l.reverse) (ZS t rest l) oM (JL (bs:=bs) (k:=k) ht0)
     rw [e4,Gg] at hc
     have est:pB k ((t::rest).reverse++l.reverse,l,t::rest)=((dU k (l,t::rest)).2.reverse++(dU k (l,t::rest)).1.reverse,dU k (l,t::rest)):=rfl
     rw [est,jj]
     simpa only [s1,s2,Eh (enc:=aq) hol2,Fe (n:=28) (yq (bs:=bs) h3 hos) (show (bR lv bs k).length≤lim by omega) (show (rest.reverse++l.reverse).length≤lim by omega),gU.cmpEq,hc]
     cases hcd:c7 k t (l++rest) with
     | true =>
      rw [hcd] at hc
      have hc':=of_decide_eq_true hc
      refine ⟨⟨by first | trivial | rfl,by first | trivial | rfl,hos,hc',hol⟩,?_⟩
      have pp:=ZR (enc:=aq) (l:=(t::rest).reverse++l.reverse) (i:=rest.length) (by omega) (by omega)
      rw [List.eraseIdx_eq_take_drop_succ,p1,p2] at pp
      simpa only [pp]
      exact ⟨_,rfl,by simp [aJ]⟩
     | false =>
      have eR:rest.reverse++(l++[t]).reverse=(t::rest).reverse++l.reverse:=by simp
      simpa only [Bool.false_eq_true,if_false,eR]
      exact ⟨⟨by first | trivial | rfl,by first | trivial | rfl,e3,e4,e5⟩,_,rfl,by simp [aJ]⟩
   ·have:=sO k (List.range ts.length).reverse [] ts.reverse (by simp)
    simp only [List.reverse_reverse,List.reverse_nil,List.append_nil] at this
    rw [this]
 ·refine (cP eN (fun acc:List Nat=>[some (.lst (ns.map D.int)),some (eB lv bs),some (.int (k:Int)),some (.lst (ts.map aq)),some (.lst (ts.map aq)),some (.lst ((bR lv bs k).map eM)),some (.lst ((fH (bR lv bs k) ts).map eM)),some (.lst (acc.map eN)),none,none,none]) (fun i=>if iU k ts i then [i] else []) lim (List.range ts.length) (fun acc i hi hB=>?_) [] ?_).trans ?_
  ·have hi':=List.mem_range.mp hi
   have hm:ts.getD i []∈ts:=by simp [List.getD,hi']
   have hos:∀ u∈ts.take i++ts.drop (i+1),u∈tests lv bs:=fun u hu=>ht u (by
    rcases List.mem_append.mp hu with hu | hu
    ·exact List.mem_of_mem_take hu
    ·exact List.mem_of_mem_drop hu)
   have hol2:(ts.take i).length+(ts.drop (i+1)).length≤lim:=by
    rw [List.length_take,List.length_drop]
    omega
   have hc:=Gi (os:=ts.take i++ts.drop (i+1)) (Xd hi') oM (JL (bs:=bs) (k:=k) (ht _ hm))
   have hnb:c7 k (ts.getD i []) (ts.take i++ts.drop (i+1))=iU k ts i:=rfl
   rw [hnb] at hc
   simpa only [Ul (show i≤ts.length by omega),Ux (show i+1≤ts.length by omega),Eh (enc:=aq) hol2,Fe (n:=28) (yq (bs:=bs) h3 hos) (show (bR lv bs k).length≤lim by omega) (show (ts.take i++ts.drop (i+1)).length≤lim by rw [List.length_append];exact hol2),gU.cmpEq,hc]
   cases e:iU k ts i with
   | false=>simpa only [];exact ⟨_,rfl,by simp [aJ]⟩
   | true =>
    rw [e] at hB
    have hal:acc.length < lim:=by simp at hB;omega
    simpa only []
    rw [bind_eq (lD (enc:=eN) hal)]
    exact ⟨_,rfl,by simp [aJ]⟩
  ·rw [dW,List.length_nil]
   have:=List.length_filter_le (iU k ts) (List.range ts.length)
   rw [List.length_range] at this
   omega
  ·rw [dW]
   rfl
end E05
namespace E05
open PySem L2 Mi
variable (P:Params)
theorem Dq : FF (heap P) "check_list" (top 24):=aQ (f:=156) (by kernel_rfl) (show (heap P).lookup 156 = some uM by kernel_rfl) (by kernel_rfl) (by kernel_rfl)
theorem kcl:((heap P).all fun q=>Y4 q.2.cls)=true:=by kernel_rfl
theorem recs : ((PyProof.Rows.recsOf view).any fun d => decide (d.name = Str.ofString "check_tests")) = true:=by kernel_rfl
theorem Jb : FF (heap P) "is_whole" (top 11):=aQ (f:=77) (by kernel_rfl) (show (heap P).lookup 77 = some yV by kernel_rfl) (by kernel_rfl) (by kernel_rfl)
theorem Js : FF (heap P) "is_tuple" (top 12):=aQ (f:=84) (by kernel_rfl) (show (heap P).lookup 84 = some z9 by kernel_rfl) (by kernel_rfl) (by kernel_rfl)
theorem DY : FF (heap P) "are_levels" (top 13):=aQ (f:=91) (by kernel_rfl) (show (heap P).lookup 91 = some vB by kernel_rfl) (by kernel_rfl) (by kernel_rfl)
theorem Ea : FF (heap P) "is_setting" (top 14):=aQ (f:=98) (by kernel_rfl) (show (heap P).lookup 98 = some vd by kernel_rfl) (by kernel_rfl) (by kernel_rfl)
theorem Dt : FF (heap P) "is_meeting" (top 15):=aQ (f:=105) (by kernel_rfl) (show (heap P).lookup 105 = some u9 by kernel_rfl) (by kernel_rfl) (by kernel_rfl)
theorem K7 : FF (heap P) "is_book" (top 16):=aQ (f:=110) (by kernel_rfl) (show (heap P).lookup 110 = some CQ by kernel_rfl) (by kernel_rfl) (by kernel_rfl)
theorem Ky : FF (heap P) "checked" (top 17):=aQ (f:=117) (by kernel_rfl) (show (heap P).lookup 117 = some Cw by kernel_rfl) (by kernel_rfl) (by kernel_rfl)
theorem Rm : FF (heap P) "meets" (top 18):=aQ (f:=122) (by kernel_rfl) (show (heap P).lookup 122 = some J2 by kernel_rfl) (by kernel_rfl) (by kernel_rfl)
theorem Gz : FF (heap P) "meets_any" (top 19):=aQ (f:=127) (by kernel_rfl) (show (heap P).lookup 127 = some xM by kernel_rfl) (by kernel_rfl) (by kernel_rfl)
theorem Ju : FF (heap P) "all_rows" (top 20):=aQ (f:=132) (by kernel_rfl) (show (heap P).lookup 132 = some Ac by kernel_rfl) (by kernel_rfl) (by kernel_rfl)
theorem Ia : FF (heap P) "all_tests" (top 21):=aQ (f:=137) (by kernel_rfl) (show (heap P).lookup 137 = some xQ by kernel_rfl) (by kernel_rfl) (by kernel_rfl)
theorem QC : FF (heap P) "is_row" (top 22):=aQ (f:=142) (by kernel_rfl) (show (heap P).lookup 142 = some Hz by kernel_rfl) (by kernel_rfl) (by kernel_rfl)
theorem Mx : FF (heap P) "is_test" (top 23):=aQ (f:=149) (by kernel_rfl) (show (heap P).lookup 149 = some CZ by kernel_rfl) (by kernel_rfl) (by kernel_rfl)
theorem BR : FL (heap P) "check_tests" (top 25):=Z7 (f:=163) (by kernel_rfl) (show (heap P).lookup 163 = some uq by kernel_rfl) (by kernel_rfl) (by kernel_rfl) (by kernel_rfl)
theorem yK : FF (heap P) "most_strength" (top 27):=aQ (f:=170) (by kernel_rfl) (show (heap P).lookup 170 = some oU by kernel_rfl) (by kernel_rfl) (by kernel_rfl)
theorem mq : FF (heap P) "check_book_and_strength" (top 28):=aQ (f:=177) (by kernel_rfl) (show (heap P).lookup 177 = some gM by kernel_rfl) (by kernel_rfl) (by kernel_rfl)
theorem Ew : FF (heap P) "is_behind" (top 29):=aQ (f:=184) (by kernel_rfl) (show (heap P).lookup 184 = some xg by kernel_rfl) (by kernel_rfl) (by kernel_rfl)
theorem v5 : FF (heap P) "meetings_among" (top 30):=aQ (f:=189) (by kernel_rfl) (show (heap P).lookup 189 = some oF by kernel_rfl) (by kernel_rfl) (by kernel_rfl)
theorem BL : FF (heap P) "meetings_of" (top 31):=aQ (f:=196) (by kernel_rfl) (show (heap P).lookup 196 = some uh by kernel_rfl) (by kernel_rfl) (by kernel_rfl)
theorem Om : FF (heap P) "met_by" (top 32):=aQ (f:=203) (by kernel_rfl) (show (heap P).lookup 203 = some Hi by kernel_rfl) (by kernel_rfl) (by kernel_rfl)
theorem Jo : FF (heap P) "possible" (top 33):=aQ (f:=210) (by kernel_rfl) (show (heap P).lookup 210 = some Af by kernel_rfl) (by kernel_rfl) (by kernel_rfl)
theorem Ih : FF (heap P) "check_all" (top 35):=aQ (f:=217) (by kernel_rfl) (show (heap P).lookup 217 = some xT by kernel_rfl) (by kernel_rfl) (by kernel_rfl)
theorem Kv : FF (heap P) "missing" (top 36):=aQ (f:=222) (by kernel_rfl) (show (heap P).lookup 222 = some Ck by kernel_rfl) (by kernel_rfl) (by kernel_rfl)
theorem Je : FF (heap P) "is_cover" (top 37):=aQ (f:=229) (by kernel_rfl) (show (heap P).lookup 229 = some Av by kernel_rfl) (by kernel_rfl) (by kernel_rfl)
theorem Fp : FF (heap P) "times_met" (top 38):=aQ (f:=236) (by kernel_rfl) (show (heap P).lookup 236 = some xR by kernel_rfl) (by kernel_rfl) (by kernel_rfl)
theorem zq : FF (heap P) "meet_without" (top 39):=aQ (f:=241) (by kernel_rfl) (show (heap P).lookup 241 = some rJ by kernel_rfl) (by kernel_rfl) (by kernel_rfl)
theorem Jz : FF (heap P) "needless" (top 40):=aQ (f:=246) (by kernel_rfl) (show (heap P).lookup 246 = some Am by kernel_rfl) (by kernel_rfl) (by kernel_rfl)
theorem DN : FF (heap P) "count_less" (top 41):=aQ (f:=253) (by kernel_rfl) (show (heap P).lookup 253 = some u0 by kernel_rfl) (by kernel_rfl) (by kernel_rfl)
theorem K9 : FF (heap P) "trimmed" (top 42):=aQ (f:=260) (by kernel_rfl) (show (heap P).lookup 260 = some Cj by kernel_rfl) (by kernel_rfl) (by kernel_rfl)
theorem Im : FF (heap P) "_law_cell" (top 44):=aQ (f:=267) (by kernel_rfl) (show (heap P).lookup 267 = some xJ by kernel_rfl) (by kernel_rfl) (by kernel_rfl)
theorem Jc : FF (heap P) "_law_mix" (top 45):=aQ (f:=274) (by kernel_rfl) (show (heap P).lookup 274 = some zy by kernel_rfl) (by kernel_rfl) (by kernel_rfl)
theorem G3 : FF (heap P) "_law_book" (top 46):=aQ (f:=279) (by kernel_rfl) (show (heap P).lookup 279 = some xq by kernel_rfl) (by kernel_rfl) (by kernel_rfl)
theorem GJ : FF (heap P) "_law_rows" (top 47):=aQ (f:=284) (by kernel_rfl) (show (heap P).lookup 284 = some xO by kernel_rfl) (by kernel_rfl) (by kernel_rfl)
theorem Ds : FF (heap P) "_law_meets" (top 48):=aQ (f:=289) (by kernel_rfl) (show (heap P).lookup 289 = some vg by kernel_rfl) (by kernel_rfl) (by kernel_rfl)
theorem Ec : FF (heap P) "_law_tests" (top 49):=aQ (f:=294) (by kernel_rfl) (show (heap P).lookup 294 = some uG by kernel_rfl) (by kernel_rfl) (by kernel_rfl)
theorem yg : FF (heap P) "_law_meetings" (top 50):=aQ (f:=299) (by kernel_rfl) (show (heap P).lookup 299 = some o9 by kernel_rfl) (by kernel_rfl) (by kernel_rfl)
theorem yr : FF (heap P) "_law_possible" (top 51):=aQ (f:=304) (by kernel_rfl) (show (heap P).lookup 304 = some o7 by kernel_rfl) (by kernel_rfl) (by kernel_rfl)
theorem Fi : FF (heap P) "_law_left" (top 52):=aQ (f:=309) (by kernel_rfl) (show (heap P).lookup 309 = some w6 by kernel_rfl) (by kernel_rfl) (by kernel_rfl)
theorem DR : FF (heap P) "_law_drawn" (top 53):=aQ (f:=316) (by kernel_rfl) (show (heap P).lookup 316 = some uH by kernel_rfl) (by kernel_rfl) (by kernel_rfl)
theorem yC : FF (heap P) "_law_strength" (top 54):=aQ (f:=323) (by kernel_rfl) (show (heap P).lookup 323 = some pC by kernel_rfl) (by kernel_rfl) (by kernel_rfl)
theorem Qn : FF (heap P) "law" (top 55):=aQ (f:=330) (by kernel_rfl) (show (heap P).lookup 330 = some o_law by kernel_rfl) (by kernel_rfl) (by kernel_rfl)
theorem Bh : GF (heap P) "MOST_THINGS" 6:=yW (t:=266) (by kernel_rfl)
theorem yI : GF (heap P) "MOST_SETTINGS" 4:=yW (t:=268) (by kernel_rfl)
theorem GZ : GF (heap P) "MOST_ROWS" 400:=yW (t:=270) (by kernel_rfl)
theorem Fl : GF (heap P) "MOST_BANS" 12:=yW (t:=272) (by kernel_rfl)
theorem vA : GF (heap P) "MOST_IN_MEETING" 3:=yW (t:=274) (by kernel_rfl)
theorem bl:∀ f∈jY,PySem.W.nsIn (heap P) mainGlobals f=some none:=by
 intro f hf
 simp only [jY,List.mem_cons,List.not_mem_nil,or_false] at hf
 rcases hf with rfl | rfl | rfl | rfl | rfl | rfl | rfl | rfl | rfl | rfl | rfl | rfl | rfl | rfl | rfl | rfl <;> kernel_rfl
end E05
open PySem PySem.W PyProof.Rows
set_option maxRecDepth 100000 in
set_option maxHeartbeats 0 in
theorem PySem.Challenge.cw_pairtests_k05_missing_holds : PySem.Challenge.rw_pairtests_k05_missing.Holds := by
 w_on;o_law
 refine PySem.W.holds_open (q:=E05.view) (loose:=[]) (Xt:=fun s=>PySem.W.xlAt E05.view [] s && PySem.W.recOk (PySem.W.RowW.records (PySem.W.OpenRow.toRowW PySem.Challenge.rw_pairtests_k05_missing.row)) s) (XP:=XL E05.view []) (Yf:=Hook.obs E05.hook) (Ya:=Hook.val E05.hook) (YP:=Hook.says E05.hook) (N:=4474) E05.left (Hook.of E05.hook) (Hook.keeps E05.hook) (fun s e=>xl_of s (Bool.and_eq_true_iff.mp e).1) XL.keeps (by rfl) (by rfl) (by rfl) (fun s e=>recFacts_of (Bool.and_eq_true_iff.mp e).2) (by rfl) (by first | assumption | decide +kernel) (by decide +kernel) ⟨rfl,rfl,rfl,rfl,rfl,by decide +kernel⟩ ?hw ?hc
 (case hw=>w_witness2)
 exact Mi.ZM (l:=PySem.Challenge.rw_pairtests_k05_missing) (T:=E05.T) (tab:=E05.tab) (xt:=E05.aH) (n:=30) (fl:=40) (par:="_law_script") (N:=["_law_script", "_law_book_here", "_law_strength_here", "_law_tests_here", "_law_kept_tests", "_law_some", "_law_left_here", "_law_due", "_law_at", "_law_rest", "_law_found"]) (st:=E05.top 55) rfl rfl ⟨rfl, by decide, by decide⟩ rfl rfl E05.Og (fun w h Y => Y) (fun p => Mi.Zq (E05.kcl p)) (fun w s₀ mg mb h G Y => Mi.tab_of E05.recs G) (fun w mg h KX G => E05.pr KX G (E05.Jb w.params) (E05.Js w.params) (E05.DY w.params) (E05.Ea w.params) (E05.Dt w.params) (E05.K7 w.params) (E05.Ky w.params) (E05.Rm w.params) (E05.Gz w.params) (E05.Ju w.params) (E05.Ia w.params) (E05.QC w.params) (E05.Mx w.params) (E05.BR w.params) (E05.yK w.params) (E05.mq w.params) (E05.Ew w.params) (E05.v5 w.params) (E05.BL w.params) (E05.Om w.params) (E05.Jo w.params) (E05.Ih w.params) (E05.Kv w.params) (E05.Je w.params) (E05.Fp w.params) (E05.zq w.params) (E05.Jz w.params) (E05.DN w.params) (E05.K9 w.params) (E05.Im w.params) (E05.Jc w.params) (E05.G3 w.params) (E05.GJ w.params) (E05.Ds w.params) (E05.Ec w.params) (E05.yg w.params) (E05.yr w.params) (E05.Fi w.params) (E05.DR w.params) (E05.yC w.params) (E05.Qn w.params) (E05.Dq w.params) (E05.Bh w.params) (E05.yI w.params) (E05.GZ w.params) (E05.Fl w.params) (E05.vA w.params) (E05.bl w.params)) (fun w => E05.Qn w.params) (fun _ _ _ _ _ _ _ => rfl) E05.QT
