import PyProof.Rows.All
import Wide.All
import OpenK.AllK
import Wide.FinOn
import Lean
import PyProof.EqAt
import PyProof.EqKinds
import PyProof.TupleCall
import PyProof.NeKinds
import PyProof.DictRoadsH
import KE.KIntText
import PyProof.StrLawsTight
import PyProof.CompFree
import PyProof.CompUse
import KE.KDictSum
import PyProof.Draws
import PyProof.EnumMake
import PyProof.EnumFor
import KE.KSortTup
import PyProof.TupleOfSeq
import KE.LcSums
import PyProof.ZipIter
import KE.KRevIter
import KE.KStateDown
import PyProof.ListRange
import PyProof.Rows.StrItems
import KE.KLam
import PySem.Challenge.RW_pairtests_k20_refusals_stand_apart
set_option Elab.async false
set_option linter.all false
set_option bootstrap.genMatcherCode false
set_option maxRecDepth 100000
set_option maxHeartbeats 4000000
namespace L2
open PySem PySem.Spec PyProof.Rows
noncomputable def defArgs (s : Stmt) : Arguments:=match s with
 | .FunctionDef _ a _ _ _ _ _ _ _ _ => a
 | _ => { posonlyargs:=[],args:=[],vararg:=none,kwonlyargs:=[],kw_defaults:=[],kwarg:=none,defaults:=[] }
noncomputable def defBody (s : Stmt) : List Stmt:=match s with
 | .FunctionDef _ _ b _ _ _ _ _ _ _ => b
 | _ => []
noncomputable def defScope (s : Stmt) : Scope:=match s with
 | .FunctionDef _ _ _ _ _ _ sc _ _ _ => sc
 | _ => { kind:=.function,names:=[],isGenerator:=false,isCoroutine:=false }
end L2
namespace Mi
open PySem L2
noncomputable abbrev gS (x : String) (k : Nat) : Value:=.str (Str.ofString x) k
noncomputable abbrev gE (P : Params) (x : String) (k : Nat) (v : Value) : DictEntry:=⟨PyData.keyHash P (Str.ofString x),.str (Str.ofString x) k,v⟩
noncomputable abbrev gF (st : Stmt) (x : String) (kV doc pm : Value) (an : Option Addr) (cdv ct : Value) (sl : Array (Option Value)) : Obj:=⟨.type "function", none, .func (PySem.W.fnOf x x (defArgs st) (defBody st) (defScope st) .none kV doc pm an cdv ct), sl⟩
end Mi
namespace Hs
open PySem PySem.W PySem.Calls PyProof.Rows
theorem left_cut {p q : Program} {loose : List Str} {Xt : Shared→Bool} {α : Type} {Yf : Shared→α} {Ya : World→α} {N : Nat} {g0 : Bool} {H₀ : Params→Heap} {gs₀ : Array GenState} {d₀ : Drawn} {k₀ m₀ M N4 : Nat} {ann : Option Value} {tm : World→OsState→Thread} {Sm : World→OsState→Shared}
  (open_ : ∀ w : World,(fencedOpening treeTable p w N).map (fun s => (s.heap,s.gens,s.drawn,s.toks)) = some (H₀ w.params,gs₀,d₀,k₀))
  (size : ∀ w : World, ((H₀ w.params).isNs mainGlobals && gs₀.size == 0, (H₀ w.params).objs.size, (H₀ w.params).nsMap mainGlobals "__annotations__") = (true, m₀, ann))
  (run : ∀ (w : World) (os : OsState) (r : Shared),topRun treeTable p w m₀ ann N4 (Sm w os) (tm w os) = some r→topRun treeTable p w m₀ ann M ⟨H₀ w.params,gs₀,d₀,k₀,os⟩ (topStub p) = some r) (le : Nat.ble M N = true)
  (last : ∀ (w : World) (os : OsState),(topRun treeTable p w m₀ ann N4 (Sm w os) (tm w os)).map (fun s => (staticsOk (importedModules p.main.body) (H₀ w.params) s.heap && namesBound p s.heap && gensDone s && laidKept (H₀ w.params) s.heap,openSeen q loose (importedModules p.main.body) Xt g0 s,Yf s)) = some (true,openGood q loose,Ya w)) : LeftO p q loose Xt Yf Ya N g0:=fun w => by
 obtain ⟨⟨h,gs,d,k,os⟩,e,e'⟩:=Option.map_eq_some_iff.mp (open_ w)
 obtain ⟨rfl,rfl,rfl,rfl⟩ : h = H₀ w.params∧gs = gs₀∧d = d₀∧k = k₀:=by simpa using e'
 obtain ⟨z1,z2,z3⟩ : _∧_∧_:=by simpa only [Prod.mk.injEq] using size w
 obtain ⟨s1,r1,r2⟩:=Option.map_eq_some_iff.mp (last w os)
 obtain ⟨l1,l2,l3⟩ : _∧_∧_:=by simpa only [Prod.mk.injEq] using r2
 have r:=topRun_mono (N - M) _ _ _ _ (run w os s1 r1)
 rw [show M + (N - M) = N by have:=Nat.le_of_ble_eq_true le;omega] at r
 have t : topFrom treeTable p w N ⟨H₀ w.params,gs,d,k,os⟩ = some s1:=by
  unfold topFrom
  dsimp only
  rw [z1,z2,z3,r]
  show (match staticsOk (importedModules p.main.body) (H₀ w.params) s1.heap && namesBound p s1.heap && gensDone s1 && laidKept (H₀ w.params) s1.heap with | true => _ | false => _) = _
  rw [l1]
 unfold openEnds
 rw [e]
 show (topFrom treeTable p w N _).map _ = _
 rw [t]
 exact congrArg some (Prod.ext l2 l3)
noncomputable def inn (k : Nat) : Stmt→Stmt
 | .ClassDef _ _ _ b _ _ _ _ _ _ _ => b.getD k (.Pass ⟨0,0,0,0⟩)
 | s => s
noncomputable abbrev gT (l : List Value) : Obj:=⟨.type "tuple", none, .seq ⟨l⟩ 0, #[]⟩
noncomputable abbrev gO : Obj:=⟨.none,none,.fields #[],#[]⟩
noncomputable abbrev gY (l : List Value) : Obj:=⟨.none,none,.fields ⟨l⟩,#[]⟩
noncomputable abbrev gR (st : Stmt) (x y : String) : Obj:=⟨.none,none,.func ⟨x,y,L2.defArgs st,.stmts (L2.defBody st),L2.defScope st,0,[],.none,.none,.none,.none,none,.none,.none,0⟩,#[]⟩
noncomputable abbrev gG (st : Stmt) (x y : String) (pm cdv : Value) : Obj:=⟨.type "function", none, .func (PySem.W.fnOf x y (L2.defArgs st) (L2.defBody st) (L2.defScope st) .none .none .none pm none cdv .none), #[]⟩
noncomputable abbrev gM (f : String) (v : Value) : Obj:=⟨.type "builtin_function_or_method", none, .fields #[.builtin f, v], #[]⟩
noncomputable abbrev gU (a : Nat) : Obj:=⟨.type "super", none, .fields #[.ref a, .ref a, .ref a], #[]⟩
noncomputable abbrev gK (x y : String) (t l n k : Nat) (b : Bool) (m a : Nat) (c d e : Value) (u : Nat) : Obj:=⟨.type "code", none, .fields #[Mi.gS x t, Mi.gS y (t + 1), Mi.gS "/claim/cut.py" (t + 2), .int l 0, .int n 0, .int 0 0, .int 0 0, .int k 0, .ref a, .bool b, .int m 0, .ref (a + 1), .none, c, d, e, .int u 0, .int l 0, Mi.gS "/claim/cut.py" (u + 1)], #[]⟩
noncomputable def nm : Stmt→Str
 | .FunctionDef n .. => n
 | _ => ""
noncomputable def ln (s : Stmt) : Nat:=s.pos.line
noncomputable def np (s : Stmt) : Nat:=(L2.defArgs s).args.length
noncomputable abbrev gC1 (st : Stmt) (t a k : Nat) : Obj:=⟨.type "code", none, .fields #[.str (nm st) t, .str (nm st) (t + 1), Mi.gS "/claim/cut.py" (t + 2), .int (ln st) 0, .int (np st) 0, .int 0 0, .int 0 0, .int 3 0, .ref a, .bool true, .int 181 0, .ref (a + 1), .none, .ref (a + 2), .ref (a + 3), .ref (a + 4), .int (t + 3 + k : Nat) 0, .int (ln st) 0, Mi.gS "/claim/cut.py" (t + 4 + k)], #[]⟩
noncomputable abbrev gC0 (st : Stmt) (t a : Nat) : Obj:=⟨.type "code", none, .fields #[.str (nm st) t, .str (nm st) (t + 1), Mi.gS "/claim/cut.py" (t + 2), .int (ln st) 0, .int (np st) 0, .int 0 0, .int 0 0, .int 3 0, .ref a, .bool true, .int 181 0, .ref (a + 1), .none, .none, .none, .ref (a + 2), .int (t + 3 : Nat) 0, .int (ln st) 0, Mi.gS "/claim/cut.py" (t + 4)], #[]⟩
noncomputable abbrev gQ (st : Stmt) : Obj:=⟨.none,none,.func ⟨nm st,nm st,L2.defArgs st,.stmts (L2.defBody st),L2.defScope st,0,[],.none,.none,.none,.none,none,.none,.none,0⟩,#[]⟩
noncomputable abbrev gW (st : Stmt) (m : Value) (a : Nat) : Obj:=⟨.type "function", none, .func (PySem.W.fnOf (nm st) (nm st) (L2.defArgs st) (L2.defBody st) (L2.defScope st) .none .none .none m none (.ref a) .none), #[]⟩
noncomputable def sl : Nat→List String→List Value
 | _,[] => []
 | t,x :: xs => Mi.gS x t :: sl (t + 1) xs
noncomputable abbrev gV (t : Nat) (xs : List String) : Obj:=⟨.type "tuple", none, .seq ⟨sl t xs⟩ 0, #[]⟩
noncomputable def tb : List (Nat × Nat)→List Value
 | [] => []
 | (l,a) :: xs => .int l 0 :: .int 0 0 :: .ref a :: tb xs
noncomputable abbrev gZ (xs : List (Nat × Nat)) : Obj:=⟨.none,none,.fields ⟨tb xs⟩,#[]⟩
noncomputable abbrev gI (a b : Nat) (m : Value) : Obj:=⟨.type "frame", none, .plain, #[some (.ref a), some (.ref 3), some (.ref b), none, some m, none, some (.ref 0)]⟩
end Hs
namespace E20
open PySem L2 Mi
noncomputable def top (i : Nat) : Stmt:=PySem.Challenge.pw_pairtests_k20_refusals_stand_apart.main.body.getD i (.Pass ⟨0,0,0,0⟩)
noncomputable def view : Program:={ PySem.Challenge.pw_pairtests_k20_refusals_stand_apart with main:={ PySem.Challenge.pw_pairtests_k20_refusals_stand_apart.main with body:=[top 1,top 2,top 3,top 4,top 5,top 6,top 7,top 8,top 10,top 11,top 12,top 13,top 14,top 15,top 16,top 17,top 18,top 19,top 20,top 21,top 22,top 23,top 24,top 25,top 26,top 27,top 28,top 29,top 31,top 32,top 33,top 34,top 35,top 36,top 37,top 39,top 40,top 41,top 43,top 44,top 46,top 47,top 48,top 49,top 50,top 51,top 52,top 53,top 54,top 55,top 56,top 57,top 58,top 60,top 61,top 63,top 64,top 65,top 66,top 67,top 69,top 70,top 71,top 72] } }
noncomputable def o_init : Obj:=⟨.type "function", none, .func (PySem.W.fnOf "__init__" "BadTests.__init__" (defArgs (Hs.inn 0 (top 4))) (defBody (Hs.inn 0 (top 4))) (defScope (Hs.inn 0 (top 4))) .none .none .none (gS "pairtests.errors" 187) none (.ref 64) .none), #[]⟩
noncomputable def o_is_whole : Obj:=gF (top 15) "is_whole" .none .none (gS "pairtests.books" 328) none (.ref 124) .none #[]
noncomputable def o_is_tuple : Obj:=gF (top 16) "is_tuple" .none .none (gS "pairtests.books" 328) none (.ref 131) .none #[]
noncomputable def o_are_levels : Obj:=gF (top 17) "are_levels" .none .none (gS "pairtests.books" 328) none (.ref 138) .none #[]
noncomputable def o_is_setting : Obj:=gF (top 18) "is_setting" .none .none (gS "pairtests.books" 328) none (.ref 145) .none #[]
noncomputable def o_is_meeting : Obj:=gF (top 19) "is_meeting" .none .none (gS "pairtests.books" 328) none (.ref 152) .none #[]
noncomputable def o_is_book : Obj:=gF (top 20) "is_book" .none .none (gS "pairtests.books" 328) none (.ref 157) .none #[]
noncomputable def o_checked : Obj:=gF (top 21) "checked" .none .none (gS "pairtests.books" 328) none (.ref 164) .none #[]
noncomputable def o_meets : Obj:=gF (top 22) "meets" .none .none (gS "pairtests.books" 328) none (.ref 169) .none #[]
noncomputable def o_meets_any : Obj:=gF (top 23) "meets_any" .none .none (gS "pairtests.books" 328) none (.ref 174) .none #[]
noncomputable def o_all_rows : Obj:=gF (top 24) "all_rows" .none .none (gS "pairtests.books" 328) none (.ref 179) .none #[]
noncomputable def o_all_tests : Obj:=gF (top 25) "all_tests" .none .none (gS "pairtests.books" 328) none (.ref 184) .none #[]
noncomputable def o_is_row : Obj:=gF (top 26) "is_row" .none .none (gS "pairtests.books" 328) none (.ref 189) .none #[]
noncomputable def o_is_test : Obj:=gF (top 27) "is_test" .none .none (gS "pairtests.books" 328) none (.ref 196) .none #[]
noncomputable def o_check_list : Obj:=gF (top 28) "check_list" .none .none (gS "pairtests.books" 328) none (.ref 203) .none #[]
noncomputable def o_check_tests : Obj:=gF (top 29) "check_tests" .none .none (gS "pairtests.books" 328) none (.ref 210) .none #[]
noncomputable def o_most_strength : Obj:=gF (top 31) "most_strength" .none .none (gS "pairtests.meetings" 455) none (.ref 217) .none #[]
noncomputable def o_check_book_and_strength : Obj:=gF (top 32) "check_book_and_strength" .none .none (gS "pairtests.meetings" 455) none (.ref 224) .none #[]
noncomputable def o_possible : Obj:=gF (top 37) "possible" .none .none (gS "pairtests.meetings" 455) none (.ref 257) .none #[]
noncomputable def o_check_all : Obj:=gF (top 39) "check_all" .none .none (gS "pairtests.covers" 513) none (.ref 264) .none #[]
noncomputable def o_missing : Obj:=gF (top 40) "missing" .none .none (gS "pairtests.covers" 513) none (.ref 269) .none #[]
noncomputable def o_are_results : Obj:=gF (top 43) "are_results" .none .none (gS "pairtests.faults" 542) none (.ref 281) .none #[]
noncomputable def o_suspects : Obj:=gF (top 44) "suspects" .none .none (gS "pairtests.faults" 542) none (.ref 286) .none #[]
noncomputable def o_small_tests : Obj:=gF (top 47) "small_tests" .none .none (gS "pairtests.fewest" 556) none (.ref 293) .none #[]
noncomputable def o_fewest : Obj:=gF (top 58) "fewest" .none .none (gS "pairtests.fewest" 556) none (.ref 362) .none #[]
noncomputable def o_with_setting : Obj:=gF (top 61) "with_setting" .none .none (gS "pairtests.keeping" 661) none (.ref 376) .none #[]
noncomputable def o_read : Obj:=gF (top 67) "read" .none .none (gS "pairtests.texts" 679) none (.ref 400) .none #[]
noncomputable def o__law_cell : Obj:=gF (top 69) "_law_cell" .none .none (gS "law_pairtests_k20_refusals_stand_apart" 711) none (.ref 407) .none #[]
noncomputable def o__law_deed : Obj:=gF (top 70) "_law_deed" .none .none (gS "law_pairtests_k20_refusals_stand_apart" 711) none (.ref 414) .none #[]
noncomputable def o__law_kinds_of : Obj:=gF (top 71) "_law_kinds_of" .none .none (gS "law_pairtests_k20_refusals_stand_apart" 711) none (.ref 421) .none #[]
noncomputable def o_law : Obj:=gF (top 72) "law" .none .none (gS "law_pairtests_k20_refusals_stand_apart" 711) none (.ref 426) .none #[]
noncomputable def heap (P : Params) : PySem.W.Frag:=[(2, ⟨.none, none, .dict #[] 0, #[]⟩), (3, ⟨.type "dict", none, .dict #[gE P "__name__" 165 (gS "law_pairtests_k20_refusals_stand_apart" 711), gE P "__doc__" 166 .none, gE P "__package__" 167 .none, gE P "__loader__" 168 (.builtin "__main__.__loader__#opaque"), gE P "__spec__" 169 .none, gE P "__annotations__" 170 (.ref 6), gE P "__builtins__" 171 (.ref 4), gE P "__file__" 173 (gS "/claim/cut.py" 172), gE P "__cached__" 174 .none, gE P "TestError" 206 (.ref 24), gE P "BadBook" 222 (.ref 37), gE P "BadStrength" 238 (.ref 49), gE P "BadTests" 263 (.ref 68), gE P "BadNumber" 279 (.ref 80), gE P "BadResults" 295 (.ref 92), gE P "TooBig" 311 (.ref 104), gE P "BadText" 327 (.ref 116), gE P "MOST_THINGS" 331 (.int 6 330), gE P "MOST_SETTINGS" 333 (.int 4 332), gE P "MOST_ROWS" 335 (.int 400 334), gE P "MOST_BANS" 337 (.int 12 336), gE P "MOST_IN_MEETING" 339 (.int 3 338), gE P "is_whole" 348 (.ref 125), gE P "is_tuple" 357 (.ref 132), gE P "are_levels" 366 (.ref 139), gE P "is_setting" 374 (.ref 146), gE P "is_meeting" 384 (.ref 153), gE P "is_book" 390 (.ref 158), gE P "checked" 397 (.ref 165), gE P "meets" 403 (.ref 170), gE P "meets_any" 409 (.ref 175), gE P "all_rows" 415 (.ref 180), gE P "all_tests" 421 (.ref 185), gE P "is_row" 427 (.ref 190), gE P "is_test" 435 (.ref 197), gE P "check_list" 445 (.ref 204), gE P "check_tests" 454 (.ref 211), gE P "most_strength" 463 (.ref 218), gE P "check_book_and_strength" 471 (.ref 225), gE P "is_behind" 479 (.ref 232), gE P "meetings_among" 485 (.ref 237), gE P "meetings_of" 493 (.ref 244), gE P "met_by" 504 (.ref 251), gE P "possible" 512 (.ref 258), gE P "check_all" 523 (.ref 265), gE P "missing" 529 (.ref 270), gE P "places_by_meeting" 541 (.ref 277), gE P "are_results" 549 (.ref 282), gE P "suspects" 555 (.ref 287), gE P "MOST_TESTS" 559 (.int 24 558), gE P "small_tests" 568 (.ref 294), gE P "tests_by_bit" 578 (.ref 301), gE P "masks_by_meeting" 590 (.ref 308), gE P "meetings_by_mask" 601 (.ref 315), gE P "bits_of" 611 (.ref 322), gE P "size_of" 618 (.ref 329), gE P "all_bits" 627 (.ref 336), gE P "clear_of" 633 (.ref 341), gE P "narrowest" 639 (.ref 346), gE P "some_apart" 648 (.ref 353), gE P "hit_by" 654 (.ref 358), gE P "fewest" 660 (.ref 363), gE P "within_bounds" 669 (.ref 370), gE P "with_setting" 678 (.ref 377), gE P "FIGURES" 682 (gS "0123456789" 681), gE P "number_in" 689 (.ref 384), gE P "setting_in" 695 (.ref 389), gE P "words_behind" 704 (.ref 396), gE P "read" 710 (.ref 401), gE P "_law_cell" 720 (.ref 408), gE P "_law_deed" 728 (.ref 415), gE P "_law_kinds_of" 737 (.ref 422), gE P "law" 743 (.ref 427)] 73, #[]⟩), (23, ⟨(.type "dict"), none, .dict #[gE P "__module__" 196 (gS "pairtests.errors" 187), gE P "__firstlineno__" 200 (.int 2 199), gE P "__static_attributes__" 201 (.ref 22), gE P "__weakref__" 203 (.ref 25), gE P "__doc__" 204 .none] 3, #[]⟩), (24, ⟨(.type "type"), none, .cls { name:=(Str.ofString "TestError"), bases:=[(.type "ValueError")], mro:=[(.ref 24), (.type "ValueError"), (.type "Exception"), (.type "BaseException"), (.type "object")], ns:=23, qualname:=(Str.ofString "TestError"), hasDict:=true, slotNames:=[], subclasses:=[(.ref 37), (.ref 49), (.ref 68), (.ref 80), (.ref 92), (.ref 104), (.ref 116)], abstract:=false, collection:=none, hasDel:=false }, #[some (.ref 15), none, some (gS "TestError" 189), some (gS "TestError" 197), some (.builtin "ValueError.__new__"), some (.bool true)]⟩), (36, ⟨(.type "dict"), none, .dict #[gE P "__module__" 214 (gS "pairtests.errors" 187), gE P "__firstlineno__" 218 (.int 4 217), gE P "__static_attributes__" 219 (.ref 35), gE P "__doc__" 220 .none] 2, #[]⟩), (37, ⟨(.type "type"), none, .cls { name:=(Str.ofString "BadBook"), bases:=[(.ref 24)], mro:=[(.ref 37), (.ref 24), (.type "ValueError"), (.type "Exception"), (.type "BaseException"), (.type "object")], ns:=36, qualname:=(Str.ofString "BadBook"), hasDict:=true, slotNames:=[], subclasses:=[], abstract:=false, collection:=none, hasDel:=false }, #[some (.ref 28), none, some (gS "BadBook" 207), some (gS "BadBook" 215), some (.builtin "ValueError.__new__"), some (.bool true)]⟩), (48, ⟨(.type "dict"), none, .dict #[gE P "__module__" 230 (gS "pairtests.errors" 187), gE P "__firstlineno__" 234 (.int 6 233), gE P "__static_attributes__" 235 (.ref 47), gE P "__doc__" 236 .none] 2, #[]⟩), (49, ⟨(.type "type"), none, .cls { name:=(Str.ofString "BadStrength"), bases:=[(.ref 24)], mro:=[(.ref 49), (.ref 24), (.type "ValueError"), (.type "Exception"), (.type "BaseException"), (.type "object")], ns:=48, qualname:=(Str.ofString "BadStrength"), hasDict:=true, slotNames:=[], subclasses:=[], abstract:=false, collection:=none, hasDel:=false }, #[some (.ref 40), none, some (gS "BadStrength" 223), some (gS "BadStrength" 231), some (.builtin "ValueError.__new__"), some (.bool true)]⟩), (64, ⟨.type "code", none, .fields #[(gS "__init__" 251), (gS "BadTests.__init__" 252), (gS "/claim/cut.py" 253), (.int 10 0), (.int 2 0), (.int 0 0), (.int 0 0), (.int 3 0), (.ref 59), (.bool true), (.int 181 0), (.ref 60), .none, (.ref 61), (.ref 62), (.ref 63), (.int 256 0), (.int 10 0), (gS "/claim/cut.py" 257)], #[]⟩), (65, o_init), (67, ⟨(.type "dict"), none, .dict #[gE P "__module__" 246 (gS "pairtests.errors" 187), gE P "__firstlineno__" 250 (.int 8 249), gE P "__init__" 258 (.ref 65), gE P "__static_attributes__" 260 (.ref 66), gE P "__doc__" 261 .none] 2, #[]⟩), (68, ⟨(.type "type"), none, .cls { name:=(Str.ofString "BadTests"), bases:=[(.ref 24)], mro:=[(.ref 68), (.ref 24), (.type "ValueError"), (.type "Exception"), (.type "BaseException"), (.type "object")], ns:=67, qualname:=(Str.ofString "BadTests"), hasDict:=true, slotNames:=[], subclasses:=[], abstract:=false, collection:=none, hasDel:=false }, #[some (.ref 52), none, some (gS "BadTests" 239), some (gS "BadTests" 247), some (.builtin "ValueError.__new__"), some (.bool true)]⟩), (79, ⟨(.type "dict"), none, .dict #[gE P "__module__" 271 (gS "pairtests.errors" 187), gE P "__firstlineno__" 275 (.int 13 274), gE P "__static_attributes__" 276 (.ref 78), gE P "__doc__" 277 .none] 2, #[]⟩), (80, ⟨(.type "type"), none, .cls { name:=(Str.ofString "BadNumber"), bases:=[(.ref 24)], mro:=[(.ref 80), (.ref 24), (.type "ValueError"), (.type "Exception"), (.type "BaseException"), (.type "object")], ns:=79, qualname:=(Str.ofString "BadNumber"), hasDict:=true, slotNames:=[], subclasses:=[], abstract:=false, collection:=none, hasDel:=false }, #[some (.ref 71), none, some (gS "BadNumber" 264), some (gS "BadNumber" 272), some (.builtin "ValueError.__new__"), some (.bool true)]⟩), (91, ⟨(.type "dict"), none, .dict #[gE P "__module__" 287 (gS "pairtests.errors" 187), gE P "__firstlineno__" 291 (.int 15 290), gE P "__static_attributes__" 292 (.ref 90), gE P "__doc__" 293 .none] 2, #[]⟩), (92, ⟨(.type "type"), none, .cls { name:=(Str.ofString "BadResults"), bases:=[(.ref 24)], mro:=[(.ref 92), (.ref 24), (.type "ValueError"), (.type "Exception"), (.type "BaseException"), (.type "object")], ns:=91, qualname:=(Str.ofString "BadResults"), hasDict:=true, slotNames:=[], subclasses:=[], abstract:=false, collection:=none, hasDel:=false }, #[some (.ref 83), none, some (gS "BadResults" 280), some (gS "BadResults" 288), some (.builtin "ValueError.__new__"), some (.bool true)]⟩), (103, ⟨(.type "dict"), none, .dict #[gE P "__module__" 303 (gS "pairtests.errors" 187), gE P "__firstlineno__" 307 (.int 17 306), gE P "__static_attributes__" 308 (.ref 102), gE P "__doc__" 309 .none] 2, #[]⟩), (104, ⟨(.type "type"), none, .cls { name:=(Str.ofString "TooBig"), bases:=[(.ref 24)], mro:=[(.ref 104), (.ref 24), (.type "ValueError"), (.type "Exception"), (.type "BaseException"), (.type "object")], ns:=103, qualname:=(Str.ofString "TooBig"), hasDict:=true, slotNames:=[], subclasses:=[], abstract:=false, collection:=none, hasDel:=false }, #[some (.ref 95), none, some (gS "TooBig" 296), some (gS "TooBig" 304), some (.builtin "ValueError.__new__"), some (.bool true)]⟩), (115, ⟨(.type "dict"), none, .dict #[gE P "__module__" 319 (gS "pairtests.errors" 187), gE P "__firstlineno__" 323 (.int 19 322), gE P "__static_attributes__" 324 (.ref 114), gE P "__doc__" 325 .none] 2, #[]⟩), (116, ⟨(.type "type"), none, .cls { name:=(Str.ofString "BadText"), bases:=[(.ref 24)], mro:=[(.ref 116), (.ref 24), (.type "ValueError"), (.type "Exception"), (.type "BaseException"), (.type "object")], ns:=115, qualname:=(Str.ofString "BadText"), hasDict:=true, slotNames:=[], subclasses:=[], abstract:=false, collection:=none, hasDel:=false }, #[some (.ref 107), none, some (gS "BadText" 312), some (gS "BadText" 320), some (.builtin "ValueError.__new__"), some (.bool true)]⟩), (124, ⟨.type "code", none, .fields #[(gS "is_whole" 340), (gS "is_whole" 341), (gS "/claim/cut.py" 342), (.int 27 0), (.int 3 0), (.int 0 0), (.int 0 0), (.int 3 0), (.ref 119), (.bool true), (.int 181 0), (.ref 120), .none, (.ref 121), (.ref 122), (.ref 123), (.int 346 0), (.int 27 0), (gS "/claim/cut.py" 347)], #[]⟩), (125, o_is_whole), (131, ⟨.type "code", none, .fields #[(gS "is_tuple" 349), (gS "is_tuple" 350), (gS "/claim/cut.py" 351), (.int 29 0), (.int 3 0), (.int 0 0), (.int 0 0), (.int 3 0), (.ref 126), (.bool true), (.int 181 0), (.ref 127), .none, (.ref 128), (.ref 129), (.ref 130), (.int 355 0), (.int 29 0), (gS "/claim/cut.py" 356)], #[]⟩), (132, o_is_tuple), (138, ⟨.type "code", none, .fields #[(gS "are_levels" 358), (gS "are_levels" 359), (gS "/claim/cut.py" 360), (.int 31 0), (.int 1 0), (.int 0 0), (.int 0 0), (.int 3 0), (.ref 133), (.bool true), (.int 181 0), (.ref 134), .none, (.ref 135), (.ref 136), (.ref 137), (.int 364 0), (.int 31 0), (gS "/claim/cut.py" 365)], #[]⟩), (139, o_are_levels), (145, ⟨.type "code", none, .fields #[(gS "is_setting" 367), (gS "is_setting" 368), (gS "/claim/cut.py" 369), (.int 40 0), (.int 2 0), (.int 0 0), (.int 0 0), (.int 3 0), (.ref 140), (.bool true), (.int 181 0), (.ref 141), .none, (.ref 142), (.ref 143), (.ref 144), (.int 372 0), (.int 40 0), (gS "/claim/cut.py" 373)], #[]⟩), (146, o_is_setting), (152, ⟨.type "code", none, .fields #[(gS "is_meeting" 375), (gS "is_meeting" 376), (gS "/claim/cut.py" 377), (.int 44 0), (.int 2 0), (.int 0 0), (.int 0 0), (.int 3 0), (.ref 147), (.bool true), (.int 181 0), (.ref 148), .none, (.ref 149), (.ref 150), (.ref 151), (.int 382 0), (.int 44 0), (gS "/claim/cut.py" 383)], #[]⟩), (153, o_is_meeting), (157, ⟨.type "code", none, .fields #[(gS "is_book" 385), (gS "is_book" 386), (gS "/claim/cut.py" 387), (.int 53 0), (.int 1 0), (.int 0 0), (.int 0 0), (.int 3 0), (.ref 154), (.bool true), (.int 181 0), (.ref 155), .none, .none, .none, (.ref 156), (.int 388 0), (.int 53 0), (gS "/claim/cut.py" 389)], #[]⟩), (158, o_is_book), (164, ⟨.type "code", none, .fields #[(gS "checked" 391), (gS "checked" 392), (gS "/claim/cut.py" 393), (.int 57 0), (.int 1 0), (.int 0 0), (.int 0 0), (.int 3 0), (.ref 159), (.bool true), (.int 181 0), (.ref 160), .none, (.ref 161), (.ref 162), (.ref 163), (.int 395 0), (.int 57 0), (gS "/claim/cut.py" 396)], #[]⟩), (165, o_checked), (169, ⟨.type "code", none, .fields #[(gS "meets" 398), (gS "meets" 399), (gS "/claim/cut.py" 400), (.int 61 0), (.int 2 0), (.int 0 0), (.int 0 0), (.int 3 0), (.ref 166), (.bool true), (.int 181 0), (.ref 167), .none, .none, .none, (.ref 168), (.int 401 0), (.int 61 0), (gS "/claim/cut.py" 402)], #[]⟩), (170, o_meets), (174, ⟨.type "code", none, .fields #[(gS "meets_any" 404), (gS "meets_any" 405), (gS "/claim/cut.py" 406), (.int 63 0), (.int 2 0), (.int 0 0), (.int 0 0), (.int 3 0), (.ref 171), (.bool true), (.int 181 0), (.ref 172), .none, .none, .none, (.ref 173), (.int 407 0), (.int 63 0), (gS "/claim/cut.py" 408)], #[]⟩), (175, o_meets_any), (179, ⟨.type "code", none, .fields #[(gS "all_rows" 410), (gS "all_rows" 411), (gS "/claim/cut.py" 412), (.int 65 0), (.int 1 0), (.int 0 0), (.int 0 0), (.int 3 0), (.ref 176), (.bool true), (.int 181 0), (.ref 177), .none, .none, .none, (.ref 178), (.int 413 0), (.int 65 0), (gS "/claim/cut.py" 414)], #[]⟩), (180, o_all_rows), (184, ⟨.type "code", none, .fields #[(gS "all_tests" 416), (gS "all_tests" 417), (gS "/claim/cut.py" 418), (.int 73 0), (.int 1 0), (.int 0 0), (.int 0 0), (.int 3 0), (.ref 181), (.bool true), (.int 181 0), (.ref 182), .none, .none, .none, (.ref 183), (.int 419 0), (.int 73 0), (gS "/claim/cut.py" 420)], #[]⟩), (185, o_all_tests), (189, ⟨.type "code", none, .fields #[(gS "is_row" 422), (gS "is_row" 423), (gS "/claim/cut.py" 424), (.int 76 0), (.int 2 0), (.int 0 0), (.int 0 0), (.int 3 0), (.ref 186), (.bool true), (.int 181 0), (.ref 187), .none, .none, .none, (.ref 188), (.int 425 0), (.int 76 0), (gS "/claim/cut.py" 426)], #[]⟩), (190, o_is_row), (196, ⟨.type "code", none, .fields #[(gS "is_test" 428), (gS "is_test" 429), (gS "/claim/cut.py" 430), (.int 80 0), (.int 2 0), (.int 0 0), (.int 0 0), (.int 3 0), (.ref 191), (.bool true), (.int 181 0), (.ref 192), .none, (.ref 193), (.ref 194), (.ref 195), (.int 433 0), (.int 80 0), (gS "/claim/cut.py" 434)], #[]⟩), (197, o_is_test), (203, ⟨.type "code", none, .fields #[(gS "check_list" 436), (gS "check_list" 437), (gS "/claim/cut.py" 438), (.int 82 0), (.int 2 0), (.int 0 0), (.int 0 0), (.int 3 0), (.ref 198), (.bool true), (.int 181 0), (.ref 199), .none, (.ref 200), (.ref 201), (.ref 202), (.int 443 0), (.int 82 0), (gS "/claim/cut.py" 444)], #[]⟩), (204, o_check_list), (210, ⟨.type "code", none, .fields #[(gS "check_tests" 446), (gS "check_tests" 447), (gS "/claim/cut.py" 448), (.int 88 0), (.int 2 0), (.int 0 0), (.int 0 0), (.int 3 0), (.ref 205), (.bool true), (.int 181 0), (.ref 206), .none, (.ref 207), (.ref 208), (.ref 209), (.int 452 0), (.int 88 0), (gS "/claim/cut.py" 453)], #[]⟩), (211, o_check_tests), (217, ⟨.type "code", none, .fields #[(gS "most_strength" 457), (gS "most_strength" 458), (gS "/claim/cut.py" 459), (.int 91 0), (.int 1 0), (.int 0 0), (.int 0 0), (.int 3 0), (.ref 212), (.bool true), (.int 181 0), (.ref 213), .none, (.ref 214), (.ref 215), (.ref 216), (.int 461 0), (.int 91 0), (gS "/claim/cut.py" 462)], #[]⟩), (218, o_most_strength), (224, ⟨.type "code", none, .fields #[(gS "check_book_and_strength" 464), (gS "check_book_and_strength" 465), (gS "/claim/cut.py" 466), (.int 93 0), (.int 2 0), (.int 0 0), (.int 0 0), (.int 3 0), (.ref 219), (.bool true), (.int 181 0), (.ref 220), .none, (.ref 221), (.ref 222), (.ref 223), (.int 469 0), (.int 93 0), (gS "/claim/cut.py" 470)], #[]⟩), (225, o_check_book_and_strength), (257, ⟨.type "code", none, .fields #[(gS "possible" 505), (gS "possible" 506), (gS "/claim/cut.py" 507), (.int 115 0), (.int 2 0), (.int 0 0), (.int 0 0), (.int 3 0), (.ref 252), (.bool true), (.int 181 0), (.ref 253), .none, (.ref 254), (.ref 255), (.ref 256), (.int 510 0), (.int 115 0), (gS "/claim/cut.py" 511)], #[]⟩), (258, o_possible), (264, ⟨.type "code", none, .fields #[(gS "check_all" 515), (gS "check_all" 516), (gS "/claim/cut.py" 517), (.int 119 0), (.int 3 0), (.int 0 0), (.int 0 0), (.int 3 0), (.ref 259), (.bool true), (.int 181 0), (.ref 260), .none, (.ref 261), (.ref 262), (.ref 263), (.int 521 0), (.int 119 0), (gS "/claim/cut.py" 522)], #[]⟩), (265, o_check_all), (269, ⟨.type "code", none, .fields #[(gS "missing" 524), (gS "missing" 525), (gS "/claim/cut.py" 526), (.int 122 0), (.int 3 0), (.int 0 0), (.int 0 0), (.int 3 0), (.ref 266), (.bool true), (.int 181 0), (.ref 267), .none, .none, .none, (.ref 268), (.int 527 0), (.int 122 0), (gS "/claim/cut.py" 528)], #[]⟩), (270, o_missing), (281, ⟨.type "code", none, .fields #[(gS "are_results" 544), (gS "are_results" 545), (gS "/claim/cut.py" 546), (.int 133 0), (.int 2 0), (.int 0 0), (.int 0 0), (.int 3 0), (.ref 278), (.bool true), (.int 181 0), (.ref 279), .none, .none, .none, (.ref 280), (.int 547 0), (.int 133 0), (gS "/claim/cut.py" 548)], #[]⟩), (282, o_are_results), (286, ⟨.type "code", none, .fields #[(gS "suspects" 550), (gS "suspects" 551), (gS "/claim/cut.py" 552), (.int 137 0), (.int 4 0), (.int 0 0), (.int 0 0), (.int 3 0), (.ref 283), (.bool true), (.int 181 0), (.ref 284), .none, .none, .none, (.ref 285), (.int 553 0), (.int 137 0), (gS "/claim/cut.py" 554)], #[]⟩), (287, o_suspects), (293, ⟨.type "code", none, .fields #[(gS "small_tests" 560), (gS "small_tests" 561), (gS "/claim/cut.py" 562), (.int 146 0), (.int 2 0), (.int 0 0), (.int 0 0), (.int 3 0), (.ref 288), (.bool true), (.int 181 0), (.ref 289), .none, (.ref 290), (.ref 291), (.ref 292), (.int 566 0), (.int 146 0), (gS "/claim/cut.py" 567)], #[]⟩), (294, o_small_tests), (362, ⟨.type "code", none, .fields #[(gS "fewest" 655), (gS "fewest" 656), (gS "/claim/cut.py" 657), (.int 211 0), (.int 2 0), (.int 0 0), (.int 0 0), (.int 3 0), (.ref 359), (.bool true), (.int 181 0), (.ref 360), .none, .none, .none, (.ref 361), (.int 658 0), (.int 211 0), (gS "/claim/cut.py" 659)], #[]⟩), (363, o_fewest), (376, ⟨.type "code", none, .fields #[(gS "with_setting" 670), (gS "with_setting" 671), (gS "/claim/cut.py" 672), (.int 226 0), (.int 2 0), (.int 0 0), (.int 0 0), (.int 3 0), (.ref 371), (.bool true), (.int 181 0), (.ref 372), .none, (.ref 373), (.ref 374), (.ref 375), (.int 676 0), (.int 226 0), (gS "/claim/cut.py" 677)], #[]⟩), (377, o_with_setting), (400, ⟨.type "code", none, .fields #[(gS "read" 705), (gS "read" 706), (gS "/claim/cut.py" 707), (.int 245 0), (.int 1 0), (.int 0 0), (.int 0 0), (.int 3 0), (.ref 397), (.bool true), (.int 181 0), (.ref 398), .none, .none, .none, (.ref 399), (.int 708 0), (.int 245 0), (gS "/claim/cut.py" 709)], #[]⟩), (401, o_read), (407, ⟨.type "code", none, .fields #[(gS "_law_cell" 713), (gS "_law_cell" 714), (gS "/claim/cut.py" 715), (.int 256 0), (.int 2 0), (.int 0 0), (.int 0 0), (.int 3 0), (.ref 402), (.bool true), (.int 181 0), (.ref 403), .none, (.ref 404), (.ref 405), (.ref 406), (.int 718 0), (.int 256 0), (gS "/claim/cut.py" 719)], #[]⟩), (408, o__law_cell), (414, ⟨.type "code", none, .fields #[(gS "_law_deed" 721), (gS "_law_deed" 722), (gS "/claim/cut.py" 723), (.int 260 0), (.int 1 0), (.int 0 0), (.int 0 0), (.int 3 0), (.ref 409), (.bool true), (.int 181 0), (.ref 410), .none, (.ref 411), (.ref 412), (.ref 413), (.int 726 0), (.int 260 0), (gS "/claim/cut.py" 727)], #[]⟩), (415, o__law_deed), (421, ⟨.type "code", none, .fields #[(gS "_law_kinds_of" 729), (gS "_law_kinds_of" 730), (gS "/claim/cut.py" 731), (.int 275 0), (.int 1 0), (.int 0 0), (.int 0 0), (.int 3 0), (.ref 416), (.bool true), (.int 181 0), (.ref 417), .none, (.ref 418), (.ref 419), (.ref 420), (.int 735 0), (.int 275 0), (gS "/claim/cut.py" 736)], #[]⟩), (422, o__law_kinds_of), (426, ⟨.type "code", none, .fields #[(gS "law" 738), (gS "law" 739), (gS "/claim/cut.py" 740), (.int 284 0), (.int 1 0), (.int 0 0), (.int 0 0), (.int 3 0), (.ref 423), (.bool true), (.int 181 0), (.ref 424), .none, .none, .none, (.ref 425), (.int 741 0), (.int 284 0), (gS "/claim/cut.py" 742)], #[]⟩), (427, o_law)]
noncomputable def adrs : List Addr:=[2,3,23,24,36,37,48,49,64,65,67,68,79,80,91,92,103,104,115,116,124,125,131,132,138,139,145,146,152,153,157,158,164,165,169,170,174,175,179,180,184,185,189,190,196,197,203,204,210,211,217,218,224,225,257,258,264,265,269,270,281,282,286,287,293,294,362,363,376,377,400,401,407,408,414,415,421,422,426,427]
noncomputable def hook : PySem.W.Hook:=PySem.W.kHook heap adrs (fun _ => rfl)
noncomputable abbrev e0 : Obj:=Hs.gT []
noncomputable abbrev o0 : Obj:=Hs.gO
noncomputable abbrev kQ (i : Nat):=Hs.gQ (top i)
noncomputable abbrev kW (i : Nat) (m : Value) (a : Nat):=Hs.gW (top i) m a
noncomputable abbrev kC (i t a k : Nat):=Hs.gC1 (top i) t a k
noncomputable abbrev kD (i t a : Nat):=Hs.gC0 (top i) t a
abbrev pw : Program:=PySem.Challenge.pw_pairtests_k20_refusals_stand_apart
noncomputable abbrev m0 : Value:=(gS "__main__" 164)
noncomputable abbrev m1 : Value:=(gS "pairtests.errors" 187)
noncomputable abbrev m2 : Value:=(gS "pairtests.books" 328)
noncomputable abbrev m3 : Value:=(gS "pairtests.meetings" 455)
noncomputable abbrev m4 : Value:=(gS "pairtests.covers" 513)
noncomputable abbrev m5 : Value:=(gS "pairtests.faults" 542)
noncomputable abbrev m6 : Value:=(gS "pairtests.fewest" 556)
noncomputable abbrev m7 : Value:=(gS "pairtests.keeping" 661)
noncomputable abbrev m8 : Value:=(gS "pairtests.texts" 679)
noncomputable abbrev m9 : Value:=(gS "law_pairtests_k20_refusals_stand_apart" 711)
noncomputable def h13 : Obj:=Hs.gK "<module>" "<module>" 182 1 0 0 false 181 11 .none .none .none 185
noncomputable def h3 (P : Params) : Obj:=⟨(.type "dict"), none, .dict #[gE P "__name__" 165 (gS "pairtests.meetings" 455), gE P "__doc__" 166 .none, gE P "__package__" 167 .none, gE P "__loader__" 168 (.builtin "__main__.__loader__#opaque"), gE P "__spec__" 169 .none, gE P "__annotations__" 170 (.ref 6), gE P "__builtins__" 171 (.ref 4), gE P "__file__" 173 (gS "/claim/cut.py" 172), gE P "__cached__" 174 .none, gE P "TestError" 206 (.ref 24), gE P "BadBook" 222 (.ref 37), gE P "BadStrength" 238 (.ref 49), gE P "BadTests" 263 (.ref 68), gE P "BadNumber" 279 (.ref 80), gE P "BadResults" 295 (.ref 92), gE P "TooBig" 311 (.ref 104), gE P "BadText" 327 (.ref 116), gE P "MOST_THINGS" 331 (.int 6 330), gE P "MOST_SETTINGS" 333 (.int 4 332), gE P "MOST_ROWS" 335 (.int 400 334), gE P "MOST_BANS" 337 (.int 12 336), gE P "MOST_IN_MEETING" 339 (.int 3 338), gE P "is_whole" 348 (.ref 125), gE P "is_tuple" 357 (.ref 132), gE P "are_levels" 366 (.ref 139), gE P "is_setting" 374 (.ref 146), gE P "is_meeting" 384 (.ref 153), gE P "is_book" 390 (.ref 158), gE P "checked" 397 (.ref 165), gE P "meets" 403 (.ref 170), gE P "meets_any" 409 (.ref 175), gE P "all_rows" 415 (.ref 180), gE P "all_tests" 421 (.ref 185), gE P "is_row" 427 (.ref 190), gE P "is_test" 435 (.ref 197), gE P "check_list" 445 (.ref 204), gE P "check_tests" 454 (.ref 211), gE P "most_strength" 463 (.ref 218)] 38, #[]⟩
noncomputable def h12 : Obj:=Hs.gZ [(2,20),(4,33),(6,45),(8,57),(13,76),(15,88),(17,100),(19,112),(27,124),(29,131),(31,138),(40,145),(44,152),(53,157),(57,164),(61,169),(63,174),(65,179),(73,184),(76,189),(80,196),(82,203),(88,210),(91,217)]
noncomputable def h15 : Obj:=Hs.gT [(.type "ValueError")]
noncomputable def h16 : Obj:=Hs.gM "type.__prepare__" (.type "type")
noncomputable def h17 (P : Params) : Obj:=⟨(.type "dict"), none, .dict #[gE P "__module__" 196 (gS "pairtests.errors" 187), gE P "__qualname__" 198 (gS "TestError" 197), gE P "__firstlineno__" 200 (.int 2 199), gE P "__static_attributes__" 201 (.ref 22)] 4, #[]⟩
noncomputable def h20 : Obj:=Hs.gK "TestError" "TestError" 191 2 0 0 false 181 18 .none .none .none 194
noncomputable def h23 (P : Params) : Obj:=⟨(.type "dict"), none, .dict #[gE P "__module__" 196 (gS "pairtests.errors" 187), gE P "__firstlineno__" 200 (.int 2 199), gE P "__static_attributes__" 201 (.ref 22), gE P "__weakref__" 203 (.ref 25), gE P "__doc__" 204 .none] 3, #[]⟩
noncomputable def h24 : Obj:=⟨(.type "type"), none, .cls { name:=(Str.ofString "TestError"), bases:=[(.type "ValueError")], mro:=[(.ref 24), (.type "ValueError"), (.type "Exception"), (.type "BaseException"), (.type "object")], ns:=23, qualname:=(Str.ofString "TestError"), hasDict:=true, slotNames:=[], subclasses:=[(.ref 37), (.ref 49), (.ref 68), (.ref 80), (.ref 92), (.ref 104), (.ref 116)], abstract:=false, collection:=none, hasDel:=false }, #[some (.ref 15), none, some (gS "TestError" 189), some (gS "TestError" 197), some (.builtin "ValueError.__new__"), some (.bool true)]⟩
noncomputable def h25 : Obj:=⟨(.type "getset_descriptor"), none, .fields #[(gS "__weakref__" 202), (.ref 24), (.builtin "ExceptionGroup.__weakref__"), .none], #[]⟩
noncomputable def h27 : Obj:=Hs.gM "object.__init_subclass__" (.ref 24)
noncomputable def h29 : Obj:=Hs.gM "type.__prepare__" (.type "type")
noncomputable def h30 (P : Params) : Obj:=⟨(.type "dict"), none, .dict #[gE P "__module__" 214 (gS "pairtests.errors" 187), gE P "__qualname__" 216 (gS "BadBook" 215), gE P "__firstlineno__" 218 (.int 4 217), gE P "__static_attributes__" 219 (.ref 35)] 4, #[]⟩
noncomputable def h33 : Obj:=Hs.gK "BadBook" "BadBook" 209 4 0 0 false 181 31 .none .none .none 212
noncomputable def h36 (P : Params) : Obj:=⟨(.type "dict"), none, .dict #[gE P "__module__" 214 (gS "pairtests.errors" 187), gE P "__firstlineno__" 218 (.int 4 217), gE P "__static_attributes__" 219 (.ref 35), gE P "__doc__" 220 .none] 2, #[]⟩
noncomputable def h37 : Obj:=⟨(.type "type"), none, .cls { name:=(Str.ofString "BadBook"), bases:=[(.ref 24)], mro:=[(.ref 37), (.ref 24), (.type "ValueError"), (.type "Exception"), (.type "BaseException"), (.type "object")], ns:=36, qualname:=(Str.ofString "BadBook"), hasDict:=true, slotNames:=[], subclasses:=[], abstract:=false, collection:=none, hasDel:=false }, #[some (.ref 28), none, some (gS "BadBook" 207), some (gS "BadBook" 215), some (.builtin "ValueError.__new__"), some (.bool true)]⟩
noncomputable def h39 : Obj:=Hs.gM "object.__init_subclass__" (.ref 37)
noncomputable def h41 : Obj:=Hs.gM "type.__prepare__" (.type "type")
noncomputable def h42 (P : Params) : Obj:=⟨(.type "dict"), none, .dict #[gE P "__module__" 230 (gS "pairtests.errors" 187), gE P "__qualname__" 232 (gS "BadStrength" 231), gE P "__firstlineno__" 234 (.int 6 233), gE P "__static_attributes__" 235 (.ref 47)] 4, #[]⟩
noncomputable def h45 : Obj:=Hs.gK "BadStrength" "BadStrength" 225 6 0 0 false 181 43 .none .none .none 228
noncomputable def h48 (P : Params) : Obj:=⟨(.type "dict"), none, .dict #[gE P "__module__" 230 (gS "pairtests.errors" 187), gE P "__firstlineno__" 234 (.int 6 233), gE P "__static_attributes__" 235 (.ref 47), gE P "__doc__" 236 .none] 2, #[]⟩
noncomputable def h49 : Obj:=⟨(.type "type"), none, .cls { name:=(Str.ofString "BadStrength"), bases:=[(.ref 24)], mro:=[(.ref 49), (.ref 24), (.type "ValueError"), (.type "Exception"), (.type "BaseException"), (.type "object")], ns:=48, qualname:=(Str.ofString "BadStrength"), hasDict:=true, slotNames:=[], subclasses:=[], abstract:=false, collection:=none, hasDel:=false }, #[some (.ref 40), none, some (gS "BadStrength" 223), some (gS "BadStrength" 231), some (.builtin "ValueError.__new__"), some (.bool true)]⟩
noncomputable def h51 : Obj:=Hs.gM "object.__init_subclass__" (.ref 49)
noncomputable def h53 : Obj:=Hs.gM "type.__prepare__" (.type "type")
noncomputable def h54 (P : Params) : Obj:=⟨(.type "dict"), none, .dict #[gE P "__module__" 246 (gS "pairtests.errors" 187), gE P "__qualname__" 248 (gS "BadTests" 247), gE P "__firstlineno__" 250 (.int 8 249), gE P "__init__" 258 (.ref 65), gE P "__static_attributes__" 260 (.ref 66)] 5, #[]⟩
noncomputable def h56 : Obj:=Hs.gY [(.int 10 0),(.int 4 0),(.ref 64)]
noncomputable def h57 : Obj:=Hs.gK "BadTests" "BadTests" 241 8 0 0 false 181 55 .none .none .none 244
noncomputable def h63 : Obj:=Hs.gR (Hs.inn 0 (top 4)) "__init__" "BadTests.__init__"
noncomputable def h64 : Obj:=Hs.gK "__init__" "BadTests.__init__" 251 10 2 3 true 181 59 (.ref 61) (.ref 62) (.ref 63) 256
noncomputable def h65 : Obj:=Hs.gG (Hs.inn 0 (top 4)) "__init__" "BadTests.__init__" (gS "pairtests.errors" 187) (.ref 64)
noncomputable def h67 (P : Params) : Obj:=⟨(.type "dict"), none, .dict #[gE P "__module__" 246 (gS "pairtests.errors" 187), gE P "__firstlineno__" 250 (.int 8 249), gE P "__init__" 258 (.ref 65), gE P "__static_attributes__" 260 (.ref 66), gE P "__doc__" 261 .none] 2, #[]⟩
noncomputable def h68 : Obj:=⟨(.type "type"), none, .cls { name:=(Str.ofString "BadTests"), bases:=[(.ref 24)], mro:=[(.ref 68), (.ref 24), (.type "ValueError"), (.type "Exception"), (.type "BaseException"), (.type "object")], ns:=67, qualname:=(Str.ofString "BadTests"), hasDict:=true, slotNames:=[], subclasses:=[], abstract:=false, collection:=none, hasDel:=false }, #[some (.ref 52), none, some (gS "BadTests" 239), some (gS "BadTests" 247), some (.builtin "ValueError.__new__"), some (.bool true)]⟩
noncomputable def h70 : Obj:=Hs.gM "object.__init_subclass__" (.ref 68)
noncomputable def h72 : Obj:=Hs.gM "type.__prepare__" (.type "type")
noncomputable def h73 (P : Params) : Obj:=⟨(.type "dict"), none, .dict #[gE P "__module__" 271 (gS "pairtests.errors" 187), gE P "__qualname__" 273 (gS "BadNumber" 272), gE P "__firstlineno__" 275 (.int 13 274), gE P "__static_attributes__" 276 (.ref 78)] 4, #[]⟩
noncomputable def h76 : Obj:=Hs.gK "BadNumber" "BadNumber" 266 13 0 0 false 181 74 .none .none .none 269
noncomputable def h79 (P : Params) : Obj:=⟨(.type "dict"), none, .dict #[gE P "__module__" 271 (gS "pairtests.errors" 187), gE P "__firstlineno__" 275 (.int 13 274), gE P "__static_attributes__" 276 (.ref 78), gE P "__doc__" 277 .none] 2, #[]⟩
noncomputable def h80 : Obj:=⟨(.type "type"), none, .cls { name:=(Str.ofString "BadNumber"), bases:=[(.ref 24)], mro:=[(.ref 80), (.ref 24), (.type "ValueError"), (.type "Exception"), (.type "BaseException"), (.type "object")], ns:=79, qualname:=(Str.ofString "BadNumber"), hasDict:=true, slotNames:=[], subclasses:=[], abstract:=false, collection:=none, hasDel:=false }, #[some (.ref 71), none, some (gS "BadNumber" 264), some (gS "BadNumber" 272), some (.builtin "ValueError.__new__"), some (.bool true)]⟩
noncomputable def h82 : Obj:=Hs.gM "object.__init_subclass__" (.ref 80)
noncomputable def h84 : Obj:=Hs.gM "type.__prepare__" (.type "type")
noncomputable def h85 (P : Params) : Obj:=⟨(.type "dict"), none, .dict #[gE P "__module__" 287 (gS "pairtests.errors" 187), gE P "__qualname__" 289 (gS "BadResults" 288), gE P "__firstlineno__" 291 (.int 15 290), gE P "__static_attributes__" 292 (.ref 90)] 4, #[]⟩
noncomputable def h88 : Obj:=Hs.gK "BadResults" "BadResults" 282 15 0 0 false 181 86 .none .none .none 285
noncomputable def h91 (P : Params) : Obj:=⟨(.type "dict"), none, .dict #[gE P "__module__" 287 (gS "pairtests.errors" 187), gE P "__firstlineno__" 291 (.int 15 290), gE P "__static_attributes__" 292 (.ref 90), gE P "__doc__" 293 .none] 2, #[]⟩
noncomputable def h92 : Obj:=⟨(.type "type"), none, .cls { name:=(Str.ofString "BadResults"), bases:=[(.ref 24)], mro:=[(.ref 92), (.ref 24), (.type "ValueError"), (.type "Exception"), (.type "BaseException"), (.type "object")], ns:=91, qualname:=(Str.ofString "BadResults"), hasDict:=true, slotNames:=[], subclasses:=[], abstract:=false, collection:=none, hasDel:=false }, #[some (.ref 83), none, some (gS "BadResults" 280), some (gS "BadResults" 288), some (.builtin "ValueError.__new__"), some (.bool true)]⟩
noncomputable def h94 : Obj:=Hs.gM "object.__init_subclass__" (.ref 92)
noncomputable def h96 : Obj:=Hs.gM "type.__prepare__" (.type "type")
noncomputable def h97 (P : Params) : Obj:=⟨(.type "dict"), none, .dict #[gE P "__module__" 303 (gS "pairtests.errors" 187), gE P "__qualname__" 305 (gS "TooBig" 304), gE P "__firstlineno__" 307 (.int 17 306), gE P "__static_attributes__" 308 (.ref 102)] 4, #[]⟩
noncomputable def h100 : Obj:=Hs.gK "TooBig" "TooBig" 298 17 0 0 false 181 98 .none .none .none 301
noncomputable def h103 (P : Params) : Obj:=⟨(.type "dict"), none, .dict #[gE P "__module__" 303 (gS "pairtests.errors" 187), gE P "__firstlineno__" 307 (.int 17 306), gE P "__static_attributes__" 308 (.ref 102), gE P "__doc__" 309 .none] 2, #[]⟩
noncomputable def h104 : Obj:=⟨(.type "type"), none, .cls { name:=(Str.ofString "TooBig"), bases:=[(.ref 24)], mro:=[(.ref 104), (.ref 24), (.type "ValueError"), (.type "Exception"), (.type "BaseException"), (.type "object")], ns:=103, qualname:=(Str.ofString "TooBig"), hasDict:=true, slotNames:=[], subclasses:=[], abstract:=false, collection:=none, hasDel:=false }, #[some (.ref 95), none, some (gS "TooBig" 296), some (gS "TooBig" 304), some (.builtin "ValueError.__new__"), some (.bool true)]⟩
noncomputable def h106 : Obj:=Hs.gM "object.__init_subclass__" (.ref 104)
noncomputable def h108 : Obj:=Hs.gM "type.__prepare__" (.type "type")
noncomputable def h109 (P : Params) : Obj:=⟨(.type "dict"), none, .dict #[gE P "__module__" 319 (gS "pairtests.errors" 187), gE P "__qualname__" 321 (gS "BadText" 320), gE P "__firstlineno__" 323 (.int 19 322), gE P "__static_attributes__" 324 (.ref 114)] 4, #[]⟩
noncomputable def h112 : Obj:=Hs.gK "BadText" "BadText" 314 19 0 0 false 181 110 .none .none .none 317
noncomputable def h115 (P : Params) : Obj:=⟨(.type "dict"), none, .dict #[gE P "__module__" 319 (gS "pairtests.errors" 187), gE P "__firstlineno__" 323 (.int 19 322), gE P "__static_attributes__" 324 (.ref 114), gE P "__doc__" 325 .none] 2, #[]⟩
noncomputable def h116 : Obj:=⟨(.type "type"), none, .cls { name:=(Str.ofString "BadText"), bases:=[(.ref 24)], mro:=[(.ref 116), (.ref 24), (.type "ValueError"), (.type "Exception"), (.type "BaseException"), (.type "object")], ns:=115, qualname:=(Str.ofString "BadText"), hasDict:=true, slotNames:=[], subclasses:=[], abstract:=false, collection:=none, hasDel:=false }, #[some (.ref 107), none, some (gS "BadText" 312), some (gS "BadText" 320), some (.builtin "ValueError.__new__"), some (.bool true)]⟩
noncomputable def h118 : Obj:=Hs.gM "object.__init_subclass__" (.ref 116)
noncomputable def h121 : Obj:=Hs.gV 343 ["thing","least","most"]
noncomputable def h128 : Obj:=Hs.gV 352 ["thing","least","most"]
noncomputable def h135 : Obj:=Hs.gV 361 ["thing","rows","level"]
noncomputable def h142 : Obj:=Hs.gV 370 ["levels","thing"]
noncomputable def h149 : Obj:=Hs.gV 378 ["levels","thing","behind","pair"]
noncomputable def h193 : Obj:=Hs.gV 431 ["book","thing"]
noncomputable def h200 : Obj:=Hs.gV 439 ["things","is_right","place","thing"]
noncomputable def h207 : Obj:=Hs.gV 449 ["book","tests"]
noncomputable def env : Env:={ scope:=pw.main.scope,locals:=mainNs,globals:=mainNs,cells:=[],code:=(.ref 13),frame:=some 14 }
noncomputable abbrev bc : Code:=.body (PySem.W.behindTheImports pw) env
abbrev B0 : List Frame:=[PySem.W.topFrame ⟨0,0,0,0⟩]
noncomputable def t0 (P : Params) : PySem.W.BT:=(.node (PySem.W.boot_o_0 P) (.node (PySem.W.boot_o_1 P) (.node (PySem.W.boot_o_3 P) (.node (PySem.W.boot_o_7 P) .nil .nil) (.node e0 .nil .nil)) (.node (PySem.W.boot_o_5 P) (.node (PySem.W.boot_o_9 P) .nil .nil) (.node h13 .nil .nil))) (.node (PySem.W.boot_o_2 P) (.node (PySem.W.boot_o_4 P) (.node (PySem.W.boot_o_8 P) .nil .nil) (.node o0 .nil .nil)) (.node (PySem.W.boot_o_6 P) (.node (PySem.W.boot_o_10 P) .nil .nil) (.node (Hs.gI 13 3 m0) .nil .nil))))
noncomputable abbrev s0 (w : World) (os : OsState) : PySem.W.SharedT:=⟨t0 w.params,15,{},#[],{},187,os⟩
noncomputable def t1 (P : Params) : PySem.W.BT:=(.node (PySem.W.boot_o_0 P) (.node (PySem.W.boot_o_1 P) (.node (h3 P) (.node (PySem.W.boot_o_7 P) (.node h15 (.node e0 (.node h63 (.node o0 .nil .nil) (.node e0 .nil .nil)) (.node (Hs.gT [(.ref 24)]) (.node e0 .nil .nil) .nil)) (.node e0 (.node (h79 P) (.node e0 .nil .nil) (.node h207 .nil .nil)) (.node o0 (.node (kW 23 m2 174) .nil .nil) .nil))) (.node (h23 P) (.node h39 (.node (Hs.gT [(.ref 24)]) (.node h135 .nil .nil) (.node o0 .nil .nil)) (.node (h103 P) (.node o0 .nil .nil) .nil)) (.node e0 (.node o0 (.node (kQ 19) .nil .nil) (.node e0 .nil .nil)) (.node e0 (.node (kQ 25) .nil .nil) .nil)))) (.node e0 (.node o0 (.node e0 (.node (h67 P) (.node (kC 16 349 126 3) .nil .nil) (.node (kQ 27) .nil .nil)) (.node o0 (.node (kQ 21) .nil .nil) .nil)) (.node h51 (.node (Hs.gT [(.ref 24)]) (.node e0 .nil .nil) (.node (kW 29 m2 210) .nil .nil)) (.node (h115 P) (.node (kD 24 410 176) .nil .nil) .nil))) (.node h27 (.node e0 (.node o0 (.node (kW 17 m2 138) .nil .nil) (.node (kC 28 436 198 4) .nil .nil)) (.node (Hs.gT [(.ref 24)]) (.node e0 .nil .nil) .nil)) (.node e0 (.node (h91 P) (.node o0 .nil .nil) .nil) (.node (kQ 15) (.node o0 .nil .nil) .nil))))) (.node (PySem.W.boot_o_5 P) (.node (PySem.W.boot_o_9 P) (.node (h17 P) (.node h33 (.node h65 (.node e0 .nil .nil) (.node h193 .nil .nil)) (.node (h97 P) (.node (Hs.gV 394 ["book"]) .nil .nil) .nil)) (.node h49 (.node (Hs.gU 80) (.node (kC 18 367 140 2) .nil .nil) (.node (kQ 29) .nil .nil)) (.node (Hs.gI 112 109 m1) (.node o0 .nil .nil) .nil))) (.node h25 (.node h41 (.node (h73 P) (.node (kQ 17) .nil .nil) (.node e0 .nil .nil)) (.node (Hs.gU 104) (.node (kD 22 398 166) .nil .nil) .nil)) (.node h57 (.node (Hs.gI 88 85 m1) (.node (kW 19 m2 152) .nil .nil) (.node (kC 31 457 212 1) .nil .nil)) (.node h121 (.node (kW 25 m2 184) .nil .nil) .nil)))) (.node h13 (.node (Hs.gI 20 17 m1) (.node h37 (.node (Hs.gU 68) (.node e0 .nil .nil) (.node (kW 27 m2 196) .nil .nil)) (.node (Hs.gI 100 97 m1) (.node (kW 21 m2 164) .nil .nil) .nil)) (.node h53 (.node (h85 P) (.node h149 .nil .nil) (.node o0 .nil .nil)) (.node (Hs.gU 116) (.node e0 .nil .nil) .nil))) (.node h29 (.node h45 (.node (Hs.gI 76 73 m1) (.node o0 .nil .nil) (.node e0 .nil .nil)) (.node (h109 P) (.node (kQ 23) .nil .nil) .nil)) (.node (Hs.gV 254 ["self","at"]) (.node (Hs.gU 92) (.node (kD 20 385 154) .nil .nil) .nil) (.node (kW 15 m2 124) (.node (kD 26 422 186) .nil .nil) .nil)))))) (.node (PySem.W.boot_o_2 P) (.node (PySem.W.boot_o_4 P) (.node (PySem.W.boot_o_8 P) (.node h16 (.node o0 (.node h64 (.node h128 .nil .nil) (.node o0 .nil .nil)) (.node h96 (.node o0 .nil .nil) .nil)) (.node (h48 P) (.node h80 (.node (kQ 18) .nil .nil) (.node (Hs.gV 451 ["book"]) .nil .nil)) (.node h112 (.node e0 .nil .nil) .nil))) (.node h24 (.node (Hs.gT [(.ref 24)]) (.node h72 (.node e0 .nil .nil) (.node h200 .nil .nil)) (.node h104 (.node (kQ 22) .nil .nil) .nil)) (.node h56 (.node h88 (.node (kC 19 375 147 4) .nil .nil) (.node (kQ 31) .nil .nil)) (.node o0 (.node (kD 25 416 181) .nil .nil) .nil)))) (.node h12 (.node h20 (.node (h36 P) (.node h68 (.node (kW 16 m2 131) .nil .nil) (.node (kC 27 428 191 2) .nil .nil)) (.node h100 (.node (kC 21 391 159 1) .nil .nil) .nil)) (.node (Hs.gT [(.ref 24)]) (.node h84 (.node o0 .nil .nil) (.node e0 .nil .nil)) (.node h116 (.node (kW 24 m2 179) .nil .nil) .nil))) (.node (Hs.gT [(.ref 24)]) (.node o0 (.node h76 (.node e0 .nil .nil) (.node (kW 28 m2 203) .nil .nil)) (.node h108 (.node o0 .nil .nil) .nil)) (.node o0 (.node h92 (.node (kQ 20) .nil .nil) .nil) (.node (kC 15 340 119 3) (.node (kQ 26) .nil .nil) .nil))))) (.node (PySem.W.boot_o_6 P) (.node (PySem.W.boot_o_10 P) (.node e0 (.node (Hs.gI 33 30 m1) (.node (Hs.gV 259 ["at"]) (.node (kQ 16) .nil .nil) (.node e0 .nil .nil)) (.node e0 (.node e0 .nil .nil) .nil)) (.node (Hs.gU 49) (.node h82 (.node (kW 18 m2 145) .nil .nil) (.node (kC 29 446 205 3) .nil .nil)) (.node e0 (.node (kQ 24) .nil .nil) .nil))) (.node (Hs.gU 24) (.node (h42 P) (.node e0 (.node (kC 17 358 133 3) .nil .nil) (.node (kQ 28) .nil .nil)) (.node h106 (.node (kW 22 m2 169) .nil .nil) .nil)) (.node (Hs.gI 57 54 m1) (.node e0 (.node e0 .nil .nil) (.node (kW 31 m3 217) .nil .nil)) (.node e0 (.node e0 .nil .nil) .nil)))) (.node (Hs.gI 13 3 m0) (.node e0 (.node (Hs.gU 37) (.node h70 (.node o0 .nil .nil) (.node e0 .nil .nil)) (.node e0 (.node e0 .nil .nil) .nil)) (.node (h54 P) (.node e0 (.node e0 .nil .nil) (.node (Hs.gV 460 ["book"]) .nil .nil)) (.node h118 (.node o0 .nil .nil) .nil))) (.node (h30 P) (.node (Hs.gI 45 42 m1) (.node e0 (.node h142 .nil .nil) (.node o0 .nil .nil)) (.node e0 (.node (kD 23 404 171) .nil .nil) .nil)) (.node e0 (.node h94 (.node (kW 20 m2 157) .nil .nil) .nil) (.node e0 (.node (kW 26 m2 189) .nil .nil) .nil)))))))
noncomputable abbrev s1 (w : World) (os : OsState) : PySem.W.SharedT:=⟨t1 w.params,219,{},#[],{},464,os⟩
noncomputable def t2 (P : Params) : PySem.W.BT:=(.node (PySem.W.boot_o_0 P) (.node (PySem.W.boot_o_1 P) (.node (⟨(.type "dict"), none, .dict #[gE P "__name__" 165 (gS "law_pairtests_k20_refusals_stand_apart" 711), gE P "__doc__" 166 .none, gE P "__package__" 167 .none, gE P "__loader__" 168 (.builtin "__main__.__loader__#opaque"), gE P "__spec__" 169 .none, gE P "__annotations__" 170 (.ref 6), gE P "__builtins__" 171 (.ref 4), gE P "__file__" 173 (gS "/claim/cut.py" 172), gE P "__cached__" 174 .none, gE P "TestError" 206 (.ref 24), gE P "BadBook" 222 (.ref 37), gE P "BadStrength" 238 (.ref 49), gE P "BadTests" 263 (.ref 68), gE P "BadNumber" 279 (.ref 80), gE P "BadResults" 295 (.ref 92), gE P "TooBig" 311 (.ref 104), gE P "BadText" 327 (.ref 116), gE P "MOST_THINGS" 331 (.int 6 330), gE P "MOST_SETTINGS" 333 (.int 4 332), gE P "MOST_ROWS" 335 (.int 400 334), gE P "MOST_BANS" 337 (.int 12 336), gE P "MOST_IN_MEETING" 339 (.int 3 338), gE P "is_whole" 348 (.ref 125), gE P "is_tuple" 357 (.ref 132), gE P "are_levels" 366 (.ref 139), gE P "is_setting" 374 (.ref 146), gE P "is_meeting" 384 (.ref 153), gE P "is_book" 390 (.ref 158), gE P "checked" 397 (.ref 165), gE P "meets" 403 (.ref 170), gE P "meets_any" 409 (.ref 175), gE P "all_rows" 415 (.ref 180), gE P "all_tests" 421 (.ref 185), gE P "is_row" 427 (.ref 190), gE P "is_test" 435 (.ref 197), gE P "check_list" 445 (.ref 204), gE P "check_tests" 454 (.ref 211), gE P "most_strength" 463 (.ref 218), gE P "check_book_and_strength" 471 (.ref 225), gE P "is_behind" 479 (.ref 232), gE P "meetings_among" 485 (.ref 237), gE P "meetings_of" 493 (.ref 244), gE P "met_by" 504 (.ref 251), gE P "possible" 512 (.ref 258), gE P "check_all" 523 (.ref 265), gE P "missing" 529 (.ref 270), gE P "places_by_meeting" 541 (.ref 277), gE P "are_results" 549 (.ref 282), gE P "suspects" 555 (.ref 287), gE P "MOST_TESTS" 559 (.int 24 558), gE P "small_tests" 568 (.ref 294), gE P "tests_by_bit" 578 (.ref 301), gE P "masks_by_meeting" 590 (.ref 308), gE P "meetings_by_mask" 601 (.ref 315), gE P "bits_of" 611 (.ref 322), gE P "size_of" 618 (.ref 329), gE P "all_bits" 627 (.ref 336), gE P "clear_of" 633 (.ref 341), gE P "narrowest" 639 (.ref 346), gE P "some_apart" 648 (.ref 353), gE P "hit_by" 654 (.ref 358), gE P "fewest" 660 (.ref 363), gE P "within_bounds" 669 (.ref 370), gE P "with_setting" 678 (.ref 377), gE P "FIGURES" 682 (gS "0123456789" 681), gE P "number_in" 689 (.ref 384), gE P "setting_in" 695 (.ref 389), gE P "words_behind" 704 (.ref 396), gE P "read" 710 (.ref 401), gE P "_law_cell" 720 (.ref 408)] 70, #[]⟩) (.node (PySem.W.boot_o_7 P) (.node h15 (.node e0 (.node h63 (.node o0 (.node e0 .nil .nil) (.node (kC 64 683 378 1) .nil .nil)) (.node e0 (.node e0 .nil .nil) .nil)) (.node (Hs.gT [(.ref 24)]) (.node e0 (.node (kW 44 m5 286) .nil .nil) .nil) (.node (kQ 32) (.node (kQ 56) .nil .nil) .nil))) (.node e0 (.node (h79 P) (.node e0 (.node e0 .nil .nil) (.node (kQ 67) .nil .nil)) (.node h207 (.node (kC 53 619 330 3) .nil .nil) .nil)) (.node o0 (.node (kW 23 m2 174) (.node o0 .nil .nil) .nil) (.node o0 (.node e0 .nil .nil) .nil)))) (.node (h23 P) (.node h39 (.node (Hs.gT [(.ref 24)]) (.node h135 (.node (kQ 39) .nil .nil) (.node o0 .nil .nil)) (.node o0 (.node (kQ 52) .nil .nil) .nil)) (.node (h103 P) (.node o0 (.node e0 .nil .nil) .nil) (.node (kC 33 472 226 2) (.node e0 .nil .nil) .nil))) (.node e0 (.node o0 (.node (kQ 19) (.node o0 .nil .nil) (.node (kC 69 713 402 2) .nil .nil)) (.node e0 (.node o0 .nil .nil) .nil)) (.node e0 (.node (kQ 25) (.node (Hs.gV 594 ["tests","strength","meetings","meeting","mask"]) .nil .nil) .nil) (.node (Hs.gV 497 ["tests","strength","met","test","meeting"]) (.node (kQ 61) .nil .nil) .nil))))) (.node e0 (.node o0 (.node e0 (.node (h67 P) (.node (kC 16 349 126 3) (.node e0 .nil .nil) (.node (kQ 65) .nil .nil)) (.node (kQ 27) (.node e0 .nil .nil) .nil)) (.node o0 (.node (kQ 21) (.node e0 .nil .nil) .nil) (.node o0 (.node o0 .nil .nil) .nil))) (.node h51 (.node (Hs.gT [(.ref 24)]) (.node e0 (.node (kQ 41) .nil .nil) (.node o0 .nil .nil)) (.node (kW 29 m2 210) (.node (kQ 54) .nil .nil) .nil)) (.node (h115 P) (.node (kD 24 410 176) (.node (kC 49 579 302 6) .nil .nil) .nil) (.node (kC 35 486 238 2) (.node e0 .nil .nil) .nil)))) (.node h27 (.node e0 (.node o0 (.node (kW 17 m2 138) (.node o0 .nil .nil) (.node (kC 66 696 390 3) .nil .nil)) (.node (kC 28 436 198 4) (.node o0 .nil .nil) .nil)) (.node (Hs.gT [(.ref 24)]) (.node e0 (.node (kQ 48) .nil .nil) .nil) (.node (kQ 34) (.node (kW 58 m6 362) .nil .nil) .nil))) (.node e0 (.node (h91 P) (.node o0 (.node e0 .nil .nil) .nil) (.node e0 (.node e0 .nil .nil) .nil)) (.node (kQ 15) (.node o0 (.node (kW 50 m6 314) .nil .nil) .nil) (.node (kW 36 m3 250) (.node o0 .nil .nil) .nil)))))) (.node (PySem.W.boot_o_5 P) (.node (PySem.W.boot_o_9 P) (.node (h17 P) (.node h33 (.node h65 (.node e0 (.node (kC 37 505 252 2) .nil .nil) (.node e0 .nil .nil)) (.node h193 (.node (kC 51 602 316 4) .nil .nil) .nil)) (.node (h97 P) (.node (Hs.gV 394 ["book"]) (.node o0 .nil .nil) .nil) (.node (kW 32 m3 224) (.node (kW 56 m6 352) .nil .nil) .nil))) (.node h49 (.node (Hs.gU 80) (.node (kC 18 367 140 2) (.node (Hs.gV 533 ["tests","strength","places","place","test","meeting"]) .nil .nil) (.node (kW 67 m8 400) .nil .nil)) (.node (kQ 29) (.node e0 .nil .nil) .nil)) (.node (Hs.gI 112 109 m1) (.node o0 (.node e0 .nil .nil) .nil) (.node e0 (.node (kC 60 663 364 1) .nil .nil) .nil)))) (.node h25 (.node h41 (.node (h73 P) (.node (kQ 17) (.node (kW 39 m4 264) .nil .nil) (.node e0 .nil .nil)) (.node e0 (.node (kW 52 m6 328) .nil .nil) .nil)) (.node (Hs.gU 104) (.node (kD 22 398 166) (.node (Hs.gV 572 ["tests","found","bit","test"]) .nil .nil) .nil) (.node e0 (.node (kQ 58) .nil .nil) .nil))) (.node h57 (.node (Hs.gI 88 85 m1) (.node (kW 19 m2 152) (.node (kD 43 544 278) .nil .nil) .nil) (.node (kC 31 457 212 1) (.node (kD 55 634 342) .nil .nil) .nil)) (.node h121 (.node (kW 25 m2 184) (.node (kQ 50) .nil .nil) .nil) (.node (kQ 36) (.node (kW 61 m7 376) .nil .nil) .nil))))) (.node h13 (.node (Hs.gI 20 17 m1) (.node h37 (.node (Hs.gU 68) (.node e0 (.node (Hs.gV 518 ["book","strength","tests"]) .nil .nil) (.node (kW 65 m8 388) .nil .nil)) (.node (kW 27 m2 196) (.node (Hs.gV 615 ["mask"]) .nil .nil) .nil)) (.node (Hs.gI 100 97 m1) (.node (kW 21 m2 164) (.node (kC 47 560 288 3) .nil .nil) .nil) (.node e0 (.node (kD 57 649 354) .nil .nil) .nil))) (.node h53 (.node (h85 P) (.node h149 (.node (kW 41 m4 276) .nil .nil) (.node e0 .nil .nil)) (.node o0 (.node (kW 54 m6 340) .nil .nil) .nil)) (.node (Hs.gU 116) (.node e0 (.node e0 .nil .nil) .nil) (.node e0 (.node (Hs.gV 673 ["book","thing","levels"]) .nil .nil) .nil)))) (.node h29 (.node h45 (.node (Hs.gI 76 73 m1) (.node o0 (.node (kD 40 524 266) .nil .nil) (.node e0 .nil .nil)) (.node e0 (.node e0 .nil .nil) .nil)) (.node (h109 P) (.node (kQ 23) (.node (kW 48 m6 300) .nil .nil) .nil) (.node (kW 34 m3 236) (.node o0 .nil .nil) .nil))) (.node (Hs.gV 254 ["self","at"]) (.node (Hs.gU 92) (.node (kD 20 385 154) (.node (kQ 44) .nil .nil) .nil) (.node (Hs.gV 467 ["book","strength"]) (.node (Hs.gV 643 ["masks","found","mask"]) .nil .nil) .nil)) (.node (kW 15 m2 124) (.node (kD 26 422 186) (.node o0 .nil .nil) .nil) (.node o0 (.node e0 .nil .nil) .nil))))))) (.node (PySem.W.boot_o_2 P) (.node (PySem.W.boot_o_4 P) (.node (PySem.W.boot_o_8 P) (.node h16 (.node o0 (.node h64 (.node h128 (.node (kQ 37) .nil .nil) (.node (kW 64 m8 383) .nil .nil)) (.node o0 (.node (kQ 51) .nil .nil) .nil)) (.node h96 (.node o0 (.node e0 .nil .nil) .nil) (.node (kC 32 464 219 2) (.node (kC 56 640 347 3) .nil .nil) .nil))) (.node (h48 P) (.node h80 (.node (kQ 18) (.node o0 .nil .nil) (.node (kD 67 705 397) .nil .nil)) (.node (Hs.gV 451 ["book"]) (.node (kW 53 m6 335) .nil .nil) .nil)) (.node h112 (.node e0 (.node (Hs.gV 582 ["tests","strength","masks","bit","test","meeting"]) .nil .nil) .nil) (.node (Hs.gV 489 ["test","strength"]) (.node (kQ 60) .nil .nil) .nil)))) (.node h24 (.node (Hs.gT [(.ref 24)]) (.node h72 (.node e0 (.node (kC 39 515 259 3) .nil .nil) (.node (Hs.gV 699 ["name","line","words"]) .nil .nil)) (.node h200 (.node (kC 52 612 323 1) .nil .nil) .nil)) (.node h104 (.node (kQ 22) (.node o0 .nil .nil) .nil) (.node (kW 33 m3 231) (.node o0 .nil .nil) .nil))) (.node h56 (.node h88 (.node (kC 19 375 147 4) (.node (kQ 43) .nil .nil) (.node (kW 69 m9 407) .nil .nil)) (.node (kQ 31) (.node (kQ 55) .nil .nil) .nil)) (.node o0 (.node (kD 25 416 181) (.node e0 .nil .nil) .nil) (.node e0 (.node (kC 61 670 371 3) .nil .nil) .nil))))) (.node (Hs.gZ [(2,20),(4,33),(6,45),(8,57),(13,76),(15,88),(17,100),(19,112),(27,124),(29,131),(31,138),(40,145),(44,152),(53,157),(57,164),(61,169),(63,174),(65,179),(73,184),(76,189),(80,196),(82,203),(88,210),(91,217),(93,224),(97,231),(99,236),(107,243),(109,250),(115,257),(119,264),(122,269),(126,276),(133,281),(137,286),(146,293),(152,300),(159,307),(165,314),(170,321),(178,328),(180,335),(185,340),(187,345),(193,352),(199,357),(211,362),(222,369),(226,376),(234,383),(238,388),(240,395),(245,400),(256,407)]) (.node h20 (.node (h36 P) (.node h68 (.node (kW 16 m2 131) (.node o0 .nil .nil) (.node (kD 65 690 385) .nil .nil)) (.node (kC 27 428 191 2) (.node o0 .nil .nil) .nil)) (.node h100 (.node (kC 21 391 159 1) (.node (kQ 47) .nil .nil) .nil) (.node (Hs.gV 475 ["pair","meeting"]) (.node (kQ 57) .nil .nil) .nil))) (.node (Hs.gT [(.ref 24)]) (.node h84 (.node o0 (.node (kC 41 530 271 6) .nil .nil) (.node (Hs.gV 716 ["_law_script","_law_k"]) .nil .nil)) (.node e0 (.node (kD 54 628 337) .nil .nil) .nil)) (.node h116 (.node (kW 24 m2 179) (.node (kW 49 m6 307) .nil .nil) .nil) (.node (kW 35 m3 243) (.node o0 .nil .nil) .nil)))) (.node (Hs.gT [(.ref 24)]) (.node o0 (.node h76 (.node e0 (.node (kQ 40) .nil .nil) (.node (kW 66 m8 395) .nil .nil)) (.node (kW 28 m2 203) (.node (Hs.gV 622 ["masks","whole","mask"]) .nil .nil) .nil)) (.node h108 (.node o0 (.node (kC 48 569 295 4) .nil .nil) .nil) (.node (kD 34 480 233) (.node e0 .nil .nil) .nil))) (.node o0 (.node h92 (.node (kQ 20) (.node o0 .nil .nil) .nil) (.node o0 (.node o0 .nil .nil) .nil)) (.node (kC 15 340 119 3) (.node (kQ 26) (.node e0 .nil .nil) .nil) (.node e0 (.node (Hs.gV 686 ["word"]) .nil .nil) .nil)))))) (.node (PySem.W.boot_o_6 P) (.node (PySem.W.boot_o_10 P) (.node e0 (.node (Hs.gI 33 30 m1) (.node (Hs.gV 259 ["at"]) (.node (kQ 16) (.node (kW 37 m3 257) .nil .nil) (.node o0 .nil .nil)) (.node e0 (.node (kW 51 m6 321) .nil .nil) .nil)) (.node e0 (.node e0 (.node (Hs.gV 563 ["book","strength","tests"]) .nil .nil) .nil) (.node e0 (.node e0 .nil .nil) .nil))) (.node (Hs.gU 49) (.node h82 (.node (kW 18 m2 145) (.node e0 .nil .nil) (.node e0 .nil .nil)) (.node (kC 29 446 205 3) (.node o0 .nil .nil) .nil)) (.node e0 (.node (kQ 24) (.node (kQ 49) .nil .nil) .nil) (.node (kQ 35) (.node (kW 60 m7 369) .nil .nil) .nil)))) (.node (Hs.gU 24) (.node (h42 P) (.node e0 (.node (kC 17 358 133 3) (.node e0 .nil .nil) (.node (kQ 66) .nil .nil)) (.node (kQ 28) (.node e0 .nil .nil) .nil)) (.node h106 (.node (kW 22 m2 169) (.node e0 .nil .nil) .nil) (.node o0 (.node (kD 58 655 359) .nil .nil) .nil))) (.node (Hs.gI 57 54 m1) (.node e0 (.node e0 (.node (kW 43 m5 281) .nil .nil) .nil) (.node (kW 31 m3 217) (.node (kW 55 m6 345) .nil .nil) .nil)) (.node e0 (.node e0 (.node (kC 50 591 309 5) .nil .nil) .nil) (.node (kC 36 494 245 5) (.node e0 .nil .nil) .nil))))) (.node (Hs.gI 13 3 m0) (.node e0 (.node (Hs.gU 37) (.node h70 (.node o0 (.node e0 .nil .nil) (.node e0 .nil .nil)) (.node e0 (.node e0 .nil .nil) .nil)) (.node e0 (.node e0 (.node (kW 47 m6 293) .nil .nil) .nil) (.node (kQ 33) (.node (kW 57 m6 357) .nil .nil) .nil))) (.node (h54 P) (.node e0 (.node e0 (.node e0 .nil .nil) (.node (kQ 69) .nil .nil)) (.node (Hs.gV 460 ["book"]) (.node e0 .nil .nil) .nil)) (.node h118 (.node o0 (.node o0 .nil .nil) .nil) (.node o0 (.node e0 .nil .nil) .nil)))) (.node (h30 P) (.node (Hs.gI 45 42 m1) (.node e0 (.node h142 (.node (kW 40 m4 269) .nil .nil) (.node o0 .nil .nil)) (.node o0 (.node (kQ 53) .nil .nil) .nil)) (.node e0 (.node (kD 23 404 171) (.node e0 .nil .nil) .nil) (.node e0 (.node (Hs.gV 666 ["book"]) .nil .nil) .nil))) (.node e0 (.node h94 (.node (kW 20 m2 157) (.node (kD 44 550 283) .nil .nil) .nil) (.node e0 (.node e0 .nil .nil) .nil)) (.node e0 (.node (kW 26 m2 189) (.node (Hs.gV 605 ["mask","bits","rest","without_lowest"]) .nil .nil) .nil) (.node (Hs.gV 508 ["book","strength"]) (.node (kQ 64) .nil .nil) .nil))))))))
noncomputable abbrev s2 (w : World) (os : OsState) : PySem.W.SharedT:=⟨t2 w.params,409,{},#[],{},721,os⟩
noncomputable def l1 : List Stmt:=[top 0,top 1,top 2,top 3,top 4,top 5,top 6,top 7,top 8,top 9,top 10,top 11,top 12,top 13,top 14,top 15,top 16,top 17,top 18,top 19,top 20,top 21,top 22,top 23,top 24,top 25,top 26,top 27,top 28,top 29,top 30,top 31]
noncomputable def l2 : List Stmt:=[top 32,top 33,top 34,top 35,top 36,top 37,top 38,top 39,top 40,top 41,top 42,top 43,top 44,top 45,top 46,top 47,top 48,top 49,top 50,top 51,top 52,top 53,top 54,top 55,top 56,top 57,top 58,top 59,top 60,top 61,top 62,top 63,top 64,top 65,top 66,top 67,top 68,top 69]
noncomputable def l3 : List Stmt:=[top 70,top 71,top 72]
theorem split : PySem.W.behindTheImports pw = l1++(l2++(l3)):=by kernel_rfl
theorem pre (w : World) (os : OsState) : PySem.W.topGo PySem.treeTable pw w 11 (some (.ref 6)) 12 ⟨PySem.W.boot_heap w.params,#[],PySem.W.boot_drawn,PySem.W.boot_toks,os⟩ (PySem.W.topStub pw) = some ((s0 w os).abs,⟨denote PySem.treeTable bc,bc,⟨0,0,0,0⟩,B0⟩):=by kernel_rfl
theorem blk (w : World) (os : OsState) : PySem.W.segRun PySem.treeTable pw w 11 (some (.ref 6)) 1 1 (s0 w os).abs (PySem.W.blockOf (PySem.W.behindTheImports pw) env bc ⟨0,0,0,0⟩ B0) = some (.next,(s0 w os).abs,bc,⟨0,0,0,0⟩):=by kernel_rfl
theorem c1 (w : World) (os : OsState) : PySem.W.segRunT PySem.treeTable pw w 11 (some (.ref 6)) 1 2244 (s0 w os) (PySem.W.piecesOf l1 env bc ⟨0,0,0,0⟩ B0) = some (.next,s1 w os,bc,⟨91,0,92,45⟩):=by kernel_rfl
theorem c2 (w : World) (os : OsState) : PySem.W.segRunT PySem.treeTable pw w 11 (some (.ref 6)) 1 954 (s1 w os) (PySem.W.piecesOf l2 env bc ⟨91,0,92,45⟩ B0) = some (.next,s2 w os,bc,⟨256,0,259,12⟩):=by kernel_rfl
noncomputable def lk (w : World) (s : Shared):=(PySem.W.staticsOk (PySem.importedModules pw.main.body) (PySem.W.boot_heap w.params) s.heap && PySem.W.namesBound pw s.heap && PySem.W.gensDone s && PySem.W.laidKept (PySem.W.boot_heap w.params) s.heap,PySem.W.openSeen view [] (PySem.importedModules pw.main.body) (fun s => PySem.W.xlAt E20.view [] s && PySem.W.recOk (PySem.W.RowW.records (PySem.W.OpenRow.toRowW PySem.Challenge.rw_pairtests_k20_refusals_stand_apart.row)) s) true s,PySem.W.Hook.obs hook s)
theorem last (w : World) (os : OsState) : (PySem.W.topRun PySem.treeTable pw w 11 (some (.ref 6)) 89 (s2 w os).abs (PySem.W.restOf l3 env bc ⟨256,0,259,12⟩ B0)).map (lk w) = some (true,PySem.W.openGood view [],PySem.W.Hook.val hook w):=by kernel_rfl
theorem run (w : World) (os : OsState) (r : Shared) (h : PySem.W.topRun PySem.treeTable pw w 11 (some (.ref 6)) 89 (s2 w os).abs (PySem.W.restOf l3 env bc ⟨256,0,259,12⟩ B0) = some r) : PySem.W.topRun PySem.treeTable pw w 11 (some (.ref 6)) (12 + (1 + (2244 + (954 + (89))))) ⟨PySem.W.boot_heap w.params,#[],PySem.W.boot_drawn,PySem.W.boot_toks,os⟩ (PySem.W.topStub pw) = some r:=PySem.W.go_top (pre w os) (PySem.W.piece_block (blk w os) (split ▸ PySem.W.piece_app (PySem.W.segRun_of (c1 w os)) (PySem.W.piece_app (PySem.W.segRun_of (c2 w os)) (h))))
theorem left : PySem.W.LeftO PySem.Challenge.pw_pairtests_k20_refusals_stand_apart view [] (fun s => PySem.W.xlAt E20.view [] s && PySem.W.recOk (PySem.W.RowW.records (PySem.W.OpenRow.toRowW PySem.Challenge.rw_pairtests_k20_refusals_stand_apart.row)) s) (PySem.W.Hook.obs hook) (PySem.W.Hook.val hook) 6692:=Hs.left_cut (PySem.W.boot_open (by kernel_rfl) (by decide) (fun _ => rfl)) (fun w => by kernel_rfl) run (by decide) last
end E20
set_option genInjectivity false
set_option genSizeOfSpec false
namespace L2
open PySem PySem.Spec PyProof.Rows
noncomputable abbrev Key:=Sum Int Str
noncomputable def keyIs : Key→Value→Bool
 | .inl k,v => Value.isInt k v
 | .inr x,v => Value.isStrOf x v
noncomputable def keyH (w : World) : Key→Int
 | .inl k => hashInt k
 | .inr x => hashStr w x
theorem keyIs_shape : ∀ {k : Key} {v : Value},keyIs k v = true→(∃ i t,k = Sum.inl i∧v = Value.int i t)∨(∃ x t,k = Sum.inr x∧v = Value.str x t)
 | .inl i,v,h => by
  obtain ⟨t,e⟩:=Value.isInt_shape (k:=i) (v:=v) h
  exact .inl ⟨i,t,rfl,e⟩
 | .inr x,v,h => by
  obtain ⟨t,e⟩:=Value.isStrOf_shape (x:=x) (v:=v) h
  exact .inr ⟨x,t,rfl,e⟩
theorem key_ll (a b : Int) : decide ((Sum.inl a : Key) = Sum.inl b) = (a == b):=by
 by_cases e : a = b
 ·subst e;simp
 ·have h : ¬ (Sum.inl a : Key) = Sum.inl b:=fun q => e (Sum.inl.inj q)
  rw [decide_eq_false h]
  exact (beq_eq_false_iff_ne.mpr e).symm
theorem key_rr (a b : Str) : decide ((Sum.inr a : Key) = Sum.inr b) = decide (a = b):=by
 by_cases e : a = b
 ·subst e;simp
 ·have h : ¬ (Sum.inr a : Key) = Sum.inr b:=fun q => e (Sum.inr.inj q)
  rw [decide_eq_false h,decide_eq_false e]
theorem key_lr (a : Int) (b : Str) : decide ((Sum.inl a : Key) = Sum.inr b) = false:=decide_eq_false (fun q => nomatch q)
theorem key_rl (a : Str) (b : Int) : decide ((Sum.inr a : Key) = Sum.inl b) = false:=decide_eq_false (fun q => nomatch q)
noncomputable def mixKind (prog : Program) (w : World) : PySem.KeyKind prog w Key where
 is:=keyIs
 hash:=keyH w
 inj:=fun v a b ha hb => by
  rcases keyIs_shape ha with ⟨i,t,rfl,rfl⟩ | ⟨x,t,rfl,rfl⟩
  ·rcases keyIs_shape hb with ⟨j,u,rfl,e⟩ | ⟨y,u,rfl,e⟩
   ·injection e with e1 _;rw [e1]
   ·exact nomatch e
  ·rcases keyIs_shape hb with ⟨j,u,rfl,e⟩ | ⟨y,u,rfl,e⟩
   ·exact nomatch e
   ·injection e with e1 _;rw [e1]
 byValue:=fun k v h => by
  rcases keyIs_shape h with ⟨i,t,rfl,rfl⟩ | ⟨x,t,rfl,rfl⟩ <;> rfl
 pyHash:=fun hv h => by
  rcases keyIs_shape hv with ⟨i,t,rfl,rfl⟩ | ⟨x,t,rfl,rfl⟩
  ·exact wpAny_pyHash_int h
  ·exact wpAny_pyHash_str h
 eqBool:=fun hu hv h => by
  rcases keyIs_shape hu with ⟨i,t,rfl,rfl⟩ | ⟨x,t,rfl,rfl⟩
  ·rcases keyIs_shape hv with ⟨j,u,rfl,rfl⟩ | ⟨y,u,rfl,rfl⟩
   ·rw [key_ll] at h;exact wpAny_eqBool_int h
   ·rw [key_lr] at h;exact SeqAt.EqAt.int_str i t y u _ _ _ _ h
  ·rcases keyIs_shape hv with ⟨j,u,rfl,rfl⟩ | ⟨y,u,rfl,rfl⟩
   ·rw [key_rl] at h;exact SeqAt.EqAt.str_int x t j u _ _ _ _ h
   ·rw [key_rr] at h;exact wpAny_eqBool_str h
 «strs»:=fun k x t v h => by
  rcases keyIs_shape h with ⟨i,u,rfl,e⟩ | ⟨y,u,rfl,e⟩
  ·exact nomatch e
  ·injection e with e1 _
   subst e1
   cases v <;> rfl
end L2
namespace L2
open PySem PySem.Spec PyProof.Rows
inductive V where
 | non | bl (b : Bool) | int (i : Int) | str (x : Str) | byt (b : Array UInt8) | flt (b : UInt64) | ref (a : Addr) | ty (n : String)
 deriving DecidableEq
noncomputable def RelV : V→Value→Prop
 | .non,u => u = Value.none
 | .bl b,u => u = Value.bool b
 | .int i,u => ∃ t,u = Value.int i t
 | .str x,u => ∃ t,u = Value.str x t
 | .byt b,u => ∃ t,u = Value.bytes b t
 | .flt b,u => ∃ t,u = Value.float b t
 | .ref a,u => u = Value.ref a
 | .ty n,u => u = Value.type n
noncomputable abbrev Vals : List V→List Value→Prop:=Paired RelV
theorem Vals.length {xs : List V} {us : List Value} (r : Vals xs us) : xs.length = us.length:=Paired.length r
theorem Vals.get : ∀ {xs : List V} {us : List Value} {i : Nat} {x : V},Vals xs us→xs[i]? = some x→∃ u,us[i]? = some u∧RelV x u
 | _,_,_,_,.nil,e => by simp at e
 | _,_,0,_,.cons r _,e => by simp at e;subst e;exact ⟨_,rfl,r⟩
 | _,_,i + 1,x,.cons _ t,e => by
  obtain ⟨u,h1,h2⟩:=Vals.get (i:=i) (x:=x) t (by simpa using e)
  exact ⟨u,by simpa using h1,h2⟩
theorem Vals.append : ∀ {xs ys : List V} {us ws : List Value},Vals xs us→Vals ys ws→Vals (xs++ys) (us++ws)
 | _,_,_,_,.nil,s => s
 | _,_,_,_,.cons r t,s => .cons r (Vals.append t s)
noncomputable def RelO : Option V→Option Value→Prop
 | some v,some u => RelV v u
 | none,none => True
 | _,_ => False
noncomputable def KV {κ : Type} : List (κ × V)→List (κ × Value)→Prop:=Paired fun (p : κ × V) (q : κ × Value) => p.1 = q.1∧RelV p.2 q.2
noncomputable def kV : Key→V
 | .inl i => .int i
 | .inr x => .str x
inductive HO where
 /-- a list -/
 | lst (xs : List V)
 /-- a tuple (never changes) -/
 | tup (xs : List V)
 /-- a dict whose keys are ints and texts;one whose keys are tuples of ints and texts (the empty one is both) -/
 | dK (kvs : List (Key × V)) | dT (kvs : List (List Key × V))
 /-- a set of ints: its members,its size -/
 | set (S : Int→Bool) (n : Nat)
 /-- an instance of the class at C,its dict at dx,its attributes -/
 | ins (C dx : Addr) (fs : List (Str × V))
 /-- the dict of the instance at x -/
 | own (x : Addr)
 /-- the dict of an exception -/
 | xd (fs : List (Str × V))
 /-- a bound method,f of x -/
 | met (f x : Addr)
 /-- a range object lo,lo + 1,.. below hi -/
 | rng (lo hi : Int)
 /-- a thing that is known to the object (the script;a dict while a loop walks it): read,never written while it is so -/
 | frz (o : Obj) (u : HO)
 /-- a code object's table -/
 | tbl (ps : Array Value)
 /-- any other thing,by what is true of its one object (a def of one's own: SetO a S n:=HO.ext fun h => ..) -/
 | ext (φ : Heap→Prop)
noncomputable abbrev Hp:=Addr→Option HO
noncomputable def upd (H : Hp) (a : Addr) (o : HO) : Hp:=fun b => if b = a then some o else H b
theorem upd_same {H : Hp} {a : Addr} {o : HO} : upd H a o a = some o:=by unfold upd;rw [if_pos rfl]
theorem upd_ne {H : Hp} {a b : Addr} {o : HO} (h : b≠a) : upd H a o b = H b:=by unfold upd;rw [if_neg h]
theorem ne_of_none {H : Hp} {a b : Addr} {o : HO} (h : H a = some o) (h' : H b = none) : a≠b:=by
 intro e;subst e;rw [h] at h';cases h'
noncomputable def NoTb (o : Obj) : Prop:=∀ vs,o.data = .fields vs→o.cls≠.none
noncomputable def lamQ : Str:=Str.ofString "check_tests.<locals>.<lambda>"
noncomputable def lamO (o : Obj) : Prop:=∃ vs t,o.data = .fields vs∧vs[1]? = some (.str lamQ t)
section
variable (P : Program) (w : World)
noncomputable def ObjOk (H : Hp) (h : Heap) (a : Addr) : HO→Prop
 | .lst xs => xs.length ≤ sizeLine ∧ ∃ (its : List Value) (n : Nat), Vals xs its ∧ h.get? a = some { cls:=.type "list", data:=.seq its.toArray n }
 | .tup xs => xs.length≤sizeLine∧∃ its : List Value,Vals xs its∧IsTup h a its.toArray
 | .dK kvs => kvs.length≤sizeLine∧(a == sysModules) = false∧∃ vs,KV kvs vs∧h.DictOf (mixKind P w) a vs
 | .dT kvs => kvs.length≤sizeLine∧(a == sysModules) = false∧∃ xs : List (List Key × Addr × Value),
   Paired (fun (p : List Key × V) (q : List Key × Addr × Value) => p.1 = q.1∧H q.2.1 = some (.tup (p.1.map kV))∧RelV p.2 q.2.2) kvs xs ∧
   ∃ o es ep,h.get? a = some o∧o.ExactDict∧o.data = .dict es ep∧es.toList = xs.map (entryOfKey (tupleKind (mixKind P w)))∧(xs.map (·.1)).Nodup
 | .set S n => h.SetOf (intKind P w) a S n
 | .ins C dx fs => H dx = some (.own a)∧fs.length≤1000∧dx≠a∧h.get? a = some (PySem.W.instObj C dx) ∧
   ∃ mA,h.Ns1 dx mA∧(∀ f,RelO (fs.lookup f) (mA f))∧PySem.Within mA (fs.map (·.1))
 | .own _ => ∃ o,h.get? a = some o
 | .xd fs => ∃ mA,h.Ns1 a mA∧∀ f,RelO (fs.lookup f) (mA f)
 | .rng lo hi => ∃ t u v, h.get? a = some { cls:=.type "range", data:=.fields #[.int lo t, .int hi u, .int 1 v] }
 | .frz o u => h.get? a = some o∧ObjOk H h a u
 | .tbl _ => ∃ ps : Array Value,h.get? a = some { cls:=.none,data:=.fields ps }∧TriplesOk ps.toList∧∀ pos v,codeAmong pos ps.toList = some v→∃ c o,v = .ref c∧H c = some (.frz o (.ext fun _ => True))∧lamO o
 | .met f x => h.get? a = some (PySem.W.methodObj (.ref f) (.ref x))
 | .ext φ => φ h∧(∃ o,h.get? a = some o)∧∀ h1 h2 : Heap,φ h1→(∀ o,h1.get? a = some o→h2.get? a = some o)→φ h2
noncomputable def HOk (H : Hp) (h : Heap) : Prop:=∀ a o,H a = some o→ObjOk P w H h a o
end
section
variable {P : Program} {w : World} {H H' : Hp} {h h' : Heap} {a : Addr} {o : HO}
theorem ObjOk.lt (x : ObjOk P w H h a o) : a < h.objs.size:=by
 cases o with
 | lst xs => obtain ⟨_,_,_,_,e⟩:=x;exact Heap.lt_size e
 | tup xs => obtain ⟨_,_,_,p⟩:=x;exact p.lt
 | dK kvs => obtain ⟨_,_,_,_,o,_,_,e,_⟩:=x;exact Heap.lt_size e
 | dT kvs => obtain ⟨_,_,_,_,o,_,_,e,_⟩:=x;exact Heap.lt_size e
 | set S n => obtain ⟨o,_,_,_,e,_⟩:=x;exact Heap.lt_size e
 | ins C dx fs => obtain ⟨_,_,_,e,_⟩:=x;exact Heap.lt_size e
 | own y => obtain ⟨_,e⟩:=x;exact Heap.lt_size e
 | xd fs => obtain ⟨_,⟨_,_,_,e,_⟩,_⟩:=x;exact Heap.lt_size e
 | rng lo hi => obtain ⟨_,_,_,e⟩:=x;exact Heap.lt_size e
 | frz ob u => obtain ⟨e,_⟩:=x;exact Heap.lt_size e
 | tbl ps => obtain ⟨_,e,_⟩:=x;exact Heap.lt_size e
 | met f y => exact Heap.lt_size (show h.get? a = some _ from x)
 | ext φ => obtain ⟨_,⟨_,e⟩,_⟩:=x;exact Heap.lt_size e
theorem Paired.mapP {α β : Type} {F G : α→β→Prop} : ∀ {l₁ : List α} {l₂ : List β},Paired F l₁ l₂→(∀ a b,F a b→G a b)→Paired G l₁ l₂
 | _,_,.nil,_ => .nil
 | _,_,.cons r t,f => .cons (f _ _ r) (Paired.mapP t f)
theorem ObjOk.stay (x : ObjOk P w H h a o) (k : ∀ b u,(b = a∨H b = some (.own a))→h.get? b = some u→h'.get? b = some u)
  (ho : ∀ b,H b = some (.own a)→H' b = some (.own a)) (ht : ∀ b xs,H b = some (.tup xs)→H' b = some (.tup xs)) (hf : ∀ b o,H b = some (.frz o (.ext fun _ => True))→lamO o→H' b = some (.frz o (.ext fun _ => True)):=by intro _ _ q _;exact q) : ObjOk P w H' h' a o:=by
 induction o with
 | lst xs => obtain ⟨z,its,n,r,e⟩:=x;exact ⟨z,its,n,r,k _ _ (.inl rfl) e⟩
 | tup xs => obtain ⟨z,its,r,ob,e,c⟩:=x;exact ⟨z,its,r,ob,k _ _ (.inl rfl) e,c⟩
 | dK kvs => obtain ⟨z,y,vs,r,ob,es,ep,e,c⟩:=x;exact ⟨z,y,vs,r,ob,es,ep,k _ _ (.inl rfl) e,c⟩
 | dT kvs =>
  obtain ⟨z,y,xs,r,ob,es,ep,e,c⟩:=x
  exact ⟨z,y,xs,Paired.mapP r fun p q z => ⟨z.1,ht _ _ z.2.1,z.2.2⟩,ob,es,ep,k _ _ (.inl rfl) e,c⟩
 | set S n => obtain ⟨ob,es,ep,t,e,c⟩:=x;exact ⟨ob,es,ep,t,k _ _ (.inl rfl) e,c⟩
 | ins C dx fs =>
  obtain ⟨d,z,ne,e,mA,⟨od,es,ep,e2,c⟩,r⟩:=x
  exact ⟨ho _ d,z,ne,k _ _ (.inl rfl) e,mA,⟨od,es,ep,k _ _ (.inr d) e2,c⟩,r⟩
 | own y => obtain ⟨ob,e⟩:=x;exact ⟨ob,k _ _ (.inl rfl) e⟩
 | xd fs => obtain ⟨mA,⟨od,es,ep,e,c⟩,r⟩:=x;exact ⟨mA,⟨od,es,ep,k _ _ (.inl rfl) e,c⟩,r⟩
 | rng lo hi => obtain ⟨t,u,v,e⟩:=x;exact ⟨t,u,v,k _ _ (.inl rfl) e⟩
 | frz ob u ih => obtain ⟨e,q⟩:=x;exact ⟨k _ _ (.inl rfl) e,ih q⟩
 | tbl qs =>
  obtain ⟨ps,e,tr,g⟩:=x
  refine ⟨ps,k a _ (.inl rfl) e,tr,fun pos v hc => ?_⟩
  obtain ⟨c,o,e1,g1,g2⟩:=g pos v hc
  exact ⟨c,o,e1,hf c o g1 g2,g2⟩
 | met f y =>
  have e : h.get? a = some (PySem.W.methodObj (.ref f) (.ref y)):=x
  show h'.get? a = some (PySem.W.methodObj (.ref f) (.ref y))
  exact k a _ (.inl rfl) e
 | ext φ => obtain ⟨p,⟨o,e⟩,st⟩:=x;exact ⟨st _ _ p fun o q => k _ _ (.inl rfl) q,⟨o,k _ _ (.inl rfl) e⟩,st⟩
theorem HOk.lt (x : HOk P w H h) (e : H a = some o) : a < h.objs.size:=(x a o e).lt
theorem HOk.fresh (x : HOk P w H h) (e : h.objs.size≤a) : H a = none:=by
 cases q : H a with
 | none => rfl
 | some u => exact absurd (Nat.lt_of_lt_of_le (x.lt q) e) (Nat.lt_irrefl _)
theorem HOk.kept (x : HOk P w H h) (k : ∀ b u,h.get? b = some u→h'.get? b = some u) : HOk P w H h':=fun a o e =>
 (x a o e).stay (fun b u _ q => k b u q) (fun _ q => q) fun _ _ q => q
theorem HOk.laid (x : HOk P w H h) (k : ∀ b u,h.get? b = some u→h'.get? b = some u) (hp : h.objs.size≤a) (new : ObjOk P w (upd H a o) h' a o) : HOk P w (upd H a o) h':=fun b u e => by
 have hn:=x.fresh hp
 by_cases hb : b = a
 ·subst hb;rw [upd_same] at e;cases e;exact new
 ·rw [upd_ne hb] at e
  exact (x b u e).stay (fun c v _ q => k c v q) (fun c q => by rw [upd_ne (ne_of_none q hn)];exact q) (fun c xs q => by rw [upd_ne (ne_of_none q hn)];exact q) (fun c ob q _ => by rw [upd_ne (ne_of_none q hn)];exact q)
end
noncomputable def Rd (H : Hp) (a : Addr) (u : HO) : Prop:=H a = some u∨∃ o,H a = some (.frz o u)
theorem Rd.ok {P : Program} {w : World} {H : Hp} {h : Heap} {a : Addr} {u : HO} (r : Rd H a u) (x : HOk P w H h) : ObjOk P w H h a u:=by
 rcases r with r | ⟨o,r⟩
 ·exact x a u r
 ·obtain ⟨_,q⟩:=x a _ r
  exact q
noncomputable def Mut : Option HO→Prop
 | some (.lst _) => True
 | some (.dK _) => True
 | some (.dT _) => True
 | some (.set _ _) => True
 | some (.ins _ _ _) => True
 | some (.ext _) => True
 | _ => False
section
variable {P : Program} {w : World} {H : Hp} {h h' : Heap} {x e : Addr} {o' : HO}
theorem HOk.write (ok : HOk P w H h) (mu : Mut (H x)) (he : e = x∨H e = some (.own x)) (k : ∀ b u,b≠e→h.get? b = some u→h'.get? b = some u) (heo : ∃ u,h'.get? e = some u)
  (new : ObjOk P w (upd H x o') h' x o') : HOk P w (upd H x o') h':=fun b u q => by
 have nown : ∀ c y,H c = some (.own y)→c≠x:=fun c y r z => by subst z;rw [r] at mu;exact mu
 have ntup : ∀ c xs,H c = some (.tup xs)→c≠x:=fun c xs r z => by subst z;rw [r] at mu;exact mu
 by_cases hb : b = x
 ·subst hb;rw [upd_same] at q;cases q;exact new
 ·rw [upd_ne hb] at q
  by_cases hbe : b = e
  ·have q' : H b = some (.own x):=by
    rcases he with z | z
    ·exact absurd (hbe.trans z) hb
    ·rw [hbe];exact z
   rw [q] at q';cases q'
   obtain ⟨v,hv⟩:=heo
   exact ⟨v,by rw [hbe];exact hv⟩
  ·refine (ok b u q).stay (fun c v hc r => k c v ?_ r) (fun c r => by rw [upd_ne (nown c b r)];exact r) (fun c xs r => by rw [upd_ne (ntup c xs r)];exact r) (fun c ob r _ => by rw [upd_ne (fun z => by subst z;rw [r] at mu;exact mu)];exact r)
   rcases hc with rfl | hc
   ·exact hbe
   ·rintro rfl
    rcases he with z | z
    ·exact nown c b hc z
    ·rw [hc] at z;cases z;exact hb rfl
end
structure Un (fs ex : List Addr) (H H' : Hp) (h h' : Heap) : Prop where
 keep : ∀ b o,h.get? b = some o→H b = none→b ∉ fs→b ∉ ex→h'.get? b = some o
 slot : ∀ b o,h.get? b = some o→H b = none→b∈fs→b ∉ ex→∃ sl,h'.get? b = some { o with slots:=sl }
 free : ∀ b o,h.get? b = some o→H b = none→b ∉ ex→H' b = none
 there : ∀ b o,h.get? b = some o→b ∉ ex→∃ o',h'.get? b = some o'
 tups : ∀ b xs,H b = some (.tup xs)→H' b = some (.tup xs)
 frzs : ∀ b o u,H b = some (.frz o u)→H' b = some (.frz o u)
 tbls : ∀ b ps,H b = some (.tbl ps)→∃ more,H' b = some (.tbl (ps++more))
section
variable {fs fs' ex ex' : List Addr} {H H1 H2 : Hp} {h h1 h2 h' : Heap} {a x e : Addr} {o : HO}
theorem Un.any (u : Un fs ex H H1 h h1) {b : Addr} {ob : Obj} (q : h.get? b = some ob) (n : H b = none) (hx : b ∉ ex) : ∃ sl,h1.get? b = some { ob with slots:=sl }:=by
 by_cases hb : b∈fs
 ·exact u.slot b ob q n hb hx
 ·exact ⟨ob.slots,u.keep b ob q n hb hx⟩
theorem Un.kept (k : ∀ b u,h.get? b = some u→h'.get? b = some u) : Un fs ex H H h h' :=
 ⟨fun b ob q _ _ _ => k b ob q,fun b ob q _ _ _ => ⟨ob.slots,k b ob q⟩,fun _ _ _ n _ => n,fun b ob q _ => ⟨ob,k b ob q⟩,fun _ _ q => q,fun _ _ _ q => q,fun _ ps q => ⟨#[],by rw [q];simp⟩⟩
theorem Un.refl : Un fs ex H H h h:=Un.kept fun _ _ q => q
theorem Un.laid (k : ∀ b u,h.get? b = some u→h'.get? b = some u) (hp : h.objs.size≤a) (hn : H a = none) : Un fs ex H (upd H a o) h h' where
 keep:=fun b u q _ _ _ => k b u q
 slot:=fun b u q _ _ _ => ⟨u.slots,k b u q⟩
 free:=fun b u q n _ => by rw [upd_ne (Nat.ne_of_lt (Nat.lt_of_lt_of_le (Heap.lt_size q) hp))];exact n
 there:=fun b u q _ => ⟨u,k b u q⟩
 tups:=fun b xs q => by rw [upd_ne (ne_of_none q hn)];exact q
 frzs:=fun b u xs q => by rw [upd_ne (ne_of_none q hn)];exact q
 tbls:=fun b ps q => ⟨#[],by rw [upd_ne (ne_of_none q hn),q];simp⟩
theorem Un.write (mu : Mut (H x)) (he : e = x∨H e = some (.own x)) (k : ∀ b u,b≠e→h.get? b = some u→h'.get? b = some u) (heo : ∃ u,h'.get? e = some u) : Un fs ex H (upd H x o) h h':=by
 have hx : ∀ b,H b = none→b≠x:=fun b n z => by subst z;rw [n] at mu;exact mu
 have hb : ∀ b,H b = none→b≠e:=fun b n z => by
  subst z
  rcases he with r | r
  ·exact hx b n r
  ·rw [n] at r;cases r
 have hm : ∀ b u,H b = some u→¬ Mut (some u)→b≠x:=fun b u q nm z => by subst z;rw [q] at mu;exact nm mu
 refine ⟨fun b u q n _ _ => k b u (hb b n) q,fun b u q n _ _ => ⟨u.slots,k b u (hb b n) q⟩,fun b u q n _ => by rw [upd_ne (hx b n)];exact n,fun b u q _ => ?_,
  fun b xs q => by rw [upd_ne (hm b _ q fun z => z)];exact q,fun b u xs q => by rw [upd_ne (hm b _ q fun z => z)];exact q,fun b ps q => ⟨#[],by rw [upd_ne (hm b _ q fun z => z),q];simp⟩⟩
 by_cases hbe : b = e
 ·subst hbe;exact heo
 ·exact ⟨u,k b u hbe q⟩
end
noncomputable def trk (h : Heap) (H : Hp) : List Addr:=(List.range h.objs.size).filter fun a => (H a).isSome
noncomputable def hidT (h : Heap) (H : Hp) : Heap:=PySem.W.hideAll h (trk h H)
theorem hidT_size (h : Heap) (H : Hp) : (hidT h H).objs.size = h.objs.size:=PySem.W.hideAll_size _ _
theorem hidT_get {h : Heap} {H : Hp} {b : Addr} {o : Obj} (e : h.get? b = some o) (n : H b = none) : (hidT h H).get? b = some o :=
 PySem.W.hideAll_get _ e fun hm => by
  have q : (H b).isSome = true:=(List.mem_filter.mp hm).2
  rw [n] at q;simp at q
theorem of_hidT {h : Heap} {H : Hp} {b : Addr} {o : Obj} (e : (hidT h H).get? b = some o) : h.get? b = some o∧H b = none:=by
 have e' : h.get? b = some o:=PySem.W.of_hideAll (trk h H) e
 refine ⟨e',?_⟩
 cases q : H b with
 | none => rfl
 | some x =>
  have hm : b∈trk h H:=List.mem_filter.mpr ⟨List.mem_range.mpr (Heap.lt_size e'),by simp [q]⟩
  have z : (hidT h H).get? b = none:=PySem.W.hideAll_none (trk h H) hm
  rw [z] at e;cases e
end L2
namespace L2
open PySem PySem.Spec PyProof.Rows
structure Mod (K : PySem.W.Frag) (mg : Str→Option Value) (base : Heap) : Prop where
 kin : K.In base
 glob : base.Ns mainGlobals mg
 blt : ∃ mb, base.Ns builtinsNs mb ∧ ∀ x : Str, x ≠ "__name__" → mb x = bootBuiltins x
 nolimit : base.NoLimit
 bm : ∃ bm ob, mg "__builtins__" = some (.ref bm) ∧ bm ≠ builtinsNs ∧ bm ≠ mainGlobals ∧ base.get? bm = some ob ∧ ob.cls = .type "module" ∧ ob.dict = some builtinsNs ∧ ob.data = .plain
noncomputable def TabIn (K : PySem.W.Frag) (mg : Str → Option Value) (H : Hp) : Prop:=∀ a o fd c oc vs p, mg "check_tests" = some (.ref a) → K.lookup a = some o → o.data = .func fd → fd.code = .ref c → K.lookup c = some oc → oc.data = .fields vs → vs[11]? = some (.ref p) → ∃ q, H p = some (.tbl q)
theorem TabIn.un {K : PySem.W.Frag} {mg : Str→Option Value} {fs ex : List Addr} {H H' : Hp} {h h' : Heap} (x : TabIn K mg H) (u : Un fs ex H H' h h') : TabIn K mg H':=fun a o fd c oc vs p e1 e2 e3 e4 e5 e6 e7 =>
 let ⟨q,e⟩:=x a o fd c oc vs p e1 e2 e3 e4 e5 e6 e7
 let ⟨m,e'⟩:=u.tbls p q e
 ⟨_,e'⟩
structure Cx where
 prog : Program
 w : World
 K : PySem.W.Frag
 mg : Str→Option Value
 base : Heap
 A : Around
 N : List Str
 s₀ : Shared
 H₀ : Hp
 env : Env
 outer : List Env
 stack : List Env
 ex : List Addr
 fn : Str→Bool
 calm : Bool
 pn : List (Addr × Obj)
 xe : Value→Shared→Prop
noncomputable def frs (l : List Env) : List Addr:=l.filterMap (·.frame)
noncomputable abbrev Cx.fs (X : Cx) : List Addr:=frs X.outer
noncomputable def Vis (sc : Scope) (x : Str) : Prop:=sc.names.lookup x = some .local∨sc.names.lookup x = some .cell∨sc.names.lookup x = some .free
noncomputable def Loc (sc : Scope) (x : Str) : Prop:=sc.names.lookup x = some .local∨sc.names.lookup x = some .cell
noncomputable def Look (env : Env) (h : Heap) (m : Str→Option Value) (x : Str) (u : Value) : Prop :=
 (env.kindOf x = some .local∧m x = some u)∨((env.kindOf x = some .cell∨env.kindOf x = some .free)∧∃ c,env.cells.lookup x = some c∧h.IsCell c (some u))
structure Cx.Ok (X : Cx) : Prop where
 mod : Mod X.K X.mg X.base
 kind : X.env.scope.kind = .function
 glob : X.env.globals = mainGlobals
 blt : X.env.builtins = builtinsNs
 above : X.s₀.heap.objs.size≤X.env.locals
 inj : ∀ x y c,X.env.cells.lookup x = some c→X.env.cells.lookup y = some c→x = y
 has : ∀ x,(X.env.kindOf x = some .cell∨X.env.kindOf x = some .free)→∃ c,X.env.cells.lookup x = some c
 cab : ∀ x c,X.fn x = true→X.env.cells.lookup x = some c→X.s₀.heap.objs.size≤c
 hd : X.calm = true→X.A.handled = none
 frames : X.A.frames = some X.stack
 stk : X.stack = X.outer∨(X.stack = X.env :: X.outer∧X.env.frame = some X.env.locals)
 exf : ∀ b∈X.ex,b≠X.env.locals∧∀ x c,X.env.cells.lookup x = some c→c≠b
 bs : ∀ b o,X.base.get? b = some o→X.s₀.heap.get? b = some o∧X.H₀ b = none
 bsz : X.base.objs.size≤X.s₀.heap.objs.size
 noex : ∀ b o,X.base.get? b = some o→b ∉ X.ex
 exfs : ∀ b∈X.ex,b ∉ X.fs
 funs : X.s₀.heap.FunFrames X.base X.outer
 frf : ∀ b∈X.fs,X.H₀ b = none
 tab : TabIn X.K X.mg X.H₀
structure Inv (X : Cx) (pins : List (Addr × Obj)) (σ : List (Option V)) (H : Hp) (s : Shared) : Prop where
 ok : X.Ok
 os : s.os = X.s₀.os
 bare : AllBare s.gens
 base : Un X.fs X.ex X.H₀ H X.s₀.heap s.heap
 loc : ∃ m,s.heap.Ns X.env.locals m∧∀ (i : Nat) (x : Str) (v : V),X.N[i]? = some x→σ[i]? = some (some v)→Vis X.env.scope x→∃ u,RelV v u∧Look X.env s.heap m x u
 cell : ∀ x c,X.env.cells.lookup x = some c→∃ v,s.heap.IsCell c v
 free : H X.env.locals = none
 freeC : ∀ x c,X.env.cells.lookup x = some c→H c = none
 pin : ∀ p∈X.pn++pins,s.heap.get? p.1 = some p.2∧H p.1 = none∧p.1≠X.env.locals∧p.1 ∉ X.fs∧∀ v,p.2.data≠.cell v
 hok : HOk X.prog X.w H s.heap
 len : σ.length = X.N.length
section
variable {X : Cx} {pins : List (Addr × Obj)} {σ : List (Option V)} {H H' : Hp} {s : Shared} {h' : Heap}
theorem Cx.Ok.nofr (ok : X.Ok) {b : Addr} {o : Obj} (e : X.base.get? b = some o) : b ∉ X.fs:=fun hb => by
 have:=(ok.funs.mem hb).1
 rw [e] at this;cases this
theorem Inv.bs (I : Inv X pins σ H s) : ∀ b o,X.base.get? b = some o→s.heap.get? b = some o∧H b = none:=fun b o e =>
 ⟨I.base.keep b o (I.ok.bs b o e).1 (I.ok.bs b o e).2 (I.ok.nofr e) (I.ok.noex b o e),I.base.free b o (I.ok.bs b o e).1 (I.ok.bs b o e).2 (I.ok.noex b o e)⟩
theorem Inv.bk (I : Inv X pins σ H s) : ∀ b o,X.base.get? b = some o→s.heap.get? b = some o:=fun b o e => (I.bs b o e).1
theorem Inv.mod (I : Inv X pins σ H s) : Mod X.K X.mg X.base:=I.ok.mod
theorem Inv.kIn (I : Inv X pins σ H s) : X.K.In s.heap:=I.ok.mod.kin.keeps I.bk
theorem Inv.fr (I : Inv X pins σ H s) : ∃ m,Fr X.base X.env.locals s.heap m :=
 let ⟨m,hn,_⟩:=I.loc
 ⟨m,hn,I.bk,Nat.le_trans I.ok.bsz I.ok.above⟩
theorem Inv.lt (I : Inv X pins σ H s) : X.env.locals < s.heap.objs.size:=let ⟨_,hn,_⟩:=I.loc;hn.lt
theorem Inv.sz (I : Inv X pins σ H s) : X.s₀.heap.objs.size≤s.heap.objs.size:=Nat.le_trans I.ok.above (Nat.le_of_lt I.lt)
theorem Inv.nofs (I : Inv X pins σ H s) {a : Addr} (h : s.heap.objs.size≤a) : a ∉ X.fs:=fun hb => by
 obtain ⟨_,o,ho,_⟩:=I.ok.funs.mem hb
 exact absurd (Nat.lt_of_lt_of_le (Heap.lt_size ho) (Nat.le_trans I.sz h)) (Nat.lt_irrefl _)
theorem Inv.cne (I : Inv X pins σ H s) : ∀ x c,X.env.cells.lookup x = some c→c≠X.env.locals:=fun x c e z => by
 obtain ⟨v,o,ho,hd⟩:=I.cell x c e
 obtain ⟨m,⟨o',es,ep,ho',hd',_⟩,_⟩:=I.loc
 rw [z,ho'] at ho;cases ho;rw [hd'] at hd;cases hd
theorem Inv.funs (I : Inv X pins σ H s) : s.heap.FunFrames X.base X.outer:=by
 have all : ∀ (l : List Env),(∀ b∈frs l,b∈X.fs)→X.s₀.heap.FunFrames X.base l→s.heap.FunFrames X.base l:=by
  intro l
  induction l with
  | nil => intro _ _;trivial
  | cons env r ih =>
   intro hs hl
   obtain ⟨hk,⟨L,o,hf,hn,ho,hd⟩,hr⟩:=hl
   have hL : L∈X.fs:=hs L (by unfold frs;rw [List.filterMap_cons,hf];exact List.mem_cons_self)
   obtain ⟨sl,e⟩:=I.base.slot L o ho (I.ok.frf L hL) hL fun z => I.ok.exfs L z hL
   exact ⟨hk,⟨L,_,hf,hn,e,hd⟩,ih (fun b hb => hs b (by unfold frs;rw [List.filterMap_cons,hf];exact List.mem_cons_of_mem _ hb)) hr⟩
 exact all X.outer (fun _ hb => hb) I.ok.funs
theorem Inv.stack (I : Inv X pins σ H s) : s.heap.FunFrames X.base X.stack:=by
 rcases I.ok.stk with e | ⟨e,hf⟩
 ·rw [e];exact I.funs
 ·rw [e]
  obtain ⟨m,hn,_⟩:=I.loc
  refine .cons (by rw [I.ok.kind];decide) hf hn ?_ I.funs
  exact Heap.get?_none_of_le (Nat.le_trans I.ok.bsz I.ok.above)
theorem Inv.stkSub (I : Inv X pins σ H s) : ∀ b∈frs X.stack,b∈X.env.locals :: X.fs:=fun b hb => by
 rcases I.ok.stk with e | ⟨e,hf⟩
 ·rw [e] at hb;exact List.mem_cons_of_mem _ hb
 ·rw [e] at hb
  unfold frs at hb
  rw [List.filterMap_cons,hf] at hb
  exact hb
theorem Inv.stkFree (I : Inv X pins σ H s) : ∀ b∈frs X.stack,H b = none:=fun b hb => by
 rcases List.mem_cons.mp (I.stkSub b hb) with e | hb
 ·rw [e];exact I.free
 ·obtain ⟨_,o,ho,_⟩:=I.ok.funs.mem hb
  exact I.base.free b o ho (I.ok.frf b hb) fun z => I.ok.exfs b z hb
theorem Inv.step {g' : Array GenState} {t' : Nat} {d' : Drawn} {ch : List Addr} (I : Inv X pins σ H s)
  (hch : ∀ b∈ch,(b∈X.ex∨X.s₀.heap.objs.size≤b)∧b≠X.env.locals∧(∀ x c,X.env.cells.lookup x = some c→c≠b)∧∀ p∈X.pn++pins,p.1≠b)
  (keep : ∀ b o,b≠X.env.locals→b ∉ X.fs→b ∉ ch→s.heap.get? b = some o→H b = none→h'.get? b = some o)
  (slot : ∀ b o,b≠X.env.locals→b∈X.fs→b ∉ ch→s.heap.get? b = some o→H b = none→∃ sl,h'.get? b = some { o with slots:=sl }) (free : ∀ b o,b ∉ ch→s.heap.get? b = some o→H b = none→H' b = none)
  (there : ∀ b o,b ∉ ch→s.heap.get? b = some o→∃ o',h'.get? b = some o')
  (tups : ∀ b xs,H b = some (.tup xs)→H' b = some (.tup xs)) (frzs : ∀ b o u,H b = some (.frz o u)→H' b = some (.frz o u)) (tbls : ∀ b ps,H b = some (.tbl ps)→∃ more,H' b = some (.tbl (ps++more)))
  (ns : ∀ m,s.heap.Ns X.env.locals m→h'.Ns X.env.locals m) (hok : HOk X.prog X.w H' h') (hg : AllBare g') :
  Inv X pins σ H' { s with heap:=h',gens:=g',drawn:=d',toks:=t' }:=by
 have neL : ∀ b o,X.s₀.heap.get? b = some o→b≠X.env.locals:=fun b o e => Nat.ne_of_lt (Nat.lt_of_lt_of_le (Heap.lt_size e) I.ok.above)
 have neC : ∀ b o,X.s₀.heap.get? b = some o→b ∉ X.ex→b ∉ ch:=fun b o e hx hb => by
  rcases (hch b hb).1 with z | z
  ·exact hx z
  ·exact absurd (Nat.lt_of_lt_of_le (Heap.lt_size e) z) (Nat.lt_irrefl _)
 have cellK : ∀ x c,X.env.cells.lookup x = some c→∀ v,s.heap.IsCell c v→h'.IsCell c v:=fun x c e v ⟨o,ho,hd⟩ => by
  have nch : c ∉ ch:=fun z => (hch c z).2.2.1 x c e rfl
  by_cases hc : c∈X.fs
  ·obtain ⟨sl,q⟩:=slot c o (I.cne x c e) hc nch ho (I.freeC x c e)
   exact ⟨_,q,hd⟩
  ·exact ⟨o,keep c o (I.cne x c e) hc nch ho (I.freeC x c e),hd⟩
 refine ⟨I.ok,I.os,hg,⟨fun b o e n hb hx => ?_,fun b o e n hb hx => ?_,fun b o e n hx => ?_,fun b o e hx => ?_,fun b xs e => tups b xs (I.base.tups b xs e),fun b o xs e => frzs b o xs (I.base.frzs b o xs e),fun b ps e => ?_⟩,?_,fun x c e => ?_,?_,fun x c e => ?_,fun p hp => ?_,hok,I.len⟩
 ·exact keep b o (neL b o e) hb (neC b o e hx) (I.base.keep b o e n hb hx) (I.base.free b o e n hx)
 ·obtain ⟨sl,e1⟩:=I.base.slot b o e n hb hx
  obtain ⟨sl',e2⟩:=slot b _ (neL b o e) hb (neC b o e hx) e1 (I.base.free b o e n hx)
  exact ⟨sl',e2⟩
 ·obtain ⟨o',e1⟩:=I.base.there b o e hx
  exact free b o' (neC b o e hx) e1 (I.base.free b o e n hx)
 ·obtain ⟨o',e1⟩:=I.base.there b o e hx
  exact there b o' (neC b o e hx) e1
 ·obtain ⟨m1,e1⟩:=I.base.tbls b ps e
  obtain ⟨m2,e2⟩:=tbls b _ e1
  exact ⟨m1++m2,by rw [e2,Array.append_assoc]⟩
 ·obtain ⟨m,hn,hl⟩:=I.loc
  refine ⟨m,ns m hn,fun i x v e1 e2 e3 => ?_⟩
  obtain ⟨u,r,l⟩:=hl i x v e1 e2 e3
  refine ⟨u,r,?_⟩
  rcases l with l | ⟨k,c,e,z⟩
  ·exact .inl l
  ·exact .inr ⟨k,c,e,cellK x c e _ z⟩
 ·obtain ⟨v,z⟩:=I.cell x c e
  exact ⟨v,cellK x c e v z⟩
 ·obtain ⟨m,⟨o,_,_,ho,_⟩,_⟩:=I.loc
  exact free _ o (fun z => (hch _ z).2.1 rfl) ho I.free
 ·obtain ⟨v,o,ho,hd⟩:=I.cell x c e
  exact free c o (fun z => (hch c z).2.2.1 x c e rfl) ho (I.freeC x c e)
 ·obtain ⟨e,n,ne,nf,d⟩:=I.pin p hp
  have nch : p.1 ∉ ch:=fun z => (hch p.1 z).2.2.2 p hp rfl
  exact ⟨keep p.1 p.2 ne nf nch e n,free p.1 p.2 nch e n,ne,nf,d⟩
theorem Inv.un {t' : Nat} (I : Inv X pins σ H s) (u : Un X.fs [] H H' s.heap h') (hok : HOk X.prog X.w H' h') : Inv X pins σ H' { s with heap:=h',toks:=t' }:=by
 obtain ⟨m,⟨o,es,ep,ho,r⟩,_⟩:=id I.loc
 obtain ⟨sl,hL⟩:=u.any ho I.free (by simp)
 exact I.step (g':=s.gens) (d':=s.drawn) (ch:=[]) (fun _ z => nomatch z) (fun b o _ hb _ e n => u.keep b o e n hb (by simp)) (fun b o _ hb _ e n => u.slot b o e n hb (by simp)) (fun b o _ e n => u.free b o e n (by simp)) (fun b o _ e => u.there b o e (by simp)) u.tups u.frzs u.tbls (fun m' hm => by
  obtain ⟨o',es',ep',ho',r'⟩:=hm
  rw [ho] at ho';cases ho'
  exact ⟨_,es',ep',hL,r'⟩) hok I.bare
theorem Inv.call {g' : Array GenState} {t' : Nat} {d' : Drawn} {ch : List Addr} (I : Inv X pins σ H s) (u : Un (frs X.stack) ch H H' s.heap h') (hok : HOk X.prog X.w H' h') (hg : AllBare g')
  (hch : ∀ b∈ch,(b∈X.ex∨X.s₀.heap.objs.size≤b)∧b≠X.env.locals∧(∀ x c,X.env.cells.lookup x = some c→c≠b)∧∀ p∈X.pn++pins,p.1≠b) :
  Inv X pins σ H' { s with heap:=h',gens:=g',drawn:=d',toks:=t' }:=by
 obtain ⟨m,⟨o,es,ep,ho,r⟩,_⟩:=id I.loc
 obtain ⟨sl,hL⟩:=u.any ho I.free fun z => (hch _ z).2.1 rfl
 exact I.step (ch:=ch) hch (fun b o hL hb hc e n => u.keep b o e n (fun z => (List.mem_cons.mp (I.stkSub b z)).elim hL hb) hc) (fun b o _ _ hc e n => u.any e n hc) (fun b o hc e n => u.free b o e n hc) (fun b o hc e => u.there b o e hc) u.tups u.frzs u.tbls (fun m' hm => by
  obtain ⟨o',es',ep',ho',r'⟩:=hm
  rw [ho] at ho';cases ho'
  exact ⟨_,es',ep',hL,r'⟩) hok hg
theorem Inv.turned {t' : Nat} {it : Addr} (I : Inv X pins σ H s) (k : ∀ b o,b≠it→s.heap.get? b = some o→h'.get? b = some o) (hn : H it = none) (hL : it≠X.env.locals)
  (h1 : it∈X.ex∨X.s₀.heap.objs.size≤it) (h2 : ∀ x c,X.env.cells.lookup x = some c→c≠it) (h3 : ∀ p∈X.pn++pins,p.1≠it) : Inv X pins σ H { s with heap:=h',toks:=t' }:=by
 have nit : ∀ b u,H b = some u→b≠it:=fun b u e z => by rw [z,hn] at e;cases e
 refine I.step (g':=s.gens) (d':=s.drawn) (ch:=[it]) (fun b hb => ?_) (fun b o _ _ hc e _ => k b o (fun z => hc (by simp [z])) e) (fun b o _ _ hc e _ => ⟨o.slots,k b o (fun z => hc (by simp [z])) e⟩) (fun _ _ _ _ n => n)
  (fun b o hc e => ⟨o,k b o (fun z => hc (by simp [z])) e⟩) (fun _ _ e => e) (fun _ _ _ e => e) (fun b ps e => ⟨#[],by rw [e];simp⟩) (fun m hm => ?_) (fun b u e => ?_) I.bare
 ·have e : b = it:=by simpa using hb
  subst e
  exact ⟨h1,hL,h2,h3⟩
 ·obtain ⟨o,es,ep,ho,r⟩:=hm
  exact ⟨o,es,ep,k _ o (Ne.symm hL) ho,r⟩
 ·refine (I.hok b u e).stay (fun c v hc q => k c v ?_ q) (fun _ q => q) fun _ _ q => q
  rcases hc with z | z
  ·rw [z];exact nit b u e
  ·exact nit c _ z
theorem Inv.tok (I : Inv X pins σ H s) (t : Nat) : Inv X pins σ H { s with toks:=t }:=I.un (h':=s.heap) (t':=t) Un.refl I.hok
theorem Inv.kept {t' : Nat} (I : Inv X pins σ H s) (k : ∀ b u,s.heap.get? b = some u→h'.get? b = some u) : Inv X pins σ H { s with heap:=h',toks:=t' }:=I.un (Un.kept k) (I.hok.kept k)
theorem Inv.laid {a : Addr} {o : HO} {t' : Nat} (I : Inv X pins σ H s) (k : ∀ b u,s.heap.get? b = some u→h'.get? b = some u) (hp : s.heap.objs.size≤a) (new : ObjOk X.prog X.w (upd H a o) h' a o) :
  Inv X pins σ (upd H a o) { s with heap:=h',toks:=t' }:=I.un (Un.laid k hp (I.hok.fresh hp)) (I.hok.laid k hp new)
theorem Inv.write {x e : Addr} {o : HO} {t' : Nat} (I : Inv X pins σ H s) (mu : Mut (H x)) (he : e = x∨H e = some (.own x)) (k : ∀ b u,b≠e→s.heap.get? b = some u→h'.get? b = some u) (heo : ∃ u,h'.get? e = some u)
  (new : ObjOk X.prog X.w (upd H x o) h' x o) : Inv X pins σ (upd H x o) { s with heap:=h',toks:=t' }:=I.un (Un.write mu he k heo) (I.hok.write mu he k heo new)
theorem Inv.weak {σ' : List (Option V)} (I : Inv X pins σ H s) (hl : σ'.length = σ.length) (w : ∀ (i : Nat) v,σ'[i]? = some (some v)→σ[i]? = some (some v)) : Inv X pins σ' H s :=
 ⟨I.ok,I.os,I.bare,I.base,let ⟨m,hn,hl'⟩:=I.loc;⟨m,hn,fun i x v e1 e2 e3 => hl' i x v e1 (w i v e2) e3⟩,I.cell,I.free,I.freeC,I.pin,I.hok,hl.trans I.len⟩
theorem Inv.pins_of {pins' : List (Addr × Obj)} (I : Inv X pins σ H s) (h : ∀ p∈pins',s.heap.get? p.1 = some p.2∧H p.1 = none∧p.1≠X.env.locals∧p.1 ∉ X.fs∧∀ v,p.2.data≠.cell v) : Inv X pins' σ H s :=
 ⟨I.ok,I.os,I.bare,I.base,I.loc,I.cell,I.free,I.freeC,fun p hp => (List.mem_append.mp hp).elim (fun z => I.pin p (List.mem_append_left _ z)) (h p),I.hok,I.len⟩
theorem nodup_ix {N : List Str} (hN : N.Nodup) {i j : Nat} {x : Str} (a : N[i]? = some x) (b : N[j]? = some x) : i = j:=by
 obtain ⟨h1,e1⟩:=List.getElem?_eq_some_iff.mp a
 obtain ⟨h2,e2⟩:=List.getElem?_eq_some_iff.mp b
 exact (List.getElem_inj hN).mp (e1.trans e2.symm)
theorem store_ok2 {M : Model} {A : Around} {E : Value→Shared→Prop} {i : Nat} {x : Str} {v : V} {u : Value} {Q : Unit→Shared→Prop} (I : Inv X pins σ H s) (hN : X.N.Nodup) (hi : X.N[i]? = some x) (hx : Loc X.env.scope x) (r : RelV v u)
  (h : ∀ s',Inv X pins (σ.set i (some v)) H s'→(∃ a,Heap.SameBut a s.heap s'.heap∧(a = X.env.locals∨X.env.cells.lookup x = some a))→Q () s') (hf : X.fn x = true∨X.env.scope.names.lookup x = some .local:=by first | exact .inl rfl | exact .inr rfl | assumption) : wpAny M A (storeName X.env x u) Q E s:=by
 obtain ⟨m,hn,hl⟩:=id I.loc
 have hcls : (X.env.scope.kind == .class || (X.env.scope.kind == .module && X.env.locals != X.env.globals)) = false:=by rw [I.ok.kind];rfl
 have hiσ : i < σ.length:=by rw [I.len];exact (List.getElem?_eq_some_iff.mp hi).1
 have cne:=I.cne
 have tracked : ∀ {a : Addr} {h' : Heap},(∃ o,s.heap.get? a = some o∧H a = none)→Heap.SameBut a s.heap h'→HOk X.prog X.w H h':=fun {a h'} ha hs b ob e => by
  obtain ⟨_,_,hfree⟩:=ha
  refine (I.hok b ob e).stay (fun c w' hc q => (hs.2 c ?_).trans q) (fun _ q => q) fun _ _ q => q
  rintro rfl
  rcases hc with rfl | hc
  ·rw [hfree] at e;cases e
  ·rw [hfree] at hc;cases hc
 rcases hx with hk | hk
 ·refine wpAny_storeName_local hk hn (fun h' hn' hs => ?_) hcls
  obtain ⟨oL,_,_,hoL,_⟩:=id hn
  refine h _ ⟨I.ok,I.os,I.bare,⟨fun b o e n hb hx => ?_,fun b o e n hb hx => ?_,I.base.free,fun b o e hx => ?_,I.base.tups,I.base.frzs,I.base.tbls⟩,⟨_,hn',fun j y v' e1 e2 e3 => ?_⟩,fun y c e => ?_,I.free,I.freeC,fun p hp => ?_,tracked ⟨oL,hoL,I.free⟩ hs,by simpa using I.len⟩ ⟨_,hs,.inl rfl⟩
  ·exact (hs.2 b (Nat.ne_of_lt (Nat.lt_of_lt_of_le (Heap.lt_size e) I.ok.above))).trans (I.base.keep b o e n hb hx)
  ·obtain ⟨sl,e1⟩:=I.base.slot b o e n hb hx
   exact ⟨sl,(hs.2 b (Nat.ne_of_lt (Nat.lt_of_lt_of_le (Heap.lt_size e) I.ok.above))).trans e1⟩
  ·obtain ⟨o',e1⟩:=I.base.there b o e hx
   exact ⟨o',(hs.2 b (Nat.ne_of_lt (Nat.lt_of_lt_of_le (Heap.lt_size e) I.ok.above))).trans e1⟩
  ·by_cases hj : j = i
   ·subst hj
    rw [hi] at e1;cases e1
    rw [List.getElem?_set_self hiσ] at e2
    cases e2
    exact ⟨u,r,.inl ⟨hk,by simp⟩⟩
   ·rw [List.getElem?_set_ne (Ne.symm hj)] at e2
    obtain ⟨u',r',q⟩:=hl j y v' e1 e2 e3
    refine ⟨u',r',?_⟩
    rcases q with ⟨k,e⟩ | ⟨k,c,e,z⟩
    ·refine .inl ⟨k,?_⟩
     have : y≠x:=fun e => hj (nodup_ix hN e1 (e ▸ hi))
     simp [this,e]
    ·exact .inr ⟨k,c,e,z.sameBut hs (cne y c e)⟩
  ·obtain ⟨w',z⟩:=I.cell y c e
   exact ⟨w',z.sameBut hs (cne y c e)⟩
  ·obtain ⟨e,n,ne,nf,d⟩:=I.pin p hp
   exact ⟨(hs.2 p.1 ne).trans e,n,ne,nf,d⟩
 ·have hfn : X.fn x = true:=by
   rcases hf with z | z
   ·exact z
   ·rw [z] at hk;cases hk
  obtain ⟨c,hc⟩:=I.ok.has x (.inl hk)
  obtain ⟨w',z⟩:=I.cell x c hc
  refine wpAny_storeName_cell I.ok.kind hk hc z (fun h' hc' hs => ?_)
  obtain ⟨oc,hoc,hocd⟩:=id z
  refine h { s with heap:=h' } ⟨I.ok,I.os,I.bare,⟨fun b o e n hb hx => ?_,fun b o e n hb hx => ?_,I.base.free,fun b o e hx => ?_,I.base.tups,I.base.frzs,I.base.tbls⟩,⟨m,hn.sameBut hs (Ne.symm (cne x c hc)),fun j y v' e1 e2 e3 => ?_⟩,fun y c' e => ?_,I.free,I.freeC,fun p hp => ?_,tracked ⟨oc,hoc,I.freeC x c hc⟩ hs,by simpa using I.len⟩ ⟨c,hs,.inr hc⟩
  ·exact (hs.2 b (Nat.ne_of_lt (Nat.lt_of_lt_of_le (Heap.lt_size e) (I.ok.cab x c hfn hc)))).trans (I.base.keep b o e n hb hx)
  ·obtain ⟨sl,e1⟩:=I.base.slot b o e n hb hx
   exact ⟨sl,(hs.2 b (Nat.ne_of_lt (Nat.lt_of_lt_of_le (Heap.lt_size e) (I.ok.cab x c hfn hc)))).trans e1⟩
  ·obtain ⟨o',e1⟩:=I.base.there b o e hx
   exact ⟨o',(hs.2 b (Nat.ne_of_lt (Nat.lt_of_lt_of_le (Heap.lt_size e) (I.ok.cab x c hfn hc)))).trans e1⟩
  ·by_cases hj : j = i
   ·subst hj
    rw [hi] at e1;cases e1
    rw [List.getElem?_set_self hiσ] at e2
    cases e2
    exact ⟨u,r,.inr ⟨.inl hk,c,hc,hc'⟩⟩
   ·rw [List.getElem?_set_ne (Ne.symm hj)] at e2
    obtain ⟨u',r',q⟩:=hl j y v' e1 e2 e3
    refine ⟨u',r',?_⟩
    rcases q with q | ⟨k,c',e,z'⟩
    ·exact .inl q
    ·refine .inr ⟨k,c',e,z'.sameBut hs ?_⟩
     rintro rfl
     exact hj (nodup_ix hN e1 (I.ok.inj _ _ _ e hc ▸ hi))
  ·by_cases hcc : c' = c
   ·subst hcc;exact ⟨_,hc'⟩
   ·obtain ⟨w2,z2⟩:=I.cell y c' e
    exact ⟨w2,z2.sameBut hs hcc⟩
  ·obtain ⟨e,n,ne,nf,d⟩:=I.pin p hp
   refine ⟨(hs.2 p.1 ?_).trans e,n,ne,nf,d⟩
   intro q
   rw [q,hoc] at e
   have q' : oc = p.2:=Option.some.inj e
   exact d w' (by rw [← q'];exact hocd)
theorem store_ok {M : Model} {A : Around} {E : Value→Shared→Prop} {i : Nat} {x : Str} {v : V} {u : Value} {Q : Unit→Shared→Prop} (I : Inv X pins σ H s) (hN : X.N.Nodup) (hi : X.N[i]? = some x) (hx : Loc X.env.scope x) (r : RelV v u)
  (h : ∀ s',Inv X pins (σ.set i (some v)) H s'→Q () s') (hf : X.fn x = true∨X.env.scope.names.lookup x = some .local:=by first | exact .inl rfl | exact .inr rfl | assumption) : wpAny M A (storeName X.env x u) Q E s :=
 store_ok2 I hN hi hx r (fun s' I' _ => h s' I') hf
theorem Inv.call' {s' : Shared} {ch : List Addr} (I : Inv X pins σ H s) (ho : s'.os = s.os) (u : Un (frs X.stack) ch H H' s.heap s'.heap) (hok : HOk X.prog X.w H' s'.heap) (hg : AllBare s'.gens)
  (hch : ∀ b∈ch,(b∈X.ex∨X.s₀.heap.objs.size≤b)∧b≠X.env.locals∧(∀ x c,X.env.cells.lookup x = some c→c≠b)∧∀ p∈X.pn++pins,p.1≠b) : Inv X pins σ H' s':=by
 obtain ⟨h',g',d',t',o'⟩:=s'
 have e : o' = s.os:=ho
 subst e
 exact I.call (g':=g') (t':=t') (d':=d') u hok hg hch
end
noncomputable abbrev XK:=Value→Option Addr→Hp→Prop
noncomputable abbrev St:=List (Option V)
noncomputable abbrev VK:=V→Hp→Prop
noncomputable abbrev TE:=St→Hp→VK→Prop
noncomputable abbrev TT:=St→Hp→(Bool→Hp→Prop)→Prop
noncomputable abbrev TA:=St→Hp→(List V→Hp→Prop)→Prop
structure Ends where
 nx : St→Hp→Prop
 rt : VK
 bk : St→Hp→Prop:=fun _ _ => False
 ct : St→Hp→Prop:=fun _ _ => False
noncomputable abbrev TS:=Ends→St→Hp→Prop
noncomputable def EP (X : Cx) (pins : List (Addr × Obj)) (σ : St) (Q : VK) (u : Value) (s' : Shared) : Prop:=∃ v H',Inv X pins σ H' s'∧RelV v u∧Q v H'
noncomputable def TP (X : Cx) (pins : List (Addr × Obj)) (σ : St) (Q : Bool→Hp→Prop) (b : Bool) (s' : Shared) : Prop:=∃ H',Inv X pins σ H' s'∧Q b H'
noncomputable def AP (X : Cx) (pins : List (Addr × Obj)) (σ : St) (Q : List V→Hp→Prop) (us : List Value) (s' : Shared) : Prop:=∃ vs H',Inv X pins σ H' s'∧Vals vs us∧Q vs H'
noncomputable def SP (X : Cx) (pins : List (Addr × Obj)) (D : Ends) (f : Flow) (s' : Shared) : Prop :=
 match f with
 | .next => ∃ σ' H',Inv X pins σ' H' s'∧D.nx σ' H'
 | .brk => ∃ σ' H',Inv X pins σ' H' s'∧D.bk σ' H'
 | .cont => ∃ σ' H',Inv X pins σ' H' s'∧D.ct σ' H'
 | .ret u => ∃ v σ' H',Inv X pins σ' H' s'∧RelV v u∧D.rt v H'
noncomputable def PE (X : Cx) (e : Expr) (t : TE) : Prop :=
 ∀ (pins : List (Addr × Obj)) (s : Shared) (σ : St) (H : Hp) (Q : VK),Inv X pins σ H s→t σ H Q→wpAny (model X.prog X.w) X.A (eval e X.env) (EP X pins σ Q) X.xe s
noncomputable def PT (X : Cx) (e : Expr) (t : TT) : Prop :=
 ∀ (pins : List (Addr × Obj)) (s : Shared) (σ : St) (H : Hp) (Q : Bool→Hp→Prop),Inv X pins σ H s→t σ H Q→wpAny (model X.prog X.w) X.A (isTrue e X.env (eval e X.env)) (TP X pins σ Q) X.xe s
noncomputable def PW (X : Cx) (e : Expr) (t : TT) : Prop :=
 ∀ (whole : Sem Value) (pins : List (Addr × Obj)) (s : Shared) (σ : St) (H : Hp) (Q : Bool→Hp→Prop),Inv X pins σ H s→t σ H Q→wpAny (model X.prog X.w) X.A (isTrue e X.env whole) (TP X pins σ Q) X.xe s
theorem PW.pt {X : Cx} {e : Expr} {t : TT} (h : PW X e t) : PT X e t:=h _
noncomputable def PA (X : Cx) (es : List Expr) (t : TA) : Prop :=
 ∀ (pos : Pos) (pins : List (Addr × Obj)) (s : Shared) (σ : St) (H : Hp) (Q : List V→Hp→Prop),Inv X pins σ H s→t σ H Q→wpAny (model X.prog X.w) X.A (spliced (backTo pos (starEach es X.env))) (AP X pins σ Q) X.xe s
noncomputable def PS (X : Cx) (st : Stmt) (t : TS) : Prop :=
 ∀ (pins : List (Addr × Obj)) (s : Shared) (σ : St) (H : Hp) (D : Ends),Inv X pins σ H s→t D σ H→wpAny (model X.prog X.w) X.A (exec st X.env) (SP X pins D) X.xe s
noncomputable def PSs (X : Cx) (st : List Stmt) (t : TS) : Prop :=
 ∀ (pins : List (Addr × Obj)) (s : Shared) (σ : St) (H : Hp) (D : Ends),Inv X pins σ H s→t D σ H→wpAny (model X.prog X.w) X.A (execs st X.env) (SP X pins D) X.xe s
theorem thn {α : Type} {t : Sem α} {Q Q' : α→Shared→Prop} {M : Model} {A : Around} {E : Value→Shared→Prop} {s : Shared} (h : wpAny M A t Q E s) (hQ : ∀ a s,Q a s→Q' a s) : wpAny M A t Q' E s:=wpAny_mono h hQ fun _ _ x => x
end L2
namespace L2
open PySem PySem.Spec PyProof.Rows
section
variable {X : Cx}
theorem bin {a b : Expr} {ta tb : TE} (ha : PE X a ta) (hb : PE X b tb) {pins : List (Addr × Obj)} {s : Shared} {σ : St} {H : Hp} {R : V→V→Hp→Prop} (I : Inv X pins σ H s) (h : ta σ H fun x H1 => tb σ H1 fun y H2 => R x y H2)
  {α : Type} {Q : α→Shared→Prop} {f : Value→Value→Sem α}
  (hf : ∀ v u s2 x y H2,Inv X pins σ H2 s2→RelV x v→RelV y u→R x y H2→wpAny (model X.prog X.w) X.A (f v u) Q X.xe s2) :
  wpAny (model X.prog X.w) X.A (eval a X.env) (fun v s₁ => wpAny (model X.prog X.w) X.A (eval b X.env) (fun u s₂ => wpAny (model X.prog X.w) X.A (f v u) Q X.xe s₂) X.xe s₁) X.xe s:=by
 refine thn (ha pins s σ H _ I h) fun v s1 ⟨x,H1,I1,r1,q1⟩ => ?_
 refine thn (hb pins s1 σ H1 _ I1 q1) fun u s2 ⟨y,H2,I2,r2,q2⟩ => ?_
 exact hf v u s2 x y H2 I2 r1 r2 q2
noncomputable def tVar (i : Nat) : TE:=fun σ H Q => ∃ v,σ[i]? = some (some v)∧Q v H
noncomputable def tC (v : V) : TE:=fun _ H Q => Q v H
theorem pe_var {i : Nat} {x : Str} {pos : Pos} (hN : X.N[i]? = some x) (hv : Vis X.env.scope x) (hd : (x == ("__debug__" : Str)) = false:=by decide) (hcd : (x == ("__classdict__" : Str)) = false:=by decide) : PE X (.Name x pos) (tVar i):=by
 intro pins s σ H Q I h
 obtain ⟨v,e,h⟩:=h
 obtain ⟨m,hn,hl⟩:=I.loc
 obtain ⟨u,r,l⟩:=hl i x v hN e hv
 have fin : EP X pins σ Q u s:=⟨v,H,I,r,h⟩
 rcases l with ⟨hk,hm⟩ | ⟨hk,c,hc,hcell⟩
 ·exact wpAny_Name (wpAny_loadName_local I.ok.kind hk hn hm fin) hd
 ·rcases hk with hk | hk
  ·exact wpAny_Name (wpAny_loadName_cell I.ok.kind hk hc hcell fin) hd
  ·exact wpAny_Name (wpAny_loadName_free I.ok.kind hk hc hcell fin hcd) hd
theorem pe_int {i j pos} : PE X (.Constant (.int i) j pos) (tC (.int i)):=fun _ _ _ H _ I h => wpAny_Constant_int ⟨.int i,H,I.tok _,⟨_,rfl⟩,h⟩
theorem pe_bl {b j pos} : PE X (.Constant (.bool b) j pos) (tC (.bl b)):=fun _ _ _ H _ I h => Constant_bool ⟨.bl b,H,I,rfl,h⟩
theorem pe_non {j pos} : PE X (.Constant .none j pos) (tC .non):=fun _ _ _ H _ I h => Constant_none ⟨.non,H,I,rfl,h⟩
theorem pe_str {x j pos} : PE X (.Constant (.str x) j pos) (tC (.str x)):=fun _ _ _ H _ I h => Calls.Constant_str ⟨.str x,H,I.tok _,⟨_,rfl⟩,h⟩
noncomputable def Gl (X : Cx) (x : Str) : Prop:=X.env.kindOf x = some .globalImplicit
theorem ld_glob {E : Value→Shared→Prop} {pins : List (Addr × Obj)} {s : Shared} {σ : St} {H : Hp} {x : Str} {u : Value} {pos : Pos} {Q : Value→Shared→Prop} (I : Inv X pins σ H s) (hg : Gl X x) (hm : X.mg x = some u) (h : Q u s)
  (hd : (x == ("__debug__" : Str)) = false:=by decide) : wpAny (model X.prog X.w) X.A (eval (.Name x pos) X.env) Q E s :=
 Calls.Name_function_global I.ok.kind hg (Calls.loadGlobal_global (by rw [I.ok.glob];exact I.mod.glob.keeps I.bk) hm h) hd
theorem ld_blt {E : Value→Shared→Prop} {pins : List (Addr × Obj)} {s : Shared} {σ : St} {H : Hp} {x : Str} {u : Value} {pos : Pos} {Q : Value→Shared→Prop} (I : Inv X pins σ H s) (hg : Gl X x) (hm : X.mg x = none) (hv : bootBuiltins x = some u) (h : Q u s)
  (hn : x ≠ "__name__":=by decide) (hd : (x == ("__debug__" : Str)) = false:=by decide) : wpAny (model X.prog X.w) X.A (eval (.Name x pos) X.env) Q E s:=by
 obtain ⟨mb,h1,h2⟩:=I.mod.blt
 exact Calls.Name_function_global I.ok.kind hg (Calls.loadGlobal_builtin (by rw [I.ok.glob];exact I.mod.glob.keeps I.bk) hm (by rw [I.ok.blt];exact h1.keeps I.bk) ((h2 x hn).trans hv) h) hd
theorem pe_glob {x : Str} {v : V} {u : Value} {pos : Pos} (hg : Gl X x) (hm : X.mg x = some u) (r : RelV v u) (hd : (x == ("__debug__" : Str)) = false:=by decide) : PE X (.Name x pos) (tC v) :=
 fun _ _ _ H _ I h => ld_glob I hg hm ⟨v,H,I,r,h⟩ hd
theorem pe_bltn {x : Str} {v : V} {u : Value} {pos : Pos} (hg : Gl X x) (hm : X.mg x = none) (hv : bootBuiltins x = some u) (r : RelV v u) (hn : x ≠ "__name__":=by decide) (hd : (x == ("__debug__" : Str)) = false:=by decide) : PE X (.Name x pos) (tC v) :=
 fun _ _ _ H _ I h => ld_blt I hg hm hv ⟨v,H,I,r,h⟩ hn hd
variable {a b : Expr} {ta tb : TE} {pos : Pos}
noncomputable def PC (X : Cx) (op : CmpOp) (a b : Expr) (t : TE) : Prop :=
 ∀ (pins : List (Addr × Obj)) (s : Shared) (σ : St) (H : Hp) (Q : VK),Inv X pins σ H s→t σ H Q →
  wpAny (model X.prog X.w) X.A (eval a X.env) (fun v s₁ => wpAny (model X.prog X.w) X.A (eval b X.env) (fun u s₂ => wpAny (model X.prog X.w) X.A (compareOp op v u) (EP X pins σ Q) X.xe s₂) X.xe s₁) X.xe s
noncomputable def tB (t : TE) : TT:=fun σ H Q => t σ H fun x H1 => ∃ c,x = .bl c∧Q c H1
theorem pt_cmp {op : CmpOp} {t : TE} (h : PC X op a b t) (h1 : behindInMarks op b = false:=by first | exact nobehind _ (by decide) (by decide) | rfl) : PT X (.Compare a [op] [b] pos) (tB t):=by
 intro pins s σ H Q I hw
 refine wpAny_isTrue_Compare1 (thn (h pins s σ H _ I hw) fun v s1 h1 => thn h1 fun u s2 h2 => thn h2 fun c s3 ⟨x,H1,I1,r1,q1⟩ => ?_) h1
 obtain ⟨d,rfl,q⟩:=q1
 cases r1
 exact wpAny_truthy_bool ⟨H1,I1,q⟩
theorem pt_val {e : Expr} {t : TE} (h : PE X e t) (he : ∀ whole,isTrue e X.env whole = (do let v ← whole;standAt e.pos;holding [v] (truthy v)):=by intro _;rfl) : PT X e (tB t):=by
 intro pins s σ H Q I hw
 refine isTrue_plain (thn (h pins s σ H _ I hw) fun v s1 ⟨x,H1,I1,r1,q1⟩ => ?_) (he _)
 obtain ⟨d,rfl,q⟩:=q1
 cases r1
 exact wpAny_truthy_bool ⟨H1,I1,q⟩
variable {tA tB' : TT} {rest : List Expr}
noncomputable def tAnd (t u : TT) : TT:=fun σ H Q => t σ H fun c H1 => if c = true then u σ H1 Q else Q false H1
noncomputable def tOr (t u : TT) : TT:=fun σ H Q => t σ H fun c H1 => if c = true then Q true H1 else u σ H1 Q
noncomputable def tNot (t : TT) : TT:=fun σ H Q => t σ H fun c H1 => Q (!c) H1
theorem pw_and1 (ha : PT X a tA) : PW X (.BoolOp .And [a] pos) tA:=by
 intro wh pins s σ H Q I h
 refine isTrue_and (thn (ha pins s σ H Q I h) fun c s1 e => ?_)
 cases c with
 | true => exact isTrue_and_nil e
 | false => exact e
theorem pw_or1 (ha : PT X a tA) : PW X (.BoolOp .Or [a] pos) tA:=by
 intro wh pins s σ H Q I h
 refine isTrue_or (thn (ha pins s σ H Q I h) fun c s1 e => ?_)
 cases c with
 | false => exact isTrue_or_nil e
 | true => exact e
theorem pw_and (ha : PT X a tA) (hb : PW X (.BoolOp .And (b :: rest) pos) tB') : PW X (.BoolOp .And (a :: b :: rest) pos) (tAnd tA tB'):=by
 intro wh pins s σ H Q I h
 refine isTrue_and (thn (ha pins s σ H _ I h) fun c s1 ⟨H1,I1,q1⟩ => ?_)
 cases c with
 | true => exact hb wh pins s1 σ H1 Q I1 q1
 | false => exact ⟨H1,I1,q1⟩
theorem pw_or (ha : PT X a tA) (hb : PW X (.BoolOp .Or (b :: rest) pos) tB') : PW X (.BoolOp .Or (a :: b :: rest) pos) (tOr tA tB'):=by
 intro wh pins s σ H Q I h
 refine isTrue_or (thn (ha pins s σ H _ I h) fun c s1 ⟨H1,I1,q1⟩ => ?_)
 cases c with
 | true => exact ⟨H1,I1,q1⟩
 | false => exact hb wh pins s1 σ H1 Q I1 q1
theorem pt_not (ha : PT X a tA) : PT X (.UnaryOp .Not a pos) (tNot tA):=by
 intro pins s σ H Q I h
 exact isTrue_not (ha pins s σ H (fun c H1 => Q (!c) H1) I h)
noncomputable def tAndV (ta tb : TE) : TE:=fun σ H Q => ta σ H fun x H1 => ∃ c,x = .bl c∧if c = true then tb σ H1 Q else Q (.bl false) H1
noncomputable def tOrV (ta tb : TE) : TE:=fun σ H Q => ta σ H fun x H1 => ∃ c,x = .bl c∧if c = true then Q (.bl true) H1 else tb σ H1 Q
noncomputable def tNotV (ta : TE) : TE:=fun σ H Q => ta σ H fun x H1 => ∃ c,x = .bl c∧Q (.bl (!c)) H1
theorem pe_one {op} {t : TE} (h : PE X a t) : PE X (.BoolOp op [a] pos) t:=fun pins s σ H Q I hw => BoolOp_one (h pins s σ H Q I hw)
theorem pe_and (ha : PE X a ta) (hb : PE X (.BoolOp .And (b :: rest) pos) tb) : PE X (.BoolOp .And (a :: b :: rest) pos) (tAndV ta tb):=by
 intro pins s σ H Q I h
 refine BoolOp_and (thn (ha pins s σ H _ I h) fun v s1 ⟨x,H1,I1,r1,q1⟩ => ?_)
 obtain ⟨c,rfl,q1⟩:=q1
 cases r1
 refine wpAny_truthy_bool ?_
 cases c with
 | true => exact hb pins s1 σ H1 Q I1 q1
 | false => exact ⟨.bl false,H1,I1,rfl,q1⟩
theorem pe_or (ha : PE X a ta) (hb : PE X (.BoolOp .Or (b :: rest) pos) tb) : PE X (.BoolOp .Or (a :: b :: rest) pos) (tOrV ta tb):=by
 intro pins s σ H Q I h
 refine BoolOp_or (thn (ha pins s σ H _ I h) fun v s1 ⟨x,H1,I1,r1,q1⟩ => ?_)
 obtain ⟨c,rfl,q1⟩:=q1
 cases r1
 refine wpAny_truthy_bool ?_
 cases c with
 | false => exact hb pins s1 σ H1 Q I1 q1
 | true => exact ⟨.bl true,H1,I1,rfl,q1⟩
theorem pe_not (ha : PE X a ta) : PE X (.UnaryOp .Not a pos) (tNotV ta):=by
 intro pins s σ H Q I h
 refine UnaryOp_ (thn (ha pins s σ H _ I h) fun v s1 ⟨x,H1,I1,r1,q1⟩ => ?_)
 obtain ⟨c,rfl,q1⟩:=q1
 cases r1
 exact not_of (wpAny_truthy_bool ⟨.bl (!c),H1,I1,rfl,q1⟩)
end
end L2
namespace L2
open PySem PySem.Spec PyProof.Rows
noncomputable def SqL (K : PySem.W.Frag) (H : Hp) (a : Addr) (xs : List V) : Prop :=
 Rd H a (.lst xs) ∨
  ∃ (o : Obj) (its : Array Value) (n : Nat), K.lookup a = some o ∧ o.cls = .type "list" ∧ o.dict = none ∧ o.data = .seq its n ∧ its.size ≤ sizeLine ∧ Vals xs its.toList
noncomputable def SqT (K : PySem.W.Frag) (H : Hp) (a : Addr) (xs : List V) : Prop :=
 Rd H a (.tup xs) ∨
  ∃ (o : Obj) (its : Array Value) (n : Nat), K.lookup a = some o ∧ o.cls = .type "tuple" ∧ o.data = .seq its n ∧ its.size ≤ sizeLine ∧ Vals xs its.toList
noncomputable def absV : Value→Option V
 | .none => some .non
 | .bool b => some (.bl b)
 | .int i _ => some (.int i)
 | .str x _ => some (.str x)
 | .bytes b _ => some (.byt b)
 | .float b _ => some (.flt b)
 | .ref a => some (.ref a)
 | .type n => some (.ty n)
 | _ => none
theorem RelV.abs {x : V} {u : Value} (r : RelV x u) : absV u = some x:=by
 cases x with
 | non => cases r;rfl
 | bl _ => cases r;rfl
 | int _ => obtain ⟨t,rfl⟩:=r;rfl
 | str _ => obtain ⟨t,rfl⟩:=r;rfl
 | byt _ => obtain ⟨t,rfl⟩:=r;rfl
 | flt _ => obtain ⟨t,rfl⟩:=r;rfl
 | ref _ => cases r;rfl
 | ty _ => cases r;rfl
theorem RelV.inj {x y : V} {u : Value} (r : RelV x u) (q : RelV y u) : x = y:=Option.some.inj (r.abs.symm.trans q.abs)
theorem Vals.inj : ∀ {xs ys : List V} {us : List Value},Vals xs us→Vals ys us→xs = ys
 | _,_,_,.nil,.nil => rfl
 | _,_,_,.cons r t,.cons r' t' => by rw [r.inj r',Vals.inj t t']
section
variable {X : Cx} {pins : List (Addr × Obj)} {σ : St} {H : Hp} {s : Shared} {a : Addr} {xs ys : List V}
theorem SqL.of {K : PySem.W.Frag} (h : H a = some (.lst xs)) : SqL K H a xs:=.inl (.inl h)
theorem SqT.of {K : PySem.W.Frag} (h : H a = some (.tup xs)) : SqT K H a xs:=.inl (.inl h)
theorem Inv.list (I : Inv X pins σ H s) (h : SqL X.K H a xs) : ∃ its : List Value,Vals xs its∧PlainL s.heap a its.toArray∧xs.length≤sizeLine:=by
 rcases h with h | ⟨o,its,n,hk,hc,hd,hs,hz,r⟩
 ·obtain ⟨z,its,n,r,e⟩:=h.ok I.hok
  exact ⟨its,r,⟨_,n,e,rfl,rfl,rfl⟩,z⟩
 ·refine ⟨its.toList,r,⟨o,n,I.kIn a o hk,hc,hd,by simpa using hs⟩,?_⟩
  have e:=r.length
  simp only [Array.length_toList] at e
  omega
theorem Inv.tuple (I : Inv X pins σ H s) (h : SqT X.K H a xs) : ∃ its : List Value,Vals xs its∧IsTup s.heap a its.toArray∧xs.length≤sizeLine:=by
 rcases h with h | ⟨o,its,n,hk,hc,hs,hz,r⟩
 ·obtain ⟨z,its,r,p⟩:=h.ok I.hok
  exact ⟨its,r,p,z⟩
 ·refine ⟨its.toList,r,⟨o,I.kIn a o hk,hc,n,by simpa using hs⟩,?_⟩
  have e:=r.length
  simp only [Array.length_toList] at e
  omega
theorem Inv.list_inj (I : Inv X pins σ H s) (h : SqL X.K H a xs) (h' : SqL X.K H a ys) : xs = ys:=by
 obtain ⟨its,r,⟨o,n,e,_,_,d⟩,_⟩:=I.list h
 obtain ⟨its',r',⟨o',n',e',_,_,d'⟩,_⟩:=I.list h'
 rw [e] at e';cases e'
 rw [d] at d'
 injection d' with d1 _
 have : its = its':=by simpa using congrArg Array.toList d1
 subst this
 exact r.inj r'
theorem Inv.tuple_inj (I : Inv X pins σ H s) (h : SqT X.K H a xs) (h' : SqT X.K H a ys) : xs = ys:=by
 obtain ⟨its,r,⟨o,e,_,n,d⟩,_⟩:=I.tuple h
 obtain ⟨its',r',⟨o',e',_,n',d'⟩,_⟩:=I.tuple h'
 rw [e] at e';cases e'
 rw [d] at d'
 injection d' with d1 _
 have : its = its':=by simpa using congrArg Array.toList d1
 subst this
 exact r.inj r'
end
noncomputable abbrev Cx.wish (X : Cx) (E : Value→Shared→Prop) : Cx:={ X with xe:=E }
noncomputable abbrev Cx.nox (X : Cx) : Cx:=X.wish fun _ _ => False
theorem Cx.Ok.wish {X : Cx} (ok : X.Ok) (E : Value→Shared→Prop) : (X.wish E).Ok :=
 ⟨ok.mod,ok.kind,ok.glob,ok.blt,ok.above,ok.inj,ok.has,ok.cab,ok.hd,ok.frames,ok.stk,ok.exf,ok.bs,ok.bsz,ok.noex,ok.exfs,ok.funs,ok.frf,ok.tab⟩
theorem Cx.Ok.unwish {X : Cx} {E : Value→Shared→Prop} (ok : (X.wish E).Ok) : X.Ok :=
 ⟨ok.mod,ok.kind,ok.glob,ok.blt,ok.above,ok.inj,ok.has,ok.cab,ok.hd,ok.frames,ok.stk,ok.exf,ok.bs,ok.bsz,ok.noex,ok.exfs,ok.funs,ok.frf,ok.tab⟩
section
variable {X : Cx} {pins : List (Addr × Obj)} {σ : St} {H : Hp} {s : Shared} {E : Value→Shared→Prop}
theorem Inv.wish (I : Inv X pins σ H s) (E : Value→Shared→Prop) : Inv (X.wish E) pins σ H s:=⟨I.ok.wish E,I.os,I.bare,I.base,I.loc,I.cell,I.free,I.freeC,I.pin,I.hok,I.len⟩
theorem Inv.unwish (I : Inv (X.wish E) pins σ H s) : Inv X pins σ H s:=⟨I.ok.unwish,I.os,I.bare,I.base,I.loc,I.cell,I.free,I.freeC,I.pin,I.hok,I.len⟩
theorem SP.unwish {D : Ends} {f : Flow} {s' : Shared} (h : SP (X.wish E) pins D f s') : SP X pins D f s':=by
 cases f with
 | next => obtain ⟨σ',H',I,q⟩:=h;exact ⟨σ',H',I.unwish,q⟩
 | brk => obtain ⟨σ',H',I,q⟩:=h;exact ⟨σ',H',I.unwish,q⟩
 | cont => obtain ⟨σ',H',I,q⟩:=h;exact ⟨σ',H',I.unwish,q⟩
 | ret u => obtain ⟨v,σ',H',I,r,q⟩:=h;exact ⟨v,σ',H',I.unwish,r,q⟩
theorem PSs.nox {st : List Stmt} {t : TS} (h : PSs X.nox st t) : PSs X st t:=fun pins s σ H D I hw =>
 wpAny_mono (h pins s σ H D (I.wish _) hw) (fun _ _ q => q.unwish) fun _ _ z => False.elim z
end
section
variable {X : Cx} {st : Stmt} {rest : List Stmt} {t u : TS} {e : Expr} {te : TE} {pos : Pos}
noncomputable def tNext : TS:=fun D σ H => D.nx σ H
noncomputable def tSeq (t u : TS) : TS:=fun D σ H => t { D with nx:=u D } σ H
theorem pss_nil : PSs X [] tNext:=fun _ _ σ H _ I h => wpAny_execs_nil ⟨σ,H,I,h⟩
theorem pss_cons (h1 : PS X st t) (h2 : PSs X rest u) : PSs X (st :: rest) (tSeq t u):=by
 intro pins s σ H D I h
 refine wpAny_execs_cons (thn (h1 pins s σ H { D with nx:=u D } I h) fun f s1 q => ?_)
 cases f with
 | next =>
  obtain ⟨σ',H',I',q⟩:=q
  exact h2 pins s1 σ' H' D I' q
 | ret v => exact q
 | brk => exact q
 | cont => exact q
theorem pss_one (h1 : PS X st t) : PSs X [st] t:=by
 intro pins s σ H D I h
 refine wpAny_execs_cons (thn (h1 pins s σ H D I h) fun f s1 q => ?_)
 cases f with
 | next => exact wpAny_execs_nil q
 | ret v => exact q
 | brk => exact q
 | cont => exact q
noncomputable def tBreak : TS:=fun D σ H => D.bk σ H
noncomputable def tCont : TS:=fun D σ H => D.ct σ H
theorem ps_pass : PS X (.Pass pos) tNext:=fun _ _ σ H _ I h => wpAny_Pass ⟨σ,H,I,h⟩
theorem ps_break : PS X (.Break pos) tBreak:=fun _ _ σ H _ I h => wpAny_Break ⟨σ,H,I,h⟩
theorem ps_continue : PS X (.Continue pos) tCont:=fun _ _ σ H _ I h => wpAny_Continue ⟨σ,H,I,h⟩
theorem Inv.quiet {pins : List (Addr × Obj)} {σ : St} {H : Hp} {s : Shared} (I : Inv X pins σ H s) : interactive X.env = false:=by simp [interactive,I.ok.kind]
noncomputable def tDrop (te : TE) : TS:=fun D σ H => te σ H fun _ H1 => D.nx σ H1
theorem ps_expr (he : PE X e te) (hs : swapsWith e none pos.line X.env = pure false:=by rfl) : PS X (.Expr e pos) (tDrop te):=by
 intro pins s σ H D I h
 exact wpAny_Expr_any (thn (he pins s σ H _ I h) fun v s1 ⟨x,H1,I1,r1,q1⟩ => ⟨σ,H1,I1,q1⟩) I.quiet hs
noncomputable def tRet (te : TE) : TS:=fun D σ H => te σ H D.rt
theorem ps_ret (he : PE X e te) : PS X (.Return (some e) pos) (tRet te):=by
 intro pins s σ H D I h
 exact wpAny_Return_some (thn (he pins s σ H _ I h) fun v s1 ⟨x,H1,I1,r1,q1⟩ => ⟨x,σ,H1,I1,r1,q1⟩)
noncomputable def tRetN : TS:=fun D _ H => D.rt .non H
theorem ps_retN : PS X (.Return none pos) tRetN:=fun _ _ σ H _ I h => wpAny_Return_none ⟨.non,σ,H,I,rfl,h⟩
noncomputable def tIfS (c : TT) (t u : TS) : TS:=fun D σ H => c σ H fun b H1 => if b = true then t D σ H1 else u D σ H1
theorem ps_if {c : Expr} {a b : List Stmt} {tc : TT} (hc : PT X c tc) (ha : PSs X a t) (hb : PSs X b u) : PS X (.If c a b pos) (tIfS tc t u):=by
 intro pins s σ H D I h
 refine wpAny_If (thn (hc pins s σ H _ I h) fun d s1 ⟨H1,I1,q1⟩ => ?_)
 cases d with
 | true => exact ha pins s1 σ H1 D I1 q1
 | false => exact hb pins s1 σ H1 D I1 q1
noncomputable def tNever : TS:=fun _ _ _ => False
theorem ps_never : PS X st tNever:=fun _ _ _ _ _ _ h => h.elim
theorem pss_never {sts : List Stmt} : PSs X sts tNever:=fun _ _ _ _ _ _ h => h.elim
end
noncomputable abbrev TG:=V→St→Hp→(St→Hp→Prop)→Prop
noncomputable abbrev TGs:=List V→St→Hp→(St→Hp→Prop)→Prop
noncomputable def PG (X : Cx) (target : Expr) (t : TG) : Prop :=
 ∀ (pins : List (Addr × Obj)) (s : Shared) (σ : St) (H : Hp) (v : V) (u : Value) (Q : St→Hp→Prop),Inv X pins σ H s→RelV v u→t v σ H Q →
  wpAny (model X.prog X.w) X.A (assign target X.env u) (fun _ s' => ∃ σ' H',Inv X pins σ' H' s'∧Q σ' H') X.xe s
noncomputable def PGs (X : Cx) (ts : List Expr) (t : TGs) : Prop :=
 ∀ (pins : List (Addr × Obj)) (s : Shared) (σ : St) (H : Hp) (vs : List V) (us : List Value) (Q : St→Hp→Prop),Inv X pins σ H s→Vals vs us→t vs σ H Q →
  wpAny (model X.prog X.w) X.A (assignInOrder ((assignEach ts X.env).map (·.2)) us) (fun _ s' => ∃ σ' H',Inv X pins σ' H' s'∧Q σ' H') X.xe s
section
variable {X : Cx} {pos : Pos}
noncomputable def gName (i : Nat) : TG:=fun v σ H Q => Q (σ.set i (some v)) H
theorem pg_name {i : Nat} {x : Str} (hN : X.N.Nodup) (hi : X.N[i]? = some x) (hx : Loc X.env.scope x) (hf : X.fn x = true∨X.env.scope.names.lookup x = some .local:=by first | exact .inl rfl | exact .inr rfl | assumption) : PG X (.Name x pos) (gName i):=by
 intro pins s σ H v u Q I r h
 exact wpAny_assign_Name (store_ok I hN hi hx r (fun s' I' => ⟨_,H,I',h⟩) hf)
noncomputable def gNil : TGs:=fun vs σ H Q => vs = []∧Q σ H
noncomputable def gCons (t : TG) (u : TGs) : TGs:=fun vs σ H Q => ∃ v r,vs = v :: r∧t v σ H fun σ' H' => u r σ' H' Q
theorem pgs_nil : PGs X [] gNil:=by
 intro pins s σ H vs us Q I r h
 obtain ⟨e,h⟩:=h
 subst e
 cases r
 exact assignInOrder_nil ⟨σ,H,I,h⟩
theorem pgs_cons {e : Expr} {es : List Expr} {t : TG} {u : TGs} (h1 : PG X e t) (h2 : PGs X es u)
  (hs : (assignEach (e :: es) X.env).map (·.2) = assign e X.env :: (assignEach es X.env).map (·.2):=by rfl) : PGs X (e :: es) (gCons t u):=by
 intro pins s σ H vs us Q I r h
 obtain ⟨v,vr,e1,h⟩:=h
 subst e1
 cases r with
 | cons r rr =>
  rw [hs]
  refine assignInOrder_cons (thn (h1 pins s σ H _ _ _ I r h) fun _ s1 ⟨σ1,H1,I1,q1⟩ => ?_)
  exact h2 pins s1 σ1 H1 _ _ Q I1 rr q1
noncomputable def gTup (K : PySem.W.Frag) (n : Nat) (t : TGs) : TG:=fun v σ H Q => ∃ a xs,v = .ref a∧SqT K H a xs∧xs.length = n∧t xs σ H Q
theorem pg_tup {es : List Expr} {k : Nat} {t : TGs} {n : Nat} (hc : X.calm = true) (h : PGs X es t)
  (hn : (assignEach es X.env).length = n:=by rfl) (hst : (assignEach es X.env).findIdx? (·.1) = none:=by rfl) : PG X (.Tuple es k pos) (gTup X.K n t):=by
 intro pins s σ H v u Q I r hw
 obtain ⟨a,xs,e1,hq,hl,hw⟩:=hw
 subst e1
 cases r
 obtain ⟨its,rv,ht,hz⟩:=I.tuple hq
 refine assign_Tuple_tuple (I.ok.hd hc) ht (by simp [hn,← hl,rv.length]) hst fun h' hx => ?_
 have I1 : Inv X pins σ H { s with heap:=h' }:=I.kept (t':=s.toks) fun b o e => hx b o (Nat.ne_of_lt (Heap.lt_size e)) e
 exact h pins _ σ H xs _ Q I1 (by simpa using rv) hw
noncomputable def tAsg (te : TE) (g : TG) : TS:=fun D σ H => te σ H fun x H1 => g x σ H1 D.nx
theorem ps_asg {tg e : Expr} {te : TE} {g : TG} (he : PE X e te) (hg : PG X tg g) (hs : swapsWithSole [tg] e pos.line X.env = pure false:=by rfl) (hw : swappedStores [tg] e X.env = pure none:=by rfl)
  (h1 : (assignEach [tg] X.env).map (·.2) = [assign tg X.env]:=by rfl) : PS X (.Assign [tg] e pos) (tAsg te g):=by
 intro pins s σ H D I h
 refine wpAny_Assign_stores (thn (he pins s σ H _ I h) fun v s1 ⟨x,H1,I1,r1,q1⟩ => ?_) hs hw
 rw [h1]
 exact thn (hg pins s1 σ H1 x v _ I1 r1 q1) fun _ s2 q => q
end
section
variable {X : Cx} {pos : Pos}
end
structure It where
 go : Nat→Hp→Prop
 yld : Nat→Hp→V→Hp→Prop
 stop : Nat→Hp→Prop
noncomputable def FpOk (X : Cx) (pins : List (Addr × Obj)) (H : Hp) (b : Addr) : Prop :=
 H b = none∧b≠X.env.locals∧b ∉ X.fs∧(b∈X.ex∨X.s₀.heap.objs.size≤b)∧(∀ x c,X.env.cells.lookup x = some c→c≠b)∧∀ p∈X.pn++pins,p.1≠b
theorem Inv.fpOk {X : Cx} {pins : List (Addr × Obj)} {σ : St} {H H' : Hp} {s : Shared} {b : Addr} (I : Inv X pins σ H s) (hb : s.heap.objs.size≤b) (hn : H' b = none) : FpOk X pins H' b:=by
 refine ⟨hn,Nat.ne_of_gt (Nat.lt_of_lt_of_le I.lt hb),I.nofs hb,.inr (Nat.le_trans I.sz hb),fun x c e z => ?_,fun p hp z => ?_⟩
 ·obtain ⟨v,q⟩:=I.cell x c e
  exact absurd (Nat.lt_of_lt_of_le q.lt (by rw [z];exact hb)) (Nat.lt_irrefl _)
 ·exact absurd (Nat.lt_of_lt_of_le (Heap.lt_size (I.pin p hp).1) (by rw [z];exact hb)) (Nat.lt_irrefl _)
structure Turn (P : Program) (w : World) (K : PySem.W.Frag) (tg : Expr) (J : It) (fp : List Addr) (it : Addr) (tn : Nat→Heap→Prop) : Prop where
 mem : it∈fp
 obj : ∀ i h,tn i h→∀ b∈fp,∃ o,h.get? b = some o∧∀ v,o.data≠.cell v
 keep : ∀ i h h',tn i h→(∀ b∈fp,∀ o,h.get? b = some o→h'.get? b = some o)→tn i h'
 item : ∀ (X : Cx),X.prog = P→X.w = w→X.K = K→X.calm = true→∀ (i : Nat) (pins : List (Addr × Obj)) (s : Shared) (σ : St) (H : Hp) (E : Value→Shared→Prop),Inv X pins σ H s→(∀ b∈fp,FpOk X pins H b)→tn i s.heap→J.go i H →
  wpAny (model P w) X.A (pyNext (.ref it)) (fun r s1 => ∃ u,r = some u ∧
   wpAny (model P w) X.A (letOwnedTupleGo tg (.ref it) u) (fun _ s2 => ∃ x H',Inv X pins σ H' s2∧RelV x u∧J.yld i H x H'∧tn (i + 1) s2.heap∧∀ b∈fp,H' b = none) E s1) E s
 done : ∀ (X : Cx),X.prog = P→X.w = w→X.K = K→X.calm = true→∀ (i : Nat) (pins : List (Addr × Obj)) (s : Shared) (σ : St) (H : Hp) (E : Value→Shared→Prop),Inv X pins σ H s→(∀ b∈fp,FpOk X pins H b)→tn i s.heap→J.stop i H →
  wpAny (model P w) X.A (pyNext (.ref it)) (fun r s1 => r = none∧Inv X pins σ H s1) E s
 self : ∀ (A : Around) (i : Nat) (s : Shared) (Q : Value→Shared→Prop) (E : Value→Shared→Prop),tn i s.heap→Q (.ref it) s→wpAny (model P w) A (pyIter (.ref it)) Q E s
noncomputable abbrev TI:=St→Hp→(It→Hp→Prop)→Prop
noncomputable def PIE (X : Cx) (pins : List (Addr × Obj)) (σ : St) (tg : Expr) (R : It→Hp→Prop) (itv : Value) (s2 : Shared) : Prop :=
 ∃ (it : Addr) (fp : List Addr) (tn : Nat→Heap→Prop) (J : It) (H' : Hp),itv = .ref it∧Inv X pins σ H' s2∧Turn X.prog X.w X.K tg J fp it tn∧tn 0 s2.heap∧(∀ b∈fp,FpOk X pins H' b)∧R J H'
noncomputable def PI (X : Cx) (tg iter : Expr) (wi : TI) : Prop :=
 ∀ (pins : List (Addr × Obj)) (s : Shared) (σ : St) (H : Hp) (R : It→Hp→Prop),Inv X pins σ H s→wi σ H R →
  wpAny (model X.prog X.w) X.A (eval iter X.env) (fun v s1 => wpAny (model X.prog X.w) X.A (pyIter v) (PIE X pins σ tg R) X.xe s1) X.xe s
theorem go_of {M : Model} {A : Around} {E : Value→Shared→Prop} {s : Shared} {tg : Expr} {it : Addr} {u : Value} {o : Obj} {n : String} {vs : Array Value} {Q : Unit→Shared→Prop} (ho : s.heap.get? it = some o) (hc : o.cls = .type n) (hd : o.data = .fields vs)
  (hn : ["enumerate", "zip", "dict_itemiterator", "dict_reverseitemiterator", "odict_iterator", "itertools.zip_longest", "itertools.pairwise"].contains n = false) (hQ : Q () s) : wpAny M A (letOwnedTupleGo tg (.ref it) u) Q E s:=by
 unfold letOwnedTupleGo
 cases tg <;> first
  | exact wpAny_pure hQ
  | (cases u <;> first
    | exact wpAny_pure hQ
    | (refine wpAny_bind (wpAny_load ho ?_)
       rw [hc,hd]
       show wpAny M A (if (["enumerate", "zip", "dict_itemiterator", "dict_reverseitemiterator", "odict_iterator", "itertools.zip_longest", "itertools.pairwise"].contains n && vs[0]? == some (rawInt _)) = true then _ else _) Q E s
       rw [if_neg (by intro h;rw [hn,Bool.false_and] at h;cases h)]
       exact wpAny_pure hQ))
noncomputable def Itl (K : PySem.W.Frag) (a : Addr) : It :=
 ⟨fun i H => ∃ xs x,SqL K H a xs∧xs[i]? = some x,fun i H x H' => H' = H∧∀ xs,SqL K H a xs→xs[i]? = some x,fun i H => ∃ xs,SqL K H a xs∧xs.length≤i⟩
noncomputable def Itt (K : PySem.W.Frag) (a : Addr) : It :=
 ⟨fun i H => ∃ xs x,SqT K H a xs∧xs[i]? = some x,fun i H x H' => H' = H∧∀ xs,SqT K H a xs→xs[i]? = some x,fun i H => ∃ xs,SqT K H a xs∧xs.length≤i⟩
noncomputable def Itr (lo : Int) (n : Nat) : It:=⟨fun i _ => i < n,fun i H x H' => H' = H∧x = .int (lo + i),fun i _ => n≤i⟩
theorem turn_list {P : Program} {w : World} {K : PySem.W.Frag} {tg : Expr} (a it : Addr) : Turn P w K tg (Itl K a) [it] it (fun i h => h.IsListIter it a i) where
 mem:=by simp
 obj:=fun i h st b hb => by
  have e : b = it:=by simpa using hb
  subst e
  obtain ⟨o,e,c,d⟩:=st
  exact ⟨o,e,fun v z => by rw [d] at z;cases z⟩
 keep:=fun i h h' st k => st.at fun o e => k it (by simp) o e
 item:=by
  intro X hP hw hK hc i pins s σ H E I hf st hg
  subst hP hw hK
  obtain ⟨xs,x,hq,hx⟩:=hg
  obtain ⟨its,rv,p,hz⟩:=I.list hq
  obtain ⟨u,hu,ru⟩:=rv.get hx
  obtain ⟨f0,f1,f2,f3,f4,f5⟩:=hf it (by simp)
  refine wpAny_pyNext_list_item st p.isList (x:=u) (by simpa using hu) fun h' st' sb => ?_
  have I1 : Inv X pins σ H { s with heap:=h' }:=I.turned (t':=s.toks) (fun b o hb e => (sb.2 b hb).trans e) f0 f1 f3 f4 f5
  obtain ⟨o,e,c,d⟩:=id st'
  exact ⟨u,rfl,go_of (s:={ s with heap:=h' }) e c d (by decide) ⟨x,H,I1,ru,⟨rfl,fun ys hy => by rw [I.list_inj hy hq];exact hx⟩,st',fun b hb => (hf b hb).1⟩⟩
 done:=by
  intro X hP hw hK hc i pins s σ H E I hf st hg
  subst hP hw hK
  obtain ⟨xs,hq,hx⟩:=hg
  obtain ⟨its,rv,p,hz⟩:=I.list hq
  obtain ⟨f0,f1,f2,f3,f4,f5⟩:=hf it (by simp)
  have hl:=rv.length
  exact wpAny_pyNext_list_end (I.ok.hd hc) st p.isList (by simp;omega) fun h' eb => ⟨rfl,I.turned (t':=s.toks) (fun b o hb e => eb b o hb e) f0 f1 f3 f4 f5⟩
 self:=fun _ _ _ _ _ st h => wpAny_pyIter_listiter st h
theorem turn_tuple {P : Program} {w : World} {K : PySem.W.Frag} {tg : Expr} (a it : Addr) : Turn P w K tg (Itt K a) [it] it (fun i h => h.IsTupleIter it a i) where
 mem:=by simp
 obj:=fun i h st b hb => by
  have e : b = it:=by simpa using hb
  subst e
  obtain ⟨o,e,c,d⟩:=st
  exact ⟨o,e,fun v z => by rw [d] at z;cases z⟩
 keep:=fun i h h' st k => st.at fun o e => k it (by simp) o e
 item:=by
  intro X hP hw hK hc i pins s σ H E I hf st hg
  subst hP hw hK
  obtain ⟨xs,x,hq,hx⟩:=hg
  obtain ⟨its,rv,p,hz⟩:=I.tuple hq
  obtain ⟨u,hu,ru⟩:=rv.get hx
  obtain ⟨f0,f1,f2,f3,f4,f5⟩:=hf it (by simp)
  refine wpAny_pyNext_tuple_item st (show s.heap.IsTuple a its.toArray from p) (x:=u) (by simpa using hu) fun h' st' sb => ?_
  have I1 : Inv X pins σ H { s with heap:=h' }:=I.turned (t':=s.toks) (fun b o hb e => (sb.2 b hb).trans e) f0 f1 f3 f4 f5
  obtain ⟨o,e,c,d⟩:=id st'
  exact ⟨u,rfl,go_of (s:={ s with heap:=h' }) e c d (by decide) ⟨x,H,I1,ru,⟨rfl,fun ys hy => by rw [I.tuple_inj hy hq];exact hx⟩,st',fun b hb => (hf b hb).1⟩⟩
 done:=by
  intro X hP hw hK hc i pins s σ H E I hf st hg
  subst hP hw hK
  obtain ⟨xs,hq,hx⟩:=hg
  obtain ⟨its,rv,p,hz⟩:=I.tuple hq
  obtain ⟨f0,f1,f2,f3,f4,f5⟩:=hf it (by simp)
  have hl:=rv.length
  exact wpAny_pyNext_tuple_end (I.ok.hd hc) st (show s.heap.IsTuple a its.toArray from p) (by simp;omega) fun h' eb => ⟨rfl,I.turned (t':=s.toks) (fun b o hb e => eb b o hb e) f0 f1 f3 f4 f5⟩
 self:=fun _ _ _ _ _ st h => wpAny_pyIter_tupleiter st h
theorem turn_range {P : Program} {w : World} {K : PySem.W.Frag} {tg : Expr} (it : Addr) (lo : Int) (n : Nat) : Turn P w K tg (Itr lo n) [it] it (fun i h => IsRangeIter h it (lo + (i : Nat) * 1) ((n : Int) - (i : Nat)) 1) where
 mem:=by simp
 obj:=fun i h st b hb => by
  have e : b = it:=by simpa using hb
  subst e
  exact ⟨_,st,fun v z => by
   have z' : Data.fields _ = Data.cell v:=z
   cases z'⟩
 keep:=fun i h h' st k => k it (by simp) _ st
 item:=by
  intro X hP hw hK hc i pins s σ H E I hf st hg
  subst hP hw hK
  obtain ⟨f0,f1,f2,f3,f4,f5⟩:=hf it (by simp)
  have W:=Walks.range (prog:=X.prog) (w:=X.w) (I.ok.hd hc) it lo 1 n
  refine W.item i s _ _ hg st fun v h' tk hv st' kk => ?_
  obtain ⟨t,rfl⟩:=hv
  have I1 : Inv X pins σ H { s with heap:=h',toks:=tk }:=I.turned (fun b o hb e => kk b o (by simpa using hb) e) f0 f1 f3 f4 f5
  refine ⟨_, rfl, go_of (s:={ s with heap:=h', toks:=tk }) (n:="range_iterator") st' rfl rfl (by decide) ⟨.int (lo + i), H, I1, ⟨t, ?_⟩, ⟨rfl, rfl⟩, st', fun b hb => (hf b hb).1⟩⟩
  rw [Int.mul_one]
 done:=by
  intro X hP hw hK hc i pins s σ H E I hf st hg
  subst hP hw hK
  obtain ⟨f0,f1,f2,f3,f4,f5⟩:=hf it (by simp)
  exact wpAny_pyNext_range_end (I.ok.hd hc) st (by have : n≤i:=hg;omega) fun h' eb => ⟨rfl,I.turned (t':=s.toks) (fun b o hb e => eb b o hb e) f0 f1 f3 f4 f5⟩
 self:=fun _ _ _ _ _ st h => wpAny_pyIter_rangeiter st h
end L2
namespace L2
open PySem PySem.Spec PyProof.Rows
section
variable {X : Cx} {tg : Expr}
noncomputable def iList (K : PySem.W.Frag) (tl : TE) : TI:=fun σ H R => tl σ H fun x H1 => ∃ a,x = .ref a∧(∃ xs,SqL K H1 a xs)∧R (Itl K a) H1
noncomputable def iTup (K : PySem.W.Frag) (tl : TE) : TI:=fun σ H R => tl σ H fun x H1 => ∃ a,x = .ref a∧(∃ xs,SqT K H1 a xs)∧R (Itt K a) H1
theorem pi_list {l : Expr} {tl : TE} (hl : PE X l tl) : PI X tg l (iList X.K tl):=by
 intro pins s σ H R I h
 refine thn (hl pins s σ H _ I h) fun v s1 ⟨x,H1,I1,r1,q1⟩ => ?_
 obtain ⟨a,e,⟨xs,hq⟩,q⟩:=q1
 subst e
 cases r1
 obtain ⟨its,rv,p,hz⟩:=I1.list hq
 refine wpAny_pyIter_list p.isList ?_
 refine ⟨s1.heap.objs.size,[s1.heap.objs.size],_,_,H1,rfl,I1.kept (t':=s1.toks) fun b o e => Heap.get?_push_of_some _ e,turn_list a _,⟨_,Heap.get?_push_size _ rfl,rfl,rfl⟩,fun b hb => ?_,q⟩
 have e : b = s1.heap.objs.size:=by simpa using hb
 subst e
 exact I1.fpOk (Nat.le_refl _) (I1.hok.fresh (Nat.le_refl _))
theorem pi_tup {l : Expr} {tl : TE} (hl : PE X l tl) : PI X tg l (iTup X.K tl):=by
 intro pins s σ H R I h
 refine thn (hl pins s σ H _ I h) fun v s1 ⟨x,H1,I1,r1,q1⟩ => ?_
 obtain ⟨a,e,⟨xs,hq⟩,q⟩:=q1
 subst e
 cases r1
 obtain ⟨its,rv,p,hz⟩:=I1.tuple hq
 refine wpAny_pyIter_tuple (show s1.heap.IsTuple a its.toArray from p) ?_
 refine ⟨s1.heap.objs.size,[s1.heap.objs.size],_,_,H1,rfl,I1.kept (t':=s1.toks) fun b o e => Heap.get?_push_of_some _ e,turn_tuple a _,⟨_,Heap.get?_push_size _ rfl,rfl,rfl⟩,fun b hb => ?_,q⟩
 have e : b = s1.heap.objs.size:=by simpa using hb
 subst e
 exact I1.fpOk (Nat.le_refl _) (I1.hok.fresh (Nat.le_refl _))
theorem range_it {pins : List (Addr × Obj)} {σ : St} {H : Hp} {s : Shared} {R : It→Hp→Prop} {E : Value→Shared→Prop} {lo hi : Int} {t u v : Tok} {tk : Nat} (I : Inv X pins σ H s) (h1 : -(2 ^ 62)≤lo) (h2 : lo < 2 ^ 62) (h3 : -(2 ^ 62)≤hi) (h4 : hi < 2 ^ 62)
  (q : R (Itr lo (hi - lo).toNat) H) : wpAny (model X.prog X.w) X.A (pyIter (.ref s.heap.objs.size)) (PIE X pins σ tg R) E { s with heap:=s.heap.push { cls:=.type "range", data:=.fields #[.int lo t, .int hi u, .int 1 v] }, toks:=tk }:=by
 refine wpAny_pyIter_range (IsRange.new ..) (small_one h1 h2 h3 h4) ?_
 have I1 : Inv X pins σ H { s with heap:=s.heap.push { cls:=.type "range", data:=.fields #[.int lo t, .int hi u, .int 1 v] }, toks:=tk }:=I.kept fun b o e => Heap.get?_push_of_some _ e
 refine ⟨(s.heap.push { cls:=.type "range", data:=.fields #[.int lo t, .int hi u, .int 1 v] }).objs.size, [(s.heap.push { cls:=.type "range", data:=.fields #[.int lo t, .int hi u, .int 1 v] }).objs.size], _, _, H, rfl,
  I1.kept (t':=tk) fun b o e => Heap.get?_push_of_some _ e,turn_range _ lo (hi - lo).toNat,?_,fun b hb => ?_,q⟩
 ·have e1 : lo + ((0 : Nat) : Int) * 1 = lo:=by simp
  have e2 : (((hi - lo).toNat : Nat) : Int) - ((0 : Nat) : Int) = Builtin.Range.rangeSize lo hi 1:=by rw [rangeSize_one];split <;> omega
  show IsRangeIter _ _ (lo + ((0 : Nat) : Int) * 1) ((((hi - lo).toNat : Nat) : Int) - ((0 : Nat) : Int)) 1
  rw [e1,e2]
  exact Heap.get?_push_size _ rfl
 ·have e : b = (s.heap.push { cls:=.type "range", data:=.fields #[.int lo t, .int hi u, .int 1 v] }).objs.size:=by simpa using hb
  subst e
  exact I1.fpOk (Nat.le_refl _) (I1.hok.fresh (Nat.le_refl _))
noncomputable def iRng1 (ta : TA) : TI:=fun σ H R => ta σ H fun vs H1 => ∃ j : Int,vs = [.int j]∧-(2 ^ 62)≤j∧j < 2 ^ 62∧R (Itr 0 j.toNat) H1
noncomputable def iRng2 (ta : TA) : TI:=fun σ H R => ta σ H fun vs H1 => ∃ i j : Int,vs = [.int i,.int j]∧(-(2 ^ 62)≤i∧i < 2 ^ 62∧-(2 ^ 62)≤j∧j < 2 ^ 62)∧R (Itr i (j - i).toNat) H1
theorem pi_range1 {a : Expr} {ta : TA} {p pos : Pos} (hg : Gl X "range") (hm : X.mg "range" = none) (ha : PA X [a] ta) (hs : starEach [a] X.env = [(false, eval a X.env)]:=by rfl) : PI X tg (.Call (.Name "range" p) [a] [] pos) (iRng1 ta):=by
 intro pins s σ H R I h
 refine Call_ (ld_blt I hg hm boot_range (PyProof.Rows.callWith_type1 (thn (ha pos pins s σ H _ I h) fun us s1 ⟨vs,H1,I1,r1,q1⟩ => ?_) hs rfl))
 obtain ⟨j,e,q1,q2,q⟩:=q1
 subst e
 cases r1 with
 | cons r rr =>
  cases rr
  obtain ⟨t,rfl⟩:=r
  exact call_range_1 (range_it I1 (by omega) (by omega) q1 q2 (by simpa using q))
theorem pi_range2 {a b : Expr} {ta : TA} {p pos : Pos} (hg : Gl X "range") (hm : X.mg "range" = none) (ha : PA X [a, b] ta) (hs : starEach [a, b] X.env = [(false, eval a X.env), (false, eval b X.env)]:=by rfl) (hs2 : starEach [b] X.env = [(false, eval b X.env)]:=by rfl) :
  PI X tg (.Call (.Name "range" p) [a, b] [] pos) (iRng2 ta):=by
 intro pins s σ H R I h
 refine Call_ (ld_blt I hg hm boot_range (PyProof.Rows.callWith_type1 (thn (ha pos pins s σ H _ I h) fun us s1 ⟨vs,H1,I1,r1,q1⟩ => ?_) (by rw [hs,hs2]) (by rw [hs2];rfl)))
 obtain ⟨i,j,e,⟨q1,q2,q3,q4⟩,q⟩:=q1
 subst e
 cases r1 with
 | cons r rr =>
  cases rr with
  | cons r' rr =>
   cases rr
   obtain ⟨t,rfl⟩:=r
   obtain ⟨t',rfl⟩:=r'
   exact call_range_2 (range_it I1 q1 q2 q3 q4 q)
noncomputable def tFor (wi : TI) (g : TG) (tb : TS) : TS:=fun D σ H => wi σ H fun J H1 => ∃ W : Nat→Nat→St→Hp→Prop,(∃ m,W 0 m σ H1)∧∀ i m σ H,W i m σ H →
 (J.stop i H∧D.nx σ H)∨(J.go i H∧∃ N : St→Hp→Prop,(∀ σ' H',N σ' H'→∃ m',m' < m∧W (i + 1) m' σ' H')∧∀ x H',J.yld i H x H'→g x σ H' fun σ2 H2 => tb { D with nx:=N,ct:=N,bk:=D.nx } σ2 H2)
noncomputable def pinsAt (fp : List Addr) (h : Heap) : List (Addr × Obj):=fp.filterMap fun b => (h.get? b).map fun o => (b,o)
theorem mem_pinsAt {fp : List Addr} {h : Heap} {b : Addr} {o : Obj} (hb : b∈fp) (e : h.get? b = some o) : (b,o)∈pinsAt fp h:=List.mem_filterMap.mpr ⟨b,hb,by rw [e];rfl⟩
theorem of_pinsAt {fp : List Addr} {h : Heap} {p : Addr × Obj} (hp : p∈pinsAt fp h) : p.1∈fp∧h.get? p.1 = some p.2:=by
 obtain ⟨b,hb,e⟩:=List.mem_filterMap.mp hp
 cases q : h.get? b with
 | none => rw [q] at e;cases e
 | some o =>
  rw [q] at e
  have e' : (b,o) = p:=Option.some.inj e
  subst e'
  exact ⟨hb,q⟩
theorem Inv.pinned {pins : List (Addr × Obj)} {σ : St} {H : Hp} {s : Shared} {fp : List Addr} (I : Inv X pins σ H s) (hf : ∀ b∈fp,FpOk X pins H b) (ho : ∀ b∈fp,∃ o,s.heap.get? b = some o∧∀ v,o.data≠.cell v) : Inv X (pins++pinsAt fp s.heap) σ H s :=
 I.pins_of fun p hp => (List.mem_append.mp hp).elim (fun z => I.pin p (List.mem_append_right _ z)) fun z => by
  obtain ⟨hb,e⟩:=of_pinsAt z
  obtain ⟨f0,f1,f2,_⟩:=hf p.1 hb
  obtain ⟨o,e',d⟩:=ho p.1 hb
  rw [e] at e';cases e'
  exact ⟨e,f0,f1,f2,d⟩
theorem Inv.unpinned {pins pl : List (Addr × Obj)} {σ : St} {H : Hp} {s : Shared} (I : Inv X (pins++pl) σ H s) : Inv X pins σ H s:=I.pins_of fun p hp => I.pin p (List.mem_append_right _ (List.mem_append_left _ hp))
theorem ps_for {iter : Expr} {body : List Stmt} {wi : TI} {g : TG} {tb : TS} {pos : Pos} (hp : PassesOwn (model X.prog X.w) X.A X.env X.xe) (hc : X.calm = true) (hi : PI X tg iter wi) (hg : PG X tg g) (hb : PSs X body tb)
  (hs : ∀ x,foldedSetIterable iter X.env x = pure x:=by intro _;rfl) : PS X (.For tg iter body [] pos) (tFor wi g tb):=by
 intro pins s σ H D I h
 refine wpAny_For (thn (hi pins s σ H _ I h) fun v s1 h1 => thn h1 fun itv s2 h2 => ?_) hs
 obtain ⟨it,fp,tn,J,H2,e,I2,T,st2,f2,W,⟨m0,w0⟩,turn⟩:=h2
 subst e
 have stat : ∀ {H' : Hp},(∀ b∈fp,H' b = none)→∀ b∈fp,FpOk X pins H' b:=fun hn b hb => ⟨hn b hb,(f2 b hb).2⟩
 refine codeAny_forLoop_any (fun n s' => ∃ i σ' H',Inv X pins σ' H' s'∧tn i s'.heap∧(∀ b∈fp,H' b = none)∧W i n σ' H') ?_ m0 ⟨0,σ,H2,I2,st2,fun b hb => (f2 b hb).1,w0⟩
 rintro n s3 ⟨i,σ3,H3,I3,st3,fr3,w3⟩
 rcases turn i n σ3 H3 w3 with ⟨stop,qn⟩ | ⟨go,N,hN,step⟩
 ·refine wpAny_passesOwn hp (thn (T.done X rfl rfl rfl hc i pins s3 σ3 H3 X.xe I3 (stat fr3) st3 stop) fun r s4 ⟨hr,I4⟩ => ?_)
  subst hr
  exact wpAny_execs_nil ⟨σ3,H3,I4,qn⟩
 ·refine wpAny_passesOwn hp (thn (T.item X rfl rfl rfl hc i pins s3 σ3 H3 X.xe I3 (stat fr3) st3 go) fun r s4 ⟨u,hr,h4⟩ => ?_)
  subst hr
  refine wpAny_passesOwn hp (thn h4 fun _ s5 ⟨x,H5,I5,r5,y5,st5,fr5⟩ => ?_)
  have I5':=I5.pinned (stat fr5) (T.obj _ _ st5)
  refine wpAny_passesOwn hp (thn (hg _ s5 σ3 H5 x u _ I5' r5 (step x H5 y5)) fun _ s6 ⟨σ6,H6,I6,q6⟩ => ?_)
  refine wpAny_passesOwn hp (thn (hb _ s6 σ6 H6 _ I6 q6) fun f s7 q7 => ?_)
  have again : ∀ {σ7 : St} {H7 : Hp},Inv X (pins++pinsAt fp s5.heap) σ7 H7 s7→N σ7 H7→∃ m,m < n∧∃ i σ' H',Inv X pins σ' H' s7∧tn i s7.heap∧(∀ b∈fp,H' b = none)∧W i m σ' H':=fun {σ7 H7} I7 n7 => by
   obtain ⟨m',hm,w7⟩:=hN σ7 H7 n7
   refine ⟨m',hm,i + 1,σ7,H7,I7.unpinned,T.keep _ _ _ st5 fun b hb o e => (I7.pin (b,o) (List.mem_append_right _ (List.mem_append_right _ (mem_pinsAt hb e)))).1,fun b hb => ?_,w7⟩
   obtain ⟨o,e,d⟩:=T.obj _ _ st5 b hb
   exact (I7.pin (b,o) (List.mem_append_right _ (List.mem_append_right _ (mem_pinsAt hb e)))).2.1
  cases f with
  | next => obtain ⟨σ7,H7,I7,n7⟩:=q7;exact again I7 n7
  | cont => obtain ⟨σ7,H7,I7,n7⟩:=q7;exact again I7 n7
  | brk => obtain ⟨σ7,H7,I7,q7⟩:=q7;exact ⟨σ7,H7,I7.unpinned,q7⟩
  | ret v => obtain ⟨x7,σ7,H7,I7,r7,q7⟩:=q7;exact ⟨x7,σ7,H7,I7.unpinned,r7,q7⟩
end
end L2
namespace L2
open PySem PySem.Spec PyProof.Rows
noncomputable abbrev R2:=V→V→Hp→VK→Prop
noncomputable def OpR (X : Cx) (f : Value→Value→Sem Value) (r : R2) : Prop :=
 ∀ (pins : List (Addr × Obj)) (s : Shared) (σ : St) (H : Hp) (x y : V) (v u : Value) (Q : VK),Inv X pins σ H s→RelV x v→RelV y u→r x y H Q →
  wpAny (model X.prog X.w) X.A (f v u) (EP X pins σ Q) X.xe s
noncomputable def CallR (X : Cx) (f : Value) (r : List V→Hp→VK→Prop) : Prop :=
 ∀ (pins : List (Addr × Obj)) (s : Shared) (σ : St) (H : Hp) (xs : List V) (us : List Value) (Q : VK),Inv X pins σ H s→Vals xs us→r xs H Q →
  wpAny (model X.prog X.w) X.A (call f us) (EP X pins σ Q) X.xe s
noncomputable def tOp (r : R2) (ta tb : TE) : TE:=fun σ H Q => ta σ H fun x H1 => tb σ H1 fun y H2 => r x y H2 Q
noncomputable def rI (C : Int→Int→Prop) (g : Int→Int→V) : R2:=fun x y H Q => ∃ i j,x = .int i∧y = .int j∧C i j∧Q (g i j) H
noncomputable def rI0 (g : Int→Int→V) : R2:=fun x y H Q => ∃ i j,x = .int i∧y = .int j∧Q (g i j) H
section
variable {X : Cx} {a b c : Expr} {ta tb tc : TE} {pos : Pos}
theorem binT (ha : PE X a ta) (hb : PE X b tb) {pins : List (Addr × Obj)} {s : Shared} {σ : St} {H : Hp} {R : V→V→Hp→Prop} (I : Inv X pins σ H s)
  (h : ta σ H fun x H1 => tb σ H1 fun y H2 => R x y H2) {Q : Value→Shared→Prop} {f : Value→Value→Sem Value}
  (hf : ∀ v u s2 x y H2,Inv X pins σ H2 s2→RelV x v→RelV y u→R x y H2→wpAny (model X.prog X.w) X.A (f v u) Q X.xe s2) :
  wpAny (model X.prog X.w) X.A (eval a X.env) (fun v s₁ => wpAny (model X.prog X.w) X.A (eval b X.env) (fun u s₂ => wpAny (model X.prog X.w) X.A (f v u) Q X.xe s₂) X.xe s₁) X.xe s:=by
 refine thn (ha pins s σ H _ I h) fun v s1 ⟨x,H1,I1,r1,q1⟩ => ?_
 refine thn (hb pins s1 σ H1 _ I1 q1) fun u s2 ⟨y,H2,I2,r2,q2⟩ => ?_
 exact hf v u s2 x y H2 I2 r1 r2 q2
theorem pe_op {op : Operator} {r : R2} (ho : OpR X (binaryOp op) r) (ha : PE X a ta) (hb : PE X b tb) : PE X (.BinOp a op b pos) (tOp r ta tb):=by
 intro pins s σ H Q I h
 exact wpAny_BinOp (binT ha hb I h fun v u s2 x y H2 I2 rx ry q => ho pins s2 σ H2 x y v u Q I2 rx ry q)
theorem opI {f : Value→Value→Sem Value} {C : Int→Int→Prop} {g : Int→Int→Int}
  (rule : ∀ (i j : Int) (t u : Tok) (s : Shared) (Q : Value→Shared→Prop) (E : Value→Shared→Prop),C i j→Q (.int (g i j) s.toks) { s with toks:=s.toks + 1 }→wpAny (model X.prog X.w) X.A (f (.int i t) (.int j u)) Q E s) :
  OpR X f (rI C fun i j => .int (g i j)):=by
 intro pins s σ H x y v u Q I rx ry h
 obtain ⟨i,j,rfl,rfl,hc,q⟩:=h
 obtain ⟨t,rfl⟩:=rx
 obtain ⟨t',rfl⟩:=ry
 exact rule i j t t' s _ _ hc ⟨.int (g i j),H,I.tok _,⟨_,rfl⟩,q⟩
theorem opI0 {f : Value→Value→Sem Value} {g : Int→Int→Int}
  (rule : ∀ (i j : Int) (t u : Tok) (s : Shared) (Q : Value→Shared→Prop) (E : Value→Shared→Prop),Q (.int (g i j) s.toks) { s with toks:=s.toks + 1 }→wpAny (model X.prog X.w) X.A (f (.int i t) (.int j u)) Q E s) :
  OpR X f (rI0 fun i j => .int (g i j)):=by
 intro pins s σ H x y v u Q I rx ry h
 obtain ⟨i,j,rfl,rfl,q⟩:=h
 obtain ⟨t,rfl⟩:=rx
 obtain ⟨t',rfl⟩:=ry
 exact rule i j t t' s _ _ ⟨.int (g i j),H,I.tok _,⟨_,rfl⟩,q⟩
theorem opB0 {f : Value→Value→Sem Value} {g : Int→Int→Bool}
  (rule : ∀ (i j : Int) (t u : Tok) (s : Shared) (Q : Value→Shared→Prop) (E : Value→Shared→Prop),Q (.bool (g i j)) s→wpAny (model X.prog X.w) X.A (f (.int i t) (.int j u)) Q E s) :
  OpR X f (rI0 fun i j => .bl (g i j)):=by
 intro pins s σ H x y v u Q I rx ry h
 obtain ⟨i,j,rfl,rfl,q⟩:=h
 obtain ⟨t,rfl⟩:=rx
 obtain ⟨t',rfl⟩:=ry
 exact rule i j t t' s _ _ ⟨.bl (g i j),H,I,rfl,q⟩
noncomputable def CDiv (i j : Int) : Prop:=0 < j∧j < 1073741824
noncomputable def CMul (i j : Int) : Prop:=(-(2 ^ 64) < i∧i < 2 ^ 64)∨(-(2 ^ 64) < j∧j < 2 ^ 64)
theorem CMul.ok {i j : Int} (h : CMul i j) : IntMulOk i j:=by
 rcases h with ⟨h1,h2⟩ | ⟨h1,h2⟩
 ·exact .of_left (intBits_le_64 h1 h2)
 ·exact .of_right (intBits_le_64 h1 h2)
theorem op_add : OpR X (binaryOp .Add) (rI0 fun i j => .int (i + j)):=opI0 fun _ _ _ _ _ _ _ q => add_int q
theorem op_sub : OpR X (binaryOp .Sub) (rI0 fun i j => .int (i - j)):=opI0 fun _ _ _ _ _ _ _ q => sub_int q
theorem op_mul : OpR X (binaryOp .Mult) (rI CMul fun i j => .int (i * j)):=opI fun _ _ _ _ _ _ _ hc q => mul_int q hc.ok
theorem op_fdiv : OpR X (binaryOp .FloorDiv) (rI CDiv fun i j => .int (i / j)):=opI fun i j _ _ _ _ _ hc q => by
 have h1 : (0 : Int) < j:=hc.1
 have h2 : j < 1073741824:=hc.2
 exact floordiv_int (by omega) (by rw [Int.fdiv_eq_ediv_of_nonneg i (by omega)];exact q) (.inl (PyProof.noPylong_small (by omega)))
theorem op_mod : OpR X (binaryOp .Mod) (rI (fun _ j => 0 < j) fun i j => .int (i % j)):=opI fun i j _ _ _ _ _ hc q => by
 have h1 : (0 : Int) < j:=hc
 exact mod_int' (by omega) (by rw [Int.fmod_eq_emod_of_nonneg i (by omega)];exact q)
end
section
variable {X : Cx} {a b c : Expr} {ta tb tc : TE} {pos : Pos}
theorem fin_bl {pins : List (Addr × Obj)} {σ : St} {H : Hp} {s : Shared} {Q : VK} {k k' : Bool} (I : Inv X pins σ H s) (q : Q (.bl k) H) (e : k = k') : EP X pins σ Q (.bool k') s:=by
 subst e
 exact ⟨.bl k,H,I,rfl,q⟩
theorem op_lt : OpR X (compareOp .Lt) (rI0 fun i j => .bl (decide (i < j))):=opB0 fun _ _ _ _ _ _ _ q => lt_int q
theorem op_le : OpR X (compareOp .LtE) (rI0 fun i j => .bl (decide (i≤j))):=opB0 fun _ _ _ _ _ _ _ q => le_int q
theorem op_gt : OpR X (compareOp .Gt) (rI0 fun i j => .bl (decide (j < i))):=opB0 fun _ _ _ _ _ _ _ q => gt_int q
theorem op_ge : OpR X (compareOp .GtE) (rI0 fun i j => .bl (decide (j≤i))):=opB0 fun _ _ _ _ _ _ _ q => ge_int q
theorem op_in_str : OpR X (compareOp .In) (fun x y H Q => ∃ i j,x = .str i∧y = .str j∧Q (.bl (!(Builtin.Str.occurrences j i 0 j.length 1).isEmpty)) H):=by
 intro pins s σ H x y v u Q I rx ry h
 obtain ⟨i,j,rfl,rfl,q⟩:=h
 obtain ⟨t,rfl⟩:=rx
 obtain ⟨t',rfl⟩:=ry
 exact in_str (fin_bl I q rfl)
theorem op_notin_str : OpR X (compareOp .NotIn) (fun x y H Q => ∃ i j,x = .str i∧y = .str j∧Q (.bl (!(!(Builtin.Str.occurrences j i 0 j.length 1).isEmpty))) H):=by
 intro pins s σ H x y v u Q I rx ry h
 obtain ⟨i,j,rfl,rfl,q⟩:=h
 obtain ⟨t,rfl⟩:=rx
 obtain ⟨t',rfl⟩:=ry
 exact notIn_str (fin_bl I q rfl)
theorem OpR.or {f : Value→Value→Sem Value} {r r' : R2} (h : OpR X f r) (h' : OpR X f r') : OpR X f (fun x y H Q => r x y H Q∨r' x y H Q):=by
 intro pins s σ H x y v u Q I rx ry q
 rcases q with q | q
 ·exact h pins s σ H x y v u Q I rx ry q
 ·exact h' pins s σ H x y v u Q I rx ry q
theorem pe_cmpR {op : CmpOp} {r : R2} (ho : OpR X (compareOp op) r) (ha : PE X a ta) (hb : PE X b tb) (hm : behindInMarks op b = false) : PE X (.Compare a [op] [b] pos) (tOp r ta tb):=by
 intro pins s σ H Q I h
 exact wpAny_Compare1 (binT ha hb I h fun v u s2 x y H2 I2 rx ry q => ho pins s2 σ H2 x y v u Q I2 rx ry q) hm
noncomputable def tTest (t : TE) : TT:=fun σ H Q => t σ H fun x H' => ∃ k,x = .bl k∧Q k H'
theorem pt_cmpR {op : CmpOp} {r : R2} (ho : OpR X (compareOp op) r) (ha : PE X a ta) (hb : PE X b tb) (hm : behindInMarks op b = false) : PT X (.Compare a [op] [b] pos) (tTest (tOp r ta tb)):=by
 intro pins s σ H Q I h
 refine wpAny_isTrue_Compare1 (thn (ha pins s σ H _ I h) fun v s1 ⟨x,H1,I1,r1,q1⟩ => thn (hb pins s1 σ H1 _ I1 q1) fun u s2 ⟨y,H2,I2,r2,q2⟩ =>
  thn (ho pins s2 σ H2 x y v u _ I2 r1 r2 q2) fun c s3 ⟨z,H3,I3,r3,k,e,q3⟩ => ?_) hm
 subst e
 cases r3
 exact wpAny_truthy_bool ⟨H3,I3,q3⟩
noncomputable def tChain (r r' : R2) (ta tb tc : TE) : TE:=fun σ H Q => ta σ H fun x H1 => tb σ H1 fun y H2 => r x y H2 fun z H3 => ∃ k,z = .bl k ∧
 (if k = true then tc σ H3 fun w' H4 => r' y w' H4 Q else Q (.bl false) H3)
theorem pe_chain {op op' : CmpOp} {r r' : R2} (ho : OpR X (compareOp op) r) (ho' : OpR X (compareOp op') r') (ha : PE X a ta) (hb : PE X b tb) (hc : PE X c tc)
  (hm : lastMarks [op,op'] [b,c] = false:=by with_unfolding_all rfl) : PE X (.Compare a [op,op'] [b,c] pos) (tChain r r' ta tb tc):=by
 intro pins s σ H Q I h
 refine Compare_chain (thn (ha pins s σ H _ I h) fun v s1 ⟨x,H1,I1,r1,q1⟩ => chain_link (thn (hb pins s1 σ H1 _ I1 q1) fun u s2 ⟨y,H2,I2,r2,q2⟩ =>
  thn (ho pins s2 σ H2 x y v u _ I2 r1 r2 q2) fun d s3 ⟨z,H3,I3,r3,k,e,q3⟩ => ?_)) hm
 subst e
 cases r3
 refine wpAny_truthy_bool ?_
 cases k with
 | false => exact ite_ff ⟨.bl false,H3,I3,rfl,q3⟩
 | true => exact ite_tt (chain_last (thn (hc pins s3 σ H3 _ I3 q3) fun w' s4 ⟨z',H4,I4,r4,q4⟩ => ho' pins s4 σ H4 y z' u w' Q I4 r2 r4 q4))
theorem pt_chain {op op' : CmpOp} {r r' : R2} (ho : OpR X (compareOp op) r) (ho' : OpR X (compareOp op') r') (ha : PE X a ta) (hb : PE X b tb) (hc : PE X c tc)
  (hm : lastMarks [op,op'] [b,c] = false:=by with_unfolding_all rfl) : PT X (.Compare a [op,op'] [b,c] pos) (tTest (tChain r r' ta tb tc)):=by
 intro pins s σ H Q I h
 refine isTrue_chain (thn (ha pins s σ H _ I h) fun v s1 ⟨x,H1,I1,r1,q1⟩ => test_link (thn (hb pins s1 σ H1 _ I1 q1) fun u s2 ⟨y,H2,I2,r2,q2⟩ =>
  thn (ho pins s2 σ H2 x y v u _ I2 r1 r2 q2) fun d s3 ⟨z,H3,I3,r3,k,e,q3⟩ => ?_)) hm
 subst e
 cases r3
 refine wpAny_truthy_bool ?_
 cases k with
 | false =>
  obtain ⟨k',e',q'⟩:=q3
  cases e'
  exact ite_ff ⟨H3,I3,q'⟩
 | true =>
  refine ite_tt (test_last (thn (hc pins s3 σ H3 _ I3 q3) fun w' s4 ⟨z',H4,I4,r4,q4⟩ => thn (ho' pins s4 σ H4 y z' u w' _ I4 r2 r4 q4) fun d' s5 ⟨z2,H5,I5,r5,k2,e2,q5⟩ => ?_))
  subst e2
  cases r5
  exact wpAny_truthy_bool ⟨H5,I5,q5⟩
theorem line63 : (sizeLine : Nat) < 2 ^ 63:=by rw [sizeLine_eq];decide
theorem op_add_str : OpR X (binaryOp .Add) (fun x y H Q => ∃ i j,x = .str i∧y = .str j∧i.length + j.length≤sizeLine∧Q (.str (i++j)) H):=by
 intro pins s σ H x y v u Q I rx ry h
 obtain ⟨i,j,rfl,rfl,hz,q⟩:=h
 obtain ⟨t,rfl⟩:=rx
 obtain ⟨t',rfl⟩:=ry
 exact add_str (fun t' tk => ⟨.str (i++j),H,I.tok _,⟨_,rfl⟩,q⟩) hz
theorem vals1 {x : V} {us : List Value} (r : Vals [x] us) : ∃ u,us = [u]∧RelV x u:=by
 cases r with
 | cons r1 r2 => cases r2;exact ⟨_,rfl,r1⟩
theorem vals2 {x y : V} {us : List Value} (r : Vals [x,y] us) : ∃ u w',us = [u,w']∧RelV x u∧RelV y w':=by
 cases r with
 | cons r1 r2 =>
  cases r2 with
  | cons r3 r4 => cases r4;exact ⟨_,_,rfl,r1,r3⟩
theorem call_min2 (hc : X.calm = true) : CallR X (.builtin "min") (fun xs H Q => ∃ i j, xs = [.int i, .int j] ∧ Q (.int (if j < i then j else i)) H):=by
 intro pins s σ H xs us Q I r h
 obtain ⟨i,j,rfl,q⟩:=h
 obtain ⟨u,w',rfl,⟨t,rfl⟩,⟨t',rfl⟩⟩:=vals2 r
 refine min_two_ints (I.ok.hd hc) fun h' tk k => ⟨_,H,I.kept k,?_,q⟩
 by_cases hj : j < i
 ·rw [if_pos hj,if_pos hj];exact ⟨_,rfl⟩
 ·rw [if_neg hj,if_neg hj];exact ⟨_,rfl⟩
end
end L2
namespace L2
open PySem PySem.Spec PyProof.Rows
structure ObjM (h : Heap) (x dx C : Addr) (mA : Str→Option Value) : Prop where
 obj : h.get? x = some (PySem.W.instObj C dx)
 ns : h.Ns1 dx mA
 ne : dx≠x
theorem lookIn_ns {h : Heap} {dx : Addr} {mA : Str→Option Value} (n : h.Ns1 dx mA) : ∃ od,h.get? dx = some od∧∀ name,PySem.W.lookIn name od = some (mA name):=by
 obtain ⟨o,es,ep,ho,hd,hk,_,hm⟩:=n
 refine ⟨o,ho,fun name => ?_⟩
 have e:=hm name
 unfold nsFind findBy at e
 rw [← Array.find?_toList] at e
 unfold PySem.W.lookIn
 rw [hd]
 dsimp only
 split
 ·rename_i y q
  rw [q] at e
  exact congrArg some e
 ·rename_i q
  rw [q] at e
  have a : es.toList.any (·.refKey) = false:=by
   rw [List.any_eq_false]
   intro y hy
   obtain ⟨z,t,hkey⟩:=hk y (Array.mem_toList_iff.mp hy)
   simp [DictEntry.refKey,hkey]
  have a' : ¬ es.toList.any (·.refKey) = true:=by rw [a];exact Bool.false_ne_true
  rw [if_neg a']
  exact congrArg some e
theorem ObjM.look {h : Heap} {x dx C : Addr} {mA : Str→Option Value} (I : ObjM h x dx C mA) : ∃ od,PySem.W.InstAt h x (PySem.W.instObj C dx) C (some od)∧∀ name,PySem.W.lookIn name od = some (mA name) :=
 let ⟨od,ho,hl⟩:=lookIn_ns I.ns
 ⟨od,⟨I.obj,rfl,rfl,ho⟩,hl⟩
section
variable {prog : Program} {w : World} {A : Around} {E : Value→Shared→Prop} {s : Shared} {K : PySem.W.Frag} {x dx C f : Addr} {mA : Str→Option Value} {name : Str} {v : Value}
end
section
variable {P : Program} {w : World} {H H' : Hp} {h h' : Heap} {a C dx : Addr} {fs fs' : List (Str × V)}
theorem ins_get (hok : HOk P w H h) (e : H a = some (.ins C dx fs)) : ∃ mA,ObjM h a dx C mA∧(∀ f,RelO (fs.lookup f) (mA f))∧PySem.Within mA (fs.map (·.1))∧fs.length≤1000∧H dx = some (.own a):=by
 obtain ⟨d,z,ne,ob,mA,n,r,q⟩:=(show ObjOk P w H h a (.ins C dx fs) from hok a _ e)
 exact ⟨mA,⟨ob,n,ne⟩,r,q,z,d⟩
end
structure Cls (K : PySem.W.Frag) (C : Addr) : Prop where
 pg : PySem.W.plainGet K C Str.empty = true
 hd : PySem.W.hasDictIn K C = true
 po : PySem.W.plainOver K C = true
 sa : PySem.W.findIn K (.ref C) "__setattr__" = some (some (.builtin "object.__setattr__"))
theorem Cls.get {K : PySem.W.Frag} {C : Addr} (c : Cls K C) (f : Str) : PySem.W.plainGet K C f = true:=c.pg
section
variable {X : Cx} {pins : List (Addr × Obj)} {σ : St} {H : Hp} {s : Shared} {a C dx : Addr} {fs : List (Str × V)} {f : Str} {v : V} {A : Around} {E : Value→Shared→Prop}
end
section
variable {X : Cx} {o e value : Expr} {f : Str} {pos pos' tpos : Pos} {ta tv : TE}
end
section
variable {X : Cx} {pins : List (Addr × Obj)} {σ : St} {H : Hp} {s : Shared} {A : Around} {E : Value→Shared→Prop} {Q : Value→Shared→Prop} {c : Value} {b : Bool}
inductive TyOf (K : PySem.W.Frag) (H : Hp) : V→Value→Prop where
 | non : TyOf K H .non (.type "NoneType")
 | bl (x : Bool) : TyOf K H (.bl x) (.type "bool")
 | int (i : Int) : TyOf K H (.int i) (.type "int")
 | str (x : Str) : TyOf K H (.str x) (.type "str")
 | flt (x : UInt64) : TyOf K H (.flt x) (.type "float")
 | lst {a : Addr} {xs : List V} (e : H a = some (.lst xs)) : TyOf K H (.ref a) (.type "list")
 | frz {a : Addr} {o : Obj} {xs : List V} (e : H a = some (.frz o (.lst xs))) : TyOf K H (.ref a) (.type "list")
 | tup {a : Addr} {xs : List V} (e : H a = some (.tup xs)) : TyOf K H (.ref a) (.type "tuple")
 | dK {a : Addr} {kvs : List (Key × V)} (e : H a = some (.dK kvs)) : TyOf K H (.ref a) (.type "dict")
 | dT {a : Addr} {kvs : List (List Key × V)} (e : H a = some (.dT kvs)) : TyOf K H (.ref a) (.type "dict")
 | ins {a C dx : Addr} {fs : List (Str × V)} (e : H a = some (.ins C dx fs)) (cl : Cls K C) (ha : PySem.W.findIn K (.ref C) "__class__" = some (some (.builtin "object.__class__")))
   (hn : PySem.W.specialIn K (.builtin "object.__class__") "__get__" = some (some (.builtin "getset_descriptor.__get__"))) (htk : PySem.W.takesIn K (.builtin "object.__class__") = some true)
   (hm : PySem.W.mroIn K C (.type "object") = some true) : TyOf K H (.ref a) (.ref C)
theorem isinst_ok {x : V} {u t : Value} (I : Inv X pins σ H s) (rx : RelV x u) (ty : TyOf X.K H x t) (e : PySem.W.kitOne X.K t c = some b) (h : ∀ tk,Q (.bool b) { s with toks:=tk }) :
  wpAny (model X.prog X.w) A (call (.builtin "isinstance") [u, c]) Q E s:=by
 cases ty with
 | non => cases (show u = Value.none from rx);exact PySem.W.kia_one PySem.W.kitx_none I.kIn True.intro e (fun z => nomatch z) h
 | bl y => cases (show u = Value.bool y from rx);exact PySem.W.kia_one PySem.W.kitx_bool I.kIn True.intro e (fun z => nomatch z) h
 | int i => obtain ⟨t,q⟩:=(show ∃ t,u = Value.int i t from rx);cases q;exact PySem.W.kia_one PySem.W.kitx_int I.kIn True.intro e (fun z => nomatch z) h
 | str y => obtain ⟨t,q⟩:=(show ∃ t,u = Value.str y t from rx);cases q;exact PySem.W.kia_one PySem.W.kitx_str I.kIn True.intro e (fun z => nomatch z) h
 | flt y => obtain ⟨t,q⟩:=(show ∃ t,u = Value.float y t from rx);cases q;exact PySem.W.kia_one PySem.W.kitx_float I.kIn True.intro e (fun z => nomatch z) h
 | @lst a xs ea =>
  cases (show u = Value.ref a from rx)
  obtain ⟨_,_,n,_,h1⟩:=(show ObjOk X.prog X.w H s.heap a (.lst xs) from I.hok a _ ea)
  exact PySem.W.kia_one PySem.W.kitx_list I.kIn ⟨_,h1,rfl⟩ e (fun z => nomatch z) h
 | @frz a ob xs ea =>
  cases (show u = Value.ref a from rx)
  obtain ⟨_,_,_,n,_,h1⟩:=(show ObjOk X.prog X.w H s.heap a (.frz ob (.lst xs)) from I.hok a _ ea)
  exact PySem.W.kia_one PySem.W.kitx_list I.kIn ⟨_,h1,rfl⟩ e (fun z => nomatch z) h
 | @tup a xs ea =>
  cases (show u = Value.ref a from rx)
  obtain ⟨_,_,_,p⟩:=(show ObjOk X.prog X.w H s.heap a (.tup xs) from I.hok a _ ea)
  obtain ⟨o,h1,h2,_⟩:=p
  exact PySem.W.kia_one PySem.W.kitx_tuple I.kIn ⟨o,h1,h2⟩ e (fun z => nomatch z) h
 | @dK a kvs ea =>
  cases (show u = Value.ref a from rx)
  obtain ⟨_,_,vs,_,p⟩:=(show ObjOk X.prog X.w H s.heap a (.dK kvs) from I.hok a _ ea)
  obtain ⟨o,es,ep,h1,h2,_⟩:=p
  exact PySem.W.kia_one PySem.W.kitx_dict I.kIn ⟨o,h1,h2.1⟩ e (fun z => nomatch z) h
 | @dT a kvs ea =>
  cases (show u = Value.ref a from rx)
  obtain ⟨_,_,xs,_,o,es,ep,h1,h2,_⟩:=(show ObjOk X.prog X.w H s.heap a (.dT kvs) from I.hok a _ ea)
  exact PySem.W.kia_one PySem.W.kitx_dict I.kIn ⟨o,h1,h2.1⟩ e (fun z => nomatch z) h
 | @ins a C dx fs ea cl ha hn htk hm =>
  cases (show u = Value.ref a from rx)
  obtain ⟨mA,O,_⟩:=ins_get I.hok ea
  obtain ⟨od,J,_⟩:=O.look
  exact PySem.W.kia_one (PySem.W.kitx_own (cl.get _) cl.hd ha hn htk hm) I.kIn J e (fun z => nomatch z) h
end
end L2
namespace L2
open PySem PySem.Spec PyProof.Rows
structure Room (k : Nat) (A : Around) : Prop where
 hd : A.handled = none
 dp : A.depth + 3 * k + 5 < recursionLimit
 un : A.units + 16 * k + 200 < cLine
theorem Room.deeper {k : Nat} {A : Around} (r : Room (k + 1) A) (env : Env) : Room k (A.deeper env) :=
 ⟨r.hd,by have:=r.dp;show A.depth + 1 + 3 * k + 5 < _;omega,by have:=r.un;show A.units + 3 + 16 * k + 200 < _;omega⟩
theorem make_depth {A : Around} {C : Addr} {us : List Value} {kw : List (Str × Value)} : (A.under (.builtin "type.__call__" ⟨.ref C :: us, kw⟩)).depth = A.depth + 1:=by
 first | rfl | simp [Around.under,Code.weight,Code.isCreation,Code.isGuard,Code.isCaller,Code.frames,Code.isFrame,guardIds]
theorem Room.depth {k : Nat} {A : Around} (r : Room k A) : A.depth < recursionLimit:=by have:=r.dp;omega
noncomputable def tNil : TA:=fun _ H Q => Q [] H
noncomputable def tCons (ta : TE) (tr : TA) : TA:=fun σ H Q => ta σ H fun x H1 => tr σ H1 fun xs H2 => Q (x :: xs) H2
section
variable {X : Cx} {e : Expr} {es : List Expr} {te : TE} {t : TA} {pos : Pos}
theorem pa_nil : PA X [] tNil:=fun _ _ _ _ H Q I h => Calls.spliced_nil ⟨[],H,I,.nil,h⟩
theorem pa_cons (ha : PE X e te) (hr : PA X es t) (hs : starEach (e :: es) X.env = (false,eval e X.env) :: starEach es X.env:=by rfl) : PA X (e :: es) (tCons te t):=by
 intro pos pins s σ H Q I h
 rw [hs]
 show wpAny _ _ (spliced ((false,eval e X.env) :: backTo pos (starEach es X.env))) _ _ s
 refine Calls.spliced_cons (thn (ha pins s σ H _ I h) fun u s1 ⟨x,H1,I1,r1,q1⟩ => ?_)
 exact thn (hr pos pins s1 σ H1 _ I1 q1) fun us s2 ⟨xs,H2,I2,r2,q2⟩ => ⟨x :: xs,H2,I2,.cons r1 r2,q2⟩
noncomputable def tTup (t : TA) : TE:=fun σ H Q => t σ H fun xs H1 => xs.length≤sizeLine∧∀ p,H1 p = none→Q (.ref p) (upd H1 p (.tup xs))
noncomputable def tLst (t : TA) : TE:=fun σ H Q => t σ H fun xs H1 => xs.length≤sizeLine∧∀ p,H1 p = none→Q (.ref p) (upd H1 p (.lst xs))
theorem pe_tup {x1} (h : PA X es t) : PE X (.Tuple es x1 pos) (tTup t):=by
 intro pins s σ H Q I hq
 refine wpAny_Tuple_spliced (thn (h pos pins s σ H _ I hq) fun us s1 ⟨xs,H1,I1,r,z,q⟩ => ⟨by rw [← r.length];exact z,?_⟩)
 have hf : H1 s1.heap.objs.size = none:=I1.hok.fresh (Nat.le_refl _)
 refine ⟨.ref s1.heap.objs.size,upd H1 s1.heap.objs.size (.tup xs),I1.laid (t':=s1.toks) (fun b u e => Heap.get?_push_of_some _ e) (Nat.le_refl _) ?_,rfl,q _ hf⟩
 exact ⟨z,us,r,⟨_,Heap.get?_push_size _ rfl,rfl,_,rfl⟩⟩
theorem pe_lst (h : PA X es t) : PE X (.List es pos) (tLst t):=by
 intro pins s σ H Q I hq
 refine wpAny_List_spliced (thn (h pos pins s σ H _ I hq) fun us s1 ⟨xs,H1,I1,r,z,q⟩ => ⟨by rw [← r.length];exact z,?_⟩)
 have hf : H1 s1.heap.objs.size = none:=I1.hok.fresh (Nat.le_refl _)
 refine ⟨.ref s1.heap.objs.size,upd H1 s1.heap.objs.size (.lst xs),I1.laid (t':=s1.toks) (fun b u e => Heap.get?_push_of_some _ e) (Nat.le_refl _) ?_,rfl,q _ hf⟩
 exact ⟨z,us,0,r,Heap.get?_push_size _ rfl⟩
end
noncomputable abbrev Sp:=List V→Hp→VK→XK→Prop
noncomputable abbrev CXT:=List Env→Hp→Shared→XK→Value→Shared→Prop
structure Env0 (P : Program) (w : World) (K : PySem.W.Frag) (mg : Str→Option Value) (base : Heap) (A : Around) (outer : List Env) (s : Shared) (H : Hp) : Prop where
 frames : A.frames = some outer
 mod : Mod K mg base
 bs : ∀ b o,base.get? b = some o→s.heap.get? b = some o∧H b = none
 bsz : base.objs.size≤s.heap.objs.size
 funs : s.heap.FunFrames base outer
 frf : ∀ b∈frs outer,H b = none
 hok : HOk P w H s.heap
 bare : AllBare s.gens
 tab : TabIn K mg H
noncomputable def CE (outer : List Env) (P : Program) (w : World) (H : Hp) (s : Shared) (Q : VK) (u : Value) (s' : Shared) : Prop :=
 ∃ v H',s'.os = s.os∧AllBare s'.gens∧Un (frs outer) [] H H' s.heap s'.heap∧HOk P w H' s'.heap∧RelV v u∧Q v H'
noncomputable def CR (CX : CXT) (outer : List Env) (P : Program) (w : World) (H : Hp) (s : Shared) (Q : VK) (E : XK) (r : Result) (s' : Shared) : Prop :=
 match r with
 | .ok (.ret u) => CE outer P w H s Q u s'
 | .ok _ => False
 | .error e => CX outer H s E e s'
structure FnOk (P : Program) (w : World) (K : PySem.W.Frag) (mg : Str→Option Value) (base : Heap) (CX : CXT) (k : Nat) (f : Addr) (fd : FuncData) (ps : List Str) (sp : Sp) : Prop where
 len : ∀ vs H Q E,sp vs H Q E→vs.length = ps.length
 run : ∀ (A : Around) (outer : List Env) (s : Shared) (H : Hp) (args : Args) (us : List Value) (vs : List V) (Q : VK) (E : XK),Room k A→Env0 P w K mg base A outer s H→BindsTo s fd args (ps.zip us)→Vals vs us→sp vs H Q E →
  codeAny (model P w) A (.call (.ref f) args) (CR CX outer P w H s Q E) s
theorem FnOk.imp {P : Program} {w : World} {K : PySem.W.Frag} {mg : Str→Option Value} {base : Heap} {CX : CXT} {k : Nat} {f : Addr} {fd : FuncData} {ps : List Str} {sp sp' : Sp} (F : FnOk P w K mg base CX k f fd ps sp)
  (h : ∀ vs H Q E,sp' vs H Q E→sp vs H Q E) : FnOk P w K mg base CX k f fd ps sp' :=
 ⟨fun vs H Q E q => F.len vs H Q E (h _ _ _ _ q),fun A outer s H args us vs Q E hr he hb hv hs => F.run A outer s H args us vs Q E hr he hb hv (h _ _ _ _ hs)⟩
theorem Env0.make {P : Program} {w : World} {K : PySem.W.Frag} {mg : Str→Option Value} {base : Heap} {A : Around} {outer : List Env} {s : Shared} {H : Hp} (e : Env0 P w K mg base A outer s H) (C : Addr) (us : List Value) (kw : List (Str × Value)) :
  Env0 P w K mg base (A.under (.builtin "type.__call__" ⟨.ref C :: us, kw⟩)) outer s H:=⟨by first | exact e.frames | (simpa [Around.under, Code.envs, Code.isFrame, pushEnvs] using e.frames), e.mod, e.bs, e.bsz, e.funs, e.frf, e.hok, e.bare, e.tab⟩
section
variable {X : Cx} {pins : List (Addr × Obj)} {σ : St} {H : Hp} {s s' : Shared}
theorem Inv.env0 (I : Inv X pins σ H s) : Env0 X.prog X.w X.K X.mg X.base X.A X.stack s H :=
 ⟨I.ok.frames,I.ok.mod,I.bs,Nat.le_trans I.ok.bsz I.sz,I.stack,I.stkFree,I.hok,I.bare,I.ok.tab.un I.base⟩
theorem Inv.after {Q : VK} {u : Value} (I : Inv X pins σ H s) (h : CE X.stack X.prog X.w H s Q u s') : EP X pins σ Q u s':=by
 obtain ⟨v,H',os,bare,un,hok,r,q⟩:=h
 obtain ⟨hh,g,d,t,os'⟩:=s'
 obtain rfl : os' = s.os:=os
 exact ⟨v,H',I.call (h':=hh) (g':=g) (d':=d) (t':=t) (ch:=[]) un hok bare (fun b z => absurd z (by simp)),r,q⟩
end
noncomputable def tCall (sp : Sp) (dvs : List V) (E : XK) (t : TA) : TE:=fun σ H Q => t σ H fun vs H1 => sp (vs++dvs) H1 Q E
noncomputable def Binds (K : PySem.W.Frag) (fd : FuncData) (ps : List Str) (ds : List Value) : Prop :=
 ∀ (s : Shared) (us : List Value),K.In s.heap→(us++ds).length = ps.length→BindsTo s fd ⟨us,[]⟩ (ps.zip (us++ds))
theorem Binds.all {K : PySem.W.Frag} {fd : FuncData} {ps : List Str} (h : ∀ us : List Value,us.length = ps.length→bindArgs fd ⟨us,[]⟩ = pure (ps.zip us)) : Binds K fd ps []:=fun s us _ hl => by
 rw [List.append_nil] at hl ⊢
 exact .of_eq (h us hl)
noncomputable def Passes (CX : CXT) (X : Cx) (E : XK) : Prop:=∀ (pins : List (Addr × Obj)) (σ : St) (H : Hp) (s : Shared) (e : Value) (s' : Shared),Inv X pins σ H s→CX X.stack H s E e s'→X.xe e s'
section
variable {X : Cx} {CX : CXT} {k : Nat} {f C : Addr} {fd : FuncData} {ps : List Str} {sp : Sp} {dvs : List V} {ds : List Value} {E : XK} {x m : Str} {p pos apos : Pos} {e o : Expr} {es : List Expr} {ta : TE} {t : TA}
theorem run_fn {pins : List (Addr × Obj)} {σ : St} {H : Hp} {s : Shared} {Q : VK} {us : List Value} {vs : List V} (F : FnOk X.prog X.w X.K X.mg X.base CX k f fd ps sp) (hr : Room k X.A) (hb : Binds X.K fd ps ds) (hd : Vals dvs ds) (hx : Passes CX X E)
  (I : Inv X pins σ H s) (r : Vals vs us) (h : sp (vs++dvs) H Q E) : wpAny (model X.prog X.w) X.A (call (.ref f) us) (EP X pins σ Q) X.xe s:=by
 have r2 : Vals (vs++dvs) (us++ds):=r.append hd
 have hl : (us++ds).length = ps.length:=by rw [← r2.length];exact F.len _ _ _ _ h
 refine wpAny_call (codeAny_mono (F.run X.A X.stack s H ⟨us,[]⟩ (us++ds) (vs++dvs) Q E hr I.env0 (hb s us I.kIn hl) r2 h) fun r s' hq => ?_)
 cases r with
 | error e => exact hx pins σ H s e s' I hq
 | ok fl =>
  cases fl with
  | ret u => exact I.after hq
  | next => exact False.elim hq
  | brk => exact False.elim hq
  | cont => exact False.elim hq
theorem pe_call (F : FnOk X.prog X.w X.K X.mg X.base CX k f fd ps sp) (hr : Room k X.A) (hg : Gl X x) (hm : X.mg x = some (.ref f)) (hk : PySem.W.keepIn X.K (.ref f) = true) (hb : Binds X.K fd ps ds) (hd : Vals dvs ds) (hx : Passes CX X E)
  (ha : PA X (e :: es) t) (hdb : (x == ("__debug__" : Str)) = false:=by decide) (he : starEach (e :: es) X.env = (false, eval e X.env) :: starEach es X.env:=by rfl) (hpl : (backTo pos (starEach es X.env)).any (·.1) = false:=by rfl) :
  PE X (.Call (.Name x p) (e :: es) [] pos) (tCall sp dvs E t):=by
 intro pins s σ H Q I h
 refine wpAny_Call_Name_kw (ld_glob I hg hm ?_ hdb)
 refine PySem.W.callWith_K (h₀:=X.base) I.ok.mod.kin hk (thn (ha pos pins s σ H _ I h) fun us s1 ⟨vs,H1,I1,r,q⟩ => ⟨I1.kIn,?_⟩) he hpl
 exact run_fn F hr hb hd hx I1 r q
theorem pe_call0 (F : FnOk X.prog X.w X.K X.mg X.base CX k f fd ps sp) (hr : Room k X.A) (hg : Gl X x) (hm : X.mg x = some (.ref f)) (hk : PySem.W.keepIn X.K (.ref f) = true) (hb : Binds X.K fd ps ds) (hd : Vals dvs ds) (hx : Passes CX X E)
  (hdb : (x == ("__debug__" : Str)) = false:=by decide) : PE X (.Call (.Name x p) [] [] pos) (tCall sp dvs E tNil):=by
 intro pins s σ H Q I h
 refine wpAny_Call_Name_kw (ld_glob I hg hm ?_ hdb)
 exact PySem.W.callWith_K0 I.kIn hk (run_fn (us:=[]) F hr hb hd hx I .nil h)
end
section
variable {X : Cx} {CX : CXT} {k : Nat} {f C : Addr} {fd : FuncData} {ps ks : List Str} {sp : Sp} {E : XK} {x m : Str} {p pos apos kpos : Pos} {e o : Expr} {es : List Expr} {kws : List Keyword} {te ta : TE} {t tk : TA} {nm : Option Str}
variable {g : List Value→List Value→List Value} {gV : List V→List V→List V}
end
structure FnScope (N P : List Str) (sc : Scope) : Prop where
 kind : sc.kind = .function
 co : sc.isCoroutine = false
 gen : sc.isGenerator = false
 nd : N.Nodup
 pre : N.take P.length = P
 par : ∀ x∈P,sc.names.lookup x = some .local∨sc.names.lookup x = some .cell
 nofree : ∀ y∈sc.names,y.2≠.free
theorem bindL_out {kindOf : Str→Option NameKind} {x : Str} : ∀ {binds : List (Str × Value)} {m : Str→Option Value},(∀ v,(x,v) ∉ binds)→bindL kindOf binds m x = m x
 | [],_,_ => rfl
 | (n,v) :: r,m,h => by
  unfold bindL
  rw [bindL_out fun w hw => h w (List.mem_cons_of_mem _ hw)]
  split
  ·have : x≠n:=by rintro rfl;exact h v List.mem_cons_self
   simp [this]
  ·rfl
theorem bindC_out {kindOf : Str→Option NameKind} {x : Str} : ∀ {binds : List (Str × Value)} {m : Str→Option Value},(∀ v,(x,v) ∉ binds)→bindC kindOf binds m x = m x
 | [],_,_ => rfl
 | (n,v) :: r,m,h => by
  unfold bindC
  rw [bindC_out fun w hw => h w (List.mem_cons_of_mem _ hw)]
  split
  ·rfl
  ·have : x≠n:=by rintro rfl;exact h v List.mem_cons_self
   simp [this]
theorem bindL_get {kindOf : Str→Option NameKind} {x : Str} {v : Value} : ∀ {P : List Str} {vs : List Value} {i : Nat} {m : Str→Option Value},P.Nodup→P[i]? = some x→vs[i]? = some v→kindOf x = some .local →
  bindL kindOf (P.zip vs) m x = some v
 | [],_,_,_,_,h,_,_ => by simp at h
 | _ :: _,[],_,_,_,_,h,_ => by simp at h
 | p :: P,w :: vs,0,m,nd,h1,h2,hk => by
  simp at h1 h2;subst h1;subst h2
  show bindL kindOf ((p,w) :: P.zip vs) m p = _
  unfold bindL
  rw [bindL_out fun v hv => (List.nodup_cons.mp nd).1 (List.of_mem_zip hv).1,if_pos hk]
  simp
 | p :: P,w :: vs,i + 1,m,nd,h1,h2,hk => by
  show bindL kindOf ((p,w) :: P.zip vs) m x = _
  unfold bindL
  exact bindL_get (i:=i) (List.nodup_cons.mp nd).2 (by simpa using h1) (by simpa using h2) hk
theorem bindC_get {kindOf : Str→Option NameKind} {x : Str} {v : Value} : ∀ {P : List Str} {vs : List Value} {i : Nat} {m : Str→Option Value},P.Nodup→P[i]? = some x→vs[i]? = some v→kindOf x≠some .local →
  bindC kindOf (P.zip vs) m x = some v
 | [],_,_,_,_,h,_,_ => by simp at h
 | _ :: _,[],_,_,_,_,h,_ => by simp at h
 | p :: P,w :: vs,0,m,nd,h1,h2,hk => by
  simp at h1 h2;subst h1;subst h2
  show bindC kindOf ((p,w) :: P.zip vs) m p = _
  unfold bindC
  rw [bindC_out fun v hv => (List.nodup_cons.mp nd).1 (List.of_mem_zip hv).1,if_neg hk]
  simp
 | p :: P,w :: vs,i + 1,m,nd,h1,h2,hk => by
  show bindC kindOf ((p,w) :: P.zip vs) m x = _
  unfold bindC
  exact bindC_get (i:=i) (List.nodup_cons.mp nd).2 (by simpa using h1) (by simpa using h2) hk
noncomputable def start (N : List Str) (vs : List V) : St:=vs.map some++List.replicate (N.length - vs.length) none
noncomputable def cxOf (CX : CXT) (P : Program) (w : World) (K : PySem.W.Frag) (mg : Str→Option Value) (base : Heap) (N : List Str) (qual : Str) (scope : Scope) (f : Addr) (cd : Value) (A : Around) (outer : List Env) (s : Shared) (H : Hp) (E : XK) : Cx where
 prog:=P
 w:=w
 K:=K
 mg:=mg
 base:=base
 A:=A.deeper (envOfC qual scope s.heap.objs.size f cd)
 N:=N
 s₀:=s
 H₀:=H
 env:=envOfC qual scope s.heap.objs.size f cd
 outer:=outer
 stack:=envOfC qual scope s.heap.objs.size f cd :: outer
 ex:=[]
 calm:=true
 fn:=fun _ => true
 pn:=[]
 xe:=fun e s' => wpAny (model P w) (A.deeper (envOfC qual scope s.heap.objs.size f cd)) (leaving (envOfC qual scope s.heap.objs.size f cd) e) (fun _ s'' => CX outer H s E e s'') (fun e' s'' => CX outer H s E e' s'') s'
theorem cell_has {sc : Scope} {n : Nat} {x : Str} (h : sc.names.lookup x = some .cell) : ∃ c,(cellsFrom n sc.names []).lookup x = some c:=by
 have q:=PySem.W.cellsFrom_some sc.names n [] (.inl h)
 exact Option.isSome_iff_exists.mp q
theorem inv_start {CX : CXT} {P : Program} {w : World} {K : PySem.W.Frag} {mg : Str→Option Value} {base : Heap} {N ps : List Str} {qual : Str} {scope : Scope} {f : Addr} {cd : Value} {A : Around} {outer : List Env} {s s1 : Shared} {H : Hp} {E : XK} {us : List Value} {vs : List V}
  (S : FnScope N ps scope) (hd : A.handled = none) (e0 : Env0 P w K mg base A outer s H) (hl : vs.length = ps.length) (r : Vals vs us)
  (x : InCallC s s.heap.objs.size (bindL (envOfC qual scope s.heap.objs.size f cd).kindOf (ps.zip us) fun _ => none) (cellsFrom (s.heap.objs.size + 1) scope.names []) (bindC (envOfC qual scope s.heap.objs.size f cd).kindOf (ps.zip us) fun _ => none) s1) :
  Inv (cxOf CX P w K mg base N qual scope f cd A outer s H E) [] (start N vs) H s1:=by
 have hpl : ps.length≤N.length:=by have:=congrArg List.length S.pre;rw [List.length_take] at this;omega
 obtain ⟨h1,tk,rfl,hk⟩:=x.done
 have noA : ∀ b : Addr,b ∉ (cxOf CX P w K mg base N qual scope f cd A outer s H E).ex:=fun b z => absurd (show b∈([] : List Addr) from z) (by simp)
 refine ⟨⟨e0.mod,S.kind,rfl,rfl,Nat.le_refl _,fun y z c h1 h2 => ?_,fun y hy => ?_,fun y c _ h => ?_,fun _ => hd,Around.frames_deeper e0.frames,.inr ⟨rfl,rfl⟩,fun b z => absurd z (noA b),e0.bs,e0.bsz,fun b _ _ => noA b,fun b z => absurd z (noA b),e0.funs,e0.frf,e0.tab⟩,
  rfl,e0.bare,Un.kept hk,⟨_,x.toInCall.ns,fun i y v h1 h2 h3 => ?_⟩,fun y c h => ⟨_,x.cell y c h⟩,e0.hok.fresh (Nat.le_refl _),fun y c h => ?_,fun p hp => absurd (show p∈([] : List (Addr × Obj)) from hp) (by simp),e0.hok.kept hk,?_⟩
 ·exact name_of_addr x.apart (PySem.mem_of_lookup h1) (PySem.mem_of_lookup h2)
 ·have hy : scope.names.lookup y = some .cell∨scope.names.lookup y = some .free:=hy
  rcases hy with hy | hy
  ·exact cell_has hy
  ·exact absurd rfl (S.nofree _ (PySem.mem_of_lookup hy))
 ·exact Nat.le_of_lt (x.above y c (PySem.mem_of_lookup h))
 ·have hi : i < vs.length:=by
   unfold start at h2
   by_cases hi : i < vs.length
   ·exact hi
   ·rw [List.getElem?_append_right (by simpa using hi)] at h2
    rw [List.getElem?_replicate] at h2
    split at h2 <;> cases h2
  have ha : vs[i]? = some v:=by
   unfold start at h2
   rw [List.getElem?_append_left (by simpa using hi),List.getElem?_map] at h2
   cases e : vs[i]? with
   | none => rw [e] at h2;cases h2
   | some a => rw [e] at h2;cases h2;rfl
  obtain ⟨u,hu,rv⟩:=r.get ha
  have hp : ps[i]? = some y:=by
   rw [← S.pre,List.getElem?_take_of_lt (by omega)];exact h1
  have ndP : ps.Nodup:=by rw [← S.pre];exact S.nd.sublist (List.take_sublist _ _)
  refine ⟨u,rv,?_⟩
  rcases S.par y (List.mem_of_getElem? hp) with k | k
  ·exact .inl ⟨k,bindL_get ndP hp hu k⟩
  ·obtain ⟨c,e⟩:=cell_has (n:=s.heap.objs.size + 1) k
   refine .inr ⟨.inl k,c,e,?_⟩
   have q:=x.cell y c e
   rw [bindC_get ndP hp hu (by show scope.names.lookup y≠_;rw [k];decide)] at q
   exact q
 ·exact e0.hok.fresh (Nat.le_of_lt (x.above y c (PySem.mem_of_lookup h)))
 ·unfold start
  show _ = N.length
  rw [List.length_append,List.length_map,List.length_replicate]
  omega
theorem fn_of {CX : CXT} {P : Program} {w : World} {K : PySem.W.Frag} {mg : Str→Option Value} {base : Heap} {k : Nat} {f : Addr} {name qual : Str} {params : Arguments} {body : List Stmt} {scope : Scope} {dV kV doc pm cdv ct oc : Value} {an od : Option Addr}
  {osl : Array (Option Value)} {N ps : List Str} {sp : Sp} (lk : K.lookup f = some ⟨oc,od,.func (PySem.W.fnOf name qual params body scope dV kV doc pm an cdv ct),osl⟩) (hcd : PySem.W.codeIn K cdv qual = true) (S : FnScope N ps scope)
  (len : ∀ vs H Q E,sp vs H Q E→vs.length = ps.length)
  (hbody : ∀ (A : Around) (outer : List Env) (s : Shared) (H : Hp) (vs : List V) (Q : VK) (E : XK),Room k (A.deeper (envOfC qual scope s.heap.objs.size f cdv))→sp vs H Q E →
   ∃ t,PSs (cxOf CX P w K mg base N qual scope f cdv A outer s H E) body t∧t { nx:=fun _ H' => Q .non H',rt:=Q } (start N vs) H) :
  FnOk P w K mg base CX (k + 1) f (PySem.W.fnOf name qual params body scope dV kV doc pm an cdv ct) ps sp:=by
 refine ⟨len,fun A outer s H args us vs Q E hr e0 hb r hsp => ?_⟩
 have hl:=len _ _ _ _ hsp
 have KX : K.In s.heap:=e0.mod.kin.keeps fun b o e => (e0.bs b o e).1
 have lim : s.heap.NoLimit:=e0.mod.nolimit.keeps fun b o e => (e0.bs b o e).1
 have hkind : ∀ y∈ps.zip us,scope.names.lookup y.1 = some .local∨(scope.names.lookup y.1 = some .cell∧((cellsFrom (s.heap.objs.size + 1) scope.names []).lookup y.1).isSome = true):=fun ⟨n,v⟩ hy => by
  rcases S.par n (List.of_mem_zip hy).1 with q | q
  ·exact .inl q
  ·exact .inr ⟨q,PySem.W.cellsFrom_some _ _ _ (.inl q)⟩
 refine codeAny_call_function hr.depth (KX _ _ lk) rfl S.co S.gen rfl (PySem.W.codeRec_of KX hcd) (hb _ _ _ _ ?_)
 refine wpAny_newFunctionEnv_cells S.kind hkind fun env he s1 x => ?_
 subst he
 refine ⟨lim.keeps x.toInCall.keep,codeAny_func ?_⟩
 obtain ⟨t,ht,hq⟩:=hbody A outer s H vs Q E (hr.deeper _) hsp
 have I : Inv (cxOf CX P w K mg base N qual scope f cdv A outer s H E) [] (start N vs) H s1:=inv_start S hr.hd e0 hl r x
 refine wpAny_mono (ht [] s1 (start N vs) H _ I hq) (fun fl s' hs => ?_) fun e s' hs => hs
 have fin : ∀ {σ' : St} {H' : Hp} {v : V} {u : Value},Inv (cxOf CX P w K mg base N qual scope f cdv A outer s H E) [] σ' H' s'→RelV v u→Q v H'→CE outer P w H s Q u s' :=
  fun {σ' H' v u} J rv q => ⟨v,H',J.os,J.bare,J.base,J.hok,rv,q⟩
 cases fl with
 | ret u =>
  obtain ⟨v,σ',H',J,rv,q⟩:=hs
  exact fin J rv q
 | next =>
  obtain ⟨σ',H',J,q⟩:=hs
  exact fin (v:=V.non) (u:=Value.none) J rfl q
 | brk =>
  obtain ⟨_,_,_,q⟩:=hs
  exact False.elim q
 | cont =>
  obtain ⟨_,_,_,q⟩:=hs
  exact False.elim q
end L2
namespace L2
open PySem PySem.Spec PyProof.Rows
section
variable {X : Cx} {x : Str} {p pos : Pos} {e : Expr} {es : List Expr} {t : TA} {id T : String} {r : List V→Hp→VK→Prop}
noncomputable def tCB (r : List V→Hp→VK→Prop) (t : TA) : TE:=fun σ H Q => t σ H fun vs H1 => r vs H1 Q
theorem pe_callB (hc : CallR X (.builtin id) r) (hg : Gl X x) (hm : X.mg x = none) (hv : bootBuiltins x = some (.builtin id)) (ha : PA X (e :: es) t) (hn : x ≠ "__name__":=by decide) (hdb : (x == ("__debug__" : Str)) = false:=by decide)
  (he : starEach (e :: es) X.env = (false,eval e X.env) :: starEach es X.env:=by rfl) (hpl : (backTo pos (starEach es X.env)).any (·.1) = false:=by rfl) : PE X (.Call (.Name x p) (e :: es) [] pos) (tCB r t):=by
 intro pins s σ H Q I h
 refine wpAny_Call_Name_kw (ld_blt I hg hm hv ?_ hn hdb)
 exact PyProof.Rows.callWith_builtin1 (thn (ha pos pins s σ H _ I h) fun us s1 ⟨vs,H1,I1,r1,q1⟩ => hc pins s1 σ H1 vs us Q I1 r1 q1) he hpl
theorem pe_callTy (hc : CallR X (.type T) r) (hg : Gl X x) (hm : X.mg x = none) (hv : bootBuiltins x = some (.type T)) (ha : PA X (e :: es) t) (hn : x ≠ "__name__":=by decide) (hdb : (x == ("__debug__" : Str)) = false:=by decide)
  (he : starEach (e :: es) X.env = (false,eval e X.env) :: starEach es X.env:=by rfl) (hpl : (backTo pos (starEach es X.env)).any (·.1) = false:=by rfl) : PE X (.Call (.Name x p) (e :: es) [] pos) (tCB r t):=by
 intro pins s σ H Q I h
 refine wpAny_Call_Name_kw (ld_blt I hg hm hv ?_ hn hdb)
 exact PyProof.Rows.callWith_type1 (thn (ha pos pins s σ H _ I h) fun us s1 ⟨vs,H1,I1,r1,q1⟩ => hc pins s1 σ H1 vs us Q I1 r1 q1) he hpl
end
end L2
namespace HT
open PySem PyProof.Rows
section
open PySem.SeqAt
open PySem.AutoSeq1 (wpAny_loadPart')
open PySem.MeetsSeq PySem.MeetsSeq2 PySem.MeetsSeq3
end
section
variable {prog : Program} {w : World} {A : Around} {E : Value→Shared→Prop} {s : Shared}
theorem cat_tup {t b : Addr} {vs ws : List Value} {Q : Value→Shared→Prop} (ht : IsTup s.heap t vs.toArray) (hb : IsTup s.heap b ws.toArray) (hv : vs≠[])
  (h1 : ws = [] → Q (.ref t) s) (h2 : ws ≠ [] → Q (.ref s.heap.objs.size) { s with heap:=s.heap.push { cls:=.type "tuple", data:=.seq (vs ++ ws).toArray } })
  (hsz : vs.length + ws.length≤sizeLine) : wpAny (model prog w) A (binaryOp .Add (.ref t) (.ref b)) Q E s:=by
 obtain ⟨⟨cls,dd,data,sl⟩,ho,hc,n,hd⟩:=id ht
 obtain ⟨⟨cls2,dd2,data2,sl2⟩,ho2,hc2,n2,hd2⟩:=id hb
 simp only at hc hd hc2 hd2
 subst hc hd hc2 hd2
 have e : vs.toArray++ws.toArray = (vs++ws).toArray:=by simp
 by_cases hw : ws = []
 ·exact concat_meets ⟨_,ho,rfl⟩ ⟨_,ho2,rfl⟩ noFill_tuple_add seq_tuple_add PySem.F.slot_tuple_add PySem.F.entry_tuple_add (PySem.F.args_tuple_add_2 _ _)
   (tuple_addW1 t b vs.toArray ws.toArray n n2 dd dd2 sl sl2 (by simpa using hv) (by simp [hw])) ⟨ho,ho2,h1 hw⟩
 ·refine concat_meets ⟨_,ho,rfl⟩ ⟨_,ho2,rfl⟩ noFill_tuple_add seq_tuple_add PySem.F.slot_tuple_add PySem.F.entry_tuple_add (PySem.F.args_tuple_add_2 _ _)
   (tuple_addW2 t b vs.toArray ws.toArray n n2 dd dd2 sl sl2 (by simpa using hv) (by simpa using hw) (by rw [List.size_toArray,List.size_toArray];exact hsz)) ⟨ho,ho2,?_⟩
  rw [e]
  exact h2 hw
noncomputable def sIx (n d : Nat) : Option Int→Nat
 | none => d
 | some v => if v < 0 then (v + (n : Int)).toNat else min v.toNat n
end
end HT
namespace L2
open PySem PySem.Spec PyProof.Rows
section
variable {X : Cx} {e : Expr} {te : TE} {lo hi : Option Expr} {tl th : TO} {pos p2 : Pos}
noncomputable def rCatT (K : PySem.W.Frag) : R2:=fun x y H Q => ∃ a b xs ys,x = .ref a∧y = .ref b∧SqT K H a xs∧SqT K H b ys∧xs≠[]∧xs.length + ys.length≤sizeLine ∧
 (ys = []→Q (.ref a) H)∧(ys≠[]→∀ p,H p = none→Q (.ref p) (upd H p (.tup (xs++ys))))
theorem Vals.nil_iff {xs : List V} {us : List Value} (r : Vals xs us) : us = []↔xs = []:=by
 cases r with
 | nil => simp
 | cons _ _ => simp
theorem op_catT : OpR X (binaryOp .Add) (rCatT X.K):=by
 intro pins s σ H x y v u Q I rx ry h
 obtain ⟨a,b,xs,ys,rfl,rfl,ha,hb,hx,hz,q1,q2⟩:=h
 cases rx
 cases ry
 obtain ⟨its,r1,p1,_⟩:=I.tuple ha
 obtain ⟨its2,r2,p2,_⟩:=I.tuple hb
 refine HT.cat_tup p1 p2 (fun z => hx (r1.nil_iff.mp z)) (fun z => ⟨.ref a,H,I,rfl,q1 (r2.nil_iff.mp z)⟩) (fun z => ?_) (by rw [← r1.length,← r2.length];exact hz)
 refine ⟨.ref s.heap.objs.size,_,I.laid (t':=s.toks) (o:=.tup (xs++ys)) (fun b ob q => Heap.get?_push_of_some _ q) (Nat.le_refl _) ?_,rfl,q2 (fun w => z (r2.nil_iff.mpr w)) _ (I.hok.fresh (Nat.le_refl _))⟩
 exact ⟨by rw [List.length_append];exact hz,_,r1.append r2,IsTup.new _ _⟩
end
end L2
namespace L2
open PySem PySem.Spec PyProof.Rows
noncomputable def ixN (n : Nat) (i : Int) : Option Nat:=if 0≤i then (if i < n then some i.toNat else none) else if -(n : Int)≤i then some (i + n).toNat else none
noncomputable def atI {α : Type} (xs : List α) (i : Int) : Option α:=(ixN xs.length i).bind fun j => xs[j]?
theorem ixN_seq {n : Nat} {i : Int} {j : Nat} (h : ixN n i = some j) : seqIndex? i n = some j∧j < n∧-(n : Int)≤i∧i < n:=by
 unfold ixN at h
 by_cases h0 : 0≤i
 ·rw [if_pos h0] at h
  by_cases h1 : i < n
  ·rw [if_pos h1] at h
   have e : i.toNat = j:=Option.some.inj h
   exact ⟨by rw [seqIndex_of h0 h1,e],by omega,by omega,h1⟩
  ·rw [if_neg h1] at h;cases h
 ·rw [if_neg h0] at h
  by_cases h1 : -(n : Int)≤i
  ·rw [if_pos h1] at h
   have e : (i + n).toNat = j:=Option.some.inj h
   exact ⟨by rw [seqIndex_neg (by omega) h1,e],by omega,h1,by omega⟩
  ·rw [if_neg h1] at h;cases h
theorem atI_get {α : Type} {xs : List α} {i : Int} {v : α} (h : atI xs i = some v) : ∃ j,seqIndex? i xs.length = some j∧xs[j]? = some v∧j < xs.length∧-(xs.length : Int)≤i∧i < xs.length:=by
 unfold atI at h
 cases e : ixN xs.length i with
 | none => rw [e] at h;cases h
 | some j =>
  rw [e] at h
  obtain ⟨h1,h2,h3,h4⟩:=ixN_seq e
  exact ⟨j,h1,h,h2,h3,h4⟩
noncomputable def PlainIx (b : Expr) : Prop:=∀ o i,subscripted b false o i = operate [o,i] (getItem o i)
noncomputable def IxR (X : Cx) (r : R2) : Prop :=
 ∀ (value slice : Expr) (pins : List (Addr × Obj)) (s : Shared) (σ : St) (H : Hp) (x y : V) (v u : Value) (Q : VK),Inv X pins σ H s→RelV x v→RelV y u→r x y H Q →
  subscripted slice false v u = operate [v,u] (getItem v u)→wpAny (model X.prog X.w) X.A (subscriptTail value slice v u) (EP X pins σ Q) X.xe s
noncomputable def MtR (X : Cx) (id : String) (r : V→List V→Hp→VK→Prop) : Prop :=
 ∀ (pins : List (Addr × Obj)) (s : Shared) (σ : St) (H : Hp) (x : V) (xs : List V) (v : Value) (us : List Value) (Q : VK),Inv X pins σ H s→RelV x v→Vals xs us→r x xs H Q →
  wpAny (model X.prog X.w) X.A (call (.builtin id) (v :: us)) (EP X pins σ Q) X.xe s
section
variable {X : Cx} {a b : Expr} {ta tb : TE} {pos : Pos}
theorem IxR.or {r r' : R2} (h : IxR X r) (h' : IxR X r') : IxR X (fun x y H Q => r x y H Q∨r' x y H Q):=by
 intro value slice pins s σ H x y v u Q I rx ry q hs
 rcases q with q | q
 ·exact h value slice pins s σ H x y v u Q I rx ry q hs
 ·exact h' value slice pins s σ H x y v u Q I rx ry q hs
theorem pe_ix {r : R2} (hr : IxR X r) (ha : PE X a ta) (hb : PE X b tb) (hs : PlainIx b) : PE X (.Subscript a b pos) (tOp r ta tb):=by
 intro pins s σ H Q I h
 exact Subscript_ (binT ha hb I h fun v u s2 x y H2 I2 rx ry q => hr a b pins s2 σ H2 x y v u Q I2 rx ry q (hs _ _))
noncomputable def rIxL (K : PySem.W.Frag) : R2:=fun x y H Q => ∃ p xs i v,x = .ref p∧y = .int i∧SqL K H p xs∧atI xs i = some v∧Q v H
noncomputable def rIxT (K : PySem.W.Frag) : R2:=fun x y H Q => ∃ p xs i v,x = .ref p∧y = .int i∧SqT K H p xs∧atI xs i = some v∧Q v H
noncomputable def rIxS : R2:=fun x y H Q => ∃ z i c,x = .str z∧y = .int i∧z.length≤sizeLine∧atI z.cps.toList i = some c∧Q (.str ⟨#[c]⟩) H
theorem ix_list : IxR X (rIxL X.K):=by
 intro value slice pins s σ H x y v u Q I rx ry h hs
 obtain ⟨p,xs,i,z,rfl,rfl,hq,he,q⟩:=h
 cases rx
 obtain ⟨t,rfl⟩:=ry
 obtain ⟨its,r,pl,hz⟩:=I.list hq
 obtain ⟨j,h1,h2,h3,h4,h5⟩:=atI_get he
 obtain ⟨w,ew,rw'⟩:=r.get h2
 have hl:=r.length
 have hn:=line63
 have fin : EP X pins σ Q w s:=⟨z,H,I,rw',q⟩
 by_cases h0 : 0≤i
 ·have hj : i.toNat = j:=by
   rw [seqIndex_of h0 h5] at h1
   exact Option.some.inj h1
  exact item_listR pl.isList h0 (by omega) (by rw [hj];simpa using ew) fin hs
 ·have hj : (i + (its.toArray.size : Int)).toNat = j:=by
   rw [seqIndex_neg (by omega) h4] at h1
   rw [List.size_toArray,← hl]
   exact Option.some.inj h1
  exact subscriptTail_builtinR (x:=w) pl.isList.typeIs slot_list_getitem.lookup
   (wpAny_getItem_list_neg (Q:=fun r s' => r = w∧EP X pins σ Q r s') pl.isList (by omega) (by rw [List.size_toArray] <;> omega) (by omega) (by rw [hj];simpa using ew) ⟨rfl,fin⟩) hs
theorem ix_tup : IxR X (rIxT X.K):=by
 intro value slice pins s σ H x y v u Q I rx ry h hs
 obtain ⟨p,xs,i,z,rfl,rfl,hq,he,q⟩:=h
 cases rx
 obtain ⟨t,rfl⟩:=ry
 obtain ⟨its,r,pl,hz⟩:=I.tuple hq
 obtain ⟨j,h1,h2,h3,h4,h5⟩:=atI_get he
 obtain ⟨w,ew,rw'⟩:=r.get h2
 have hl:=r.length
 have hn:=line63
 have fin : EP X pins σ Q w s:=⟨z,H,I,rw',q⟩
 exact subscriptTail_builtinR (x:=w) pl.typeIs slot_tuple_getitem.lookup
  (getItem_tuple (j:=j) (Q:=fun r s' => r = w∧EP X pins σ Q r s') pl (by omega) (by omega) (by rw [List.size_toArray,← hl];exact h1) (by simpa using ew) ⟨rfl,fin⟩) hs
theorem ix_str : IxR X rIxS:=by
 intro value slice pins s σ H x y v u Q I rx ry h hs
 obtain ⟨z,i,c,rfl,rfl,hz,he,q⟩:=h
 obtain ⟨t,rfl⟩:=rx
 obtain ⟨t',rfl⟩:=ry
 obtain ⟨j,h1,h2,h3,h4,h5⟩:=atI_get he
 have hl : z.cps.toList.length = z.length:=by simp [Str.length]
 rw [hl] at h1 h4 h5
 have hn:=line63
 exact tail_any (typeIs_str s z t) slot_str_getitem.lookup (getItem_str (c:=c) (by
  have e1 : decide (i < -(2 ^ 63 : Int)) = false:=decide_eq_false (by omega)
  have e2 : decide (i ≥ 2 ^ 63) = false:=decide_eq_false (by omega)
  rw [e1,e2,Bool.or_false]) (by rw [h1];simpa using h2) ⟨.str ⟨#[c]⟩,H,I.tok _,⟨_,rfl⟩,q⟩) hs
theorem call_len_seq : CallR X (.builtin "len") (fun xs H Q => ∃ p ys, xs = [.ref p] ∧ (SqL X.K H p ys ∨ SqT X.K H p ys) ∧ Q (.int ys.length) H):=by
 intro pins s σ H xs us Q I r h
 obtain ⟨p,ys,rfl,hq,q⟩:=h
 obtain ⟨u,rfl,rx⟩:=vals1 r
 cases rx
 have hn:=line63
 rcases hq with hq | hq
 ·obtain ⟨its,r',pl,hz⟩:=I.list hq
  have hlen:=r'.length
  exact Calls.call_len_list pl.isList (by simp only [List.size_toArray] <;> omega) ⟨.int ys.length,H,I.tok _,⟨s.toks + 1,by rw [List.size_toArray,hlen]⟩,q⟩
 ·obtain ⟨its,r',pl,hz⟩:=I.tuple hq
  have hlen:=r'.length
  exact len_tuple pl (by simp only [List.size_toArray] <;> omega) ⟨.int ys.length,H,I.tok _,⟨s.toks + 1,by rw [List.size_toArray,hlen]⟩,q⟩
theorem call_len_str : CallR X (.builtin "len") (fun xs H Q => ∃ z, xs = [.str z] ∧ z.length ≤ sizeLine ∧ Q (.int z.length) H):=by
 intro pins s σ H xs us Q I r h
 obtain ⟨z,rfl,hz,q⟩:=h
 obtain ⟨u,rfl,t,rfl⟩:=vals1 r
 have hn:=line63
 exact len_str (by omega) ⟨.int z.length,H,I.tok _,⟨_,rfl⟩,q⟩
theorem CallR.or {f : Value} {r r' : List V→Hp→VK→Prop} (h : CallR X f r) (h' : CallR X f r') : CallR X f (fun xs H Q => r xs H Q∨r' xs H Q):=by
 intro pins s σ H xs us Q I rs q
 rcases q with q | q
 ·exact h pins s σ H xs us Q I rs q
 ·exact h' pins s σ H xs us Q I rs q
theorem call_list_of : CallR X (.type "list") (fun xs H Q => ∃ p ys, xs = [.ref p] ∧ (SqL X.K H p ys ∨ SqT X.K H p ys) ∧ ∀ l, H l = none → Q (.ref l) (upd H l (.lst ys))):=by
 intro pins s σ H xs us Q I r h
 obtain ⟨p,ys,rfl,hq,q⟩:=h
 obtain ⟨u,rfl,rx⟩:=vals1 r
 cases rx
 have fin : ∀ (its : List Value),Vals ys its→ys.length≤sizeLine→∀ (h' : Heap) (c' : Nat),(∀ b o',s.heap.get? b = some o'→h'.get? b = some o') →
   h'.get? s.heap.objs.size = some { cls:=.type "list", dict:=none, data:=.seq its.toArray c', slots:=#[] } → EP X pins σ Q (.ref s.heap.objs.size) { s with heap:=h' }:=fun its r' hz h' c' kp e =>
  ⟨.ref s.heap.objs.size,_,I.laid (t':=s.toks) kp (Nat.le_refl _) (show ObjOk X.prog X.w _ h' _ (.lst ys) from ⟨hz,its,c',r',e⟩),rfl,q _ (I.hok.fresh (Nat.le_refl _))⟩
 rcases hq with hq | hq
 ·obtain ⟨its,r',pl,hz⟩:=I.list hq
  have hlen:=r'.length
  obtain ⟨o,ho,hc,n,hd⟩:=pl.isList
  exact call_list_seq p (.inl rfl) ho hc hd (fun h' c' kp e => fin its r' hz h' c' kp e) (by simp only [List.size_toArray] <;> omega)
 ·obtain ⟨its,r',pl,hz⟩:=I.tuple hq
  have hlen:=r'.length
  obtain ⟨o,ho,hc,n,hd⟩:=pl
  exact call_list_seq p (.inr rfl) ho hc hd (fun h' c' kp e => fin its r' hz h' c' kp e) (by simp only [List.size_toArray] <;> omega)
noncomputable def tyV (K : PySem.W.Frag) (T : String) (x : V) (H : Hp) : Prop:=match x with
 | .str _ => T = "str"
 | .int _ => T = "int"
 | .ref p => (T = "list" ∧ ∃ xs, SqL K H p xs) ∨ (T = "tuple" ∧ ∃ o, K.lookup p = some o ∧ o.cls = .type "tuple" ∧ o.dict = none) ∨
   (T = "dict" ∧ ((∃ kvs, H p = some (.dK kvs)) ∨ ∃ kvs, H p = some (.dT kvs))) ∨ (T = "set" ∧ ∃ S n, H p = some (.set S n))
 | _ => False
theorem tyV_is {pins : List (Addr × Obj)} {σ : St} {H : Hp} {s : Shared} {T : String} {x : V} {v : Value} (I : Inv X pins σ H s) (r : RelV x v) (ty : tyV X.K T x H) :
  s.TypeIs v T∧∀ a,v = .ref a→∃ ob,s.heap.get? a = some ob∧ob.dict = none:=by
 cases x with
 | str z =>
  obtain ⟨t,rfl⟩:=r
  cases (show T = "str" from ty)
  exact ⟨typeIs_str s z t,fun _ e => nomatch e⟩
 | int i =>
  obtain ⟨t,rfl⟩:=r
  cases (show T = "int" from ty)
  exact ⟨typeIs_int s i t,fun _ e => nomatch e⟩
 | ref p =>
  cases r
  rcases ty with ⟨rfl,xs,hq⟩ | ⟨rfl,o,hk,hc,hd⟩ | ⟨rfl,hk⟩ | ⟨rfl,S,n,hk⟩
  ·obtain ⟨its,_,pl,_⟩:=I.list hq
   refine ⟨pl.isList.typeIs,fun a e => ?_⟩
   cases e
   obtain ⟨o,n,e,c,hd,_⟩:=pl
   exact ⟨o,e,hd⟩
  ·refine ⟨⟨o,I.kIn p o hk,hc⟩,fun a e => ?_⟩
   cases e
   exact ⟨o,I.kIn _ o hk,hd⟩
  ·have z : ∃ o,s.heap.get? p = some o∧o.ExactDict:=by
    rcases hk with ⟨kvs,hk⟩ | ⟨kvs,hk⟩
    ·obtain ⟨_,_,_,_,o,_,_,e,ex,_⟩:=I.hok p _ hk
     exact ⟨o,e,ex⟩
    ·obtain ⟨_,_,_,_,o,_,_,e,ex,_⟩:=I.hok p _ hk
     exact ⟨o,e,ex⟩
   obtain ⟨o,e,ex⟩:=z
   refine ⟨⟨o,e,ex.1⟩,fun a e2 => ?_⟩
   cases e2
   exact ⟨o,e,ex.2.1⟩
  ·obtain ⟨o,_,_,_,e,ex,_⟩:=I.hok p _ hk
   refine ⟨⟨o,e,ex.1⟩,fun a e2 => ?_⟩
   cases e2
   exact ⟨o,e,ex.2.1⟩
 | _ => exact False.elim ty
noncomputable def tBM (K : PySem.W.Frag) (T : String) (r : V→List V→Hp→VK→Prop) (to : TE) (t : TA) : TE:=fun σ H Q => to σ H fun x H1 => tyV K T x H1∧t σ H1 fun xs H2 => r x xs H2 Q
variable {o e : Expr} {es : List Expr} {to : TE} {t : TA} {name : Str} {apos cpos : Pos} {T id : String} {r : V→List V→Hp→VK→Prop}
theorem pe_bm (pa : PlainAttrs T) (slot : Slot T name id) (hty : typeOf (.builtin id) = pure (.type "method_descriptor")) (hm : MtR X id r) (ho : PE X o to) (ha : PA X (e :: es) t)
  (hbase : attributeBase o name X.env (eval o X.env) = eval o X.env:=by rfl)
  (hfew : ((backTo cpos (starEach (e :: es) X.env)).all (fun x => !x.1) && (backToKw cpos (keywordEach [] X.env)).all (fun x => x.1.isSome)
   && decide ((e :: es).length + ([] : List Keyword).length + (if ([] : List Keyword).isEmpty then 0 else 1) < 30)) = true:=by rfl)
  (hline : (apos.endLine == cpos.line) = true:=by rfl) (hs : starEach (e :: es) X.env = (false,eval e X.env) :: starEach es X.env:=by rfl) (hplain : (backTo cpos (starEach es X.env)).any (·.1) = false:=by rfl) :
  PE X (.Call (.Attribute o name apos) (e :: es) [] cpos) (tBM X.K T r to t):=by
 intro pins s σ H Q I h
 refine wpAny_Call_method_late hbase hfew hline rfl (thn (ho pins s σ H _ I h) fun v s1 ⟨x,H1,I1,r1,ty,q1⟩ => ?_)
 obtain ⟨h1,h2⟩:=tyV_is I1 r1 ty
 refine ⟨T,id,pa,slot,hty,h1,h2,?_⟩
 have hA:=ha cpos pins s1 σ H1 _ I1 q1
 rw [hs] at hA ⊢
 refine Calls.callWith_builtin (by show (false || (backTo cpos (starEach es X.env)).any (·.1)) = false;rw [hplain] <;> rfl) (Calls.evalArgs_plain ?_)
 exact thn hA fun us s2 ⟨vs,H2,I2,r2,q2⟩ => hm pins s2 σ H2 x vs v us Q I2 r1 r2 q2
end
end L2
namespace L2
open PySem PySem.Spec PyProof.Rows
noncomputable def MtM (X : Cx) (id : String) (r : V→List V→Hp→VK→Prop) : Prop :=
 ∀ (pins : List (Addr × Obj)) (s : Shared) (σ : St) (H : Hp) (x : V) (xs : List V) (v : Value) (us : List Value) (Q : VK),Inv X pins σ H s→RelV x v→Vals xs us→r x xs H Q →
  wpAny (model X.prog X.w) X.A (call (.builtin id) (v :: us)) (EP X pins σ Q) X.xe s
theorem Vals.one : ∀ {x : V} {us : List Value},Vals [x] us→∃ u,us = [u]∧RelV x u
 | _,_,.cons r .nil => ⟨_,rfl,r⟩
theorem Vals.rep {xs : List V} {us : List Value} (h : Vals xs us) : ∀ k : Nat,Vals (List.replicate k xs).flatten (List.replicate k us).flatten
 | 0 => .nil
 | k + 1 => by
  rw [List.replicate_succ,List.replicate_succ,List.flatten_cons,List.flatten_cons]
  exact Vals.append h (Vals.rep h k)
theorem foldl_rep (its : List Value) : ∀ (k : Nat) (acc : List Value),
  List.foldl (fun x1 x2 => x1++x2) acc.toArray (List.replicate k its.toArray) = (acc++(List.replicate k its).flatten).toArray
 | 0,acc => by simp
 | k + 1,acc => by
  have e : acc.toArray++its.toArray = (acc++its).toArray:=by simp
  have e2 : (acc++its)++(List.replicate k its).flatten = acc++(List.replicate (k + 1) its).flatten:=by
   rw [List.replicate_succ,List.flatten_cons,List.append_assoc]
  rw [← e2,← foldl_rep its k (acc++its),← e,List.replicate_succ,List.foldl_cons]
section
variable {X : Cx} {pins : List (Addr × Obj)} {σ : St} {H : Hp} {s : Shared} {l b : Addr} {xs ys zs : List V}
theorem Inv.lset {its its' : List Value} {n : Nat} {f : Array Value→Array Value} {t' : Nat} (I : Inv X pins σ H s) (hH : H l = some (.lst xs))
  (e : s.heap.get? l = some { cls:=.type "list", data:=.seq its.toArray n }) (hf : f its.toArray = its'.toArray) (hv : Vals ys its') (hz : ys.length ≤ sizeLine) :
  Inv X pins σ (upd H l (.lst ys)) { s with heap:=s.heap.update l (Obj.mapSeq f),toks:=t' }:=by
 have q:=PySem.IsL.update e f
 rw [hf] at q
 refine I.write (x:=l) (e:=l) (by rw [hH];exact trivial) (.inl rfl) (fun b' u hb hu => (Heap.get?_update_other s.heap (Obj.mapSeq f) (Ne.symm hb)).trans hu) ⟨_,q⟩ ?_
 exact ⟨hz,its',_,hv,q⟩
theorem Inv.lnew {its : List Value} {t' : Nat} (I : Inv X pins σ H s) (hv : Vals ys its) (hz : ys.length≤sizeLine) :
  Inv X pins σ (upd H s.heap.objs.size (.lst ys)) { s with heap:=s.heap.push { cls:=.type "list", data:=.seq its.toArray }, toks:=t' } :=
 I.laid (fun _ _ q => Heap.get?_push_of_some _ q) (Nat.le_refl _) ⟨hz,its,0,hv,Heap.get?_push_size _ rfl⟩
theorem Inv.fresh (I : Inv X pins σ H s) : H s.heap.objs.size = none:=I.hok.fresh (Nat.le_refl _)
theorem Inv.lstM (I : Inv X pins σ H s) (hH : H l = some (.lst xs)) : xs.length ≤ sizeLine ∧ ∃ (its : List Value) (n : Nat), Vals xs its ∧ xs.length = its.length ∧ s.heap.get? l = some { cls:=.type "list", data:=.seq its.toArray n }:=by
 obtain ⟨z,its,n,r,e⟩:=I.hok l _ hH
 exact ⟨z,its,n,r,r.length,e⟩
theorem notLongL {n : Nat} (h : n≤sizeLine) : Builtin.List.listTooLong n = false:=by
 unfold Builtin.List.listTooLong
 exact decide_eq_false (by omega)
end
section
variable {X : Cx}
noncomputable def rAppend : V→List V→Hp→VK→Prop:=fun x vs H Q => ∃ l xs y,x = .ref l∧vs = [y]∧H l = some (.lst xs)∧xs.length < sizeLine∧Q .non (upd H l (.lst (xs++[y])))
theorem mt_append : MtM X "list.append" rAppend:=by
 intro pins s σ H x vs v us Q I rx rv h
 obtain ⟨l,xs,y,rfl,rfl,hH,hz,q⟩:=h
 cases rx
 obtain ⟨u,rfl,ru⟩:=rv.one
 obtain ⟨z,its,n,r,hl,e⟩:=I.lstM hH
 refine call_meets F.slot_list_append ⟨_,e,rfl⟩ F.entry_list_append (F.args_list_append_2 _ _) (PySem.list_append l its.toArray n u (by rw [List.size_toArray];omega)) ⟨e,?_⟩
 refine ⟨.non,_,I.lset (its':=its++[u]) hH e (by simp) (r.append (.cons ru .nil)) ?_,rfl,q⟩
 rw [List.length_append,List.length_singleton]
 omega
noncomputable def rCat : R2:=fun x y H Q => ∃ l b xs zs,x = .ref l∧y = .ref b∧H l = some (.lst xs)∧H b = some (.lst zs)∧xs.length + zs.length≤sizeLine∧∀ p,H p = none→Q (.ref p) (upd H p (.lst (xs++zs)))
theorem op_cat : OpR X (binaryOp .Add) rCat:=by
 intro pins s σ H x y v u Q I rx ry h
 obtain ⟨l,b,xs,zs,rfl,rfl,hH,hB,hz,q⟩:=h
 cases rx
 cases ry
 obtain ⟨z,its,n,r,hl,e⟩:=I.lstM hH
 obtain ⟨z2,its2,n2,r2,hl2,e2⟩:=I.lstM hB
 refine PySem.P.add_list e e2 ?_ (by rw [List.size_toArray,List.size_toArray];omega)
 have ea : its.toArray++its2.toArray = (its++its2).toArray:=by simp
 rw [ea]
 exact ⟨.ref _,_,I.lnew (t':=s.toks) (r.append r2) (by rw [List.length_append];omega),rfl,q _ I.fresh⟩
theorem len_rep {α : Type} (xs : List α) (k : Nat) : (List.replicate k xs).flatten.length = k * xs.length:=by
 induction k with
 | zero => simp
 | succ k ih => rw [List.replicate_succ,List.flatten_cons,List.length_append,ih,Nat.succ_mul,Nat.add_comm]
end
section
variable {prog : Program} {w : World} {A : Around} {E : Value→Shared→Prop} {s : Shared}
end
section
variable {X : Cx}
end
end L2
namespace L2
open PySem PySem.Spec PyProof.Rows
section
variable {κ : Type} [DecidableEq κ]
end
section
variable {P : Program} {w : World} {H : Hp} {h : Heap} {a : Addr}
end
section
variable {X : Cx} {pins : List (Addr × Obj)} {σ : St} {H : Hp} {s : Shared} {a : Addr} {y v : V} {u r : Value} {o : Option V} {A : Around} {E : Value→Shared→Prop}
end
section
variable {X : Cx} {pins : List (Addr × Obj)} {σ : St} {H : Hp} {s : Shared} {a : Addr} {kvs : List (Key × V)} {k : Key} {u : Value} {A : Around} {E : Value→Shared→Prop}
end
section
variable {X : Cx} {o i e value : Expr} {pos pos' tpos : Pos} {td ty tv : TE}
end
section
variable {X : Cx} {pos : Pos}
end
section
variable {X : Cx} {pins : List (Addr × Obj)} {σ : St} {H : Hp} {s : Shared} {a : Addr} {y d : V} {u r : Value} {o : Option V} {A : Around} {E : Value→Shared→Prop}
end
section
variable {X : Cx} {o e f : Expr} {apos cpos : Pos} {td ty tx : TE}
end
section
variable {X : Cx} {pins : List (Addr × Obj)} {σ : St} {H : Hp} {s : Shared} {a : Addr} {kvs : List (Key × V)} {A : Around} {E : Value→Shared→Prop}
end
section
variable {X : Cx} {pins : List (Addr × Obj)} {σ : St} {H : Hp} {s : Shared} {a : Addr} {y : V} {u : Value} {A : Around} {E : Value→Shared→Prop}
end
end L2
namespace Att
open PySem PySem.W PySem.Calls PyProof.Rows
theorem ints_of_wellAll {P : Params} {h : Heap} : ∀ (ns : List Int) (vs : List Value),WellAll P h vs (ns.map WData.int)→IntsAre vs ns:=by
 intro ns
 induction ns with
 | nil =>
  intro vs w
  rw [List.map_nil] at w
  cases w
  exact .nil
 | cons n ns ih =>
  intro vs w
  rw [List.map_cons] at w
  cases w with
  | cons a b =>
   cases a
   exact .cons _ _ (ih _ b)
theorem script_of {l : OpenLaw} {n : Nat} (hn : l.most = some n) {P : Params} {h : Heap} {args : List WData} {vals : List Value}
  (hpre : l.row.toRowW.claim.pre args = true) (hwl : WellAll P h vals args) :
  ∃ a vs ns, vals = [Value.ref a] ∧ args = [WData.list (ns.map WData.int)] ∧ h.get? a = some { cls:=.type "list", data:=.seq vs.toArray } ∧ IntsAre vs ns ∧ ns.length ≤ n:=by
 have hsh : WShape.hasAll [] args [.list .int] = true:=(pre_splitW hpre).1
 have hc : l.pre.holds [] { args:=args } = true:=(pre_splitW hpre).2
 obtain ⟨d,r,rfl,h1,h2⟩:=hasAllW_cons hsh
 obtain rfl:=hasAllW_nil h2
 obtain ⟨xs,rfl,h3⟩:=hasW_list h1
 obtain ⟨ns,rfl⟩:=items_int h3
 have hlen : ns.length≤n:=by
  unfold OpenLaw.pre at hc
  have h4 : (WTm.not (.lt (.lit (.int (n : Int))) (.len (.arg 0)))).holds [] { args:=[.list (ns.map .int)] } = true:=by
   have h4:=(holds_andW hc).1
   rw [hn] at h4
   exact h4
  have h5:=condW_of h4 (w_not (w_lt w_lit (w_len_list (w_arg rfl))))
  rw [List.length_map] at h5
  refine Nat.le_of_not_lt fun q => ?_
  have q' : (n : Int) < ((ns.length : Nat) : Int):=by omega
  first
   | (rw [decide_eq_true q'] at h5;exact absurd h5 (by decide))
   | (simp at h5;omega)
 cases hwl with
 | cons w1 w2 =>
  cases w2
  cases w1 with
  | list ho hall => exact ⟨_,_,ns,rfl,rfl,ho,ints_of_wellAll ns _ hall,hlen⟩
theorem post_true (l : OpenLaw) (args : List WData) : l.row.toRowW.claim.post args (.bool true) args = true :=
 postW_of (r:=l.row.toRowW) (X:=(true == true))
  (show WShape.has [] (.bool true) .bool = true by first | rfl | decide | simp [WShape.has,WShape.arms,WShape.armsAll])
  (show (WTm.eq .res (.lit (.bool true))).value [] { args:=args,res:=some (.bool true),after:=args } = some (.bool (true == true)) from w_eq_bool (w_res rfl) w_lit) rfl
theorem attach_call {l : OpenLaw} {n : Nat} {q : Program} {loose : List Str} {XP : (Str→Option Value)→Heap→Prop} {YP : World→Heap→Prop} {d : DefRec}
  (hn : l.most = some n) (hdf : d.params.defaults = [])
  (call : ∀ (w : World) (s₀ s₁ : Shared) (mg mb : Str→Option Value) (fa : Addr) (o : Obj) (pm cd doc : Value) (a : Addr) (vs : List Value) (ns : List Int),
   Ground q loose [] XP w s₀ mg mb s₁.heap→YP w s₁.heap →
   s₁.heap.get? fa = some o→o.data = .func (docDef d.name d.params d.body d.scope pm cd doc)→s₁.heap.CodeRec cd d.name→mg d.name = some (.ref fa) →
   s₁.heap.get? a = some { cls:=.type "list", data:=.seq vs.toArray } → IntsAre vs ns → ns.length ≤ n → s₁.gens = #[] →
   codeAny (model l.prog w) callerA (.call (.ref fa) ⟨[.ref a],[]⟩) (fun r s' => r = .ok (.ret (.bool true))∧OldK s₁.heap s'.heap∧s'.os = s₁.os∧AllBare s'.gens) s₁) :
  WalkO q loose XP YP l.row.toRowW d [] (fun f vs => PySem.call f vs):=by
 intro w s₀ s₁ mg mb G Y fa o pm cd doc dV kV ho hd hcd hD hmg hg args vals as hpre hlay hrd hwl hlo
 obtain rfl : dV = .none:=Dflts.none hD hdf
 obtain rfl : kV = .none:=Dflts.noKw hD
 obtain ⟨a,vs,ns,rfl,rfl,hobj,hints,hlen⟩:=script_of hn hpre hwl
 refine enter_call (codeAny_mono (call w s₀ s₁ mg mb fa o pm cd doc a vs ns G Y ho (fd_plain hd) hcd hmg hobj hints hlen hg) fun r s' hq => ?_)
 obtain ⟨rfl,h2,h3,h4⟩:=hq
 exact ⟨.inl ⟨.bool true,.bool true,[],rfl,fun _ => rfl,.bool true,post_true l _,fun _ => ⟨List.Pairwise.nil,fun _ hm => (nomatch hm)⟩⟩,h2,h3,h4⟩
section
variable {prog : Program} {w : World} {A : Around} {E : Value→Shared→Prop} {s : Shared} {K : Frag}
end
end Att
namespace L2
open PySem PySem.Spec PyProof.Rows
theorem vals_ints : ∀ {vs : List Value} {ns : List Int},IntsAre vs ns→Vals (ns.map V.int) vs
 | _,_,.nil => .nil
 | _,_,.cons n t h => .cons ⟨t,rfl⟩ (vals_ints h)
noncomputable def Only (H : Hp) : Prop:=∀ b,H b = none∨(∃ o xs,H b = some (.frz o (.lst xs)))∨H b = some (.tbl #[])
noncomputable def HasTab (mg : Str→Option Value) (h : Heap) (tP : Option Addr) : Prop:=match tP with
 | none => ∀ a, mg "check_tests" ≠ some (.ref a)
 | some P => ∃ zK ot fdt ct, mg "check_tests" = some (.ref zK) ∧ h.get? zK = some ot ∧ ot.data = .func fdt ∧ fdt.code = .ref ct ∧ h.TableAt ct P #[]
theorem law_call {P : Program} {w : World} {K : PySem.W.Frag} {mg mb : Str→Option Value} {CX : CXT} {k : Nat} {fa a : Addr} {fd : FuncData} {x : Str} {sp : Sp} {s₁ : Shared} {vs : List Value} {ns : List Int} {tP : Option Addr}
  (KX : K.In s₁.heap) (hns : s₁.heap.Ns mainGlobals mg) (hb : s₁.heap.Ns builtinsNs mb) (hbb : ∀ x : Str, x ≠ "__name__" → mb x = bootBuiltins x) (hlim : s₁.heap.NoLimit) (hg : s₁.gens = #[])
  (hbm : ∃ bm ob, mg "__builtins__" = some (.ref bm) ∧ bm ≠ builtinsNs ∧ s₁.heap.get? bm = some ob ∧ ob.cls = .type "module" ∧ ob.dict = some builtinsNs ∧ ob.data = .plain) (hT : HasTab mg s₁.heap tP) (hKc : ∀ b o, K.lookup b = some o → NoTb o)
  (ha : s₁.heap.get? a = some { cls:=.type "list", data:=.seq vs.toArray }) (hi : IntsAre vs ns) (hl : ns.length ≤ sizeLine) (hr : Room k callerA)
  (F : ∀ base : Heap,K.In base→base.Ns mainGlobals mg→FnOk P w K mg base CX k fa fd [x] sp) (hbind : ∀ (s : Shared) (u : Value),BindsTo s fd ⟨[u],[]⟩ [(x,u)])
  (hsp : ∀ H : Hp,Only H→SqL K H a (ns.map V.int)→sp [.ref a] H (fun v _ => v = .bl true) fun _ _ _ => False)
  (hCX : ∀ H e s',CX [] H s₁ (fun _ _ _ => False) e s'→False) :
  codeAny (model P w) callerA (.call (.ref fa) ⟨[.ref a],[]⟩) (fun r s' => r = .ok (.ret (.bool true))∧OldK s₁.heap s'.heap∧s'.os = s₁.os∧AllBare s'.gens) s₁:=by
 have rv:=vals_ints hi
 have lenV:=hi.length
 have tabP : ∀ p,tP = some p→∃ ct,s₁.heap.TableAt ct p #[]:=fun p e => by
  subst e
  obtain ⟨_,_,_,ct,_,_,_,_,q⟩:=hT
  exact ⟨ct,q⟩
 have tne : ∀ p,tP = some p→p≠a:=fun p e z => by
  obtain ⟨ct,_,q⟩:=tabP p e
  rw [z,ha] at q
  cases q
 have core : ∀ H : Hp, Only H → SqL K H a (ns.map V.int) → (∀ b, H b ≠ none → b = a ∨ (tP = some b ∧ H b = some (.tbl #[]))) → (H a ≠ none → K.lookup a = none ∧ ∃ xs : List V, xs.length ≤ sizeLine ∧ Vals xs vs ∧ H a = some (.frz { cls:=.type "list", data:=.seq vs.toArray } (.lst xs))) → (∀ p, tP = some p → H p = some (.tbl #[])) →
   codeAny (model P w) callerA (.call (.ref fa) ⟨[.ref a],[]⟩) (fun r s' => r = .ok (.ret (.bool true))∧OldK s₁.heap s'.heap∧s'.os = s₁.os∧AllBare s'.gens) s₁:=by
  intro H hO hS hA hK hTb
  have hok : HOk P w H s₁.heap:=fun b u z => by
   rcases hA b (by rw [z];simp) with rfl | ⟨e,e2⟩
   ·obtain ⟨_,xs,h1,h2,h3⟩:=hK (by rw [z];simp)
    rw [z] at h3
    cases h3
    exact ⟨ha,h1,vs,_,h2,ha⟩
   ·rw [z] at e2
    cases e2
    obtain ⟨ct,_,q⟩:=tabP b e
    exact ⟨#[],q,trivial,fun pos v hc => by cases hc⟩
  have base_of : ∀ {b : Addr} {o : Obj},s₁.heap.get? b = some o→H b = none→(hidT s₁.heap H).get? b = some o:=fun e n => hidT_get e n
  have noT : ∀ {b : Addr} {o : Obj},s₁.heap.get? b = some o→(∀ us n,o.data≠.seq us n)→(∀ us,o.data≠.fields us)→H b = none:=fun {b o} e d1 d2 => by
   cases q : H b with
   | none => rfl
   | some u =>
    rcases hA b (by rw [q];simp) with e' | ⟨e',_⟩
    ·subst e'
     rw [ha] at e;cases e
     exact absurd rfl (d1 _ _)
    ·obtain ⟨ct,_,q'⟩:=tabP b e'
     rw [q'] at e;cases e
     exact absurd rfl (d2 _)
  have noA : ∀ {b : Addr} {o : Obj} {es : Array DictEntry} {ep : Nat},s₁.heap.get? b = some o→o.data = .dict es ep→H b = none:=fun {b o es ep} e d => noT e (fun us n z => by rw [d] at z;cases z) fun us z => by rw [d] at z;cases z
  have nsK : ∀ {b : Addr} {m : Str→Option Value},s₁.heap.Ns b m→(hidT s₁.heap H).Ns b m:=fun {b m} ⟨o,es,ep,e,d,r⟩ => ⟨o,es,ep,base_of e (noA e d),d,r⟩
  have hKb : K.In (hidT s₁.heap H):=fun b o e => base_of (KX b o e) (by
   cases q : H b with
   | none => rfl
   | some u =>
    rcases hA b (by rw [q];simp) with e' | ⟨e',_⟩
    ·subst e'
     rw [(hK (by rw [q];simp)).1] at e;cases e
    ·obtain ⟨ct,_,q'⟩:=tabP b e'
     have e2:=KX b o e
     rw [q'] at e2;cases e2
     exact absurd rfl (hKc b _ e _ rfl))
  have hB : ∃ bm ob, mg "__builtins__" = some (.ref bm) ∧ bm ≠ builtinsNs ∧ bm ≠ mainGlobals ∧ (hidT s₁.heap H).get? bm = some ob ∧ ob.cls = .type "module" ∧ ob.dict = some builtinsNs ∧ ob.data = .plain:=by
   obtain ⟨bm,ob,b1,b2,b3,b4,b5,b6⟩:=hbm
   refine ⟨bm,ob,b1,b2,fun q => ?_,base_of b3 (noT b3 (fun us n z => by rw [b6] at z;cases z) fun us z => by rw [b6] at z;cases z),b4,b5,b6⟩
   obtain ⟨o,es,ep,e,hd,_⟩:=hns
   rw [q,e] at b3;cases b3;rw [hd] at b6;cases b6
  have hM : Mod K mg (hidT s₁.heap H):=⟨hKb,nsK hns,⟨mb,nsK hb,hbb⟩,let ⟨mc,h1,h2⟩:=hlim;⟨mc,nsK h1,h2⟩,hB⟩
  have hTI : TabIn K mg H:=fun a' o fd' c oc us p e1 e2 e3 e4 e5 e6 e7 => by
   cases tP with
   | none => exact absurd e1 (hT a')
   | some p' =>
    obtain ⟨zK,ot,fdt,ct,t1,t2,t3,t4,⟨o',vs',t5,_,t6,t7⟩,_⟩:=hT
    rw [e1] at t1;cases t1
    rw [KX _ _ e2] at t2;cases t2
    rw [e3] at t3;cases t3
    rw [e4] at t4;cases t4
    rw [KX _ _ e5] at t5;cases t5
    rw [e6] at t6;cases t6
    rw [e7] at t7;cases t7
    exact ⟨_,hTb _ rfl⟩
  have e0 : Env0 P w K mg (hidT s₁.heap H) callerA [] s₁ H:=⟨rfl,hM,fun b o e => of_hidT e,Nat.le_of_eq (hidT_size _ _),trivial,fun b hb => absurd (show b∈([] : List Addr) from hb) (by simp),hok,.of_eq hg,hTI⟩
  refine codeAny_mono ((F _ hKb (nsK hns)).run callerA [] s₁ H ⟨[.ref a],[]⟩ [.ref a] [.ref a] _ _ hr e0 (hbind s₁ (.ref a)) (.cons rfl .nil) (hsp H hO hS)) fun r s' h => ?_
  cases r with
  | error e => exact (hCX H e s' h).elim
  | ok fl =>
   cases fl with
   | next => exact False.elim h
   | brk => exact False.elim h
   | cont => exact False.elim h
   | ret u =>
    obtain ⟨v,H',os,bare,un,hok',r',q⟩:=h
    have q' : v = .bl true:=q
    subst q'
    obtain rfl : u = Value.bool true:=r'
    refine ⟨rfl,⟨fun b o e => ?_,fun b o e => un.there b o e (by simp)⟩,os,bare⟩
    cases q : H b with
    | none => exact .inl (un.keep b o e q (by intro z;exact absurd (show b∈([] : List Addr) from z) (by simp)) (by simp))
    | some u =>
     rcases hO b with z | ⟨ob,xs,z⟩ | z
     ·rw [q] at z;cases z
     ·have z2:=un.frzs b ob _ z
      obtain ⟨e1,_⟩:=hok b _ z
      obtain ⟨e2,_⟩:=hok' b _ z2
      rw [e] at e1;cases e1
      exact .inl e2
     ·rcases hA b (by rw [z];simp) with rfl | ⟨e',_⟩
      ·obtain ⟨_,xs,_,_,h3⟩:=hK (by rw [z];simp)
       rw [z] at h3;cases h3
      ·obtain ⟨m,z2⟩:=un.tbls b _ z
       obtain ⟨ps,e2,_⟩:=hok' b _ z2
       obtain ⟨ct,qt⟩:=tabP b e'
       have e3:=qt.2
       rw [e] at e3;cases e3
       exact .inr (.inl ⟨qt.isCodeTable,rfl,#[],ps,rfl,by simpa using e2⟩)
 cases hk : K.lookup a with
 | some o =>
  have e:=KX a o hk
  rw [ha] at e
  cases e
  refine core (fun b => if tP = some b then some (.tbl #[]) else none) (fun b => ?_) (.inr ⟨_,vs.toArray,_,hk,rfl,rfl,rfl,by rw [List.size_toArray,lenV];exact hl,by simpa using rv⟩) (fun b z => ?_) (fun z => ?_) fun p e => if_pos e
  ·by_cases hb : tP = some b
   ·exact .inr (.inr (if_pos hb))
   ·exact .inl (if_neg hb)
  ·by_cases hb : tP = some b
   ·exact .inr ⟨hb,if_pos hb⟩
   ·exact absurd (if_neg hb) z
  ·exact absurd (if_neg fun e => tne a e rfl) z
 | none =>
  refine core (fun b => if b = a then some (.frz { cls:=.type "list", data:=.seq vs.toArray } (.lst (ns.map V.int))) else if tP = some b then some (.tbl #[]) else none) (fun b => ?_) (.inl (.inr ⟨{ cls:=.type "list", data:=.seq vs.toArray }, if_pos rfl⟩)) (fun b z => ?_) (fun z => ⟨hk, ns.map V.int, by rw [List.length_map]; exact hl, rv, if_pos rfl⟩) fun p e => ?_
  ·by_cases hb : b = a
   ·exact .inr (.inl ⟨_,_,if_pos hb⟩)
   ·by_cases hb2 : tP = some b
    ·exact .inr (.inr ((if_neg hb).trans (if_pos hb2)))
    ·exact .inl ((if_neg hb).trans (if_neg hb2))
  ·by_cases hb : b = a
   ·exact .inl hb
   ·by_cases hb2 : tP = some b
    ·exact .inr ⟨hb2,(if_neg hb).trans (if_pos hb2)⟩
    ·exact absurd ((if_neg hb).trans (if_neg hb2)) z
  ·exact (if_neg (tne p e)).trans (if_pos e)
end L2
namespace L2
open PySem PySem.Spec PyProof.Rows
theorem walk_of {l : PySem.W.OpenLaw} {n k : Nat} {q : Program} {loose : List Str} {XP : (Str→Option Value)→Heap→Prop} {YP : World→Heap→Prop} {d : DefRec} {K : Params→PySem.W.Frag} {CX : World→CXT} {sp : World→Sp} {x : Str}
  (hn : l.most = some n) (hn2 : n≤sizeLine) (hdf : d.params.defaults = []) (hr : Room k callerA)
  (hY : ∀ (w : World) (h : Heap),YP w h→(K w.params).In h) (hKc : ∀ (p : Params) (b : Addr) (o : Obj),(K p).lookup b = some o→NoTb o) (hT : ∀ (w : World) (s₀ : Shared) (mg mb : Str→Option Value) (h : Heap),PySem.W.Ground q loose [] XP w s₀ mg mb h→YP w h→∃ tP,HasTab mg h tP)
  (F : ∀ (w : World) (mg : Str→Option Value) (fa : Addr) (h : Heap),(K w.params).In h→h.Ns mainGlobals mg→mg d.name = some (.ref fa) →
   ∃ fd : FuncData,(∀ (s : Shared) (u : Value),BindsTo s fd ⟨[u],[]⟩ [(x,u)]) ∧
    ∀ base : Heap,(K w.params).In base→base.Ns mainGlobals mg→FnOk l.prog w (K w.params) mg base (CX w) k fa fd [x] (sp w))
  (hsp : ∀ (w : World) (H : Hp) (a : Addr) (ns : List Int),ns.length≤n→Only H→SqL (K w.params) H a (ns.map V.int)→sp w [.ref a] H (fun v _ => v = .bl true) fun _ _ _ => False)
  (hCX : ∀ (w : World) (H : Hp) (s : Shared) (e : Value) (s' : Shared),CX w [] H s (fun _ _ _ => False) e s'→False) :
  PySem.W.WalkO q loose XP YP l.row.toRowW d [] (fun f vs => PySem.call f vs):=by
 refine Att.attach_call hn hdf fun w s₀ s₁ mg mb fa o pm cd doc a vs ns G Y ho hd hcd hmg hobj hints hlen hg => ?_
 have KX:=hY w _ Y
 obtain ⟨fd,hb,hF⟩:=F w mg fa _ KX G.T.g hmg
 obtain ⟨tP,hTP⟩:=hT w s₀ mg mb _ G Y
 exact law_call KX G.T.g G.T.b G.T.builtins G.T.nolimit hg G.T.bmain hTP (hKc w.params) hobj hints (Nat.le_trans hlen hn2) hr hF hb (fun H hO hS => hsp w H a ns hlen hO hS) fun H e s' => hCX w H s₁ e s'
end L2
namespace L2
open PySem PySem.Spec PyProof.Rows
noncomputable abbrev CX0 : CXT:=fun _ _ _ _ _ _ => False
noncomputable abbrev E0 : XK:=fun _ _ _ => False
theorem pass0 {X : Cx} : Passes CX0 X E0:=fun _ _ _ _ _ _ _ h => h.elim
structure Fun (K : PySem.W.Frag) (x qual : Str) (st : Stmt) (f : Addr) (fd : FuncData) : Prop where
 ex : ∃ (oc : Value) (od : Option Addr) (kV doc pm : Value) (an : Option Addr) (cdv ct : Value) (osl : Array (Option Value)),
  fd = PySem.W.fnOf x qual (defArgs st) (defBody st) (defScope st) .none kV doc pm an cdv ct∧K.lookup f = some ⟨oc,od,.func fd,osl⟩∧PySem.W.codeIn K cdv qual = true
 kp : PySem.W.keepIn K (.ref f) = true
section
variable {P : Program} {w : World} {K : PySem.W.Frag} {mg : Str→Option Value} {base : Heap}
theorem Fun.ok {x qual : Str} {st : Stmt} {f : Addr} {fd : FuncData} {N ps : List Str} {k : Nat} {sp : Sp} (F : Fun K x qual st f fd) (S : FnScope N ps (defScope st)) (len : ∀ vs H Q E,sp vs H Q E→vs.length = ps.length)
  (hbody : ∀ (cdv : Value) (A : Around) (outer : List Env) (s : Shared) (H : Hp) (vs : List V) (Q : VK) (E : XK),Room k (A.deeper (envOfC qual (defScope st) s.heap.objs.size f cdv))→sp vs H Q E →
   ∃ t,PSs (cxOf CX0 P w K mg base N qual (defScope st) f cdv A outer s H E).nox (defBody st) t∧t { nx:=fun _ H' => Q .non H',rt:=Q } (start N vs) H) : FnOk P w K mg base CX0 (k + 1) f fd ps sp:=by
 obtain ⟨oc,od,kV,doc,pm,an,cdv,ct,osl,rfl,lk,hcd⟩:=F.ex
 refine fn_of lk hcd S len fun A outer s H vs Q E hr hsp => ?_
 obtain ⟨t,h,q⟩:=hbody cdv A outer s H vs Q E hr hsp
 exact ⟨t,h.nox,q⟩
theorem Fun.binds {x qual : Str} {st : Stmt} {f : Addr} {fd : FuncData} {ps : List Str} (F : Fun K x qual st f fd)
  (h : ∀ (kV doc pm : Value) (an : Option Addr) (cdv ct : Value) (us : List Value),us.length = ps.length→bindArgs (PySem.W.fnOf x qual (defArgs st) (defBody st) (defScope st) .none kV doc pm an cdv ct) ⟨us,[]⟩ = pure (ps.zip us)) : Binds K fd ps []:=by
 obtain ⟨oc,od,kV,doc,pm,an,cdv,ct,osl,rfl,lk,hcd⟩:=F.ex
 exact .all (h kV doc pm an cdv ct)
theorem fun_mk {x qual : Str} {st : Stmt} {f : Addr} {oc : Value} {od an : Option Addr} {osl : Array (Option Value)} {kV doc pm cdv ct : Value} (l : K.lookup f = some ⟨oc,od,.func (PySem.W.fnOf x qual (defArgs st) (defBody st) (defScope st) .none kV doc pm an cdv ct),osl⟩)
  (c : PySem.W.codeIn K cdv qual = true) (k : PySem.W.keepIn K (.ref f) = true) : Fun K x qual st f (PySem.W.fnOf x qual (defArgs st) (defBody st) (defScope st) .none kV doc pm an cdv ct):=⟨⟨oc,od,kV,doc,pm,an,cdv,ct,osl,rfl,l,c⟩,k⟩
end
section
variable {X : Cx}
end
theorem iteF {A B : Prop} (h : B) : if false = true then A else B:=by
 rw [if_neg Bool.false_ne_true]
 exact h
theorem iteT {A B : Prop} (h : A) : if true = true then A else B:=by
 rw [if_pos rfl]
 exact h
noncomputable def Same (H H' : Hp) : Prop:=∀ b o,H b = some o→H' b = some o
theorem Same.refl (H : Hp) : Same H H:=fun _ _ h => h
theorem Same.trans {H H1 H2 : Hp} (a : Same H H1) (b : Same H1 H2) : Same H H2:=fun c o h => b c o (a c o h)
theorem Same.free {H H' : Hp} (e : Same H H') {l : Addr} (h : H' l = Option.none) : H l = Option.none:=by
 cases q : H l with
 | none => rfl
 | some o =>
  rw [e l o q] at h
  cases h
theorem Same.seq {K : PySem.W.Frag} {H H' : Hp} {a : Addr} {xs : List V} (e : Same H H') (h : SqL K H a xs) : SqL K H' a xs:=by
 rcases h with (h | ⟨o,h⟩) | h
 ·exact .inl (.inl (e _ _ h))
 ·exact .inl (.inr ⟨o,e _ _ h⟩)
 ·exact .inr h
end L2
set_option genInjectivity true
set_option genSizeOfSpec true
namespace Mi
open PySem L2 PyProof.Rows
inductive D where
 | non | bl (b : Bool) | int (i : Int) | str (x : Str) | tup (ds : List D) | lst (ds : List D) | dct (ks vs : List D)
mutual
noncomputable def beqD : D→D→Bool
 | .non,.non => true
 | .bl a,.bl b => a == b
 | .int a,.int b => a == b
 | .str a,.str b => decide (a = b)
 | .tup a,.tup b => beqDs a b
 | .lst a,.lst b => beqDs a b
 | .dct a b,.dct c d => beqDs a c && beqDs b d
 | _,_ => false
noncomputable def beqDs : List D→List D→Bool
 | [],[] => true
 | a :: as,b :: bs => beqD a b && beqDs as bs
 | _,_ => false
end
mutual
theorem beqD_eq : ∀ (a b : D),beqD a b = true↔a = b
 | .non,b => by cases b <;> simp [beqD]
 | .bl x,b => by cases b <;> simp [beqD]
 | .int x,b => by cases b <;> simp [beqD]
 | .str x,b => by cases b <;> simp [beqD]
 | .tup x,b => by cases b <;> simp [beqD,beqDs_eq x]
 | .lst x,b => by cases b <;> simp [beqD,beqDs_eq x]
 | .dct x y,b => by cases b <;> simp [beqD,beqDs_eq x,beqDs_eq y]
theorem beqDs_eq : ∀ (a b : List D),beqDs a b = true↔a = b
 | [],b => by cases b <;> simp [beqDs]
 | x :: xs,b => by
  cases b with
  | nil => simp [beqDs]
  | cons y ys => simp [beqDs,beqD_eq x y,beqDs_eq xs ys]
end
noncomputable instance : DecidableEq D:=fun a b => if h : beqD a b = true then isTrue ((beqD_eq a b).mp h) else isFalse fun e => h ((beqD_eq a b).mpr e)
noncomputable def b2i (b : Bool) : Int:=if b then 1 else 0
mutual
noncomputable def pyEq : D→D→Bool
 | .non,.non => true
 | .bl a,.bl b => a == b
 | .bl a,.int b => b2i a == b
 | .int a,.bl b => a == b2i b
 | .int a,.int b => a == b
 | .str a,.str b => a == b
 | .tup a,.tup b => pyEqs a b
 | .lst a,.lst b => pyEqs a b
 | _,_ => false
noncomputable def pyEqs : List D→List D→Bool
 | [],[] => true
 | a :: as,b :: bs => pyEq a b && pyEqs as bs
 | _,_ => false
end
mutual
noncomputable def dep : D→Nat
 | .tup ds => deps ds + 1
 | .lst ds => deps ds + 1
 | .dct _ _ => 1000
 | _ => 0
noncomputable def deps : List D→Nat
 | [] => 0
 | d :: ds => max (dep d) (deps ds)
end
mutual
noncomputable def RpV (h : Heap) : D→Value→Prop
 | .non,u => u = .none
 | .bl b,u => u = .bool b
 | .int i,u => ∃ t,u = .int i t
 | .str x,u => ∃ t,u = .str x t
 | .tup ds,u => ∃ a its,u = .ref a∧h.IsTuple a (List.toArray its)∧RpVs h ds its
 | .lst ds,u => ∃ a its,u = .ref a∧h.IsList a (List.toArray its)∧RpVs h ds its
 | .dct _ _,_ => False
noncomputable def RpVs (h : Heap) : List D→List Value→Prop
 | [],us => us = []
 | d :: ds,us => ∃ y ys,us = y :: ys∧RpV h d y∧RpVs h ds ys
end
theorem RpVs.length {h : Heap} : ∀ {ds : List D} {us : List Value},RpVs h ds us→ds.length = us.length
 | [],us,r => by rw [RpVs] at r;subst r;rfl
 | d :: ds,us,r => by
  rw [RpVs] at r
  obtain ⟨y,ys,rfl,_,r⟩:=r
  simp [RpVs.length r]
theorem RpVs.get {h : Heap} : ∀ {ds : List D} {us : List Value} {i : Nat} (h1 : i < ds.length) (h2 : i < us.length),RpVs h ds us→RpV h ds[i] us[i]
 | [],us,i,h1,h2,r => by simp at h1
 | d :: ds,us,i,h1,h2,r => by
  rw [RpVs] at r
  obtain ⟨y,ys,rfl,r0,r⟩:=r
  cases i with
  | zero => exact r0
  | succ i => exact RpVs.get (ds:=ds) (us:=ys) (i:=i) (by simpa using h1) (by simpa using h2) r
theorem deps_le : ∀ {ds : List D} {i : Nat} (h : i < ds.length),dep ds[i]≤deps ds
 | [],i,h => by simp at h
 | d :: ds,0,h => by simp only [deps,List.getElem_cons_zero];omega
 | d :: ds,i + 1,h => by
  have:=deps_le (ds:=ds) (i:=i) (by simpa using h)
  simp only [deps,List.getElem_cons_succ];omega
theorem pyEqs_all : ∀ (as bs : List D),pyEqs as bs = ((List.range (min as.length bs.length)).all (fun j => pyEq (as.getD j .non) (bs.getD j .non)) && as.length == bs.length)
 | [],[] => by simp [pyEqs]
 | [],b :: bs => by simp [pyEqs]
 | a :: as,[] => by simp [pyEqs]
 | a :: as,b :: bs => by
  rw [pyEqs,pyEqs_all as bs]
  have e : min (a :: as).length (b :: bs).length = min as.length bs.length + 1:=by simp only [List.length_cons];omega
  rw [e,List.range_succ_eq_map,List.all_cons,List.all_map]
  simp [Function.comp_def,Bool.and_assoc]
mutual
theorem RpV.inj {h : Heap} : ∀ {d e : D} {u : Value},RpV h d u→RpV h e u→d = e
 | .non,e,u,r,q => by
  rw [RpV] at r;subst r
  cases e <;> simp [RpV] at q ⊢
 | .bl b,e,u,r,q => by
  rw [RpV] at r;subst r
  cases e <;> simp [RpV] at q ⊢
  exact q
 | .int b,e,u,r,q => by
  rw [RpV] at r;obtain ⟨t,rfl⟩:=r
  cases e <;> simp [RpV] at q ⊢
  exact q
 | .str b,e,u,r,q => by
  rw [RpV] at r;obtain ⟨t,rfl⟩:=r
  cases e <;> simp [RpV] at q ⊢
  exact q
 | .tup ds,e,u,r,q => by
  rw [RpV] at r;obtain ⟨a,its,rfl,⟨o,ho,hc,n,hd⟩,rs⟩:=r
  cases e <;> simp only [RpV] at q
  ·cases q
  ·cases q
  ·obtain ⟨_,q⟩:=q;cases q
  ·obtain ⟨_,q⟩:=q;cases q
  ·obtain ⟨a',its',z,⟨o',ho',hc',n',hd'⟩,qs⟩:=q
   cases z
   rw [ho] at ho';cases ho'
   rw [hd] at hd'
   injection hd' with z _
   have z' : its = its':=by simpa using z
   subst z'
   rw [RpVs.inj rs qs]
  ·obtain ⟨a',its',z,⟨o',ho',hc',n',hd'⟩,qs⟩:=q
   cases z
   rw [ho] at ho';cases ho'
   rw [hc] at hc'
   exact absurd hc' (by simp)
 | .lst ds,e,u,r,q => by
  rw [RpV] at r;obtain ⟨a,its,rfl,⟨o,ho,hc,n,hd⟩,rs⟩:=r
  cases e <;> simp only [RpV] at q
  ·cases q
  ·cases q
  ·obtain ⟨_,q⟩:=q;cases q
  ·obtain ⟨_,q⟩:=q;cases q
  ·obtain ⟨a',its',z,⟨o',ho',hc',n',hd'⟩,qs⟩:=q
   cases z
   rw [ho] at ho';cases ho'
   rw [hc] at hc'
   exact absurd hc' (by simp)
  ·obtain ⟨a',its',z,⟨o',ho',hc',n',hd'⟩,qs⟩:=q
   cases z
   rw [ho] at ho';cases ho'
   rw [hd] at hd'
   injection hd' with z _
   have z' : its = its':=by simpa using z
   subst z'
   rw [RpVs.inj rs qs]
 | .dct ks vs,e,u,r,q => by rw [RpV] at r;exact r.elim
theorem RpVs.inj {h : Heap} : ∀ {ds es : List D} {us : List Value},RpVs h ds us→RpVs h es us→ds = es
 | [],es,us,r,q => by
  rw [RpVs] at r;subst r
  cases es with
  | nil => rfl
  | cons e es => rw [RpVs] at q;obtain ⟨_,_,z,_⟩:=q;cases z
 | d :: ds,es,us,r,q => by
  rw [RpVs] at r;obtain ⟨y,ys,rfl,r0,rs⟩:=r
  cases es with
  | nil => rw [RpVs] at q;cases q
  | cons e es =>
   rw [RpVs] at q;obtain ⟨y',ys',z,q0,qs⟩:=q
   cases z
   rw [RpV.inj r0 q0,RpVs.inj rs qs]
end
mutual
theorem pyEq_refl {h : Heap} : ∀ {d : D} {u : Value},RpV h d u→pyEq d d = true
 | .non,_,_ => by simp [pyEq]
 | .bl b,_,_ => by simp [pyEq]
 | .int b,_,_ => by simp [pyEq]
 | .str b,_,_ => by simp [pyEq]
 | .tup ds,_,r => by
  rw [RpV] at r;obtain ⟨_,_,_,_,rs⟩:=r
  rw [pyEq];exact pyEqs_refl rs
 | .lst ds,_,r => by
  rw [RpV] at r;obtain ⟨_,_,_,_,rs⟩:=r
  rw [pyEq];exact pyEqs_refl rs
 | .dct _ _,_,r => by rw [RpV] at r;exact r.elim
theorem pyEqs_refl {h : Heap} : ∀ {ds : List D} {us : List Value},RpVs h ds us→pyEqs ds ds = true
 | [],_,_ => by simp [pyEqs]
 | d :: ds,_,r => by
  rw [RpVs] at r;obtain ⟨_,_,_,r0,rs⟩:=r
  rw [pyEqs,pyEq_refl r0,pyEqs_refl rs];rfl
end
theorem pyEqs_same {h : Heap} (ds es : List D) {us : List Value} (r : RpVs h ds us) (q : RpVs h es us) : pyEqs ds es = true:=by
 rw [RpVs.inj r q];exact pyEqs_refl q
section
open PySem.SeqAt
theorem eqAt_D : ∀ (d e : D) {A : Around} {s : Shared} {u v : Value},RpV s.heap d u→RpV s.heap e v→A.units + dep d < cLine→A.units + dep e < cLine→EqAt A s u v (pyEq d e)
 | .non,e,A,s,u,v,r,q,hd,he => by
  rw [RpV] at r;subst r
  have hu : A.units < cLine:=by omega
  cases e <;> simp only [RpV] at q
  ·subst q;rw [pyEq];exact EqAt.same _
  ·subst q;rw [pyEq];exact EqAt.none_bool _;all_goals simp
  ·obtain ⟨t,rfl⟩:=q;rw [pyEq];exact EqAt.none_int _ _;all_goals simp
  ·obtain ⟨t,rfl⟩:=q;rw [pyEq];exact EqAt.none_str _ _;all_goals simp
  ·obtain ⟨a,its,rfl,q,_⟩:=q;rw [pyEq];exact EqAt.none_tuple q hu;all_goals simp
  ·obtain ⟨a,its,rfl,q,_⟩:=q;rw [pyEq];exact EqAt.none_list q hu;all_goals simp
 | .bl b,e,A,s,u,v,r,q,hd,he => by
  rw [RpV] at r;subst r
  have hu : A.units < cLine:=by omega
  cases e <;> simp only [RpV] at q
  ·subst q;rw [pyEq];exact EqAt.bool_none _;all_goals simp
  ·subst q;rw [pyEq];exact EqAt.bool_bool _ _
  ·obtain ⟨t,rfl⟩:=q;rw [pyEq];exact EqAt.bool_int _ _ _
  ·obtain ⟨t,rfl⟩:=q;rw [pyEq];exact EqAt.bool_str _ _ _;all_goals simp
  ·obtain ⟨a,its,rfl,q,_⟩:=q;rw [pyEq];exact EqAt.bool_tuple _ q hu;all_goals simp
  ·obtain ⟨a,its,rfl,q,_⟩:=q;rw [pyEq];exact EqAt.bool_list _ q hu;all_goals simp
 | .int b,e,A,s,u,v,r,q,hd,he => by
  rw [RpV] at r;obtain ⟨t0,rfl⟩:=r
  have hu : A.units < cLine:=by omega
  cases e <;> simp only [RpV] at q
  ·subst q;rw [pyEq];exact EqAt.int_none _ _;all_goals simp
  ·subst q;rw [pyEq];exact EqAt.int_bool _ _ _
  ·obtain ⟨t,rfl⟩:=q;rw [pyEq];exact EqAt.int_int _ _ _ _
  ·obtain ⟨t,rfl⟩:=q;rw [pyEq];exact EqAt.int_str _ _ _ _;all_goals simp
  ·obtain ⟨a,its,rfl,q,_⟩:=q;rw [pyEq];exact EqAt.int_tuple _ _ q hu;all_goals simp
  ·obtain ⟨a,its,rfl,q,_⟩:=q;rw [pyEq];exact EqAt.int_list _ _ q hu;all_goals simp
 | .str b,e,A,s,u,v,r,q,hd,he => by
  rw [RpV] at r;obtain ⟨t0,rfl⟩:=r
  have hu : A.units < cLine:=by omega
  cases e <;> simp only [RpV] at q
  ·subst q;rw [pyEq];exact EqAt.str_none _ _;all_goals simp
  ·subst q;rw [pyEq];exact EqAt.str_bool _ _ _;all_goals simp
  ·obtain ⟨t,rfl⟩:=q;rw [pyEq];exact EqAt.str_int _ _ _ _;all_goals simp
  ·obtain ⟨t,rfl⟩:=q;rw [pyEq];exact EqAt.str_str _ _ _ _
  ·obtain ⟨a,its,rfl,q,_⟩:=q;rw [pyEq];exact EqAt.str_tuple _ _ q hu;all_goals simp
  ·obtain ⟨a,its,rfl,q,_⟩:=q;rw [pyEq];exact EqAt.str_list _ _ q hu;all_goals simp
 | .tup ds,e,A,s,u,v,r,q,hd,he => by
  rw [RpV] at r;obtain ⟨a0,its0,rfl,r,rs⟩:=r
  rw [dep] at hd
  have hu : A.units < cLine:=by omega
  cases e <;> simp only [RpV] at q
  ·subst q;rw [pyEq];exact EqAt.tuple_none r hu;all_goals simp
  ·subst q;rw [pyEq];exact EqAt.tuple_bool _ r hu;all_goals simp
  ·obtain ⟨t,rfl⟩:=q;rw [pyEq];exact EqAt.tuple_int _ _ r hu;all_goals simp
  ·obtain ⟨t,rfl⟩:=q;rw [pyEq];exact EqAt.tuple_str _ _ r hu;all_goals simp
  ·rename_i es
   obtain ⟨a,its,rfl,q,qs⟩:=q
   rw [dep] at he
   have l1:=rs.length
   have l2:=qs.length
   rw [pyEq]
   have items : ∀ j (h1 : j < its0.toArray.size) (h2 : j < its.toArray.size),EqAt A.in1 s its0.toArray[j] its.toArray[j] (pyEq (ds.getD j .non) (es.getD j .non)):=fun j h1 h2 => by
    have k1 : j < ds.length:=by simp at h1;omega
    have k2 : j < es.length:=by simp at h2;omega
    have e1 : ds.getD j .non = ds[j]:=by simp [k1]
    have e2 : es.getD j .non = es[j]:=by simp [k2]
    rw [e1,e2]
    have w1:=deps_le k1
    have w2:=deps_le k2
    have hin : A.in1.units = A.units + 1:=rfl
    exact eqAt_D ds[j] es[j] (RpVs.get k1 (by omega) rs) (RpVs.get k2 (by omega) qs) (by omega) (by omega)
   by_cases hab : a0 = a
   ·subst hab
    have ei : its0 = its:=by
     obtain ⟨o,ho,_,n,hd1⟩:=r
     obtain ⟨o',ho',_,n',hd2⟩:=q
     rw [ho] at ho';cases ho'
     rw [hd1] at hd2
     injection hd2 with z _
     simpa using z
    subst ei
    have hQ : pyEqs ds es = true:=by
     exact pyEqs_same ds es rs qs
    rw [hQ]
    exact EqAt.same _
   ·refine EqAt.of_refs hab ?_
    have rc:=RcAt.tuples (e:=fun j => pyEq (ds.getD j .non) (es.getD j .non)) r q hu items
    rw [pyEqs_all,l1,l2]
    simpa using rc
  ·obtain ⟨a,its,rfl,q,_⟩:=q;rw [pyEq];exact EqAt.tuple_list r q hu;all_goals simp
 | .lst ds,e,A,s,u,v,r,q,hd,he => by
  rw [RpV] at r;obtain ⟨a0,its0,rfl,r,rs⟩:=r
  rw [dep] at hd
  have hu : A.units < cLine:=by omega
  cases e <;> simp only [RpV] at q
  ·subst q;rw [pyEq];exact EqAt.list_none r hu;all_goals simp
  ·subst q;rw [pyEq];exact EqAt.list_bool _ r hu;all_goals simp
  ·obtain ⟨t,rfl⟩:=q;rw [pyEq];exact EqAt.list_int _ _ r hu;all_goals simp
  ·obtain ⟨t,rfl⟩:=q;rw [pyEq];exact EqAt.list_str _ _ r hu;all_goals simp
  ·obtain ⟨a,its,rfl,q,_⟩:=q;rw [pyEq];exact EqAt.list_tuple r q hu;all_goals simp
  ·rename_i es
   obtain ⟨a,its,rfl,q,qs⟩:=q
   rw [dep] at he
   have l1:=rs.length
   have l2:=qs.length
   rw [pyEq]
   have items : ∀ j (h1 : j < its0.toArray.size) (h2 : j < its.toArray.size),EqAt A.in1 s its0.toArray[j] its.toArray[j] (pyEq (ds.getD j .non) (es.getD j .non)):=fun j h1 h2 => by
    have k1 : j < ds.length:=by simp at h1;omega
    have k2 : j < es.length:=by simp at h2;omega
    have e1 : ds.getD j .non = ds[j]:=by simp [k1]
    have e2 : es.getD j .non = es[j]:=by simp [k2]
    rw [e1,e2]
    have w1:=deps_le k1
    have w2:=deps_le k2
    have hin : A.in1.units = A.units + 1:=rfl
    exact eqAt_D ds[j] es[j] (RpVs.get k1 (by omega) rs) (RpVs.get k2 (by omega) qs) (by omega) (by omega)
   by_cases hab : a0 = a
   ·subst hab
    have ei : its0 = its:=by
     obtain ⟨o,ho,_,n,hd1⟩:=r
     obtain ⟨o',ho',_,n',hd2⟩:=q
     rw [ho] at ho';cases ho'
     rw [hd1] at hd2
     injection hd2 with z _
     simpa using z
    subst ei
    rw [pyEqs_same ds es rs qs]
    exact EqAt.same _
   ·refine EqAt.of_refs hab ?_
    rw [pyEqs_all]
    by_cases hs : ds.length = es.length
    ·have rc:=RcAt.lists (e:=fun j => pyEq (ds.getD j .non) (es.getD j .non)) r q (by simp;omega) hu items
     have e1 : min ds.length es.length = its0.toArray.size:=by simp;omega
     rw [e1]
     simpa [hs] using rc
    ·have rc:=RcAt.lists_lengths r q (by simp;omega) hu
     have e0 : (ds.length == es.length) = false:=by simpa using hs
     rw [e0,Bool.and_false]
     exact rc
 | .dct ks vs,e,A,s,u,v,r,q,hd,he => by rw [RpV] at r;exact r.elim
termination_by d => sizeOf d
decreasing_by
 all_goals
  have:=List.sizeOf_lt_of_mem (List.getElem_mem (by assumption : j < ds.length))
  simp only [D.tup.sizeOf_spec,D.lst.sizeOf_spec]
  omega
theorem rcAt_D : ∀ (d e : D) {A : Around} {s : Shared} {u v : Value},RpV s.heap d u→RpV s.heap e v→A.units + dep d < cLine→A.units + dep e < cLine→RcAt A s u v (pyEq d e)
 | .non,e,A,s,u,v,r,q,hd,he => by
  rw [RpV] at r;subst r
  have hu : A.units < cLine:=by omega
  cases e <;> simp only [RpV] at q
  ·subst q;rw [pyEq];exact RcAt.none_none
  ·subst q;rw [pyEq];exact RcAt.none_bool _;all_goals simp
  ·obtain ⟨t,rfl⟩:=q;rw [pyEq];exact RcAt.none_int _ _;all_goals simp
  ·obtain ⟨t,rfl⟩:=q;rw [pyEq];exact RcAt.none_str _ _;all_goals simp
  ·obtain ⟨a,its,rfl,q,qs⟩:=q;rw [pyEq];exact RcAt.none_tuple q hu;all_goals simp
  ·obtain ⟨a,its,rfl,q,qs⟩:=q;rw [pyEq];exact RcAt.none_list q hu;all_goals simp
 | .bl b,e,A,s,u,v,r,q,hd,he => by
  rw [RpV] at r;subst r
  have hu : A.units < cLine:=by omega
  cases e <;> simp only [RpV] at q
  ·subst q;rw [pyEq];exact RcAt.bool_none _;all_goals simp
  ·subst q;rw [pyEq];exact RcAt.bool_bool _ _
  ·obtain ⟨t,rfl⟩:=q;rw [pyEq];exact RcAt.bool_int _ _ _
  ·obtain ⟨t,rfl⟩:=q;rw [pyEq];exact RcAt.bool_str _ _ _;all_goals simp
  ·obtain ⟨a,its,rfl,q,qs⟩:=q;rw [pyEq];exact RcAt.bool_tuple _ q hu;all_goals simp
  ·obtain ⟨a,its,rfl,q,qs⟩:=q;rw [pyEq];exact RcAt.bool_list _ q hu;all_goals simp
 | .int b,e,A,s,u,v,r,q,hd,he => by
  rw [RpV] at r;obtain ⟨t0,rfl⟩:=r
  have hu : A.units < cLine:=by omega
  cases e <;> simp only [RpV] at q
  ·subst q;rw [pyEq];exact RcAt.int_none _ _;all_goals simp
  ·subst q;rw [pyEq];exact RcAt.int_bool _ _ _
  ·obtain ⟨t,rfl⟩:=q;rw [pyEq];exact RcAt.int_int _ _ _ _
  ·obtain ⟨t,rfl⟩:=q;rw [pyEq];exact RcAt.int_str _ _ _ _;all_goals simp
  ·obtain ⟨a,its,rfl,q,qs⟩:=q;rw [pyEq];exact RcAt.int_tuple _ _ q hu;all_goals simp
  ·obtain ⟨a,its,rfl,q,qs⟩:=q;rw [pyEq];exact RcAt.int_list _ _ q hu;all_goals simp
 | .str b,e,A,s,u,v,r,q,hd,he => by
  rw [RpV] at r;obtain ⟨t0,rfl⟩:=r
  have hu : A.units < cLine:=by omega
  cases e <;> simp only [RpV] at q
  ·subst q;rw [pyEq];exact RcAt.str_none _ _;all_goals simp
  ·subst q;rw [pyEq];exact RcAt.str_bool _ _ _;all_goals simp
  ·obtain ⟨t,rfl⟩:=q;rw [pyEq];exact RcAt.str_int _ _ _ _;all_goals simp
  ·obtain ⟨t,rfl⟩:=q;rw [pyEq];exact RcAt.str_str _ _ _ _
  ·obtain ⟨a,its,rfl,q,qs⟩:=q;rw [pyEq];exact RcAt.str_tuple _ _ q hu;all_goals simp
  ·obtain ⟨a,its,rfl,q,qs⟩:=q;rw [pyEq];exact RcAt.str_list _ _ q hu;all_goals simp
 | .tup ds,e,A,s,u,v,r,q,hd,he => by
  rw [RpV] at r;obtain ⟨a0,its0,rfl,r,rs⟩:=r
  rw [dep] at hd
  have hu : A.units < cLine:=by omega
  cases e <;> simp only [RpV] at q
  ·subst q;rw [pyEq];exact RcAt.tuple_none r hu;all_goals simp
  ·subst q;rw [pyEq];exact RcAt.tuple_bool _ r hu;all_goals simp
  ·obtain ⟨t,rfl⟩:=q;rw [pyEq];exact RcAt.tuple_int _ _ r hu;all_goals simp
  ·obtain ⟨t,rfl⟩:=q;rw [pyEq];exact RcAt.tuple_str _ _ r hu;all_goals simp
  ·rename_i es
   obtain ⟨a,its,rfl,q,qs⟩:=q
   rw [dep] at he
   have l1:=rs.length
   have l2:=qs.length
   rw [pyEq]
   have items : ∀ j (h1 : j < its0.toArray.size) (h2 : j < its.toArray.size),EqAt A.in1 s its0.toArray[j] its.toArray[j] (pyEq (ds.getD j .non) (es.getD j .non)):=fun j h1 h2 => by
    have k1 : j < ds.length:=by simp at h1;omega
    have k2 : j < es.length:=by simp at h2;omega
    have e1 : ds.getD j .non = ds[j]:=by simp [k1]
    have e2 : es.getD j .non = es[j]:=by simp [k2]
    rw [e1,e2]
    have w1:=deps_le k1
    have w2:=deps_le k2
    have hin : A.in1.units = A.units + 1:=rfl
    exact eqAt_D ds[j] es[j] (RpVs.get k1 (by omega) rs) (RpVs.get k2 (by omega) qs) (by omega) (by omega)
   have rc:=RcAt.tuples (e:=fun j => pyEq (ds.getD j .non) (es.getD j .non)) r q hu items
   rw [pyEqs_all,l1,l2]
   simpa using rc
  ·obtain ⟨a,its,rfl,q,qs⟩:=q;rw [pyEq];exact RcAt.tuple_list r q hu;all_goals simp
 | .lst ds,e,A,s,u,v,r,q,hd,he => by
  rw [RpV] at r;obtain ⟨a0,its0,rfl,r,rs⟩:=r
  rw [dep] at hd
  have hu : A.units < cLine:=by omega
  cases e <;> simp only [RpV] at q
  ·subst q;rw [pyEq];exact RcAt.list_none r hu;all_goals simp
  ·subst q;rw [pyEq];exact RcAt.list_bool _ r hu;all_goals simp
  ·obtain ⟨t,rfl⟩:=q;rw [pyEq];exact RcAt.list_int _ _ r hu;all_goals simp
  ·obtain ⟨t,rfl⟩:=q;rw [pyEq];exact RcAt.list_str _ _ r hu;all_goals simp
  ·obtain ⟨a,its,rfl,q,qs⟩:=q;rw [pyEq];exact RcAt.list_tuple r q hu;all_goals simp
  ·rename_i es
   obtain ⟨a,its,rfl,q,qs⟩:=q
   rw [dep] at he
   have l1:=rs.length
   have l2:=qs.length
   rw [pyEq]
   have items : ∀ j (h1 : j < its0.toArray.size) (h2 : j < its.toArray.size),EqAt A.in1 s its0.toArray[j] its.toArray[j] (pyEq (ds.getD j .non) (es.getD j .non)):=fun j h1 h2 => by
    have k1 : j < ds.length:=by simp at h1;omega
    have k2 : j < es.length:=by simp at h2;omega
    have e1 : ds.getD j .non = ds[j]:=by simp [k1]
    have e2 : es.getD j .non = es[j]:=by simp [k2]
    rw [e1,e2]
    have w1:=deps_le k1
    have w2:=deps_le k2
    have hin : A.in1.units = A.units + 1:=rfl
    exact eqAt_D ds[j] es[j] (RpVs.get k1 (by omega) rs) (RpVs.get k2 (by omega) qs) (by omega) (by omega)
   rw [pyEqs_all]
   by_cases hs : ds.length = es.length
   ·have rc:=RcAt.lists (e:=fun j => pyEq (ds.getD j .non) (es.getD j .non)) r q (by simp;omega) hu items
    have e1 : min ds.length es.length = its0.toArray.size:=by simp;omega
    rw [e1]
    simpa [hs] using rc
   ·have rc:=RcAt.lists_lengths r q (by simp;omega) hu
    have e0 : (ds.length == es.length) = false:=by simpa using hs
    rw [e0,Bool.and_false]
    exact rc
 | .dct ks vs,e,A,s,u,v,r,q,hd,he => by rw [RpV] at r;exact r.elim
theorem rneAt_D : ∀ (d e : D) {A : Around} {s : Shared} {u v : Value},RpV s.heap d u→RpV s.heap e v→A.units + dep d < cLine→A.units + dep e < cLine→RcNeAt A s u v (!pyEq d e)
 | .non,e,A,s,u,v,r,q,hd,he => by
  rw [RpV] at r;subst r
  have hu : A.units < cLine:=by omega
  cases e <;> simp only [RpV] at q
  ·subst q;rw [pyEq];exact RcNeAt.none_none
  ·subst q;rw [pyEq];exact RcNeAt.none_bool _;all_goals simp
  ·obtain ⟨t,rfl⟩:=q;rw [pyEq];exact RcNeAt.none_int _ _;all_goals simp
  ·obtain ⟨t,rfl⟩:=q;rw [pyEq];exact RcNeAt.none_str _ _;all_goals simp
  ·obtain ⟨a,its,rfl,q,qs⟩:=q;rw [pyEq];exact RcNeAt.none_tuple q hu;all_goals simp
  ·obtain ⟨a,its,rfl,q,qs⟩:=q;rw [pyEq];exact RcNeAt.none_list q hu;all_goals simp
 | .bl b,e,A,s,u,v,r,q,hd,he => by
  rw [RpV] at r;subst r
  have hu : A.units < cLine:=by omega
  cases e <;> simp only [RpV] at q
  ·subst q;rw [pyEq];exact RcNeAt.bool_none _;all_goals simp
  ·subst q;rw [pyEq];exact RcNeAt.bool_bool _ _
  ·obtain ⟨t,rfl⟩:=q;rw [pyEq];exact RcNeAt.bool_int _ _ _
  ·obtain ⟨t,rfl⟩:=q;rw [pyEq];exact RcNeAt.bool_str _ _ _;all_goals simp
  ·obtain ⟨a,its,rfl,q,qs⟩:=q;rw [pyEq];exact RcNeAt.bool_tuple _ q hu;all_goals simp
  ·obtain ⟨a,its,rfl,q,qs⟩:=q;rw [pyEq];exact RcNeAt.bool_list _ q hu;all_goals simp
 | .int b,e,A,s,u,v,r,q,hd,he => by
  rw [RpV] at r;obtain ⟨t0,rfl⟩:=r
  have hu : A.units < cLine:=by omega
  cases e <;> simp only [RpV] at q
  ·subst q;rw [pyEq];exact RcNeAt.int_none _ _;all_goals simp
  ·subst q;rw [pyEq];exact RcNeAt.int_bool _ _ _
  ·obtain ⟨t,rfl⟩:=q;rw [pyEq];exact RcNeAt.int_int _ _ _ _
  ·obtain ⟨t,rfl⟩:=q;rw [pyEq];exact RcNeAt.int_str _ _ _ _;all_goals simp
  ·obtain ⟨a,its,rfl,q,qs⟩:=q;rw [pyEq];exact RcNeAt.int_tuple _ _ q hu;all_goals simp
  ·obtain ⟨a,its,rfl,q,qs⟩:=q;rw [pyEq];exact RcNeAt.int_list _ _ q hu;all_goals simp
 | .str b,e,A,s,u,v,r,q,hd,he => by
  rw [RpV] at r;obtain ⟨t0,rfl⟩:=r
  have hu : A.units < cLine:=by omega
  cases e <;> simp only [RpV] at q
  ·subst q;rw [pyEq];exact RcNeAt.str_none _ _;all_goals simp
  ·subst q;rw [pyEq];exact RcNeAt.str_bool _ _ _;all_goals simp
  ·obtain ⟨t,rfl⟩:=q;rw [pyEq];exact RcNeAt.str_int _ _ _ _;all_goals simp
  ·obtain ⟨t,rfl⟩:=q;rw [pyEq];exact RcNeAt.str_str _ _ _ _
  ·obtain ⟨a,its,rfl,q,qs⟩:=q;rw [pyEq];exact RcNeAt.str_tuple _ _ q hu;all_goals simp
  ·obtain ⟨a,its,rfl,q,qs⟩:=q;rw [pyEq];exact RcNeAt.str_list _ _ q hu;all_goals simp
 | .tup ds,e,A,s,u,v,r,q,hd,he => by
  rw [RpV] at r;obtain ⟨a0,its0,rfl,r,rs⟩:=r
  rw [dep] at hd
  have hu : A.units < cLine:=by omega
  cases e <;> simp only [RpV] at q
  ·subst q;rw [pyEq];exact RcNeAt.tuple_none r hu;all_goals simp
  ·subst q;rw [pyEq];exact RcNeAt.tuple_bool _ r hu;all_goals simp
  ·obtain ⟨t,rfl⟩:=q;rw [pyEq];exact RcNeAt.tuple_int _ _ r hu;all_goals simp
  ·obtain ⟨t,rfl⟩:=q;rw [pyEq];exact RcNeAt.tuple_str _ _ r hu;all_goals simp
  ·rename_i es
   obtain ⟨a,its,rfl,q,qs⟩:=q
   rw [dep] at he
   have l1:=rs.length
   have l2:=qs.length
   rw [pyEq]
   have items : ∀ j (h1 : j < its0.toArray.size) (h2 : j < its.toArray.size),EqAt A.in1 s its0.toArray[j] its.toArray[j] (pyEq (ds.getD j .non) (es.getD j .non)):=fun j h1 h2 => by
    have k1 : j < ds.length:=by simp at h1;omega
    have k2 : j < es.length:=by simp at h2;omega
    have e1 : ds.getD j .non = ds[j]:=by simp [k1]
    have e2 : es.getD j .non = es[j]:=by simp [k2]
    rw [e1,e2]
    have w1:=deps_le k1
    have w2:=deps_le k2
    have hin : A.in1.units = A.units + 1:=rfl
    exact eqAt_D ds[j] es[j] (RpVs.get k1 (by omega) rs) (RpVs.get k2 (by omega) qs) (by omega) (by omega)
   have rc:=RcNeAt.tuples (e:=fun j => pyEq (ds.getD j .non) (es.getD j .non)) r q hu items
   rw [pyEqs_all,l1,l2]
   simpa using rc
  ·obtain ⟨a,its,rfl,q,qs⟩:=q;rw [pyEq];exact RcNeAt.tuple_list r q hu;all_goals simp
 | .lst ds,e,A,s,u,v,r,q,hd,he => by
  rw [RpV] at r;obtain ⟨a0,its0,rfl,r,rs⟩:=r
  rw [dep] at hd
  have hu : A.units < cLine:=by omega
  cases e <;> simp only [RpV] at q
  ·subst q;rw [pyEq];exact RcNeAt.list_none r hu;all_goals simp
  ·subst q;rw [pyEq];exact RcNeAt.list_bool _ r hu;all_goals simp
  ·obtain ⟨t,rfl⟩:=q;rw [pyEq];exact RcNeAt.list_int _ _ r hu;all_goals simp
  ·obtain ⟨t,rfl⟩:=q;rw [pyEq];exact RcNeAt.list_str _ _ r hu;all_goals simp
  ·obtain ⟨a,its,rfl,q,qs⟩:=q;rw [pyEq];exact RcNeAt.list_tuple r q hu;all_goals simp
  ·rename_i es
   obtain ⟨a,its,rfl,q,qs⟩:=q
   rw [dep] at he
   have l1:=rs.length
   have l2:=qs.length
   rw [pyEq]
   have items : ∀ j (h1 : j < its0.toArray.size) (h2 : j < its.toArray.size),EqAt A.in1 s its0.toArray[j] its.toArray[j] (pyEq (ds.getD j .non) (es.getD j .non)):=fun j h1 h2 => by
    have k1 : j < ds.length:=by simp at h1;omega
    have k2 : j < es.length:=by simp at h2;omega
    have e1 : ds.getD j .non = ds[j]:=by simp [k1]
    have e2 : es.getD j .non = es[j]:=by simp [k2]
    rw [e1,e2]
    have w1:=deps_le k1
    have w2:=deps_le k2
    have hin : A.in1.units = A.units + 1:=rfl
    exact eqAt_D ds[j] es[j] (RpVs.get k1 (by omega) rs) (RpVs.get k2 (by omega) qs) (by omega) (by omega)
   rw [pyEqs_all]
   by_cases hs : ds.length = es.length
   ·have rc:=RcNeAt.lists (e:=fun j => pyEq (ds.getD j .non) (es.getD j .non)) r q (by simp;omega) hu items
    have e1 : min ds.length es.length = its0.toArray.size:=by simp;omega
    rw [e1]
    simpa [hs] using rc
   ·have rc:=RcNeAt.lists_lengths r q (by simp;omega) hu
    have e0 : (ds.length == es.length) = false:=by simpa using hs
    rw [e0,Bool.and_false]
    exact rc
 | .dct ks vs,e,A,s,u,v,r,q,hd,he => by rw [RpV] at r;exact r.elim
end
end Mi
namespace Mi
open PySem L2 PyProof.Rows
mutual
noncomputable def hashD (w : World) : D→Int
 | .int i => hashInt i
 | .str x => hashStr w x
 | .tup ds => reduceHash (Builtin.Tuple.tupleHashOf (hashDs w ds))
 | _ => 0
noncomputable def hashDs (w : World) : List D→List Int
 | [] => []
 | d :: ds => hashD w d :: hashDs w ds
end
mutual
noncomputable def drawsD : D→Nat
 | .int _ => 1
 | .str _ => 1
 | .tup ds => drawsDs ds + 1
 | _ => 0
noncomputable def drawsDs : List D→Nat
 | [] => 0
 | d :: ds => drawsD d + drawsDs ds
end
mutual
noncomputable def keyOk : D→Bool
 | .int _ => true
 | .str _ => true
 | .tup ds => keyOks ds
 | _ => false
noncomputable def keyOks : List D→Bool
 | [] => true
 | d :: ds => keyOk d && keyOks ds
end
mutual
theorem pyEq_key : ∀ {d e : D},keyOk d = true→keyOk e = true→pyEq d e = decide (d = e)
 | .non,e,h,_ => by simp [keyOk] at h
 | .bl _,e,h,_ => by simp [keyOk] at h
 | .int a,e,h,g => by cases e <;> simp [keyOk] at g <;> simp [pyEq];rw [Bool.eq_iff_iff];simp
 | .str a,e,h,g => by cases e <;> simp [keyOk] at g <;> simp [pyEq];rw [Bool.eq_iff_iff];simp
 | .tup ds,e,h,g => by
  cases e <;> simp [keyOk] at g <;> simp [pyEq]
  exact pyEqs_key (by simpa [keyOk] using h) g
 | .lst _,e,h,_ => by simp [keyOk] at h
 | .dct _ _,e,h,_ => by simp [keyOk] at h
theorem pyEqs_key : ∀ {ds es : List D},keyOks ds = true→keyOks es = true→pyEqs ds es = decide (ds = es)
 | [],es,h,g => by cases es <;> simp [pyEqs]
 | d :: ds,[],h,g => by simp [pyEqs]
 | d :: ds,e :: es,h,g => by
  rw [keyOks,Bool.and_eq_true] at h g
  rw [pyEqs,pyEq_key h.1 g.1,pyEqs_key h.2 g.2]
  rw [Bool.eq_iff_iff];simp
end
theorem hashDs_append (w : World) : ∀ (a b : List D),hashDs w (a++b) = hashDs w a++hashDs w b
 | [],b => rfl
 | d :: ds,b => by rw [List.cons_append,hashDs,hashDs,hashDs_append w ds b,List.cons_append]
theorem drawsDs_append : ∀ (a b : List D),drawsDs (a++b) = drawsDs a + drawsDs b
 | [],b => by simp [drawsDs]
 | d :: ds,b => by rw [List.cons_append,drawsDs,drawsDs,drawsDs_append ds b];omega
theorem keyOks_append : ∀ (a b : List D),keyOks (a++b) = (keyOks a && keyOks b)
 | [],b => by simp [keyOks]
 | d :: ds,b => by rw [List.cons_append,keyOks,keyOks,keyOks_append ds b,Bool.and_assoc]
theorem hash_D {P : Program} {w : World} : ∀ (d : D) {A : Around} {E : Value→Shared→Prop} {s : Shared} {u : Value} {Q : Int→Shared→Prop},keyOk d = true→RpV s.heap d u→A.units + dep d < cLine →
  Q (hashD w d) { s with toks:=s.toks + drawsD d }→wpAny (model P w) A (pyHash u) Q E s
 | .non,A,E,s,u,Q,hk,r,hu,h => by simp [keyOk] at hk
 | .bl _,A,E,s,u,Q,hk,r,hu,h => by simp [keyOk] at hk
 | .int i,A,E,s,u,Q,hk,r,hu,h => by
  rw [RpV] at r;obtain ⟨t,rfl⟩:=r
  rw [hashD,drawsD] at h
  exact wpAny_pyHash_int h
 | .str x,A,E,s,u,Q,hk,r,hu,h => by
  rw [RpV] at r;obtain ⟨t,rfl⟩:=r
  rw [hashD,drawsD] at h
  exact wpAny_pyHash_str h
 | .lst _,A,E,s,u,Q,hk,r,hu,h => by simp [keyOk] at hk
 | .dct _ _,A,E,s,u,Q,hk,r,hu,h => by simp [keyOk] at hk
 | .tup ks,A,E,s,u,Q,hk,r,hu,h => by
  rw [RpV] at r
  obtain ⟨a,its,rfl,⟨o,ho,hc,n,hd⟩,hi⟩:=r
  rw [keyOk] at hk
  rw [hashD,drawsD] at h
  rw [dep] at hu
  have hT : s.TypeIs (.ref a) "tuple":=⟨o, ho, hc⟩
  unfold pyHash
  first | unfold pyHashByItsType | skip
  first | refine wpAny_bind (wpAny_cRoomFor_or (.inr (by omega)) ?_) | skip
  refine wpAny_bind (wpAny_specialOf hT F.slot_tuple_hash.lookup ?_)
  show wpAny _ _ (if (some (Value.builtin "tuple.__hash__") == some Value.none) = true then _ else _) Q E s
  rw [if_neg (by rw [beq_builtin_none];exact Bool.false_ne_true)]
  refine wpAny_bind (wpAny_specialOf hT F.slot_tuple_hash.lookup ?_)
  show wpAny _ _ (callSpecialIfBoundUnlessNone? (.ref a) "__hash__" _ >>= _) Q E s
  refine wpAny_bind (wpAny_callSpecialIfBoundUnlessNone?_slot hT F.slot_tuple_hash (wpAny_call_entry F.slot_tuple_hash hT F.entry_tuple_hash ?_ (F.args_tuple_hash_1 _)))
  show wpAny _ _ (Builtin.Tuple.tupleItemsOf (.ref a) >>= _) _ _ s
  refine wpAny_bind (wpAny_tupleItemsOf ho hd ?_)
  refine wpAny_bind ?_
  rw [← Array.forIn_toList]
  refine wpAny_forIn_list _
   (fun rest (b : Array Int) s' => ∃ done left,ks = done++left∧RpVs s.heap left rest∧b.toList = hashDs w done∧s' = { s with toks:=s.toks + drawsDs done })
   _ ?_ ?_ _ _ ⟨[],ks,rfl,by simpa using hi,rfl,rfl⟩
  ·rintro x rest b s' ⟨done,left,hks,hl,hb,rfl⟩
   cases left with
   | nil => rw [RpVs] at hl;cases hl
   | cons k ks' =>
    rw [RpVs] at hl
    obtain ⟨y,ys,z,h1,hl'⟩:=hl
    cases z
    have hmem : k∈ks:=by rw [hks];simp
    have hlt:=List.sizeOf_lt_of_mem hmem
    have hko : keyOk k = true:=by
     rw [hks,keyOks_append,keyOks] at hk
     simp at hk
     exact hk.2.1
    have hdep : dep k≤deps ks:=by
     obtain ⟨i,hi2,e⟩:=List.getElem_of_mem hmem
     rw [← e];exact deps_le hi2
    refine wpAny_bind (hash_D k (s:={ s with toks:=s.toks + drawsDs done }) hko h1 (by first | (show A.in1.units + dep k < cLine;show A.units + 1 + dep k < cLine;omega) | (show A.in1.in1.units + dep k < cLine;show A.units + 1 + 1 + dep k < cLine;omega)) ?_)
    first
     | exact wpAny_pure ⟨done++[k],ks',by simp [hks],hl',by simp [hb,hashDs_append,hashDs],by simp [drawsDs_append,drawsDs,Nat.add_assoc]⟩
     | exact wpAny_bind (wpAny_pure (wpAny_pure ⟨done++[k],ks',by simp [hks],hl',by simp [hb,hashDs_append,hashDs],by simp [drawsDs_append,drawsDs,Nat.add_assoc]⟩))
  ·rintro b s' ⟨done,left,hks,hl,hb,rfl⟩
   cases left with
   | cons k ks' => rw [RpVs] at hl;obtain ⟨y,ys,z,_⟩:=hl;cases z
   | nil =>
    rw [List.append_nil] at hks
    subst hks
    show wpAny _ _ (retInt (Builtin.Tuple.tupleHashOf b.toList)) _ _ _
    rw [hb]
    refine wpAny_ret_mkInt ?_
    show wpAny _ _ (if (decide (-(2 : Int) ^ 63≤Builtin.Tuple.tupleHashOf (hashDs w ks)) && decide (Builtin.Tuple.tupleHashOf (hashDs w ks) < 2 ^ 63)) = true then _ else _) Q E _
    unfold reduceHash at h
    by_cases hr : (decide (-(2 : Int) ^ 63≤Builtin.Tuple.tupleHashOf (hashDs w ks)) && decide (Builtin.Tuple.tupleHashOf (hashDs w ks) < 2 ^ 63)) = true
    ·rw [if_pos hr]
     rw [if_pos hr] at h
     exact wpAny_pure (by simpa [Nat.add_assoc] using h)
    ·rw [if_neg hr]
     rw [if_neg hr] at h
     exact wpAny_bind (wpAny_rule (wpAny_pure (by simpa [Nat.add_assoc] using h)))
termination_by d => sizeOf d
decreasing_by
 simp only [D.tup.sizeOf_spec]
 omega
theorem quiet_D {P : Program} {w : World} : ∀ (m : Nat) (d : D) {A : Around} {E : Value→Shared→Prop} {s : Shared} {u : Value} {Q : Bool→Shared→Prop},keyOk d = true→dep d≤m→RpV s.heap d u→Q true s →
  wpAny (model P w) A (eqIsQuiet m u) Q E s:=by
 intro m
 induction m with
 | zero =>
  intro d A E s u Q hk hm r h
  cases d <;> simp [keyOk,dep] at hk hm
  ·rw [RpV] at r;obtain ⟨t,rfl⟩:=r
   rw [eqIsQuiet_byValue _ (by rfl)];exact wpAny_pure h
  ·rw [RpV] at r;obtain ⟨t,rfl⟩:=r
   rw [eqIsQuiet_byValue _ (by rfl)];exact wpAny_pure h
 | succ m ih =>
  intro d A E s u Q hk hm r h
  cases d with
  | non => simp [keyOk] at hk
  | bl _ => simp [keyOk] at hk
  | lst _ => simp [keyOk] at hk
  | dct _ _ => simp [keyOk] at hk
  | int _ =>
   rw [RpV] at r;obtain ⟨t,rfl⟩:=r
   rw [eqIsQuiet_byValue _ (by rfl)];exact wpAny_pure h
  | str _ =>
   rw [RpV] at r;obtain ⟨t,rfl⟩:=r
   rw [eqIsQuiet_byValue _ (by rfl)];exact wpAny_pure h
  | tup ks =>
   rw [RpV] at r
   obtain ⟨a,its,rfl,⟨o,ho,hc,n,hd⟩,hi⟩:=r
   rw [keyOk] at hk
   rw [dep] at hm
   have hT : s.TypeIs (.ref a) "tuple":=⟨o, ho, hc⟩
   unfold eqIsQuiet
   refine wpAny_bind (wpAny_specialOf hT F.slot_tuple_eq.lookup ?_)
   show wpAny _ _ (isInstance (.ref a) (.type "tuple") >>= _) _ _ s
   refine wpAny_bind (wpAny_isInstance hT isSubtype_tuple_tuple ?_)
   simp only [Bool.not_true,Bool.false_eq_true,if_false]
   refine wpAny_bind (wpAny_seqItems ho hd ?_)
   refine wpAny_bind ?_
   show wpAny _ _ (forIn its.toArray _ _) _ _ s
   rw [← Array.forIn_toList]
   refine wpAny_forIn_list _ (fun rest r s' => r.1 = none∧s' = s∧∃ left,RpVs s.heap left rest∧keyOks left = true∧deps left≤m) _ ?_ ?_ _ _ ⟨rfl,rfl,ks,by simpa using hi,hk,by omega⟩
   ·rintro v rest r s' ⟨hr,rfl,left,hl,hok,hdp⟩
    cases left with
    | nil => rw [RpVs] at hl;cases hl
    | cons k ks' =>
     rw [RpVs] at hl
     obtain ⟨y,ys,z,h1,hl'⟩:=hl
     cases z
     rw [keyOks,Bool.and_eq_true] at hok
     rw [deps] at hdp
     refine wpAny_bind (ih k hok.1 (by omega) h1 ?_)
     simp only [Bool.not_true,Bool.false_eq_true,if_false]
     exact wpAny_pure ⟨rfl,rfl,ks',hl',hok.2,by omega⟩
   ·rintro ⟨r1,r2⟩ s' ⟨hr,rfl,_⟩
    simp only at hr
    subst hr
    exact wpAny_pure h
mutual
theorem RpV.keep {h h' : Heap} : ∀ {d : D} {u : Value},(∀ a o,h.get? a = some o→(∀ es ep,o.data≠.dict es ep)→h'.get? a = some o)→RpV h d u→RpV h' d u
 | .non,u,k,r => by rw [RpV] at r ⊢;exact r
 | .bl _,u,k,r => by rw [RpV] at r ⊢;exact r
 | .int _,u,k,r => by rw [RpV] at r ⊢;exact r
 | .str _,u,k,r => by rw [RpV] at r ⊢;exact r
 | .tup ds,u,k,r => by
  rw [RpV] at r ⊢
  obtain ⟨a,its,rfl,⟨o,ho,hc,n,hd⟩,rs⟩:=r
  exact ⟨a,its,rfl,⟨o,k a o ho (by intro es ep z;rw [hd] at z;cases z),hc,n,hd⟩,RpVs.keep k rs⟩
 | .lst ds,u,k,r => by
  rw [RpV] at r ⊢
  obtain ⟨a,its,rfl,⟨o,ho,hc,n,hd⟩,rs⟩:=r
  exact ⟨a,its,rfl,⟨o,k a o ho (by intro es ep z;rw [hd] at z;cases z),hc,n,hd⟩,RpVs.keep k rs⟩
 | .dct _ _,u,k,r => by rw [RpV] at r;exact r.elim
theorem RpVs.keep {h h' : Heap} : ∀ {ds : List D} {us : List Value},(∀ a o,h.get? a = some o→(∀ es ep,o.data≠.dict es ep)→h'.get? a = some o)→RpVs h ds us→RpVs h' ds us
 | [],us,k,r => by rw [RpVs] at r ⊢;exact r
 | d :: ds,us,k,r => by
  rw [RpVs] at r ⊢
  obtain ⟨y,ys,rfl,r0,rs⟩:=r
  exact ⟨y,ys,rfl,RpV.keep k r0,RpVs.keep k rs⟩
end
noncomputable def IsKey (h : Heap) (d : D) (a : Addr) : Prop:=keyOk d = true∧dep d≤6∧RpV h d (.ref a)
noncomputable def deepKind (P : Program) (w : World) : HeapKind P w D where
 is:=IsKey
 hash:=hashD w
 draws:=drawsD
 room:=fun A => A.units + 10 < cLine
 inj:=fun hx hy => RpV.inj hx.2.2 hy.2.2
 keeps:=fun x ho hd hs => ⟨x.1,x.2.1,x.2.2.keep fun b ob hb hnd => (hs.2 b (by
  rintro rfl
  rw [ho] at hb;cases hb
  exact hnd _ _ hd)).trans hb⟩
 pyHash:=fun hu hk h => hash_D _ hk.1 hk.2.2 (by have:=hk.2.1;omega) h
 eqBool:=fun hu hx hy h => by
  have e:=pyEq_key hx.1 hy.1
  exact eqAt_D _ _ hx.2.2 hy.2.2 (by have:=hx.2.1;omega) (by have:=hy.2.1;omega) _ _ _ _ (by rw [e];exact h)
 quiet:=fun hk h => quiet_D 8 _ hk.1 (by have:=hk.2.1;omega) hk.2.2 h
end Mi
namespace L2
open PySem PySem.Spec PyProof.Rows
section
variable {X : Cx}
theorem vals_strs : ∀ {ts : List Str} {us : List Value},Vals (ts.map V.str) us→∃ l : List (Str × Tok),us = strValues l∧l.map (·.1) = ts
 | [],_,h => by cases h;exact ⟨[],rfl,rfl⟩
 | t :: ts,_,h => by
  cases h with
  | cons h1 h2 =>
   obtain ⟨k,rfl⟩:=h1
   obtain ⟨l,rfl,rfl⟩:=vals_strs h2
   exact ⟨(t,k) :: l,rfl,rfl⟩
theorem strs_vals : ∀ (l : List (Str × Tok)),Vals ((l.map (·.1)).map V.str) (strValues l)
 | [] => .nil
 | (t,k) :: l => .cons ⟨k,rfl⟩ (strs_vals l)
theorem mt_endswith : MtR X "str.endswith" (fun x xs H Q => ∃ z y, x = .str z ∧ xs = [.str y] ∧ Q (.bl (Txt.endswith z y)) H):=by
 intro pins s σ H x xs v us Q I rx rs h
 obtain ⟨z,y,rfl,rfl,q⟩:=h
 obtain ⟨t,rfl⟩:=rx
 obtain ⟨u,rfl,ry⟩:=vals1 rs
 obtain ⟨t',rfl⟩:=ry
 exact SC.endswith ⟨.bl _,H,I,rfl,q⟩
theorem split_new {pr : Program} {wd : World} {Ar : Around} {Ex : Value→Shared→Prop} {st : Shared} {z y : Str} {t u : Tok} {R : Value→Shared→Prop} (hy : (y.length == 0) = false) (h1 : z.length≤sizeLine)
  (h2 : (Txt.split z y).length≤sizeLine)
  (fin : ∀ l k, l.map (·.1) = Txt.split z y → R (.ref st.heap.objs.size) { st with heap:=st.heap.push { cls:=.type "list", data:=.seq (strValues l).toArray }, toks:=k }) :
  wpAny (model pr wd) Ar (call (.builtin "str.split") [.str z t, .str y u]) R Ex st:=by
 by_cases c1 : (decide (z.length < y.length) || decide (Builtin.Str.strKind z < Builtin.Str.strKind y)) = true
 ·refine call_meets F.slot_str_split (typeIs_str _ _ _) F.entry_str_split (F.args_str_split_2 _ _) (meets_str_split_cannot_occur z y t u c1) ?_
  exact fin [(z,t)] st.toks (if_pos c1).symm
 ·have c1':=Bool.eq_false_iff.mpr c1
  by_cases c2 : (Builtin.Str.occurrences z y 0 z.length (z.length + 1)).isEmpty = true
  ·refine call_meets F.slot_str_split (typeIs_str _ _ _) F.entry_str_split (F.args_str_split_2 _ _) (meets_str_split_not_found z y t u c1' hy c2) ?_
   exact fin [(z,t)] st.toks ((if_neg c1).trans (if_pos c2)).symm
  ·have c2':=Bool.eq_false_iff.mpr c2
   have e : Txt.split z y = Builtin.Str.partsBetween z (Builtin.Str.occurrences z y 0 z.length (z.length + 1)) y.length:=(if_neg c1).trans (if_neg c2)
   rw [e] at h2
   refine call_meets F.slot_str_split (typeIs_str _ _ _) F.entry_str_split (F.args_str_split_2 _ _) (meets_str_split_sep z y t u c1' hy c2' h1 h2) ?_
   have q:=fin (numbered st.toks _) (st.toks + (Builtin.Str.partsBetween z (Builtin.Str.occurrences z y 0 z.length (z.length + 1)) y.length).length) ((numbered_texts _ _).trans e.symm)
   rw [← strsFrom_eq] at q
   exact q
theorem mt_split : MtR X "str.split" (fun x xs H Q => ∃ z y, x = .str z ∧ xs = [.str y] ∧ (y.length == 0) = false ∧ z.length ≤ sizeLine ∧ (Txt.split z y).length ≤ sizeLine ∧
  ∀ l,H l = none→Q (.ref l) (upd H l (.lst ((Txt.split z y).map V.str)))):=by
 intro pins s σ H x xs v us Q I rx rs h
 obtain ⟨z,y,rfl,rfl,hy,h1,h3,q⟩:=h
 obtain ⟨t,rfl⟩:=rx
 obtain ⟨u,rfl,ry⟩:=vals1 rs
 obtain ⟨t',rfl⟩:=ry
 refine split_new hy h1 h3 fun l k hl => ?_
 refine ⟨.ref s.heap.objs.size,_,I.laid (t':=k) (fun b o e => Heap.get?_push_of_some _ e) (Nat.le_refl _) (show ObjOk X.prog X.w _ _ _ (.lst ((Txt.split z y).map V.str)) from ⟨by rw [List.length_map];exact h3,_,0,by rw [← hl];exact strs_vals l,Heap.get?_push_size _ rfl⟩),rfl,q _ (I.hok.fresh (Nat.le_refl _))⟩
theorem mt_join : MtR X "str.join" (fun x xs H Q => ∃ z p ts, x = .str z ∧ xs = [.ref p] ∧ SqL X.K H p (ts.map V.str) ∧ JoinOk z ts = true ∧ Q (.str (Txt.join z ts)) H):=by
 intro pins s σ H x xs v us Q I rx rs h
 obtain ⟨z,p,ts,rfl,rfl,hq,hok,q⟩:=h
 obtain ⟨t,rfl⟩:=rx
 obtain ⟨u,rfl,ry⟩:=vals1 rs
 cases ry
 obtain ⟨its,r',pl,hz⟩:=I.list hq
 obtain ⟨l,rfl,hl⟩:=vals_strs r'
 exact SC.join pl.isList hl hok fun t' k => ⟨.str _,H,I.tok _,⟨_,rfl⟩,q⟩
noncomputable def sliceS (z : Str) (lo hi : Option Int) : Str:=⟨((Builtin.Str.strSliceIndices lo hi 1 z.length).filterMap (z.cps[·]?)).toArray⟩
noncomputable def fmt2 (i : Int) (sep : Str) (k : Int) : Str:=Str.empty++Str.ofString (toString i)++sep++Str.ofString (toString k)
end
end L2
namespace Mi
open PySem L2 PyProof.Rows
structure Xc where
 cls : Str
 val : D
inductive R (α : Type) where
 | ok (a : α) | exc (x : Xc) | stuck
noncomputable def R.bind {α β : Type} : R α→(α→R β)→R β
 | .ok a,f => f a
 | .exc x,_ => .exc x
 | .stuck,_ => .stuck
noncomputable instance : Monad R where
 pure:=R.ok
 bind:=R.bind
@[simp] theorem qN {α β : Type} (a : α) (f : α→R β) : (R.ok a >>= f) = f a:=rfl
@[simp] theorem exc_bind {α β : Type} (x : Xc) (f : α→R β) : ((R.exc x : R α) >>= f) = .exc x:=rfl
@[simp] theorem stuck_bind {α β : Type} (f : α→R β) : ((R.stuck : R α) >>= f) = .stuck:=rfl
@[simp] theorem pure_ok {α : Type} (a : α) : (pure a : R α) = .ok a:=rfl
inductive BO where | add | sub | mul | mod | fdiv
inductive CO where | eq | ne | lt | le | gt | ge | in_ | notin
 deriving DecidableEq
inductive Ty where | int | bool | str | tuple | list
inductive BI where | len | min2 | max2 | all | any | sorted | list | tuple | listEnum | listRev | str | int
 deriving DecidableEq
inductive MT where | ends | split | join
inductive IK where | seq | rng | enum | zip | rev
inductive Tg where
 | one (i : Nat) | two (i j : Nat)
noncomputable abbrev En:=List (Option D)
noncomputable def lim : Nat:=100000
theorem lim_le : lim≤sizeLine:=by decide
noncomputable def addD : D→D→R D
 | .int a,.int b => .ok (.int (a + b))
 | .lst a,.lst b => if a.length + b.length≤lim then .ok (.lst (a++b)) else .stuck
 | .tup a,.tup b => if a.length + b.length≤lim then .ok (.tup (a++b)) else .stuck
 | .str a,.str b => if a.length + b.length≤lim then .ok (.str (a++b)) else .stuck
 | _,_ => .stuck
noncomputable def smallI : Int→Bool
 | .ofNat n => Nat.ble n 18446744073709551615
 | .negSucc n => Nat.ble n 18446744073709551614
noncomputable def binD : BO→D→D→R D
 | .add,a,b => addD a b
 | .sub,.int a,.int b => .ok (.int (a - b))
 | .mul,.int a,.int b => if smallI a || smallI b then .ok (.int (a * b)) else .stuck
 | .mul,.tup ds,.int k => if 2≤k∧k≤1000∧ds.length≤1000∧0 < ds.length then .ok (.tup (List.replicate k.toNat ds).flatten) else .stuck
 | .mod,.int a,.int b => if 0 < b then .ok (.int (a % b)) else .stuck
 | .fdiv,.int a,.int b => if 0 < b∧b < 1073741824 then .ok (.int (a / b)) else .stuck
 | _,_,_ => .stuck
noncomputable def flatEnough (a b : D) : Bool:=decide (dep a≤30) && decide (dep b≤30)
noncomputable def inD (x : D) (c : D) : R Bool:=match c with
 | .lst ds => if ds.all (fun d => flatEnough d x) && decide (dep x≤30) then .ok (ds.any fun d => pyEq d x) else .stuck
 | .tup ds => if ds.all (fun d => flatEnough d x) && decide (dep x≤30) then .ok (ds.any fun d => pyEq d x) else .stuck
 | .dct ks _ => if keyOk x && decide (dep x≤6) && (match x with | .tup _ => true | _ => false) then .ok (decide (x∈ks)) else .stuck
 | .str z => (match x with | .str w => .ok (!(Builtin.Str.occurrences z w 0 z.length 1).isEmpty) | _ => .stuck)
 | _ => .stuck
noncomputable def cmpD : CO→D→D→R Bool
 | .eq,a,b => if flatEnough a b then .ok (pyEq a b) else .stuck
 | .ne,a,b => if flatEnough a b then .ok (!pyEq a b) else .stuck
 | .lt,.int a,.int b => .ok (decide (a < b))
 | .le,.int a,.int b => .ok (decide (a≤b))
 | .gt,.int a,.int b => .ok (decide (b < a))
 | .ge,.int a,.int b => .ok (decide (b≤a))
 | .in_,a,b => inD a b
 | .notin,a,b => do let r ← inD a b;.ok (!r)
 | _,_,_ => .stuck
noncomputable def getKs : List D→List D→D→Option D
 | k' :: ks,v :: vs,k => if k' = k then some v else getKs ks vs k
 | _,_,_ => none
noncomputable def keyB (k : D) : Bool:=keyOk k && decide (dep k≤6) && (match k with | .tup _ => true | _ => false)
noncomputable def ixD : D→D→R D
 | .dct ks vs,k => if keyB k then (match getKs ks vs k with | some d => .ok d | none => .stuck) else .stuck
 | .lst ds,.int i => match ixN ds.length i with | some k => (match ds[k]? with | some d => .ok d | none => .stuck) | none => .stuck
 | .tup ds,.int i => match ixN ds.length i with | some k => (match ds[k]? with | some d => .ok d | none => .stuck) | none => .stuck
 | .str z,.int i => if z.length≤lim then (match atI z.cps.toList i with | some c => .ok (.str ⟨#[c]⟩) | none => .stuck) else .stuck
 | _,_ => .stuck
noncomputable def strsOf : List D→Option (List Str)
 | [] => some []
 | .str s :: ds => (strsOf ds).map (s :: ·)
 | _ => none
noncomputable def mthD : MT→D→D→R D
 | .ends,.str z,.str y => .ok (.bl (Txt.endswith z y))
 | .split,.str z,.str y => if y.length = 1∧z.length≤lim then .ok (.lst ((Txt.split z y).map .str)) else .stuck
 | .join,.str z,.lst ds => (match strsOf ds with | some ts => if (ts.map (·.length)).sum + ts.length * z.length≤lim then .ok (.str (Txt.join z ts)) else .stuck | none => .stuck)
 | _,_,_ => .stuck
noncomputable def fmtD (sep : Str) : D→D→R D
 | .int i,.int k => if smallI i && smallI k && decide ((fmt2 i sep k).length≤lim) then .ok (.str (fmt2 i sep k)) else .stuck
 | _,_ => .stuck
noncomputable def strD : D→R D
 | .int i => if smallI i then .ok (.str (Str.ofString (toString i))) else .stuck
 | _ => .stuck
noncomputable def intD : D→R D
 | .str z => if z.length≤640 then (match PySem.intText? z with | some n => .ok (.int n) | none => .stuck) else .stuck
 | _ => .stuck
noncomputable def seqOf : D→R (List D)
 | .lst ds => .ok ds
 | .tup ds => .ok ds
 | .dct ks _ => .ok ks
 | _ => .stuck
noncomputable def enumFrom' (n : Nat) : List D→List D
 | [] => []
 | d :: ds => .tup [.int n,d] :: enumFrom' (n + 1) ds
noncomputable def zipD : List D→List D→List D
 | a :: as,b :: bs => .tup [a,b] :: zipD as bs
 | _,_ => []
noncomputable def itemsOf : IK→List D→R (List D)
 | .seq,[.lst ds] => .ok ds
 | .seq,[.tup ds] => .ok ds
 | .enum,[.tup ds] => .ok (enumFrom' 0 ds)
 | .enum,[.lst ds] => .ok (enumFrom' 0 ds)
 | .zip,[.tup as,.tup bs] => .ok (zipD as bs)
 | .rev,[.lst ds] => .ok ds.reverse
 | .rng,[.int a,.int b,.int c] => if c = -1∧-(lim : Int)≤a∧a≤lim∧-(lim : Int)≤b∧b≤lim then .ok ((List.range (a - b).toNat).map fun (k : Nat) => D.int (a - (k : Int))) else .stuck
 | .rng,[.int n] => if -(lim : Int)≤n∧n≤lim then .ok ((List.range n.toNat).map fun (k : Nat) => D.int (k : Int)) else .stuck
 | .rng,[.int a,.int b] => if -(lim : Int)≤a∧a≤lim∧-(lim : Int)≤b∧b≤lim then .ok ((List.range (b - a).toNat).map fun (k : Nat) => D.int (a + (k : Int))) else .stuck
 | _,_ => .stuck
noncomputable def boolsOf : List D→Option (List Bool)
 | [] => some []
 | .bl b :: ds => (boolsOf ds).map (b :: ·)
 | _ => none
mutual
noncomputable def ltD : D→D→Bool
 | .int a,.int b => decide (a < b)
 | .tup a,.tup b => ltDs a b
 | _,_ => false
noncomputable def ltDs : List D→List D→Bool
 | [],[] => false
 | [],_ :: _ => true
 | _ :: _,[] => false
 | a :: as,b :: bs => if a = b then ltDs as bs else ltD a b
end
end Mi
namespace Mi
open PySem L2
open PyProof.Rows hiding St
noncomputable def cloOf (env : Env) : List (Str × NameKind)→List (Str × Addr)→List (Str × Addr)
 | [],acc => acc
 | (n,k) :: r,acc => if k == .free then (match env.cells.lookup n with | some a => cloOf env r ((n,a) :: acc) | none => cloOf env r acc) else cloOf env r acc
theorem closureGo (env : Env) (f : Str × NameKind→List (Str × Addr)→Sem (ForInStep (List (Str × Addr))))
  (hf : ∀ n k cs,f (n,k) cs = if k == .free then (do let a ← cellOf env n;pure (.yield ((n,a) :: cs))) else pure (.yield cs)) :
  ∀ (l : List (Str × NameKind)) (acc : List (Str × Addr)),(∀ x∈l,x.2 = .free→∃ c,env.cells.lookup x.1 = some c)→forIn l acc f = (pure (cloOf env l acc) : Sem _)
 | [],acc,_ => by rw [List.forIn_nil];rfl
 | (n,k) :: r,acc,h => by
  rw [List.forIn_cons,hf]
  have ih:=fun acc => closureGo env f hf r acc fun x hx => h x (List.mem_cons_of_mem _ hx)
  unfold cloOf
  by_cases hk : (k == NameKind.free) = true
  ·obtain ⟨c,hc⟩:=h (n,k) List.mem_cons_self (by simpa using hk)
   have hc' : env.cells.lookup n = some c:=hc
   rw [if_pos hk,if_pos hk,hc']
   have e : cellOf env n = pure c:=by unfold cellOf;rw [hc']
   rw [e]
   simp only [pure_bind]
   exact ih _
  ·rw [if_neg hk,if_neg hk]
   simp only [pure_bind]
   exact ih _
theorem closure_of {env : Env} {scope : Scope} (h : ∀ x∈scope.names,x.2 = .free→∃ c,env.cells.lookup x.1 = some c) : closureFor scope env = pure (cloOf env scope.names []):=by
 simp only [closureFor]
 rw [closureGo env _ (fun n k cs => by cases hk : k == NameKind.free <;> simp [hk]) scope.names [] h]
 rfl
theorem mem_cloOf {env : Env} : ∀ {l : List (Str × NameKind)} {acc : List (Str × Addr)} {p : Str × Addr},p∈cloOf env l acc→p∈acc∨((p.1,NameKind.free)∈l∧env.cells.lookup p.1 = some p.2)
 | [],acc,p,h => .inl h
 | (n,k) :: r,acc,p,h => by
  unfold cloOf at h
  split at h
  ·rename_i hk
   split at h
   ·rename_i a ha
    rcases mem_cloOf h with h | h
    ·rcases List.mem_cons.mp h with e | h
     ·right
      subst e
      have : k = .free:=by simpa using hk
      subst this
      exact ⟨List.mem_cons_self,ha⟩
     ·exact .inl h
    ·exact .inr ⟨List.mem_cons_of_mem _ h.1,h.2⟩
   ·rcases mem_cloOf h with h | h
    ·exact .inl h
    ·exact .inr ⟨List.mem_cons_of_mem _ h.1,h.2⟩
  ·rcases mem_cloOf h with h | h
   ·exact .inl h
   ·exact .inr ⟨List.mem_cons_of_mem _ h.1,h.2⟩
theorem lookup_cloOf {env : Env} {x : Str} {c : Addr} (hc : env.cells.lookup x = some c) : ∀ {l : List (Str × NameKind)} {acc : List (Str × Addr)},((x,NameKind.free)∈l∨acc.lookup x = some c)→(cloOf env l acc).lookup x = some c
 | [],acc,h => by
  rcases h with h | h
  ·simp at h
  ·exact h
 | (n,k) :: r,acc,h => by
  unfold cloOf
  split
  ·rename_i hk
   have hk' : k = .free:=by simpa using hk
   split
   ·rename_i a ha
    apply lookup_cloOf hc
    by_cases hx : x = n
    ·subst hx
     rw [hc] at ha
     cases ha
     right
     simp [List.lookup_cons]
    ·rcases h with h | h
     ·rcases List.mem_cons.mp h with e | h
      ·cases e;exact absurd rfl hx
      ·exact .inl h
     ·right
      have : (x == n) = false:=beq_eq_false_iff_ne.mpr hx
      rw [List.lookup_cons,this]
      exact h
   ·rename_i ha
    apply lookup_cloOf hc
    rcases h with h | h
    ·rcases List.mem_cons.mp h with e | h
     ·cases e;rw [hc] at ha;cases ha
     ·exact .inl h
    ·exact .inr h
  ·rename_i hk
   apply lookup_cloOf hc
   rcases h with h | h
   ·rcases List.mem_cons.mp h with e | h
    ·cases e;exact absurd (by rfl) hk
    ·exact .inl h
   ·exact .inr h
noncomputable def blkEnv (scope : Scope) (C : Addr) (env : Env) : Env :=
 { scope:=relabel scope env,locals:=C,globals:=env.globals,cells:=cellsFrom (C + 1) scope.names (cloOf env scope.names []),qual:=env.qual,func:=none,code:=env.code,frame:=env.frame,builtins:=env.builtins }
theorem newBlk {M : Model} {A : Around} {E : Value→Shared→Prop} {s : Shared} {env : Env} {scope : Scope} {cl : List (Str × Addr)} {Q : Env→Shared→Prop}
  (h : Q { scope:=scope,locals:=s.heap.objs.size,globals:=env.globals,cells:=cellsFrom (s.heap.objs.size + 1) scope.names cl,qual:=env.qual,func:=none,code:=env.code,frame:=env.frame,builtins:=env.builtins }
   { s with heap:=pushCells (s.heap.push { cls:=.type "dict", data:=.dict #[] }) scope.names }) :
  wpAny M A (newFunctionEnv scope env.globals cl [] env.qual none .none (some env)) Q E s:=by
 simp only [newFunctionEnv,Option.isSome_some,if_true]
 refine wpAny_bind (wpAny_alloc ?_)
 refine wpAny_bind (wpAny_layCells _ (fun name kind cells => by cases hkc : kind == NameKind.cell <;> simp [hkc]) _ _ _ _ ?_)
 rw [show ({ s with heap:=s.heap.push { cls:=.type "dict", data:=.dict #[] } } : Shared).heap.objs.size = s.heap.objs.size + 1 from Heap.size_push ..]
 simp only [List.forIn_nil,pure_bind]
 exact wpAny_pure h
theorem mem_cellsFrom : ∀ {l : List (Str × NameKind)} {n : Nat} {acc : List (Str × Addr)} {p : Str × Addr},p∈cellsFrom n l acc→p∈acc∨(n≤p.2∧(p.1,NameKind.cell)∈l)
 | [],n,acc,p,h => .inl h
 | (x,k) :: r,n,acc,p,h => by
  unfold cellsFrom at h
  split at h
  ·rename_i hk
   have hk' : k = .cell:=by simpa using hk
   subst hk'
   rcases mem_cellsFrom h with h | h
   ·rcases List.mem_cons.mp h with e | h
    ·subst e;exact .inr ⟨Nat.le_refl _,List.mem_cons_self⟩
    ·exact .inl h
   ·exact .inr ⟨by omega,List.mem_cons_of_mem _ h.2⟩
  ·rcases mem_cellsFrom h with h | h
   ·exact .inl h
   ·exact .inr ⟨h.1,List.mem_cons_of_mem _ h.2⟩
theorem inj_cellsFrom : ∀ {l : List (Str × NameKind)} {n : Nat} {acc : List (Str × Addr)},(∀ p∈acc,p.2 < n)→(∀ p∈acc,∀ q∈acc,p.2 = q.2→p.1 = q.1)→∀ p∈cellsFrom n l acc,∀ q∈cellsFrom n l acc,p.2 = q.2→p.1 = q.1
 | [],n,acc,h1,h2 => h2
 | (x,k) :: r,n,acc,h1,h2 => by
  unfold cellsFrom
  split
  ·refine inj_cellsFrom (fun p hp => ?_) fun p hp q hq e => ?_
   ·rcases List.mem_cons.mp hp with e | hp
    ·subst e;exact Nat.lt_succ_self _
    ·exact Nat.lt_succ_of_lt (h1 p hp)
   ·rcases List.mem_cons.mp hp with e1 | hp
    ·rcases List.mem_cons.mp hq with e2 | hq
     ·rw [e1,e2]
     ·subst e1
      have:=h1 q hq
      have e' : n = q.2:=e
      exact absurd (e' ▸ this) (Nat.lt_irrefl _)
    ·rcases List.mem_cons.mp hq with e2 | hq
     ·subst e2
      have:=h1 p hp
      have e' : p.2 = n:=e
      exact absurd (e' ▸ this) (Nat.lt_irrefl _)
     ·exact h2 p hp q hq e
  ·exact inj_cellsFrom h1 h2
theorem lookup_cellsFrom {x : Str} : ∀ {l : List (Str × NameKind)} {n : Nat} {acc : List (Str × Addr)},(x,NameKind.cell) ∉ l→(cellsFrom n l acc).lookup x = acc.lookup x
 | [],n,acc,h => rfl
 | (y,k) :: r,n,acc,h => by
  have h' : (x,NameKind.cell) ∉ r:=fun z => h (List.mem_cons_of_mem _ z)
  unfold cellsFrom
  split
  ·rename_i hk
   have hk' : k = .cell:=by simpa using hk
   subst hk'
   rw [lookup_cellsFrom h']
   have hne : x≠y:=fun e => h (by rw [e];exact List.mem_cons_self)
   have : (x == y) = false:=beq_eq_false_iff_ne.mpr hne
   rw [List.lookup_cons,this]
  ·exact lookup_cellsFrom h'
theorem cell_pushCells : ∀ {l : List (Str × NameKind)} {h : Heap} {acc : List (Str × Addr)} {p : Str × Addr},p∈cellsFrom h.objs.size l acc→p∈acc∨(pushCells h l).IsCell p.2 none
 | [],h,acc,p,q => .inl q
 | (y,k) :: r,h,acc,p,q => by
  unfold cellsFrom at q
  unfold pushCells
  split at q
  ·rename_i hk
   rw [if_pos hk]
   have e : (h.push { cls:=.type "cell", data:=.cell none }).objs.size = h.objs.size + 1:=Heap.size_push ..
   rw [← e] at q
   rcases cell_pushCells q with q | q
   ·rcases List.mem_cons.mp q with z | q
    ·subst z
     right
     exact Heap.IsCell.keeps ⟨_,Heap.get?_push_size _ rfl,rfl⟩ (pushCells_keeps r _)
    ·exact .inl q
   ·exact .inr q
  ·rename_i hk
   rw [if_neg hk]
   exact cell_pushCells q
theorem lookup_of_mem {α : Type} : ∀ {l : List (Str × α)} {x : Str} {k : α},(l.map (·.1)).Nodup→(x,k)∈l→l.lookup x = some k
 | (y,j) :: r,x,k,nd,h => by
  rw [List.map_cons,List.nodup_cons] at nd
  rcases List.mem_cons.mp h with e | h
  ·cases e;simp [List.lookup_cons]
  ·have hne : x≠y:=fun e => nd.1 (by rw [← e];exact List.mem_map.mpr ⟨_,h,rfl⟩)
   have : (x == y) = false:=beq_eq_false_iff_ne.mpr hne
   rw [List.lookup_cons,this]
   exact lookup_of_mem nd.2 h
theorem relabel_eq {env : Env} {x : Str} : ∀ {names : List (Str × NameKind)},
  (names.map fun (n,k) => if (k == NameKind.free && env.scope.kind == .function && env.kindOf n == some .cell) then (n,NameKind.cell) else (n,k)).lookup x =
   (names.lookup x).map fun k => if (k == NameKind.free && env.scope.kind == .function && env.kindOf x == some .cell) then NameKind.cell else k
 | [] => rfl
 | (n,k) :: r => by
  have ih:=relabel_eq (env:=env) (x:=x) (names:=r)
  rw [List.map_cons]
  cases hx : x == n with
  | true =>
   have e : x = n:=by simpa using hx
   subst e
   by_cases hc : (k == NameKind.free && env.scope.kind == .function && env.kindOf x == some .cell) = true
   ·simp only [hc,if_true,List.lookup_cons,hx,Option.map_some]
   ·simp only [hc,Bool.false_eq_true,if_false,List.lookup_cons,hx,Option.map_some]
  | false =>
   by_cases hc : (k == NameKind.free && env.scope.kind == .function && env.kindOf n == some .cell) = true
   ·simp only [hc,if_true,List.lookup_cons,hx];exact ih
   ·simp only [hc,Bool.false_eq_true,if_false,List.lookup_cons,hx];exact ih
theorem relabel_look (scope : Scope) (env : Env) (x : Str) : (relabel scope env).names.lookup x = (scope.names.lookup x).map fun k => if (k == NameKind.free && env.scope.kind == .function && env.kindOf x == some .cell) then NameKind.cell else k:=relabel_eq
structure ScOk (around : Scope) (scope : Scope) : Prop where
 kind : scope.kind = .function
 nd : (scope.names.map (·.1)).Nodup
 cap : ∀ x,scope.names.lookup x = some .free→around.names.lookup x = some .cell∨around.names.lookup x = some .free
noncomputable def keepOf (N : List Str) (scope : Scope) : List Bool:=N.map fun x => decide (scope.names.lookup x = some .free)
noncomputable def maskV {α : Type} : List Bool→List (Option α)→List (Option α)
 | b :: bs,v :: vs => (if b then v else none) :: maskV bs vs
 | [],vs => vs.map fun _ => none
 | _,[] => []
theorem maskV_length {α : Type} : ∀ (bs : List Bool) (vs : List (Option α)),(maskV bs vs).length = vs.length
 | [],vs => by simp [maskV]
 | _ :: _,[] => rfl
 | _ :: bs,_ :: vs => by simp [maskV,maskV_length bs vs]
theorem maskV_get {α : Type} : ∀ {bs : List Bool} {vs : List (Option α)} {i : Nat} {v : α},(maskV bs vs)[i]? = some (some v)→bs[i]? = some true∧vs[i]? = some (some v)
 | [],vs,i,v,h => by
  simp only [maskV,List.getElem?_map] at h
  cases e : vs[i]? <;> simp [e] at h
 | _ :: _,[],i,v,h => by simp [maskV] at h
 | b :: bs,w :: vs,0,v,h => by
  cases b <;> simp [maskV] at h ⊢
  exact h
 | b :: bs,w :: vs,i + 1,v,h => by
  simp only [maskV,List.getElem?_cons_succ] at h ⊢
  exact maskV_get h
theorem maskV_set {α : Type} : ∀ {bs : List Bool} {vs : List (Option α)} {i : Nat} {v : α},bs[i]? = some true→vs[i]? = some (some v)→(maskV bs vs)[i]? = some (some v)
 | b :: bs,w :: vs,0,v,h,g => by
  simp at h g
  subst h g
  simp [maskV]
 | b :: bs,w :: vs,i + 1,v,h,g => by
  simp only [maskV,List.getElem?_cons_succ] at h g ⊢
  exact maskV_set h g
 | [],vs,i,v,h,g => by simp at h
 | _ :: _,[],i,v,h,g => by simp at g
noncomputable def blkCx (X : Cx) (scope : Scope) (s₃ : Shared) (H₃ : Hp) (fp : List Addr) (xe : Value→Shared→Prop) : Cx :=
 { X with s₀:=s₃,H₀:=H₃,env:=blkEnv scope s₃.heap.objs.size X.env,outer:=X.stack,stack:=X.stack,ex:=fp,fn:=fun x => decide (scope.names.lookup x = some .cell),pn:=[],xe:=xe }
section
variable {X : Cx} {pins : List (Addr × Obj)} {σ : St} {H : Hp} {s : Shared}
theorem blk_inv {scope : Scope} {fp : List Addr} {xe : Value→Shared→Prop} (I : Inv X pins σ H s) (S : ScOk X.env.scope scope) (hf : ∀ b∈fp,FpOk X pins H b) (ho : ∀ b∈fp,∃ o,s.heap.get? b = some o) :
  Inv (blkCx X scope s H fp xe) [] (maskV (keepOf X.N scope) σ) H { s with heap:=pushCells (s.heap.push { cls:=.type "dict", data:=.dict #[] }) scope.names }:=by
 have keep : ∀ b o, s.heap.get? b = some o → (pushCells (s.heap.push { cls:=.type "dict", data:=.dict #[] }) scope.names).get? b = some o:=fun b o e => pushCells_keeps _ _ b o (Heap.get?_push_of_some _ e)
 have hsz : (s.heap.push { cls:=.type "dict", data:=.dict #[] }).objs.size = s.heap.objs.size + 1:=Heap.size_push ..
 have clo : ∀ p∈cloOf X.env scope.names [],scope.names.lookup p.1 = some .free∧X.env.cells.lookup p.1 = some p.2:=fun p hp => by
  rcases mem_cloOf hp with h | h
  ·simp at h
  ·exact ⟨lookup_of_mem S.nd h.1,h.2⟩
 have clt : ∀ p∈cloOf X.env scope.names [],p.2 < s.heap.objs.size:=fun p hp => by
  obtain ⟨v,q⟩:=I.cell _ _ (clo p hp).2
  exact q.lt
 have memc : ∀ {x c},(blkEnv scope s.heap.objs.size X.env).cells.lookup x = some c→(x,c)∈cellsFrom (s.heap.objs.size + 1) scope.names (cloOf X.env scope.names []):=fun h => mem_of_lookup h
 have cases2 : ∀ {x c},(blkEnv scope s.heap.objs.size X.env).cells.lookup x = some c→(scope.names.lookup x = some .free∧X.env.cells.lookup x = some c)∨(s.heap.objs.size + 1≤c∧scope.names.lookup x = some .cell):=fun {x c} h => by
  rcases mem_cellsFrom (memc h) with q | q
  ·exact .inl (clo _ q)
  ·exact .inr ⟨q.1,lookup_of_mem S.nd q.2⟩
 have free_has : ∀ {x},scope.names.lookup x = some .free→∃ c,X.env.cells.lookup x = some c:=fun {x} h => I.ok.has x (S.cap x h)
 have lookF : ∀ {x c},scope.names.lookup x = some .free→X.env.cells.lookup x = some c→(blkEnv scope s.heap.objs.size X.env).cells.lookup x = some c:=fun {x c} h1 h2 => by
  have ncell : (x,NameKind.cell) ∉ scope.names:=fun z => by
   have:=lookup_of_mem S.nd z
   rw [h1] at this;cases this
  show (cellsFrom (s.heap.objs.size + 1) scope.names (cloOf X.env scope.names [])).lookup x = some c
  rw [lookup_cellsFrom ncell]
  exact lookup_cloOf h2 (.inl (mem_of_lookup h1))
 have kindB : ∀ {x},(Env.kindOf (blkEnv scope s.heap.objs.size X.env) x = some .cell∨Env.kindOf (blkEnv scope s.heap.objs.size X.env) x = some .free)→scope.names.lookup x = some .cell∨scope.names.lookup x = some .free:=fun {x} h => by
  have e : Env.kindOf (blkEnv scope s.heap.objs.size X.env) x = _:=relabel_look scope X.env x
  rw [e] at h
  cases q : scope.names.lookup x with
  | none => rw [q] at h;simp at h
  | some k =>
   rw [q] at h
   cases k <;> simp at h ⊢
 have ok : (blkCx X scope s H fp xe).Ok:=by
  refine ⟨I.ok.mod,S.kind,I.ok.glob,I.ok.blt,Nat.le_refl _,fun x y c h1 h2 => ?_,fun x h => ?_,fun x c h1 h2 => ?_,I.ok.hd,I.ok.frames,.inl rfl,fun b hb => ⟨?_,fun x c h => ?_⟩,I.bs,Nat.le_trans I.ok.bsz I.sz,fun b o e hb => ?_,fun b hb z => ?_,I.stack,I.stkFree,I.ok.tab.un I.base⟩
  ·exact inj_cellsFrom (fun p hp => Nat.lt_succ_of_lt (clt p hp)) (fun p hp q hq e => I.ok.inj _ _ _ (clo p hp).2 (by rw [e];exact (clo q hq).2)) _ (memc h1) _ (memc h2) rfl
  ·rcases kindB h with h | h
   ·exact Option.isSome_iff_exists.mp (PySem.W.cellsFrom_some scope.names (s.heap.objs.size + 1) _ (.inl h))
   ·obtain ⟨c,hc⟩:=free_has h
    exact ⟨c,lookF h hc⟩
  ·rcases cases2 h2 with ⟨q,_⟩ | ⟨q,_⟩
   ·have h1' : scope.names.lookup x = some .cell:=of_decide_eq_true h1
    rw [q] at h1';cases h1'
   ·exact Nat.le_of_succ_le q
  ·obtain ⟨o,e⟩:=ho b hb
   exact Nat.ne_of_lt (Heap.lt_size e)
  ·rcases cases2 h with ⟨_,q⟩ | ⟨q,_⟩
   ·exact (hf b hb).2.2.2.2.1 x c q
   ·obtain ⟨o,e⟩:=ho b hb
    have:=Heap.lt_size e
    intro z
    subst z
    exact Nat.lt_irrefl _ (Nat.lt_trans this (Nat.lt_of_succ_le q))
  ·obtain ⟨_,_,_,q,_⟩:=hf b hb
   rcases q with q | q
   ·exact I.ok.noex b o e q
   ·exact absurd (Nat.lt_of_lt_of_le (Heap.lt_size e) (Nat.le_trans I.ok.bsz q)) (Nat.lt_irrefl _)
  ·obtain ⟨_,q1,q2,_⟩:=hf b hb
   rcases List.mem_cons.mp (I.stkSub b z) with e | e
   ·exact q1 e
   ·exact q2 e
 refine ⟨ok, rfl, I.bare, Un.kept keep, ⟨fun _ => none, (Heap.Ns.new s.heap (.type "dict")).keeps (pushCells_keeps _ _), fun i x v h1 h2 h3 => ?_⟩, fun x c h => ?_, I.hok.fresh (Nat.le_refl _), fun x c h => ?_, fun p hp => absurd (show p ∈ ([] : List (Addr × Obj)) from hp) (by simp), I.hok.kept keep, ?_⟩
 ·obtain ⟨g1,g2⟩:=maskV_get h2
  have hx : X.N[i]? = some x:=h1
  have hfr : scope.names.lookup x = some .free:=by
   unfold keepOf at g1
   rw [List.getElem?_map,hx] at g1
   simpa using g1
  have hcap:=S.cap x hfr
  obtain ⟨m,hn,hl⟩:=I.loc
  obtain ⟨u,r,l⟩:=hl i x v hx g2 (by rcases hcap with h | h;exact .inr (.inl h);exact .inr (.inr h))
  refine ⟨u,r,?_⟩
  rcases l with ⟨hk,_⟩ | ⟨_,c,hc,hcell⟩
  ·have hk' : X.env.scope.names.lookup x = some .local:=hk
   rcases hcap with h | h <;> rw [hk'] at h <;> cases h
  ·refine .inr ⟨?_,c,lookF hfr hc,hcell.keeps keep⟩
   have e : Env.kindOf (blkEnv scope s.heap.objs.size X.env) x = _:=relabel_look scope X.env x
   show Env.kindOf (blkEnv scope s.heap.objs.size X.env) x = some .cell∨Env.kindOf (blkEnv scope s.heap.objs.size X.env) x = some .free
   rw [e,hfr]
   simp only [Option.map_some]
   split
   ·exact .inl rfl
   ·exact .inr rfl
 ·rcases cases2 h with ⟨_,q⟩ | ⟨_,q⟩
  ·obtain ⟨v,z⟩:=I.cell x c q
   exact ⟨v,z.keeps keep⟩
  ·have hm:=memc h
   rw [← hsz] at hm
   rcases cell_pushCells hm with z | z
   ·have:=(clo _ z).1
    rw [q] at this;cases this
   ·exact ⟨none,z⟩
 ·rcases cases2 h with ⟨_,q⟩ | ⟨q,_⟩
  ·exact I.freeC x c q
  ·exact I.hok.fresh (Nat.le_of_succ_le q)
 ·rw [maskV_length]
  exact I.len
theorem blk_out {scope : Scope} {fp : List Addr} {xe : Value→Shared→Prop} {pins' : List (Addr × Obj)} {σ' : St} {H' : Hp} {s' : Shared} {h' : Heap} (I : Inv X pins σ H s) (hf : ∀ b∈fp,FpOk X pins H b)
  (J : Inv (blkCx X scope s H fp xe) pins' σ' H' s') (hs : Heap.SameBut s.heap.objs.size s'.heap h') : Inv X pins σ H' { s' with heap:=h' }:=by
 have ne : ∀ b o,s.heap.get? b = some o→b≠s.heap.objs.size:=fun b o e => Nat.ne_of_lt (Heap.lt_size e)
 have eq : ∀ b,b≠s.heap.objs.size→h'.get? b = s'.heap.get? b:=fun b hb => hs.2 b hb
 have U : Un (frs X.stack) fp H H' s.heap s'.heap:=J.base
 have U' : Un (frs X.stack) fp H H' s.heap h' :=
  ⟨fun b o e n hb hx => by rw [eq b (ne b o e)];exact U.keep b o e n hb hx,fun b o e n hb hx => by rw [eq b (ne b o e)];exact U.slot b o e n hb hx,U.free,fun b o e hx => by rw [eq b (ne b o e)];exact U.there b o e hx,U.tups,U.frzs,U.tbls⟩
 have hC : H' s.heap.objs.size = none:=J.free
 have hok : HOk X.prog X.w H' h':=fun a o e => by
  have neH : ∀ {b u},H' b = some u→b≠s.heap.objs.size:=fun {b u} q z => by rw [z,hC] at q;cases q
  refine (J.hok a o e).stay (fun b u hb q => ?_) (fun _ q => q) fun _ _ q => q
  have hbn : b≠s.heap.objs.size:=by
   rcases hb with rfl | hb
   ·exact neH e
   ·exact neH hb
  rw [eq b hbn]
  exact q
 refine I.call' (s':={ s' with heap:=h' }) (ch:=fp) J.os U' hok J.bare fun b hb => ?_
 obtain ⟨_,f1,f2,f3,f4,f5⟩:=hf b hb
 exact ⟨f3,f1,f4,f5⟩
end
noncomputable def PTs (X : Cx) (ifs : List Expr) (tt : TT) : Prop :=
 ∀ (pins : List (Addr × Obj)) (s : Shared) (σ : St) (H : Hp) (Q : Bool→Hp→Prop),Inv X pins σ H s→tt σ H Q →
  wpAny (model X.prog X.w) X.A (forIn ifs true fun c r => if r = true then do let ok ← isTrue c X.env (eval c X.env);pure (ForInStep.yield ok) else pure (ForInStep.yield r)) (TP X pins σ Q) X.xe s
theorem pts_nil {X : Cx} : PTs X [] (fun _ H Q => Q true H):=fun _ _ _ H _ I h => wpAny_tests_nil ⟨H,I,h⟩
theorem pts_one {X : Cx} {c : Expr} {tt : TT} (h : PT X c tt) : PTs X [c] tt:=fun pins s σ H Q I q => wpAny_tests_one (h pins s σ H Q I q)
noncomputable def ExtS (a b : St) : Prop:=b.length = a.length∧∀ (i : Nat) v,a[i]? = some (some v)→b[i]? = some (some v)
noncomputable def tComp (wi : TI) (g : TG) (tt : TT) (te : TE) (mk : St→St) : TE:=fun σ H Q => wi σ H fun J H1 => ∀ D,H1 D = none →
 ∃ W : Nat→Nat→List V→Hp→Prop,(∃ m,W 0 m [] (upd H1 D (.lst [])))∧∀ i m ys H',W i m ys H' →
  (J.stop i H'∧Q (.ref D) H')∨(J.go i H'∧∀ x H2,J.yld i H' x H2→g x (mk σ) H2 fun σ2 H3 => ExtS (mk σ) σ2∧tt σ2 H3 fun b H4 =>
   if b = true then te σ2 H4 fun y H5 => H5 D = some (.lst ys)∧ys.length < sizeLine∧∃ m',m' < m∧W (i + 1) m' (ys++[y]) (upd H5 D (.lst (ys++[y])))
   else ∃ m',m' < m∧W (i + 1) m' ys H4)
theorem listcomp_core {X : Cx} {Pb : Cx→Prop} {elt tg iter : Expr} {ifs : List Expr} {scope : Scope} {pos pos' : Pos} {wi : TI} {g : TG} {tt : TT} {te : TE} {use : Option (Value→Sem Unit)} {Qv : Value→Shared→Prop} {pins : List (Addr × Obj)} {s : Shared} {σ : St} {H : Hp} {Q : VK}
  (I : Inv X pins σ H s) (h : tComp wi g tt te (maskV (keepOf X.N scope)) σ H Q)
  (hfin : ∀ {s3 : Shared} {H3 : Hp} {fp : List Addr} {xe : Value→Shared→Prop} {s6 : Shared} {H5 : Hp} {D : Addr},Inv X pins σ H3 s3→(∀ b∈fp,FpOk X pins H3 b)→Inv (blkCx X scope s3 H3 fp xe) [] (maskV (keepOf X.N scope) σ) H5 s6→Q (.ref D) H5→compPost (model X.prog X.w) X.A X.xe use Qv (.ref D) s3.heap.objs.size (.ok .next) s6)
  (hc : X.calm = true) (hi : PI X tg iter wi) (S : ScOk X.env.scope scope)
  (hP : ∀ s₃ H₃ fp acc,Inv X pins σ H₃ s₃→(∀ b∈fp,FpOk X pins H₃ b)→Pb (blkCx X scope s₃ H₃ fp (fun e s' => notedBy (model X.prog X.w) X.A (blkEnv scope s₃.heap.objs.size X.env) (fun e s' => compPost (model X.prog X.w) X.A X.xe use Qv acc s₃.heap.objs.size (.error e) s') e s')))
  (hblk : ∀ s₃ H₃ fp xe,Pb (blkCx X scope s₃ H₃ fp xe)→PG (blkCx X scope s₃ H₃ fp xe) tg g∧PTs (blkCx X scope s₃ H₃ fp xe) ifs tt∧PE (blkCx X scope s₃ H₃ fp xe) elt te)
  (hs : ∀ x,foldedSetIterable iter X.env x = pure x:=by intro _;rfl) :
  wpAny (model X.prog X.w) X.A (comprehension (.ListComp elt [⟨tg,iter,ifs,0⟩] scope pos) scope X.env pos' (newList []) false (eval iter X.env) use) Qv X.xe s:=by
 have hcl:=closure_of (env:=X.env) (scope:=scope) fun x hx hk => I.ok.has x.1 (S.cap x.1 (lookup_of_mem S.nd (by rw [← hk];exact hx)))
 refine wpAny_comprehension_free (use:=use) rfl hs hcl S.kind (fun x hx hk => lookup_of_mem S.nd (by rw [← hk];exact hx)) ?_
 refine thn (hi pins s σ H _ I h) fun v s1 h1 => thn h1 fun itv s2 h2 => ?_
 obtain ⟨it,fp,tn,J,H2,rfl,I2,T,st2,f2,hR⟩:=h2
 refine wpAny_newList ?_
 have hD : H2 s2.heap.objs.size = none:=I2.hok.fresh (Nat.le_refl _)
 obtain ⟨W,⟨m0,w0⟩,turn⟩:=hR s2.heap.objs.size hD
 have keep3 : ∀ b o, s2.heap.get? b = some o → (s2.heap.push { cls:=.type "list", data:=.seq ([] : List Value).toArray }).get? b = some o:=fun b o e => Heap.get?_push_of_some _ e
 have I3 : Inv X pins σ (upd H2 s2.heap.objs.size (.lst [])) { s2 with heap:=s2.heap.push { cls:=.type "list", data:=.seq ([] : List Value).toArray } } :=
  I2.laid (t':=s2.toks) keep3 (Nat.le_refl _) ⟨by simp,[],0,.nil,Heap.get?_push_size _ rfl⟩
 generalize hs3 : ({ s2 with heap:=s2.heap.push { cls:=.type "list", data:=.seq ([] : List Value).toArray } } : Shared) = s3 at I3
 have h3 : s3.heap = s2.heap.push { cls:=.type "list", data:=.seq ([] : List Value).toArray }:=by rw [← hs3]
 have obj2 : ∀ b∈fp,∃ o,s2.heap.get? b = some o:=fun b hb => by
  obtain ⟨o,e,_⟩:=T.obj 0 _ st2 b hb
  exact ⟨o,e⟩
 have obj3 : ∀ b∈fp,∃ o,s3.heap.get? b = some o:=fun b hb => by
  obtain ⟨o,e⟩:=obj2 b hb
  exact ⟨o,by rw [h3];exact keep3 b o e⟩
 have neD : ∀ b∈fp,b≠s2.heap.objs.size:=fun b hb => by
  obtain ⟨o,e⟩:=obj2 b hb
  exact Nat.ne_of_lt (Heap.lt_size e)
 have f3 : ∀ b∈fp,FpOk X pins (upd H2 s2.heap.objs.size (.lst [])) b:=fun b hb => by
  obtain ⟨g0,g1⟩:=f2 b hb
  exact ⟨by rw [upd_ne (neD b hb)];exact g0,g1⟩
 refine newBlk ?_
 have hPb:=hP s3 (upd H2 s2.heap.objs.size (.lst [])) fp (.ref s2.heap.objs.size) I3 f3
 generalize hE : (fun e s' => notedBy (model X.prog X.w) X.A (blkEnv scope s3.heap.objs.size X.env) (fun e s' => compPost (model X.prog X.w) X.A X.xe use Qv (.ref s2.heap.objs.size) s3.heap.objs.size (.error e) s') e s') = xe at hPb
 have J4 : Inv (blkCx X scope s3 (upd H2 s2.heap.objs.size (.lst [])) fp xe) [] (maskV (keepOf X.N scope) σ) (upd H2 s2.heap.objs.size (.lst [])) { s3 with heap:=pushCells (s3.heap.push { cls:=.type "dict", data:=.dict #[] }) scope.names }:=blk_inv I3 S f3 obj3
 obtain ⟨hg,ht,he⟩:=hblk s3 (upd H2 s2.heap.objs.size (.lst [])) fp xe hPb
 generalize hX : blkCx X scope s3 (upd H2 s2.heap.objs.size (.lst [])) fp xe = X' at J4 hg ht he
 have eP : X'.prog = X.prog:=by rw [← hX];rfl
 have eW : X'.w = X.w:=by rw [← hX];rfl
 have eK : X'.K = X.K:=by rw [← hX];rfl
 have eA : X'.A = X.A:=by rw [← hX];rfl
 have eC : X'.calm = true:=by rw [← hX];exact hc
 have eEnv : X'.env = blkEnv scope s3.heap.objs.size X.env:=by rw [← hX];rfl
 have eX : X'.xe = xe:=by rw [← hX];rfl
 have eFp : ∀ {pins' : List (Addr × Obj)} {H' : Hp},(∀ b∈fp,H' b = none)→pins' = []→∀ b∈fp,FpOk X' pins' H' b:=fun {pins' H'} hn hp b hb => by
  subst hp
  have q:=(J4.ok.exf b (by rw [← hX];exact hb))
  refine ⟨hn b hb,q.1,J4.ok.exfs b (by rw [← hX];exact hb),.inl (by rw [← hX];exact hb),q.2,fun p hp => ?_⟩
  rw [← hX] at hp
  exact absurd (show p∈([] : List (Addr × Obj)) from hp) (by simp)
 have tn4 : tn 0 (pushCells (s3.heap.push { cls:=.type "dict", data:=.dict #[] }) scope.names):=T.keep _ _ _ st2 fun b hb o e => pushCells_keeps _ _ b o (Heap.get?_push_of_some _ (by rw [h3]; exact keep3 b o e))
 have loop : ∀ s5 : Shared, s5 = { s3 with heap:=pushCells (s3.heap.push { cls:=.type "dict", data:=.dict #[] }) scope.names } →
   codeAny (model X.prog X.w) X.A (.compLoop (.ListComp elt [⟨tg,iter,ifs,0⟩] scope pos) 0 (.ref it) (.ref s2.heap.objs.size) (blkEnv scope s3.heap.objs.size X.env))
    (compPost (model X.prog X.w) X.A X.xe use Qv (.ref s2.heap.objs.size) s3.heap.objs.size) s5:=by
  rintro s5 rfl
  refine codeAny_loop rfl (fun n s' => ∃ i ys H',Inv X' [] (maskV (keepOf X.N scope) σ) H' s'∧tn i s'.heap∧(∀ b∈fp,H' b = none)∧W i n ys H') (fun n s5 hI => ?_) m0
   ⟨0,[],_,J4,tn4,fun b hb => by rw [upd_ne (neD b hb)];exact (f2 b hb).1,w0⟩
  obtain ⟨i,ys,H5,I5,st5,fr5,w5⟩:=hI
  show wpAny _ X.A ((compTurn (.ListComp elt [⟨tg,iter,ifs,0⟩] scope pos) 0 (.ref it) (.ref s2.heap.objs.size) (blkEnv scope s3.heap.objs.size X.env)).onRaise (fun x => do noteFrame x (blkEnv scope s3.heap.objs.size X.env);theTreesLotGoes x)) _ _ s5
  refine wpAny_noted ?_
  rw [compTurn_list]
  refine wpAny_bind (wpAny_standAt (wpAny_bind ?_))
  have eN : notedBy (model X.prog X.w) X.A (blkEnv scope s3.heap.objs.size X.env) (fun e s' => compPost (model X.prog X.w) X.A X.xe use Qv (.ref s2.heap.objs.size) s3.heap.objs.size (.error e) s') = X'.xe:=by rw [eX,← hE]
  rw [eN]
  rcases turn i n ys H5 w5 with ⟨stop,qn⟩ | ⟨go,step⟩
  ·have dn:=T.done X' eP eW eK eC i [] s5 _ H5 X'.xe I5 (eFp fr5 rfl) st5 stop
   rw [eA] at dn
   refine thn dn fun r s6 ⟨hr,I6⟩ => ?_
   subst hr
   refine wpAny_pure ?_
   rw [← hX] at I6
   exact hfin I3 f3 I6 qn
  ·have itm:=T.item X' eP eW eK eC i [] s5 _ H5 X'.xe I5 (eFp fr5 rfl) st5 go
   rw [eA] at itm
   refine thn itm fun r s6 ⟨u,hr,h6⟩ => ?_
   subst hr
   refine wpAny_bind (thn h6 fun _ s7 ⟨x,H7,I7,r7,y7,st7,fr7⟩ => ?_)
   have I7':=I7.pinned (eFp fr7 rfl) (T.obj _ _ st7)
   have as7:=hg _ s7 _ H7 x u _ I7' r7 (step x H7 y7)
   rw [eP,eW,eA,eEnv] at as7
   refine wpAny_bind (thn as7 fun _ s8 ⟨σ8,H8,I8,ex8,q8⟩ => ?_)
   have again : ∀ {s9 : Shared} {H9 : Hp} {ys' : List V},Inv X' ([]++pinsAt fp s7.heap) σ8 H9 s9→(∃ m',m' < n∧W (i + 1) m' ys' H9) →
     ∃ m,m < n∧∃ i ys H',Inv X' [] (maskV (keepOf X.N scope) σ) H' s9∧tn i s9.heap∧(∀ b∈fp,H' b = none)∧W i m ys H':=fun {s9 H9 ys'} I9 ⟨m',hm,w9⟩ => by
    refine ⟨m',hm,i + 1,ys',H9,?_,T.keep _ _ _ st7 fun b hb o e => (I9.pin (b,o) (List.mem_append_right _ (List.mem_append_right _ (mem_pinsAt hb e)))).1,fun b hb => ?_,w9⟩
    ·exact (I9.weak ex8.1.symm ex8.2).unpinned
    ·obtain ⟨o,e,d⟩:=T.obj _ _ st7 b hb
     exact (I9.pin (b,o) (List.mem_append_right _ (List.mem_append_right _ (mem_pinsAt hb e)))).2.1
   have te8:=ht _ s8 σ8 H8 _ I8 q8
   rw [eP,eW,eA,eEnv] at te8
   refine wpAny_bind (thn te8 fun ok s9 ⟨H9,I9,q9⟩ => ?_)
   cases ok with
   | false =>
    rw [if_neg Bool.false_ne_true] at q9
    exact wpAny_pure ⟨rfl,again I9 q9⟩
   | true =>
    rw [if_pos rfl] at q9
    have el9:=he _ s9 σ8 H9 _ I9 q9
    rw [eP,eW,eA,eEnv] at el9
    refine wpAny_bind (wpAny_bind (thn el9 fun y s10 ⟨v10,H10,I10,r10,hl10,hz10,q10⟩ => ?_))
    have ap:=mt_append (X:=X') _ s10 σ8 H10 (.ref s2.heap.objs.size) [v10] (.ref s2.heap.objs.size) [y] (fun _ H' => H' = upd H10 s2.heap.objs.size (.lst (ys++[v10]))) I10 rfl (.cons r10 .nil) ⟨s2.heap.objs.size,ys,v10,rfl,rfl,hl10,hz10,rfl⟩
    rw [eP,eW,eA] at ap
    refine wpAny_bind (thn ap fun _ s11 ⟨_,H11,I11,_,e11⟩ => ?_)
    subst e11
    exact wpAny_pure (wpAny_pure ⟨rfl,again I11 q10⟩)
 refine codeAny_compStart_list (loop _ rfl) ?_
 have tself:=T.self X.A 0 { s3 with heap:=pushCells (s3.heap.push { cls:=.type "dict", data:=.dict #[] }) scope.names }
  (fun it' s' => codeAny (model X.prog X.w) X.A (.compLoop (.ListComp elt [⟨tg,iter,ifs,0⟩] scope pos) 0 it' (.ref s2.heap.objs.size) (blkEnv scope s3.heap.objs.size X.env)) (compPost (model X.prog X.w) X.A X.xe use Qv (.ref s2.heap.objs.size) s3.heap.objs.size) s')
 exact tself _ tn4 (loop _ rfl)
theorem pe_listcomp {X : Cx} {elt tg iter : Expr} {ifs : List Expr} {scope : Scope} {pos : Pos} {wi : TI} {g : TG} {tt : TT} {te : TE}
  (hc : X.calm = true) (hi : PI X tg iter wi) (S : ScOk X.env.scope scope)
  (hblk : ∀ s₃ H₃ fp xe,PG (blkCx X scope s₃ H₃ fp xe) tg g∧PTs (blkCx X scope s₃ H₃ fp xe) ifs tt∧PE (blkCx X scope s₃ H₃ fp xe) elt te)
  (hs : ∀ x,foldedSetIterable iter X.env x = pure x:=by intro _;rfl) :
  PE X (.ListComp elt [⟨tg,iter,ifs,0⟩] scope pos) (tComp wi g tt te (maskV (keepOf X.N scope))):=by
 intro pins s σ H Q I h
 rw [eval_ListComp]
 refine listcomp_core (use:=none) I h (fun {s3 H3 fp xe s6 H5 D} I3 f3 I6 qn => ?_) hc hi S (Pb:=fun _ => True) (fun _ _ _ _ _ _ => trivial) (fun s₃ H₃ fp xe _ => hblk s₃ H₃ fp xe) hs
 obtain ⟨m,hn,_⟩:=id I6.loc
 exact ⟨m,hn,fun h' hsb => ⟨.ref D,H5,blk_out I3 f3 I6 hsb,rfl,qn⟩⟩
theorem inv_butC {X : Cx} {pins : List (Addr × Obj)} {σ : St} {H : Hp} {s : Shared} {C : Addr} {h' : Heap} (I : Inv X pins σ H s) (hC : H C = none) (hb : X.s₀.heap.objs.size≤C) (hl : C≠X.env.locals) (hcl : ∀ x c,X.env.cells.lookup x = some c→c≠C) (hp : ∀ p∈X.pn++pins,p.1≠C)
  (hs : Heap.SameBut C s.heap h') : Inv X pins σ H { s with heap:=h' }:=by
 have hok : HOk X.prog X.w H h':=fun b ob e => by
  refine (I.hok b ob e).stay (fun c w' hc q => (hs.2 c ?_).trans q) (fun _ q => q) fun _ _ q => q
  rintro rfl
  rcases hc with rfl | hc
  ·rw [hC] at e;cases e
  ·rw [hC] at hc;cases hc
 refine I.call' (s':={ s with heap:=h' }) (ch:=[C]) rfl ⟨fun b o e n hb hx => ?_,fun b o e n hb hx => ?_,fun b o e n hx => n,fun b o e hx => ?_,fun b xs q => q,fun b o u q => q,fun b ps q => ⟨#[],by rw [Array.append_empty];exact q⟩⟩ hok I.bare fun b hbm => ?_
 ·exact (hs.2 b fun z => hx (by rw [z];simp)).trans e
 ·exact ⟨o.slots,(hs.2 b fun z => hx (by rw [z];simp)).trans e⟩
 ·exact ⟨o,(hs.2 b fun z => hx (by rw [z];simp)).trans e⟩
 ·rw [List.mem_singleton.mp hbm]
  exact ⟨.inr hb,hl,hcl,hp⟩
theorem ps_compset {X : Cx} {elt tg iter : Expr} {ifs : List Expr} {scope : Scope} {pos pos' spos : Pos} {wi : TI} {g : TG} {tt : TT} {te : TE} {i : Nat} {x : Str}
  (hN : X.N.Nodup) (hi' : X.N[i]? = some x) (hx : L2.Loc X.env.scope x) (hf : X.fn x = true∨X.env.scope.names.lookup x = some .local)
  (hsw : X.env.scope.kind = .function→swapsWith (.ListComp elt [⟨tg,iter,ifs,0⟩] scope pos) (some (.Name x pos')) spos.line X.env = pure true)
  (hc : X.calm = true) (hi : PI X tg iter wi) (S : ScOk X.env.scope scope)
  (hblk : ∀ s₃ H₃ fp xe,PG (blkCx X scope s₃ H₃ fp xe) tg g∧PTs (blkCx X scope s₃ H₃ fp xe) ifs tt∧PE (blkCx X scope s₃ H₃ fp xe) elt te)
  (hs : ∀ x,foldedSetIterable iter X.env x = pure x:=by intro _;rfl) :
  PS X (.Assign [.Name x pos'] (.ListComp elt [⟨tg,iter,ifs,0⟩] scope pos) spos) (tAsg (tComp wi g tt te (maskV (keepOf X.N scope))) (gName i)):=by
 intro pins s σ H D I h
 rw [exec_Assign_Name_used x pos' _ spos (hsw I.ok.kind)]
 refine wpAny_bind (wpAny_standAt (wpAny_bind ?_))
 show wpAny _ _ (do let _ ← comprehension (.ListComp elt [⟨tg,iter,ifs,0⟩] scope pos) scope X.env iter.pos (newList []) false (eval iter X.env) (some (assign (.Name x pos') X.env));pure ()) _ _ s
 refine wpAny_bind (listcomp_core (use:=some (assign (.Name x pos') X.env)) I h (fun {s3 H3 fp xe s6 H5 Da} I3 f3 I6 qn => ?_) hc hi S (Pb:=fun _ => True) (fun _ _ _ _ _ _ => trivial) (fun s₃ H₃ fp xe _ => hblk s₃ H₃ fp xe) hs)
 have I' : Inv X pins σ H5 s6:=blk_out I3 f3 I6 (h':=s6.heap) ⟨rfl,fun _ _ => rfl⟩
 have hlt : X.env.locals < s3.heap.objs.size:=I3.lt
 have cells : ∀ y c,X.env.cells.lookup y = some c→c < s3.heap.objs.size:=fun y c e => by
  obtain ⟨v,q⟩:=I3.cell y c e
  exact q.lt
 refine wpAny_assign_Name (store_ok2 I' hN hi' hx (v:=.ref Da) rfl (fun s'' I'' ⟨a,sb,ha⟩ => ?_) hf)
 obtain ⟨m,hn,_⟩:=id I6.loc
 have hCa : s3.heap.objs.size≠a:=by
  rcases ha with rfl | ha
  ·exact Nat.ne_of_gt hlt
  ·exact Nat.ne_of_gt (cells x a ha)
 refine ⟨m,hn.sameBut sb hCa,fun h' hsb => ?_⟩
 refine wpAny_pure (wpAny_pure ⟨_,H5,?_,qn⟩)
 exact inv_butC I'' (C:=s3.heap.objs.size) I6.free I3.sz (Nat.ne_of_gt hlt) (fun y c e => Nat.ne_of_lt (cells y c e)) (fun p hp => Nat.ne_of_lt (Heap.lt_size (I3.pin p hp).1)) hsb
end Mi
namespace Mi
open PySem
section
variable {prog : Program} {w : World} {A : Around} {E : Value→Shared→Prop} {s : Shared}
end
end Mi
namespace Mi
open PySem L2
open PyProof.Rows hiding St
open PySem.AutoSeq1 (wpAny_loadPart')
section
variable {prog : Program} {w : World} {A : Around} {E : Value→Shared→Prop} {s : Shared}
theorem nextT_item {it l : Addr} {i : Nat} {items} {x : Value} {Q : Value→Shared→Prop} (hit : s.heap.IsTupleIter it l i)
  (hl : s.heap.IsTuple l items) (hx : items[i]? = some x)
  (hQ : ∀ h',h'.IsTupleIter it l (i + 1)→Heap.SameBut it s.heap h'→Q x { s with heap:=h' }) :
  wpAny (model prog w) A (Builtin.SmallTypes.nextOf (.ref it)) Q E s:=by
 obtain ⟨o,ho,hc,hd⟩:=id hit
 obtain ⟨ol,hol,_,nl,hdl⟩:=hl
 unfold Builtin.SmallTypes.nextOf
 refine wpAny_bind (wpAny_callSpecial?_slot (name:=Str.ofString "__next__") hit.typeIs F.slot_tuple_iterator_next
  (wpAny_call_entry F.slot_tuple_iterator_next hit.typeIs F.entry_tuple_iterator_next ?_ (F.args_tuple_iterator_next_1 _)))
 show wpAny _ _ (field (.ref it) 0 >>= _) _ _ s
 refine wpAny_bind (wpAny_field ho hd (x:=.ref l) rfl ?_)
 show wpAny _ _ (if (Value.ref l == Value.none) = true then _ else _) _ _ s
 rw [if_neg (show ¬ ((Value.ref l == Value.none) = true) from Bool.false_ne_true)]
 show wpAny _ _ (field (.ref it) 1 >>= _) _ _ s
 refine wpAny_bind (wpAny_field ho hd (x:=.int i 0) rfl ?_)
 show wpAny _ _ (seqItems? (.ref l) >>= _) _ _ s
 refine wpAny_bind (wpAny_seqItems hol hdl ?_)
 simp only [Int.toNat_natCast,hx]
 refine wpAny_bind (wpAny_setField ho hd (by simp) (wpAny_pure ⟨x,rfl,wpAny_pure (hQ _ ?_ (Heap.SameBut.update ..))⟩))
 exact ⟨_,Heap.get?_update_self _ ho (Obj.isFreed_of_fields (Obj.data_mapFields hd _)),(Obj.cls_mapFields ..).trans hc,by
  rw [Obj.data_mapFields hd];simp [rawInt]⟩
theorem nextT_end {it l : Addr} {i : Nat} {items} {Q : Value→Shared→Prop} (hh : A.handled = none)
  (hit : s.heap.IsTupleIter it l i) (hl : s.heap.IsTuple l items) (hx : items[i]? = none)
  (hE : ∀ h' e, Heap.ExtBut it s.heap h' → (∃ o, h'.get? e = some o ∧ o.cls = .type "StopIteration") → E (.ref e) { s with heap:=h' }) :
  wpAny (model prog w) A (Builtin.SmallTypes.nextOf (.ref it)) Q E s:=by
 obtain ⟨o,ho,hc,hd⟩:=id hit
 obtain ⟨ol,hol,_,nl,hdl⟩:=hl
 unfold Builtin.SmallTypes.nextOf
 refine wpAny_bind (wpAny_callSpecial?_slot (name:=Str.ofString "__next__") hit.typeIs F.slot_tuple_iterator_next
  (wpAny_call_entry F.slot_tuple_iterator_next hit.typeIs F.entry_tuple_iterator_next ?_ (F.args_tuple_iterator_next_1 _)))
 show wpAny _ _ (field (.ref it) 0 >>= _) _ _ s
 refine wpAny_bind (wpAny_field ho hd (x:=.ref l) rfl ?_)
 show wpAny _ _ (if (Value.ref l == Value.none) = true then _ else _) _ _ s
 rw [if_neg (show ¬ ((Value.ref l == Value.none) = true) from Bool.false_ne_true)]
 show wpAny _ _ (field (.ref it) 1 >>= _) _ _ s
 refine wpAny_bind (wpAny_field ho hd (x:=.int i 0) rfl ?_)
 show wpAny _ _ (seqItems? (.ref l) >>= _) _ _ s
 refine wpAny_bind (wpAny_seqItems hol hdl ?_)
 simp only [Int.toNat_natCast,hx]
 refine wpAny_bind (wpAny_rule (wpAny_bind (wpAny_setField ho hd (by simp) ?_)))
 show wpAny _ _ (newExc (.type "StopIteration") [] >>= _) _ _ _
 refine wpAny_bind ?_
 simp only [newExc,newTuple]
 refine wpAny_bind (wpAny_newObj_type ?_ (by size_fits))
 refine wpAny_bind (m:=firstArgMember _ _) (wpAny_of_eq (a:=Value.none) (by first | rfl | (simp only [firstArgMember];rfl)) ?_)
 refine wpAny_newObj_type ?_ (by size_fits)
 simp only [raiseNew]
 refine wpAny_bind (wpAny_handled ?_)
 first | rw [show A.in1.handled = none from hh] | rw [hh]
 refine wpAny_bind (wpAny_pure (wpAny_throw ?_))
 exact hE _ _ (((Heap.SameBut.update ..).extBut.push _).push _) ⟨_,Heap.get?_push_size _ rfl,rfl⟩
theorem drawsT {prog : Program} {w : World} {A : Around} (hh : A.handled = none) (it l : Addr) (hne : l≠it) (items : Array Value) :
  Draws prog w A it [it,l] items.size (fun i v => items[i]? = some v) (fun i h => h.IsTupleIter it l i∧h.IsTuple l items) where
 live:=fun _ _ st => let ⟨o,ho,_⟩:=st.1;⟨o,ho⟩
 frame:=fun _ _ _ st hk => ⟨let ⟨o,e,r⟩:=st.1;⟨o,hk it (by simp) o e,r⟩,let ⟨o,e,r⟩:=st.2;⟨o,hk l (by simp) o e,r⟩⟩
 item:=fun i s Q E hi st hQ => by
  refine nextT_item st.1 st.2 (x:=items[i]) (by simp [hi]) fun h' hit' hs' => ?_
  exact hQ _ h' s.toks (by simp [hi]) ⟨hit',st.2.extBut hs'.extBut hne⟩ hs'
 done:=fun s Q E st hE => nextT_end hh st.1 st.2 (by simp) hE
end
theorem enumT_new (l : Addr) (items : Array Value) (n : Nat) (dct : Option Addr) (sl : Array (Option Value)) :
  Meets (Builtin.«enumerate.__new__» ⟨[.type "enumerate", .ref l], []⟩) (fun _ R s => s.heap.get? l = some { cls:=.type "tuple", dict:=dct, data:=.seq items n, slots:=sl } ∧
   R (.ok (.ret (.ref (s.heap.push { cls:=.type "tuple_iterator", data:=.fields #[.ref l, .int 0 0] }).objs.size)))
    { s with heap:=(s.heap.push { cls:=.type "tuple_iterator", data:=.fields #[.ref l, .int 0 0] }).push { cls:=.type "enumerate", data:=.fields #[.none, .bool false, .ref s.heap.objs.size, rawInt 0, .none, .none] } }) :=
 .of_wp fun prog w A R s h => by
  obtain ⟨hp,g,d,tk,os⟩:=s;obtain ⟨hl,h⟩:=h
  have hsub:=sub_enumerate
  have hL : Heap.IsTuple (Shared.heap ⟨hp,g,d,tk,os⟩) l items:=⟨_,hl,rfl,n,rfl⟩
  wp_walk using wpAny_loadPart' hl
  refine wpAny_stack_any fun st => wpAny_pure ?_
  split
  ·rename_i c _ _ _ _ _
   cases (c == Value.type "enumerate")
   ·wp_walk using wpAny_loadPart' hl,wpAny_pyIter_tuple hL
    exact ⟨_,rfl,h⟩
   ·wp_walk using wpAny_loadPart' hl,wpAny_pyIter_tuple hL
    exact ⟨_,rfl,h⟩
  ·wp_walk using wpAny_loadPart' hl,wpAny_pyIter_tuple hL
   exact ⟨_,rfl,h⟩
section
variable {prog : Program} {w : World} {A : Around} {E : Value→Shared→Prop} {s : Shared}
theorem call_enumT {l : Addr} {items : Array Value} {Q : Value→Shared→Prop} (hL : s.heap.IsTuple l items)
  (h : ∀ h',IsEnum h' (s.heap.objs.size + 1) s.heap.objs.size 0 .none→h'.IsTupleIter s.heap.objs.size l 0→h'.objs.size = s.heap.objs.size + 2 →
   (∀ b o,s.heap.get? b = some o→h'.get? b = some o)→Q (.ref (s.heap.objs.size + 1)) { s with heap:=h' }) :
  wpAny (model prog w) A (call (.type "enumerate") [.ref l]) Q E s:=by
 obtain ⟨⟨c,dct,dt,sl⟩,hl,hc,n,hd⟩:=hL
 replace hc : c = .type "tuple":=hc
 replace hd : dt = .seq items n:=hd
 subst hc hd
 refine callType_new F.called_enumerate (by decide) (F.typeCall_enumerate_1 _) (F.newCall_enumerate_1 _) (fun obj => F.args_object_init_2 obj _) F.entry_enumerate_new
  (enumT_new l items n dct sl) ⟨hl,?_⟩
 have hz : (s.heap.push { cls:=.type "tuple_iterator", data:=.fields #[.ref l, .int 0 0] }).objs.size = s.heap.objs.size + 1:=Heap.size_push ..
 show _∧_
 rw [hz]
 have he : IsEnum ((s.heap.push { cls:=.type "tuple_iterator", data:=.fields #[.ref l, .int 0 0] }).push
   { cls:=.type "enumerate", data:=.fields #[.none, .bool false, .ref s.heap.objs.size, rawInt 0, .none, .none] }) (s.heap.objs.size + 1) s.heap.objs.size 0 .none:=by
  have:=Heap.get?_push_size (s.heap.push { cls:=.type "tuple_iterator", data:=.fields #[.ref l, .int 0 0] })
   (o:={ cls:=.type "enumerate", data:=.fields #[.none, .bool false, .ref s.heap.objs.size, rawInt 0, .none, .none] }) rfl
  rw [hz] at this;exact this
 refine ⟨⟨_,he,rfl⟩,h _ he ⟨_,Heap.get?_push_of_some _ (Heap.get?_push_size _ rfl),rfl,rfl⟩ (by rw [Heap.size_push,hz]) fun b o x => Heap.get?_push_of_some _ (Heap.get?_push_of_some _ x)⟩
end
theorem boot_enum : bootBuiltins "enumerate" = some (.type "enumerate"):=by decide +kernel
noncomputable def IteT (K : PySem.W.Frag) (a : Addr) : It :=
 ⟨fun i H => ∃ xs x,SqT K H a xs∧xs[i]? = some x,
  fun i H x H' => ∃ p y,H p = none∧x = .ref p∧H' = upd H p (.tup [.int i,y])∧∀ xs,SqT K H a xs→xs[i]? = some y,
  fun i H => ∃ xs,SqT K H a xs∧xs.length = i⟩
theorem turn_enumT {P : Program} {w : World} {K : PySem.W.Frag} {els : List Expr} {x1 : Nat} {tpos : Pos} (a e it : Addr) (hei : e≠it) : Turn P w K (.Tuple els x1 tpos) (IteT K a) [e,it] e (fun i h => (∃ old,IsEnum h e it i old)∧h.IsTupleIter it a i) where
 mem:=by simp
 obj:=fun i h st b hb => by
  obtain ⟨⟨old,he⟩,o,e1,c,d⟩:=st
  rcases List.mem_cons.mp hb with z | z
  ·subst z;exact ⟨_,he,fun v q => by cases q⟩
  ·have z':=List.mem_singleton.mp z;subst z';exact ⟨o,e1,fun v q => by rw [d] at q;cases q⟩
 keep:=fun i h h' st k => by
  obtain ⟨⟨old,he⟩,o,e1,c,d⟩:=st
  exact ⟨⟨old,k e (by simp) _ he⟩,o,k it (by simp) _ e1,c,d⟩
 item:=by
  intro X hP hw hK hc i pins s σ H E I hf st hg
  subst hP hw hK
  obtain ⟨xs,x,hq,hx⟩:=hg
  obtain ⟨its,rv,p,hz⟩:=I.tuple hq
  have p' : s.heap.IsTuple a its.toArray:=p
  obtain ⟨u,hu,ru⟩:=rv.get hx
  obtain ⟨⟨old,he⟩,hb⟩:=st
  obtain ⟨o1,q1,c1,d1⟩:=id hb
  obtain ⟨o2,q2,c2,n2,d2⟩:=id p'
  have hai : a≠it:=fun z => by
   subst z;rw [q1] at q2;cases q2;rw [c1] at c2;exact absurd c2 (by simp)
  have hea : e≠a:=fun z => by
   subst z
   have he' : s.heap.get? e = some _:=he
   rw [q2] at he'
   have z2:=congrArg Obj.cls (Option.some.inj he')
   rw [c2] at z2
   exact absurd z2 (by simp)
  have hil : i < its.toArray.size:=by
   have h1:=(List.getElem?_eq_some_iff.mp hu).1
   simpa using h1
  have D:=drawsT (prog:=X.prog) (w:=X.w) (A:=X.A.in1) (I.ok.hd hc) it a hai its.toArray
  refine wpAny_pyNext_enum_itemD D he ⟨hb,p'⟩ hil hei (by simp [hei,hea]) fun x' h' tk hPx hout hst' hT hsz hk => ?_
  have ex : x' = u:=by
   have z : its.toArray[i]? = some u:=by simpa using hu
   have hPx' : its.toArray[i]? = some x':=hPx
   rw [z] at hPx';exact (Option.some.inj hPx').symm
  subst ex
  refine ⟨.ref s.heap.objs.size,rfl,wpAny_letOwnedTupleGo_enum (s:={ s with heap:=h',toks:=tk + 1 }) hout fun h2 hEn hSame => ?_⟩
  have hSame' : Heap.SameBut e h' h2:=hSame
  have elt : e < s.heap.objs.size:=Heap.lt_size he
  have ilt : it < s.heap.objs.size:=Heap.lt_size q1
  have kp : ∀ b o,b≠e→b≠it→s.heap.get? b = some o→h2.get? b = some o:=fun b o n1 n2 q => hSame'.extBut b o n1 (hk b o n1 n2 q)
  obtain ⟨fe0,fe1,fe2,fe3,fe4,fe5⟩:=hf e (by simp)
  obtain ⟨fi0,fi1,fi2,fi3,fi4,fi5⟩:=hf it (by simp)
  have hTn : H s.heap.objs.size = none:=I.hok.fresh (Nat.le_refl _)
  have nT : ∀ b o,s.heap.get? b = some o→b≠s.heap.objs.size:=fun b o q => Nat.ne_of_lt (Heap.lt_size q)
  have hTo : h2.get? s.heap.objs.size = some { cls:=.type "tuple", data:=.seq #[.int i tk, x'] }:=hSame'.extBut _ _ (Nat.ne_of_gt elt) hT
  have nch : ∀ b,b ∉ ([e,it] : List Addr)→b≠e∧b≠it:=fun b hb => by simp at hb;exact hb
  have I2 : Inv X pins σ (upd H s.heap.objs.size (.tup [.int i,x])) { s with heap:=h2,toks:=tk + 1 }:=by
   refine I.step (g':=s.gens) (d':=s.drawn) (ch:=[e,it]) (fun b hb => ?_) (fun b o _ _ hc q _ => kp b o (nch b hc).1 (nch b hc).2 q) (fun b o _ _ hc q _ => ⟨o.slots,kp b o (nch b hc).1 (nch b hc).2 q⟩) (fun b o _ q n => by rw [upd_ne (nT b o q)];exact n)
    (fun b o hc q => ⟨o,kp b o (nch b hc).1 (nch b hc).2 q⟩) (fun b ys q => by rw [upd_ne (ne_of_none q hTn)];exact q) (fun b o u q => by rw [upd_ne (ne_of_none q hTn)];exact q) (fun b ps q => ⟨#[],by rw [upd_ne (ne_of_none q hTn),q];simp⟩) (fun m hm => ?_) (fun b u q => ?_) I.bare
   ·rcases List.mem_cons.mp hb with z | z
    ·subst z;exact ⟨fe3,fe1,fe4,fe5⟩
    ·have z':=List.mem_singleton.mp z;subst z';exact ⟨fi3,fi1,fi4,fi5⟩
   ·obtain ⟨o,es,ep,ho,r⟩:=hm
    exact ⟨o,es,ep,kp _ o (Ne.symm fe1) (Ne.symm fi1) ho,r⟩
   ·by_cases hbT : b = s.heap.objs.size
    ·subst hbT
     rw [upd_same] at q;cases q
     exact ⟨by show 2≤sizeLine;decide,[.int i tk,x'],.cons ⟨tk,rfl⟩ (.cons ru .nil),⟨_,hTo,rfl,_,rfl⟩⟩
    ·rw [upd_ne hbT] at q
     have nb : ∀ c v,H c = some v→c≠e∧c≠it:=fun c v z => ⟨ne_of_none z fe0,ne_of_none z fi0⟩
     refine (I.hok b u q).stay (fun c v hc r => ?_) (fun c r => by rw [upd_ne (ne_of_none r hTn)];exact r) (fun c ys r => by rw [upd_ne (ne_of_none r hTn)];exact r) (fun c _ r _ => by rw [upd_ne (ne_of_none r hTn)];exact r)
     have nc : c≠e∧c≠it:=by
      rcases hc with z | z
      ·rw [z];exact nb b u q
      ·exact nb c _ z
     exact kp c v nc.1 nc.2 r
  refine ⟨.ref s.heap.objs.size,_,I2,rfl,⟨s.heap.objs.size,x,hTn,rfl,rfl,fun ys hy => by rw [I.tuple_inj hy hq];exact hx⟩,⟨⟨x',by simpa using hEn⟩,?_⟩,fun b hb => ?_⟩
  ·exact hst'.1.extBut hSame'.extBut (Ne.symm hei)
  ·rcases List.mem_cons.mp hb with z | z
   ·subst z;rw [upd_ne (Nat.ne_of_lt elt)];exact fe0
   ·have z':=List.mem_singleton.mp z;subst z';rw [upd_ne (Nat.ne_of_lt ilt)];exact fi0
 done:=by
  intro X hP hw hK hc i pins s σ H E I hf st hg
  subst hP hw hK
  obtain ⟨xs,hq,hx⟩:=hg
  obtain ⟨its,rv,p,hz⟩:=I.tuple hq
  have p' : s.heap.IsTuple a its.toArray:=p
  obtain ⟨⟨old,he⟩,hb⟩:=st
  obtain ⟨o1,q1,c1,d1⟩:=id hb
  obtain ⟨o2,q2,c2,n2,d2⟩:=id p'
  have hai : a≠it:=fun z => by
   subst z;rw [q1] at q2;cases q2;rw [c1] at c2;exact absurd c2 (by simp)
  obtain ⟨fi0,fi1,fi2,fi3,fi4,fi5⟩:=hf it (by simp)
  have D:=drawsT (prog:=X.prog) (w:=X.w) (A:=X.A.in1) (I.ok.hd hc) it a hai its.toArray
  have hl:=rv.length
  have en : i = its.toArray.size:=by simp;omega
  subst en
  exact wpAny_pyNext_enum_endD D he ⟨hb,p'⟩ fun h' eb => ⟨rfl,I.turned (t':=s.toks) (fun b o hb e => eb b o hb e) fi0 fi1 fi3 fi4 fi5⟩
 self:=fun _ _ _ _ _ st h => by
  obtain ⟨⟨old,he⟩,_⟩:=st
  exact wpAny_pyIter_enum he h
section
variable {X : Cx}
noncomputable def iEnumT (K : PySem.W.Frag) (ta : TA) : TI:=fun σ H R => ta σ H fun vs H1 => ∃ a xs,vs = [.ref a]∧SqT K H1 a xs∧R (IteT K a) H1
theorem enum_itT {pins : List (Addr × Obj)} {σ : St} {H : Hp} {s : Shared} {R : It→Hp→Prop} {els : List Expr} {x1 : Nat} {tpos : Pos} {a : Addr} {xs : List V} {E : Value→Shared→Prop} (I : Inv X pins σ H s) (hq : SqT X.K H a xs) (q : R (IteT X.K a) H) :
  wpAny (model X.prog X.w) X.A (call (.type "enumerate") [.ref a]) (fun v s1 => wpAny (model X.prog X.w) X.A (pyIter v) (PIE X pins σ (.Tuple els x1 tpos) R) E s1) E s:=by
 obtain ⟨its,rv,p,hz⟩:=I.tuple hq
 have p' : s.heap.IsTuple a its.toArray:=p
 refine call_enumT p' fun h' he hit hsz hk => ?_
 refine wpAny_pyIter_enum (s:={ s with heap:=h' }) he ?_
 have I1 : Inv X pins σ H { s with heap:=h' }:=I.kept (t':=s.toks) hk
 refine ⟨s.heap.objs.size + 1,[s.heap.objs.size + 1,s.heap.objs.size],_,_,H,rfl,I1,turn_enumT a (s.heap.objs.size + 1) s.heap.objs.size (by exact Nat.succ_ne_self _),⟨⟨_,he⟩,hit⟩,fun b hb => ?_,q⟩
 rcases List.mem_cons.mp hb with z | z
 ·subst z
  exact I.fpOk (Nat.le_succ _) (I.hok.fresh (Nat.le_succ _))
 ·have z':=List.mem_singleton.mp z
  subst z'
  exact I.fpOk (Nat.le_refl _) (I.hok.fresh (Nat.le_refl _))
theorem pi_enumT {a : Expr} {ta : TA} {p pos tpos : Pos} {els : List Expr} {x1 : Nat} (hg : Gl X "enumerate") (hm : X.mg "enumerate" = none) (ha : PA X [a] ta) (hs : starEach [a] X.env = [(false, eval a X.env)]:=by rfl) :
  PI X (.Tuple els x1 tpos) (.Call (.Name "enumerate" p) [a] [] pos) (iEnumT X.K ta):=by
 intro pins s σ H R I h
 refine Call_ (ld_blt I hg hm boot_enum (PyProof.Rows.callWith_type1 (thn (ha pos pins s σ H _ I h) fun us s1 ⟨vs,H1,I1,r1,q1⟩ => ?_) hs rfl))
 obtain ⟨b,xs,rfl,hq,q⟩:=q1
 obtain ⟨u,rfl,ru⟩:=vals1 r1
 cases ru
 exact enum_itT I1 hq q
end
noncomputable def IteL (K : PySem.W.Frag) (a : Addr) : It :=
 ⟨fun i H => ∃ xs x,SqL K H a xs∧xs[i]? = some x,
  fun i H x H' => ∃ p y,H p = none∧x = .ref p∧H' = upd H p (.tup [.int i,y])∧∀ xs,SqL K H a xs→xs[i]? = some y,
  fun i H => ∃ xs,SqL K H a xs∧xs.length = i⟩
theorem turn_enumL {P : Program} {w : World} {K : PySem.W.Frag} {els : List Expr} {x1 : Nat} {tpos : Pos} (a e it : Addr) (hei : e≠it) : Turn P w K (.Tuple els x1 tpos) (IteL K a) [e,it] e (fun i h => (∃ old,IsEnum h e it i old)∧h.IsListIter it a i) where
 mem:=by simp
 obj:=fun i h st b hb => by
  obtain ⟨⟨old,he⟩,o,e1,c,d⟩:=st
  rcases List.mem_cons.mp hb with z | z
  ·subst z;exact ⟨_,he,fun v q => by cases q⟩
  ·have z':=List.mem_singleton.mp z;subst z';exact ⟨o,e1,fun v q => by rw [d] at q;cases q⟩
 keep:=fun i h h' st k => by
  obtain ⟨⟨old,he⟩,o,e1,c,d⟩:=st
  exact ⟨⟨old,k e (by simp) _ he⟩,o,k it (by simp) _ e1,c,d⟩
 item:=by
  intro X hP hw hK hc i pins s σ H E I hf st hg
  subst hP hw hK
  obtain ⟨xs,x,hq,hx⟩:=hg
  obtain ⟨its,rv,p,hz⟩:=I.list hq
  have p' : s.heap.IsList a its.toArray:=p.isList
  obtain ⟨u,hu,ru⟩:=rv.get hx
  obtain ⟨⟨old,he⟩,hb⟩:=st
  obtain ⟨o1,q1,c1,d1⟩:=id hb
  obtain ⟨o2,q2,c2,n2,d2⟩:=id p'
  have hai : a≠it:=fun z => by
   subst z;rw [q1] at q2;cases q2;rw [c1] at c2;exact absurd c2 (by simp)
  have hea : e≠a:=fun z => by
   subst z
   have he' : s.heap.get? e = some _:=he
   rw [q2] at he'
   have z2:=congrArg Obj.cls (Option.some.inj he')
   rw [c2] at z2
   exact absurd z2 (by simp)
  have hil : i < its.toArray.size:=by
   have h1:=(List.getElem?_eq_some_iff.mp hu).1
   simpa using h1
  have D:=PySem.Draws.list (prog:=X.prog) (w:=X.w) (A:=X.A.in1) (I.ok.hd hc) it a hai its.toArray
  refine wpAny_pyNext_enum_itemD D he ⟨hb,p'⟩ hil hei (by simp [hei,hea]) fun x' h' tk hPx hout hst' hT hsz hk => ?_
  have ex : x' = u:=by
   have z : its.toArray[i]? = some u:=by simpa using hu
   have hPx' : its.toArray[i]? = some x':=hPx
   rw [z] at hPx';exact (Option.some.inj hPx').symm
  subst ex
  refine ⟨.ref s.heap.objs.size,rfl,wpAny_letOwnedTupleGo_enum (s:={ s with heap:=h',toks:=tk + 1 }) hout fun h2 hEn hSame => ?_⟩
  have hSame' : Heap.SameBut e h' h2:=hSame
  have elt : e < s.heap.objs.size:=Heap.lt_size he
  have ilt : it < s.heap.objs.size:=Heap.lt_size q1
  have kp : ∀ b o,b≠e→b≠it→s.heap.get? b = some o→h2.get? b = some o:=fun b o n1 n2 q => hSame'.extBut b o n1 (hk b o n1 n2 q)
  obtain ⟨fe0,fe1,fe2,fe3,fe4,fe5⟩:=hf e (by simp)
  obtain ⟨fi0,fi1,fi2,fi3,fi4,fi5⟩:=hf it (by simp)
  have hTn : H s.heap.objs.size = none:=I.hok.fresh (Nat.le_refl _)
  have nT : ∀ b o,s.heap.get? b = some o→b≠s.heap.objs.size:=fun b o q => Nat.ne_of_lt (Heap.lt_size q)
  have hTo : h2.get? s.heap.objs.size = some { cls:=.type "tuple", data:=.seq #[.int i tk, x'] }:=hSame'.extBut _ _ (Nat.ne_of_gt elt) hT
  have nch : ∀ b,b ∉ ([e,it] : List Addr)→b≠e∧b≠it:=fun b hb => by simp at hb;exact hb
  have I2 : Inv X pins σ (upd H s.heap.objs.size (.tup [.int i,x])) { s with heap:=h2,toks:=tk + 1 }:=by
   refine I.step (g':=s.gens) (d':=s.drawn) (ch:=[e,it]) (fun b hb => ?_) (fun b o _ _ hc q _ => kp b o (nch b hc).1 (nch b hc).2 q) (fun b o _ _ hc q _ => ⟨o.slots,kp b o (nch b hc).1 (nch b hc).2 q⟩) (fun b o _ q n => by rw [upd_ne (nT b o q)];exact n)
    (fun b o hc q => ⟨o,kp b o (nch b hc).1 (nch b hc).2 q⟩) (fun b ys q => by rw [upd_ne (ne_of_none q hTn)];exact q) (fun b o u q => by rw [upd_ne (ne_of_none q hTn)];exact q) (fun b ps q => ⟨#[],by rw [upd_ne (ne_of_none q hTn),q];simp⟩) (fun m hm => ?_) (fun b u q => ?_) I.bare
   ·rcases List.mem_cons.mp hb with z | z
    ·subst z;exact ⟨fe3,fe1,fe4,fe5⟩
    ·have z':=List.mem_singleton.mp z;subst z';exact ⟨fi3,fi1,fi4,fi5⟩
   ·obtain ⟨o,es,ep,ho,r⟩:=hm
    exact ⟨o,es,ep,kp _ o (Ne.symm fe1) (Ne.symm fi1) ho,r⟩
   ·by_cases hbT : b = s.heap.objs.size
    ·subst hbT
     rw [upd_same] at q;cases q
     exact ⟨by show 2≤sizeLine;decide,[.int i tk,x'],.cons ⟨tk,rfl⟩ (.cons ru .nil),⟨_,hTo,rfl,_,rfl⟩⟩
    ·rw [upd_ne hbT] at q
     have nb : ∀ c v,H c = some v→c≠e∧c≠it:=fun c v z => ⟨ne_of_none z fe0,ne_of_none z fi0⟩
     refine (I.hok b u q).stay (fun c v hc r => ?_) (fun c r => by rw [upd_ne (ne_of_none r hTn)];exact r) (fun c ys r => by rw [upd_ne (ne_of_none r hTn)];exact r) (fun c _ r _ => by rw [upd_ne (ne_of_none r hTn)];exact r)
     have nc : c≠e∧c≠it:=by
      rcases hc with z | z
      ·rw [z];exact nb b u q
      ·exact nb c _ z
     exact kp c v nc.1 nc.2 r
  refine ⟨.ref s.heap.objs.size,_,I2,rfl,⟨s.heap.objs.size,x,hTn,rfl,rfl,fun ys hy => by rw [I.list_inj hy hq];exact hx⟩,⟨⟨x',by simpa using hEn⟩,?_⟩,fun b hb => ?_⟩
  ·exact hst'.1.extBut hSame'.extBut (Ne.symm hei)
  ·rcases List.mem_cons.mp hb with z | z
   ·subst z;rw [upd_ne (Nat.ne_of_lt elt)];exact fe0
   ·have z':=List.mem_singleton.mp z;subst z';rw [upd_ne (Nat.ne_of_lt ilt)];exact fi0
 done:=by
  intro X hP hw hK hc i pins s σ H E I hf st hg
  subst hP hw hK
  obtain ⟨xs,hq,hx⟩:=hg
  obtain ⟨its,rv,p,hz⟩:=I.list hq
  have p' : s.heap.IsList a its.toArray:=p.isList
  obtain ⟨⟨old,he⟩,hb⟩:=st
  obtain ⟨o1,q1,c1,d1⟩:=id hb
  obtain ⟨o2,q2,c2,n2,d2⟩:=id p'
  have hai : a≠it:=fun z => by
   subst z;rw [q1] at q2;cases q2;rw [c1] at c2;exact absurd c2 (by simp)
  obtain ⟨fi0,fi1,fi2,fi3,fi4,fi5⟩:=hf it (by simp)
  have D:=PySem.Draws.list (prog:=X.prog) (w:=X.w) (A:=X.A.in1) (I.ok.hd hc) it a hai its.toArray
  have hl:=rv.length
  have en : i = its.toArray.size:=by simp;omega
  subst en
  exact wpAny_pyNext_enum_endD D he ⟨hb,p'⟩ fun h' eb => ⟨rfl,I.turned (t':=s.toks) (fun b o hb e => eb b o hb e) fi0 fi1 fi3 fi4 fi5⟩
 self:=fun _ _ _ _ _ st h => by
  obtain ⟨⟨old,he⟩,_⟩:=st
  exact wpAny_pyIter_enum he h
section
variable {X : Cx}
noncomputable def iEnumL (K : PySem.W.Frag) (ta : TA) : TI:=fun σ H R => ta σ H fun vs H1 => ∃ a xs,vs = [.ref a]∧SqL K H1 a xs∧R (IteL K a) H1
theorem enum_itL {pins : List (Addr × Obj)} {σ : St} {H : Hp} {s : Shared} {R : It→Hp→Prop} {els : List Expr} {x1 : Nat} {tpos : Pos} {a : Addr} {xs : List V} {E : Value→Shared→Prop} (I : Inv X pins σ H s) (hq : SqL X.K H a xs) (q : R (IteL X.K a) H) :
  wpAny (model X.prog X.w) X.A (call (.type "enumerate") [.ref a]) (fun v s1 => wpAny (model X.prog X.w) X.A (pyIter v) (PIE X pins σ (.Tuple els x1 tpos) R) E s1) E s:=by
 obtain ⟨its,rv,p,hz⟩:=I.list hq
 have p' : s.heap.IsList a its.toArray:=p.isList
 refine call_enumerate_list p' fun h' he hit hsz hk => ?_
 refine wpAny_pyIter_enum (s:={ s with heap:=h' }) he ?_
 have I1 : Inv X pins σ H { s with heap:=h' }:=I.kept (t':=s.toks) hk
 refine ⟨s.heap.objs.size + 1,[s.heap.objs.size + 1,s.heap.objs.size],_,_,H,rfl,I1,turn_enumL a (s.heap.objs.size + 1) s.heap.objs.size (by exact Nat.succ_ne_self _),⟨⟨_,he⟩,hit⟩,fun b hb => ?_,q⟩
 rcases List.mem_cons.mp hb with z | z
 ·subst z
  exact I.fpOk (Nat.le_succ _) (I.hok.fresh (Nat.le_succ _))
 ·have z':=List.mem_singleton.mp z
  subst z'
  exact I.fpOk (Nat.le_refl _) (I.hok.fresh (Nat.le_refl _))
theorem pi_enumL {a : Expr} {ta : TA} {p pos tpos : Pos} {els : List Expr} {x1 : Nat} (hg : Gl X "enumerate") (hm : X.mg "enumerate" = none) (ha : PA X [a] ta) (hs : starEach [a] X.env = [(false, eval a X.env)]:=by rfl) :
  PI X (.Tuple els x1 tpos) (.Call (.Name "enumerate" p) [a] [] pos) (iEnumL X.K ta):=by
 intro pins s σ H R I h
 refine Call_ (ld_blt I hg hm boot_enum (PyProof.Rows.callWith_type1 (thn (ha pos pins s σ H _ I h) fun us s1 ⟨vs,H1,I1,r1,q1⟩ => ?_) hs rfl))
 obtain ⟨b,xs,rfl,hq,q⟩:=q1
 obtain ⟨u,rfl,ru⟩:=vals1 r1
 cases ru
 exact enum_itL I1 hq q
end
end Mi
namespace Mi
open PySem L2
open PyProof.Rows hiding St
section
variable {prog : Program} {w : World} {A : Around} {E : Value→Shared→Prop} {s : Shared}
end
end Mi
namespace Mi
open PySem L2
open PyProof.Rows hiding St
section
variable {X : Cx} {pins : List (Addr × Obj)} {σ : St} {H : Hp} {s : Shared}
theorem sqT_keep {K : PySem.W.Frag} {H H' : Hp} {a : Addr} {xs : List V} (h : SqT K H a xs) (k : ∀ o,(∀ ys,o≠.lst ys)→H a = some o→H' a = some o) : SqT K H' a xs:=by
 rcases h with (h | ⟨o,h⟩) | h
 ·exact .inl (.inl (k _ (by intro ys z;cases z) h))
 ·exact .inl (.inr ⟨o,k _ (by intro ys z;cases z) h⟩)
 ·exact .inr h
end
end Mi
namespace Mi
open PySem PySem.W PyProof.Rows
variable {r : Nat→Int} {N : Nat}
end Mi
namespace Mi
open PySem L2
open PyProof.Rows hiding St
mutual
noncomputable def cmpOk : D→D→Bool
 | .int _,.int _ => true
 | .tup a,.tup b => cmpOks a b
 | _,_ => false
noncomputable def cmpOks : List D→List D→Bool
 | a :: as,b :: bs => if a = b then cmpOks as bs else cmpOk a b
 | [],_ => true
 | _ :: _,[] => true
end
section
open PySem.SeqAt
open PySem.AutoSeq1 (wpAny_loadPart')
open PySem.MeetsSeq PySem.MeetsSeq2 PySem.MeetsSeq3
end
end Mi
namespace Mi
open PySem
noncomputable def insD (d : D) : List D→List D
 | [] => [d]
 | e :: es => if ltD e d = true then e :: insD d es else d :: e :: es
noncomputable def isort : List D→List D
 | [] => []
 | d :: ds => insD d (isort ds)
end Mi
namespace Mi
open PySem L2 PySem.W
open PyProof.Rows hiding St
noncomputable def isInt : D→Bool
 | .int _ => true
 | _ => false
noncomputable def headInt : D→Bool
 | .tup (.int _ :: _) => true
 | _ => false
noncomputable def headTup : D→Bool
 | .tup (.tup _ :: _) => true
 | _ => false
noncomputable def sortOk (ds : List D) : Bool :=
 decide (ds.length < 64) && keyOks ds && decide (deps ds≤20) && (ds.all fun a => ds.all fun b => cmpOk a b) && (decide (ds.length < 2) || ds.all isInt || ds.all headInt || ds.all headTup)
section
variable {prog : Program} {w : World} {A : Around} {E : Value→Shared→Prop} {s : Shared}
end
end Mi
namespace Mi
open PySem L2
open PyProof.Rows hiding St
structure G where
 P : Program
 w : World
 K : PySem.W.Frag
noncomputable def DAt (g : G) (a : Addr) (xs : List (D × Addr × Value)) (ys : List V) (h : Heap) : Prop :=
 (a == sysModules) = false∧xs.length≤sizeLine∧Vals ys (xs.map (·.2.2)) ∧
  ∃ o es ep,h.get? a = some o∧o.ExactDict∧o.data = .dict es ep∧es.toList = xs.map (entryOfKey (deepKind g.P g.w))∧(xs.map (·.1)).Nodup
noncomputable def isKey (d : D) : Bool:=keyOk d && decide (dep d≤6) && (match d with | .tup _ => true | _ => false)
mutual
noncomputable def Rp (g : G) (H : Hp) : D→V→Prop
 | .non,v => v = .non
 | .bl b,v => v = .bl b
 | .int i,v => v = .int i
 | .str x,v => v = .str x
 | .tup ds,v => ∃ a xs,v = .ref a∧SqT g.K H a xs∧Rps g H ds xs
 | .lst ds,v => ∃ a xs,v = .ref a∧SqL g.K H a xs∧Rps g H ds xs
 | .dct ks vs,v => ∃ a xs ys,v = .ref a∧H a = some (.ext (DAt g a xs ys))∧ks = xs.map (·.1)∧(∀ k∈ks,isKey k = true)∧Rps g H ks (xs.map fun x => V.ref x.2.1)∧Rps g H vs ys
noncomputable def Rps (g : G) (H : Hp) : List D→List V→Prop
 | [],xs => xs = []
 | d :: ds,xs => ∃ y ys,xs = y :: ys∧Rp g H d y∧Rps g H ds ys
end
theorem sqL_mono {K : PySem.W.Frag} {H H' : Hp} {a : Addr} {xs : List V} (e : Same H H') (h : SqL K H a xs) : SqL K H' a xs:=e.seq h
theorem sqT_mono {K : PySem.W.Frag} {H H' : Hp} {a : Addr} {xs : List V} (e : Same H H') (h : SqT K H a xs) : SqT K H' a xs:=sqT_keep h fun o _ q => e a o q
mutual
theorem Rp.mono {g : G} {H H' : Hp} : ∀ {d : D} {v : V},Same H H'→Rp g H d v→Rp g H' d v
 | .non,v,e,r => by rw [Rp] at r ⊢;exact r
 | .bl _,v,e,r => by rw [Rp] at r ⊢;exact r
 | .int _,v,e,r => by rw [Rp] at r ⊢;exact r
 | .str _,v,e,r => by rw [Rp] at r ⊢;exact r
 | .tup ds,v,e,r => by
  rw [Rp] at r ⊢
  obtain ⟨a,xs,rfl,q,rs⟩:=r
  exact ⟨a,xs,rfl,sqT_mono e q,Rps.mono e rs⟩
 | .lst ds,v,e,r => by
  rw [Rp] at r ⊢
  obtain ⟨a,xs,rfl,q,rs⟩:=r
  exact ⟨a,xs,rfl,sqL_mono e q,Rps.mono e rs⟩
 | .dct ks vs,v,e,r => by
  rw [Rp] at r ⊢
  obtain ⟨a,xs,ys,rfl,q,ek,hk,r1,r2⟩:=r
  exact ⟨a,xs,ys,rfl,e a _ q,ek,hk,Rps.mono e r1,Rps.mono e r2⟩
theorem Rps.mono {g : G} {H H' : Hp} : ∀ {ds : List D} {vs : List V},Same H H'→Rps g H ds vs→Rps g H' ds vs
 | [],vs,e,r => by rw [Rps] at r ⊢;exact r
 | d :: ds,vs,e,r => by
  rw [Rps] at r ⊢
  obtain ⟨y,ys,rfl,r0,rs⟩:=r
  exact ⟨y,ys,rfl,Rp.mono e r0,Rps.mono e rs⟩
end
theorem Rps.length {g : G} {H : Hp} : ∀ {ds : List D} {vs : List V},Rps g H ds vs→ds.length = vs.length
 | [],vs,r => by rw [Rps] at r;subst r;rfl
 | d :: ds,vs,r => by
  rw [Rps] at r
  obtain ⟨y,ys,rfl,_,r⟩:=r
  simp [Rps.length r]
theorem Rps.getD {g : G} {H : Hp} : ∀ {ds : List D} {vs : List V} {i : Nat} {d : D},Rps g H ds vs→ds[i]? = some d→∃ v,vs[i]? = some v∧Rp g H d v
 | [],vs,i,d,r,h => by simp at h
 | d0 :: ds,vs,i,d,r,h => by
  rw [Rps] at r
  obtain ⟨y,ys,rfl,r0,rs⟩:=r
  cases i with
  | zero => simp at h;subst h;exact ⟨y,rfl,r0⟩
  | succ i =>
   simp only [List.getElem?_cons_succ] at h
   obtain ⟨v,e,q⟩:=Rps.getD rs h
   exact ⟨v,by simpa using e,q⟩
theorem Rps.append {g : G} {H : Hp} : ∀ {ds es : List D} {vs ws : List V},Rps g H ds vs→Rps g H es ws→Rps g H (ds++es) (vs++ws)
 | [],es,vs,ws,r,q => by rw [Rps] at r;subst r;exact q
 | d :: ds,es,vs,ws,r,q => by
  rw [Rps] at r
  obtain ⟨y,ys,rfl,r0,rs⟩:=r
  rw [List.cons_append,Rps]
  exact ⟨y,ys++ws,rfl,r0,rs.append q⟩
theorem Rps.nil {g : G} {H : Hp} : Rps g H [] []:=by rw [Rps]
theorem Rps.cons {g : G} {H : Hp} {d : D} {v : V} {ds : List D} {vs : List V} (r : Rp g H d v) (rs : Rps g H ds vs) : Rps g H (d :: ds) (v :: vs):=by
 rw [Rps];exact ⟨v,vs,rfl,r,rs⟩
theorem Rps.one {g : G} {H : Hp} {d : D} {v : V} (r : Rp g H d v) : Rps g H [d] [v]:=Rps.cons r Rps.nil
theorem Rps.cons_inv {g : G} {H : Hp} {d : D} {ds : List D} {vs : List V} (r : Rps g H (d :: ds) vs) : ∃ v ws,vs = v :: ws∧Rp g H d v∧Rps g H ds ws:=by rw [Rps] at r;exact r
theorem Rps.nil_inv {g : G} {H : Hp} {vs : List V} (r : Rps g H [] vs) : vs = []:=by rw [Rps] at r;exact r
section
variable {X : Cx} {pins : List (Addr × Obj)} {σ : St} {H : Hp} {s : Shared}
noncomputable abbrev gOf (X : Cx) : G:=⟨X.prog,X.w,X.K⟩
mutual
theorem rpV (I : Inv X pins σ H s) : ∀ {d : D} {v : V} {u : Value},dep d < 1000→Rp (gOf X) H d v→RelV v u→RpV s.heap d u
 | .non,v,u,hd,r,q => by rw [Rp] at r;subst r;rw [RpV];exact q
 | .bl _,v,u,hd,r,q => by rw [Rp] at r;subst r;rw [RpV];exact q
 | .int _,v,u,hd,r,q => by rw [Rp] at r;subst r;rw [RpV];exact q
 | .str _,v,u,hd,r,q => by rw [Rp] at r;subst r;rw [RpV];exact q
 | .tup ds,v,u,hd,r,q => by
  rw [Rp] at r
  obtain ⟨a,xs,rfl,sq,rs⟩:=r
  cases q
  obtain ⟨its,rv,p,hz⟩:=I.tuple sq
  rw [RpV]
  rw [dep] at hd
  exact ⟨a,its,rfl,p,rpVs I (by omega) rs rv⟩
 | .lst ds,v,u,hd,r,q => by
  rw [Rp] at r
  obtain ⟨a,xs,rfl,sq,rs⟩:=r
  cases q
  obtain ⟨its,rv,p,hz⟩:=I.list sq
  rw [RpV]
  rw [dep] at hd
  exact ⟨a,its,rfl,p.isList,rpVs I (by omega) rs rv⟩
 | .dct _ _,v,u,hd,r,q => by rw [dep] at hd;omega
theorem rpVs (I : Inv X pins σ H s) : ∀ {ds : List D} {vs : List V} {us : List Value},deps ds < 1000→Rps (gOf X) H ds vs→Vals vs us→RpVs s.heap ds us
 | [],vs,us,hd,r,q => by rw [r.nil_inv] at q;cases q;rw [RpVs]
 | d :: ds,vs,us,hd,r,q => by
  obtain ⟨v,ws,rfl,r0,rs⟩:=r.cons_inv
  rw [deps] at hd
  cases q with
  | cons q0 qs =>
   rw [RpVs]
   exact ⟨_,_,rfl,rpV I (by omega) r0 q0,rpVs I (by omega) rs qs⟩
end
end
structure Grow (H Hs H' Hs' : Hp) : Prop where
 keep : ∀ a o,H a = some o→H' a = some o
 old : ∀ a o,H a = some o→Hs' a = Hs a
 sub : Same Hs' H'
theorem Grow.refl {H Hs : Hp} (h : Same Hs H) : Grow H Hs H Hs:=⟨fun _ _ q => q,fun _ _ _ => rfl,h⟩
theorem Grow.trans {H Hs H1 Hs1 H2 Hs2 : Hp} (a : Grow H Hs H1 Hs1) (b : Grow H1 Hs1 H2 Hs2) : Grow H Hs H2 Hs2 :=
 ⟨fun c o q => b.keep c o (a.keep c o q),fun c o q => (b.old c o (a.keep c o q)).trans (a.old c o q),b.sub⟩
theorem Grow.same {H Hs H' Hs' : Hp} (g : Grow H Hs H' Hs') (h : Same Hs H) : Same Hs Hs':=fun a o q => by rw [g.old a o (h a o q)];exact q
theorem Grow.new {H Hs : Hp} {p : Addr} {o : HO} (h : Same Hs H) (hp : H p = none) : Grow H Hs (upd H p o) (upd Hs p o):=by
 refine ⟨fun a u q => by rw [upd_ne (ne_of_none q hp)];exact q,fun a u q => by rw [upd_ne (ne_of_none q hp)],fun a u q => ?_⟩
 by_cases e : a = p
 ·subst e;rw [upd_same] at q ⊢;exact q
 ·rw [upd_ne e] at q ⊢;exact h a u q
theorem Grow.own {H Hs : Hp} {p : Addr} {o : HO} (h : Same Hs H) (hp : H p = none) : Grow H Hs (upd H p o) Hs:=by
 refine ⟨fun a u q => by rw [upd_ne (ne_of_none q hp)];exact q,fun a u q => rfl,fun a u q => ?_⟩
 rw [upd_ne (ne_of_none (h a u q) hp)];exact h a u q
end Mi
namespace Mi
open PySem L2
open PyProof.Rows hiding St
section
variable {X : Cx}
theorem flat_of {a b : D} (h : flatEnough a b = true) : dep a≤30∧dep b≤30:=by
 unfold flatEnough at h
 simpa using h
noncomputable def rEqD (X : Cx) : R2:=fun x y H Q => ∃ d e,Rp (gOf X) H d x∧Rp (gOf X) H e y∧flatEnough d e = true∧Q (.bl (pyEq d e)) H
noncomputable def rNeD (X : Cx) : R2:=fun x y H Q => ∃ d e,Rp (gOf X) H d x∧Rp (gOf X) H e y∧flatEnough d e = true∧Q (.bl (!pyEq d e)) H
theorem op_eqD (hu : X.A.units + 100 < cLine) : OpR X (compareOp .Eq) (rEqD X):=by
 intro pins s σ H x y v u Q I rx ry h
 obtain ⟨d,e,r1,r2,hf,q⟩:=h
 obtain ⟨f1,f2⟩:=flat_of hf
 exact rcAt_D d e (rpV I (by omega) r1 rx) (rpV I (by omega) r2 ry) (by omega) (by omega) _ _ _ _ ⟨.bl (pyEq d e),H,I,rfl,q⟩
theorem op_neD (hu : X.A.units + 100 < cLine) : OpR X (compareOp .NotEq) (rNeD X):=by
 intro pins s σ H x y v u Q I rx ry h
 obtain ⟨d,e,r1,r2,hf,q⟩:=h
 obtain ⟨f1,f2⟩:=flat_of hf
 exact rneAt_D d e (rpV I (by omega) r1 rx) (rpV I (by omega) r2 ry) (by omega) (by omega) _ _ _ _ ⟨.bl (!pyEq d e),H,I,rfl,q⟩
open Classical in
noncomputable def eOf (h : Heap) (x : D) (y : Value) : Bool:=if p : ∃ d,RpV h d y then pyEq (Classical.choose p) x else false
theorem eOf_eq {h : Heap} {x d : D} {y : Value} (r : RpV h d y) : eOf h x y = pyEq d x:=by
 unfold eOf
 have p : ∃ d,RpV h d y:=⟨d,r⟩
 rw [dif_pos p,RpV.inj (Classical.choose_spec p) r]
theorem any_eOf {h : Heap} {x : D} : ∀ {ds : List D} {us : List Value},RpVs h ds us→us.any (eOf h x) = ds.any fun d => pyEq d x
 | [],us,r => by rw [RpVs] at r;subst r;rfl
 | d :: ds,us,r => by
  rw [RpVs] at r
  obtain ⟨y,ys,rfl,r0,rs⟩:=r
  rw [List.any_cons,List.any_cons,eOf_eq r0,any_eOf rs]
theorem mem_eOf {A : Around} {s : Shared} {x : D} {v : Value} (rx : RpV s.heap x v) (hx : A.units + dep x < cLine) : ∀ {ds : List D} {us : List Value},RpVs s.heap ds us→A.units + deps ds < cLine→∀ y∈us,SeqAt.EqAt A s y v (eOf s.heap x y)
 | [],us,r,_,y,hy => by rw [RpVs] at r;subst r;simp at hy
 | d :: ds,us,r,hd,y,hy => by
  rw [RpVs] at r
  obtain ⟨z,ys,rfl,r0,rs⟩:=r
  rw [deps] at hd
  rcases List.mem_cons.mp hy with e | hy
  ·subst e
   rw [eOf_eq r0]
   exact eqAt_D d x r0 rx (by omega) hx
  ·exact mem_eOf rx hx rs (by omega) y hy
theorem deps_all {ds : List D} {n : Nat} : (∀ d∈ds,dep d≤n)→deps ds≤n:=by
 induction ds with
 | nil => intro _;simp [deps]
 | cons d ds ih =>
  intro h
  rw [deps]
  have h1:=h d List.mem_cons_self
  have h2:=ih fun x hx => h x (List.mem_cons_of_mem _ hx)
  omega
noncomputable def rInS (X : Cx) (neg : Bool) : R2:=fun x y H Q => ∃ d ds p xs,Rp (gOf X) H d x∧y = .ref p∧(SqL X.K H p xs∨SqT X.K H p xs)∧Rps (gOf X) H ds xs∧(ds.all fun e => flatEnough e d) = true∧dep d≤30 ∧
 Q (.bl (if neg then !(ds.any fun e => pyEq e d) else ds.any fun e => pyEq e d)) H
theorem op_inS (hu : X.A.units + 100 < cLine) : OpR X (compareOp .In) (rInS X false):=by
 intro pins s σ H x y v u Q I rx ry h
 obtain ⟨d,ds,p,xs,r1,rfl,sq,rs,hf,hd,q⟩:=h
 cases ry
 have dd : deps ds≤30:=deps_all fun e he => (flat_of (List.all_eq_true.mp hf e he)).1
 have rx':=rpV I (by omega) r1 rx
 have hin : X.A.in1.units = X.A.units + 1:=rfl
 rcases sq with sq | sq
 ·obtain ⟨its,rv,pl,hz⟩:=I.list sq
  have rs':=rpVs I (by omega) rs rv
  refine SeqAt.in_listAt (eOf s.heap d) pl.isList (fun z hz => mem_eOf rx' (by omega) rs' (by omega) z (by simpa using hz)) ?_
  refine ⟨.bl _,H,I,rfl,?_⟩
  rw [List.any_toArray,any_eOf rs']
  exact q
 ·obtain ⟨its,rv,pl,hz⟩:=I.tuple sq
  have rs':=rpVs I (by omega) rs rv
  refine SeqAt.in_tupleAt (eOf s.heap d) pl (fun z hz => mem_eOf rx' (by omega) rs' (by omega) z (by simpa using hz)) ?_
  refine ⟨.bl _,H,I,rfl,?_⟩
  rw [List.any_toArray,any_eOf rs']
  exact q
theorem op_notInS (hu : X.A.units + 100 < cLine) : OpR X (compareOp .NotIn) (rInS X true):=by
 intro pins s σ H x y v u Q I rx ry h
 obtain ⟨d,ds,p,xs,r1,rfl,sq,rs,hf,hd,q⟩:=h
 cases ry
 have dd : deps ds≤30:=deps_all fun e he => (flat_of (List.all_eq_true.mp hf e he)).1
 have rx':=rpV I (by omega) r1 rx
 have hin : X.A.in1.units = X.A.units + 1:=rfl
 rcases sq with sq | sq
 ·obtain ⟨its,rv,pl,hz⟩:=I.list sq
  have rs':=rpVs I (by omega) rs rv
  refine SeqAt.notIn_listAt (eOf s.heap d) pl.isList (fun z hz => mem_eOf rx' (by omega) rs' (by omega) z (by simpa using hz)) ?_
  refine ⟨.bl _,H,I,rfl,?_⟩
  rw [List.any_toArray,any_eOf rs']
  exact q
 ·obtain ⟨its,rv,pl,hz⟩:=I.tuple sq
  have rs':=rpVs I (by omega) rs rv
  refine SeqAt.notIn_tupleAt (eOf s.heap d) pl (fun z hz => mem_eOf rx' (by omega) rs' (by omega) z (by simpa using hz)) ?_
  refine ⟨.bl _,H,I,rfl,?_⟩
  rw [List.any_toArray,any_eOf rs']
  exact q
structure DictR (X : Cx) (H : Hp) (a : Addr) (ks : List D) (xs : List (D × Addr × Value)) (ys : List V) : Prop where
 at_ : H a = some (.ext (DAt (gOf X) a xs ys))
 keys : ks = xs.map (·.1)
 ok : ∀ k∈ks,isKey k = true
 rep : Rps (gOf X) H ks (xs.map fun x => V.ref x.2.1)
theorem isKey_iff {d : D} (h : isKey d = true) : keyOk d = true∧dep d≤6∧∃ ds,d = .tup ds:=by
 unfold isKey at h
 simp only [Bool.and_eq_true,decide_eq_true_eq] at h
 refine ⟨h.1.1,h.1.2,?_⟩
 cases d <;> simp at h
 exact ⟨_,rfl⟩
theorem rps_get2 {g : G} {H : Hp} : ∀ {xs : List (D × Addr × Value)},Rps g H (xs.map (·.1)) (xs.map fun x => V.ref x.2.1)→∀ x∈xs,Rp g H x.1 (.ref x.2.1)
 | [],r,x,hx => by simp at hx
 | y :: ys,r,x,hx => by
  rw [List.map_cons,List.map_cons] at r
  obtain ⟨v,ws,e,r0,rs⟩:=r.cons_inv
  cases e
  rcases List.mem_cons.mp hx with e | hx
  ·rw [e];exact r0
  ·exact rps_get2 rs x hx
section
variable {pins : List (Addr × Obj)} {σ : St} {H : Hp} {s : Shared} {a : Addr} {ks : List D} {xs : List (D × Addr × Value)} {ys : List V}
theorem dictOf (I : Inv X pins σ H s) (d : DictR X H a ks xs ys) : (a == sysModules) = false∧xs.length≤sizeLine∧Vals ys (xs.map (·.2.2))∧s.heap.DictOfH (deepKind X.prog X.w) a xs:=by
 obtain ⟨⟨h1,h2,h3,o,es,ep,h4,h5,h6,h7,h8⟩,_⟩:=(show ObjOk X.prog X.w H s.heap a (.ext (DAt (gOf X) a xs ys)) from I.hok a _ d.at_)
 refine ⟨h1,h2,h3,o,es,ep,h4,h5,h6,h7,fun x hx => ?_,h8⟩
 have hk:=isKey_iff (d.ok x.1 (by rw [d.keys];exact List.mem_map.mpr ⟨x,hx,rfl⟩))
 have rep:=d.rep
 rw [d.keys] at rep
 exact ⟨hk.1,hk.2.1,rpV I (by omega) (rps_get2 rep x hx) rfl⟩
theorem keyAt {k : D} {b : Addr} (I : Inv X pins σ H s) (hk : isKey k = true) (r : Rp (gOf X) H k (.ref b)) : (deepKind X.prog X.w).is s.heap k b:=by
 have h:=isKey_iff hk
 exact ⟨h.1,h.2.1,rpV I (by omega) r rfl⟩
theorem atKey_some {k : D} : (atKey xs k).isSome = decide (k∈xs.map (·.1)):=by
 unfold atKey
 rw [Option.isSome_map,Bool.eq_iff_iff,List.find?_isSome,decide_eq_true_iff,List.mem_map]
 constructor
 ·rintro ⟨x,hx,e⟩
  exact ⟨x,hx,of_decide_eq_true e⟩
 ·rintro ⟨x,hx,e⟩
  exact ⟨x,hx,decide_eq_true e⟩
end
noncomputable def rInDt (X : Cx) (neg : Bool) : R2:=fun x y H Q => ∃ k a ks xs ys,Rp (gOf X) H k x∧isKey k = true∧y = .ref a∧DictR X H a ks xs ys∧Q (.bl (if neg then !decide (k∈ks) else decide (k∈ks))) H
theorem op_inDt (hu : X.A.units + 100 < cLine) : OpR X (compareOp .In) (rInDt X false):=by
 intro pins s σ H x y v u Q I rx ry h
 obtain ⟨k,a,ks,xs,ys,r1,hk,rfl,d,q⟩:=h
 cases ry
 obtain ⟨_,_,ds,rfl⟩:=isKey_iff hk
 rw [Rp] at r1
 obtain ⟨b,zs,rfl,sq,rs⟩:=id r1
 cases rx
 obtain ⟨h1,h2,h3,h4⟩:=dictOf I d
 have hin : X.A.in1.units = X.A.units + 1:=rfl
 refine wpAny_in_heap (knd:=deepKind X.prog X.w) (by show X.A.in1.units + 10 < cLine;omega) (keyAt I hk (by rw [Rp];exact ⟨b,zs,rfl,sq,rs⟩)) h1 h4 ?_
 refine ⟨.bl _,H,I.tok _,rfl,?_⟩
 rw [atKey_some,← d.keys]
 exact q
theorem op_notInDt (hu : X.A.units + 100 < cLine) : OpR X (compareOp .NotIn) (rInDt X true):=by
 intro pins s σ H x y v u Q I rx ry h
 obtain ⟨k,a,ks,xs,ys,r1,hk,rfl,d,q⟩:=h
 cases ry
 obtain ⟨_,_,ds,rfl⟩:=isKey_iff hk
 rw [Rp] at r1
 obtain ⟨b,zs,rfl,sq,rs⟩:=id r1
 cases rx
 obtain ⟨h1,h2,h3,h4⟩:=dictOf I d
 have hin : X.A.in1.units = X.A.units + 1:=rfl
 refine wpAny_notIn_heap (knd:=deepKind X.prog X.w) (by show X.A.in1.units + 10 < cLine;omega) (keyAt I hk (by rw [Rp];exact ⟨b,zs,rfl,sq,rs⟩)) h1 h4 ?_
 refine ⟨.bl _,H,I.tok _,rfl,?_⟩
 rw [atKey_some,← d.keys]
 exact q
noncomputable def putKs (ks vs : List D) (k v : D) : List D × List D:=if k∈ks then (ks,(ks.zip vs).map fun p => if p.1 = k then v else p.2) else (ks++[k],vs++[v])
end
end Mi
namespace Mi
open PySem L2
open PyProof.Rows hiding St
section
variable {X : Cx}
theorem bools_are : ∀ {bs : List Bool} {us : List Value},Vals (bs.map V.bl) us→LSm.BoolsAre us bs
 | [],us,q => by cases q;exact .nil
 | b :: bs,us,q => by
  rw [List.map_cons] at q
  cases q with
  | cons q0 qs => cases q0;exact .cons b (bools_are qs)
noncomputable def rAll (X : Cx) : List V→Hp→VK→Prop:=fun xs H Q => ∃ (p : Addr) (bs : List Bool),xs = [.ref p]∧SqL X.K H p (bs.map V.bl)∧Q (.bl (bs.all id)) H
noncomputable def rAny (X : Cx) : List V→Hp→VK→Prop:=fun xs H Q => ∃ (p : Addr) (bs : List Bool),xs = [.ref p]∧SqL X.K H p (bs.map V.bl)∧Q (.bl (bs.any id)) H
theorem call_allL (hc : X.calm = true) : CallR X (.builtin "all") (rAll X):=by
 intro pins s σ H xs us Q I r h
 obtain ⟨p,bs,rfl,sq,q⟩:=h
 obtain ⟨u,rfl,ru⟩:=vals1 r
 cases ru
 obtain ⟨its,rv,pl,hz⟩:=I.list sq
 have hb:=bools_are rv
 have hl:=pl.isList
 have hlt : p < s.heap.objs.size:=by obtain ⟨_,e,_⟩:=hl;exact Heap.lt_size e
 refine call_all_walk (wpAny_pyIter_list hl ?_)
 refine ⟨s.heap.objs.size,[s.heap.objs.size,p],[s.heap.objs.size],its.toArray.size,_,_,fun i => (bs[i]?).getD true,rfl,Walks.list (A:=X.A.in1) (I.ok.hd hc) _ p (Nat.ne_of_lt hlt) its.toArray,
  ⟨⟨_,Heap.get?_push_size _ rfl,rfl,rfl⟩,hl.push _⟩,fun i v s' Q' E' hP hQ => ?_,fun h' tk hk => ?_⟩
 ·obtain ⟨b,e,rfl⟩:=hb.get i v (by simpa using hP)
  simp only [e,Option.getD_some] at hQ
  exact wpAny_truthy_bool hQ
 ·have e : ((List.range its.toArray.size).all fun i => (bs[i]?).getD true) = bs.all id:=by
   rw [List.size_toArray,hb.length];exact LSm.range_all bs
  rw [e]
  exact ⟨.bl _,H,I.kept (LSm.kept_iter hk),rfl,q⟩
theorem call_anyL (hc : X.calm = true) : CallR X (.builtin "any") (rAny X):=by
 intro pins s σ H xs us Q I r h
 obtain ⟨p,bs,rfl,sq,q⟩:=h
 obtain ⟨u,rfl,ru⟩:=vals1 r
 cases ru
 obtain ⟨its,rv,pl,hz⟩:=I.list sq
 have hb:=bools_are rv
 have hl:=pl.isList
 have hlt : p < s.heap.objs.size:=by obtain ⟨_,e,_⟩:=hl;exact Heap.lt_size e
 refine call_any_walk (wpAny_pyIter_list hl ?_)
 refine ⟨s.heap.objs.size,[s.heap.objs.size,p],[s.heap.objs.size],its.toArray.size,_,_,fun i => (bs[i]?).getD false,rfl,Walks.list (A:=X.A.in1) (I.ok.hd hc) _ p (Nat.ne_of_lt hlt) its.toArray,
  ⟨⟨_,Heap.get?_push_size _ rfl,rfl,rfl⟩,hl.push _⟩,fun i v s' Q' E' hP hQ => ?_,fun h' tk hk => ?_⟩
 ·obtain ⟨b,e,rfl⟩:=hb.get i v (by simpa using hP)
  simp only [e,Option.getD_some] at hQ
  exact wpAny_truthy_bool hQ
 ·have e : ((List.range its.toArray.size).any fun i => (bs[i]?).getD false) = bs.any id:=by
   rw [List.size_toArray,hb.length];exact LSm.range_any bs
  rw [e]
  exact ⟨.bl _,H,I.kept (LSm.kept_iter hk),rfl,q⟩
noncomputable def Ty.name : Ty→String
 | .int => "int" | .bool => "bool" | .str => "str" | .tuple => "tuple" | .list => "list"
noncomputable def tyD : D→String
 | .non => "NoneType" | .bl _ => "bool" | .int _ => "int" | .str _ => "str" | .tup _ => "tuple" | .lst _ => "list" | .dct _ _ => "dict"
noncomputable def isinD (d : D) (t : Ty) : Bool:=match t,d with
 | .int,.int _ => true | .int,.bl _ => true | .bool,.bl _ => true | .str,.str _ => true | .tuple,.tup _ => true | .list,.lst _ => true
 | _,_ => false
theorem kit_ok (K : PySem.W.Frag) (d : D) (t : Ty) : PySem.W.kitOne K (.type (tyD d)) (.type t.name) = some (isinD d t):=by
 cases d <;> cases t <;> rfl
theorem isin_ok {pins : List (Addr × Obj)} {σ : St} {H : Hp} {s : Shared} {A : Around} {E : Value→Shared→Prop} {Q : Value→Shared→Prop} {d : D} {v : V} {u : Value} (t : Ty) (I : Inv X pins σ H s) (r : Rp (gOf X) H d v) (ru : RelV v u)
  (h : ∀ tk, Q (.bool (isinD d t)) { s with toks:=tk }) : wpAny (model X.prog X.w) A (call (.builtin "isinstance") [u, .type t.name]) Q E s:=by
 have e:=kit_ok X.K d t
 cases d with
 | non => rw [Rp] at r;subst r;exact isinst_ok I ru .non e h
 | bl b => rw [Rp] at r;subst r;exact isinst_ok I ru (.bl b) e h
 | int b => rw [Rp] at r;subst r;exact isinst_ok I ru (.int b) e h
 | str b => rw [Rp] at r;subst r;exact isinst_ok I ru (.str b) e h
 | tup ds =>
  rw [Rp] at r
  obtain ⟨a,xs,rfl,sq,rs⟩:=r
  cases ru
  obtain ⟨its,rv,⟨o,h1,h2,_⟩,hz⟩:=I.tuple sq
  exact PySem.W.kia_one PySem.W.kitx_tuple I.kIn ⟨o,h1,h2⟩ e (fun z => nomatch z) h
 | lst ds =>
  rw [Rp] at r
  obtain ⟨a,xs,rfl,sq,rs⟩:=r
  cases ru
  obtain ⟨its,rv,pl,hz⟩:=I.list sq
  obtain ⟨o,h1,h2,_⟩:=pl.isList
  exact PySem.W.kia_one PySem.W.kitx_list I.kIn ⟨o,h1,h2⟩ e (fun z => nomatch z) h
 | dct ks vs =>
  rw [Rp] at r
  obtain ⟨a,xs,ys,rfl,hH,_⟩:=r
  cases ru
  obtain ⟨⟨_,_,_,o,es,ep,h4,h5,_⟩,_⟩:=(show ObjOk X.prog X.w H s.heap a (.ext (DAt (gOf X) a xs ys)) from I.hok a _ hH)
  exact PySem.W.kia_one PySem.W.kitx_dict I.kIn ⟨o,h4,h5.1⟩ e (fun z => nomatch z) h
noncomputable def rIsin (X : Cx) : List V→Hp→VK→Prop:=fun xs H Q => ∃ d v t,xs = [v,.ty t.name]∧Rp (gOf X) H d v∧Q (.bl (isinD d t)) H
theorem call_isin : CallR X (.builtin "isinstance") (rIsin X):=by
 intro pins s σ H xs us Q I r h
 obtain ⟨d,v,t,rfl,rd,q⟩:=h
 obtain ⟨u,w',rfl,ru,rw'⟩:=vals2 r
 cases rw'
 exact isin_ok t I rd ru fun tk => ⟨.bl _,H,I.tok _,rfl,q⟩
theorem cat_tup0 {prog : Program} {w : World} {A : Around} {E : Value→Shared→Prop} {s : Shared} {t b : Addr} {ws : List Value} {Q : Value→Shared→Prop} (ht : IsTup s.heap t (List.toArray [])) (hb : IsTup s.heap b ws.toArray)
  (h1 : Q (.ref b) s) : wpAny (model prog w) A (binaryOp .Add (.ref t) (.ref b)) Q E s:=by
 obtain ⟨⟨cls,dd,data,sl⟩,ho,hc,n,hd⟩:=id ht
 obtain ⟨⟨cls2,dd2,data2,sl2⟩,ho2,hc2,n2,hd2⟩:=id hb
 simp only at hc hd hc2 hd2
 subst hc hd hc2 hd2
 exact concat_meets ⟨_,ho,rfl⟩ ⟨_,ho2,rfl⟩ noFill_tuple_add seq_tuple_add PySem.F.slot_tuple_add PySem.F.entry_tuple_add (PySem.F.args_tuple_add_2 _ _)
  (tuple_addW0 t b _ ws.toArray n n2 dd dd2 sl sl2 (by simp)) ⟨ho,ho2,h1⟩
noncomputable def rCatT0 (K : PySem.W.Frag) : R2:=fun x y H Q => ∃ a b ys,x = .ref a∧y = .ref b∧SqT K H a []∧SqT K H b ys∧Q (.ref b) H
theorem op_catT0 : OpR X (binaryOp .Add) (rCatT0 X.K):=by
 intro pins s σ H x y v u Q I rx ry h
 obtain ⟨a,b,ys,rfl,rfl,ha,hb,q⟩:=h
 cases rx
 cases ry
 obtain ⟨its,r1,p1,_⟩:=I.tuple ha
 obtain ⟨its2,r2,p2,_⟩:=I.tuple hb
 cases r1
 exact cat_tup0 p1 p2 ⟨.ref b,H,I,rfl,q⟩
noncomputable def rCatL (K : PySem.W.Frag) : R2:=fun x y H Q => ∃ l b xs zs,x = .ref l∧y = .ref b∧SqL K H l xs∧SqL K H b zs∧xs.length + zs.length≤sizeLine∧∀ p,H p = none→Q (.ref p) (upd H p (.lst (xs++zs)))
noncomputable def rExtL (K : PySem.W.Frag) : V→List V→Hp→VK→Prop:=fun x vs H Q => ∃ l b xs zs,x = .ref l∧vs = [.ref b]∧H l = some (.lst xs)∧(SqL K H b zs∨SqT K H b zs)∧xs.length + zs.length≤lim∧Q .non (upd H l (.lst (xs++zs)))
theorem mt_extL : MtM X "list.extend" (rExtL X.K):=by
 intro pins s σ H x vs v us Q I rx rv h
 obtain ⟨l,b,xs,zs,rfl,rfl,hH,hB,hz,q⟩:=h
 cases rx
 obtain ⟨u,rfl,ru⟩:=rv.one
 cases ru
 have hlim:=lim_le
 obtain ⟨z,its,n,r,hl,e⟩:=I.lstM hH
 obtain ⟨T, o, its2, n2, hT, ho, hc, hd, r2⟩ : ∃ (T : String) (o : Obj) (its2 : List Value) (n2 : Nat), (T = "list" ∨ T = "tuple") ∧ s.heap.get? b = some o ∧ o.cls = .type T ∧ o.data = .seq its2.toArray n2 ∧ Vals zs its2:=by
  rcases hB with hB | hB
  ·obtain ⟨its2,r2,pl,_⟩:=I.list hB
   obtain ⟨o,ho,hc,n2,hd⟩:=pl.isList
   exact ⟨"list", o, its2, n2, .inl rfl, ho, hc, hd, r2⟩
  ·obtain ⟨its2,r2,⟨o,ho,hc,n2,hd⟩,_⟩:=I.tuple hB
   exact ⟨"tuple", o, its2, n2, .inr rfl, ho, hc, hd, r2⟩
 have hl2:=r2.length
 refine wpAny_call_entry PySem.F.slot_list_extend ⟨_,e,rfl⟩ PySem.F.entry_list_extend ?_ (PySem.F.args_list_extend_2 _ _)
 show wpAny _ _ (Builtin.List.listExtendWith (.ref l) (.ref b) .none) _ _ s
 unfold Builtin.List.listExtendWith
 refine wpAny_bind (wpAny_typeOf ⟨o,ho,hc⟩ ?_)
 have h1 : (Builtin.List.listSameRef (.ref l) (.ref b) || Value.type T == Value.type "list" || Value.type T == Value.type "tuple") = true:=by
  rcases hT with rfl | rfl <;> simp
 rw [if_pos h1]
 refine wpAny_bind (listItems_at ho hd ?_)
 refine wpAny_bind (listItems_at e rfl ?_)
 have hlong : ¬ (!its.toArray.isEmpty && Builtin.List.listTooLong (its.toArray.size + its2.toArray.size)) = true:=by
  rw [notLongL (by rw [List.size_toArray,List.size_toArray];omega),Bool.and_false]
  exact Bool.false_ne_true
 rw [if_neg hlong]
 refine wpAny_bind (listUpdate_at e rfl ?_ (by rw [List.size_toArray];omega) (by simp only [List.size_toArray,Array.size_append];omega))
 refine wpAny_pure ⟨_,rfl,?_⟩
 exact ⟨.non,_,I.lset (t':=s.toks) (its':=its++its2) hH e (by simp) (r.append r2) (by rw [List.length_append];omega),rfl,q⟩
end
end Mi
namespace Mi
open PySem L2
open PyProof.Rows hiding St
section
variable {prog : Program} {w : World} {A : Around} {E : Value→Shared→Prop} {s : Shared} {z ti to i1 i2 l1 l2 : Addr} {n1 n2 : Nat} {us vs : Array Value} {u v c d : Value}
structure ZAt (z ti to i1 i2 l1 l2 : Addr) (f : Value) (us vs : Array Value) (n1 n2 : Nat) (h : Heap) : Prop where
 ap : ZipApart z ti to i1 i2 l1 l2
 zr : IsZip h z ti to f
 its : IsPair h ti (.ref i1) (.ref i2)
 out : ∃ c d,IsPair h to c d
 one : h.IsTupleIter i1 l1 n1
 two : h.IsTupleIter i2 l2 n2
 src1 : h.IsTuple l1 us
 src2 : h.IsTuple l2 vs
theorem tit_keep {h h' : Heap} {i l : Addr} {n : Nat} (x : h.IsTupleIter i l n) (k : ∀ o,h.get? i = some o→h'.get? i = some o) : h'.IsTupleIter i l n:=let ⟨o,e,r⟩:=x;⟨o,k o e,r⟩
theorem tup_keep {h h' : Heap} {l : Addr} {us : Array Value} (x : h.IsTuple l us) (k : ∀ o,h.get? l = some o→h'.get? l = some o) : h'.IsTuple l us:=let ⟨o,e,r⟩:=x;⟨o,k o e,r⟩
theorem zipT_item {Q : Value→Shared→Prop} (S : ZAt z ti to i1 i2 l1 l2 .none us vs n1 n2 s.heap) (hu : us[n1]? = some u) (hv : vs[n2]? = some v)
  (hQ : ∀ g,ZAt z ti to i1 i2 l1 l2 (rawInt s.heap.objs.size) us vs (n1 + 1) (n2 + 1) g→IsPair g s.heap.objs.size u v→g.objs.size = s.heap.objs.size + 1 →
   (∀ b o,b≠z→b≠to→b≠i1→b≠i2→s.heap.get? b = some o→g.get? b = some o)→Q (.ref s.heap.objs.size) { s with heap:=g }) :
  wpAny (model prog w) A (Builtin.«zip.__next__» ⟨[.ref z],[]⟩) (fun fin s' => ∃ v,fin = .done (.ret v)∧Q v s') E s:=by
 obtain ⟨D,hz,ht,⟨c,d,ho⟩,k1,k2,m1,m2⟩:=S
 show wpAny _ _ (field (.ref z) 2 >>= _) _ _ _
 refine wpAny_bind (wpAny_field hz rfl (x:=.bool false) rfl ?_)
 show wpAny _ _ (field (.ref z) 3 >>= _) _ _ _
 refine wpAny_bind (wpAny_field hz rfl (x:=.ref ti) rfl (wpAny_bind (wpAny_seqItems ht rfl ?_)))
 show wpAny _ _ (Builtin.SmallTypes.ownedTupleIsFree (.ref z) >>= _) _ _ _
 refine wpAny_bind ?_
 unfold Builtin.SmallTypes.ownedTupleIsFree
 refine wpAny_bind (wpAny_field hz rfl (x:=.none) rfl (wpAny_pure ?_))
 simp only [if_true]
 refine wpAny_bind (wpAny_rule (wpAny_bind (wpAny_field hz rfl (x:=.ref to) rfl (wpAny_bind (wpAny_setField_rec hz (by simp) fun g1 z1 e1 => ?_)))))
 replace z1 : IsZip g1 z ti to .ellipsis:=z1
 refine wpAny_bind ?_
 simp only [List.zipIdx_cons,List.zipIdx_nil,List.forIn_cons,List.forIn_nil]
 refine wpAny_bind (wpAny_bind (wpAny_onRaise ?_))
 show wpAny _ _ (Builtin.SmallTypes.nextOf (.ref i1) >>= _) _ _ _
 refine wpAny_bind (nextT_item (k1.extBut e1.extBut D.i1z) (m1.extBut e1.extBut D.l1z) hu fun g2 k12 e2 => wpAny_pure ?_)
 have o2 : IsPair g2 to c d:=e2.extBut _ _ D.TOi1 (e1.extBut _ _ D.TOz ho)
 refine wpAny_bind (wpAny_seqItems o2 rfl (wpAny_bind (wpAny_updateSeq_pair o2 fun g3 o3 e3 => ?_)))
 replace o3 : IsPair g3 to u d:=o3
 refine wpAny_bind (wpAny_letGo (wpAny_pure (wpAny_bind (wpAny_bind (wpAny_onRaise ?_)))))
 show wpAny _ _ (Builtin.SmallTypes.nextOf (.ref i2) >>= _) _ _ _
 refine wpAny_bind (nextT_item (((k2.extBut e1.extBut D.i2z).extBut e2.extBut D.i12.symm).extBut e3.extBut D.TOi2.symm) (((m2.extBut e1.extBut D.l2z).extBut e2.extBut D.l2i1).extBut e3.extBut D.l2TO) hv fun g4 k24 e4 => wpAny_pure ?_)
 have o4 : IsPair g4 to u d:=e4.extBut _ _ D.TOi2 o3
 refine wpAny_bind (wpAny_seqItems o4 rfl (wpAny_bind (wpAny_updateSeq_pair o4 fun g5 o5 e5 => ?_)))
 replace o5 : IsPair g5 to u v:=o5
 refine wpAny_bind (wpAny_letGo (wpAny_pure (wpAny_pure (wpAny_bind (wpAny_seqItems o5 rfl (wpAny_bind (wpAny_newTuple ?_)))))))
 have sz : g5.objs.size = s.heap.objs.size:=by rw [e5.1,e4.1,e3.1,e2.1,e1.1]
 have z5 : IsZip g5 z ti to .ellipsis:=e5.extBut _ _ D.TOz.symm (e4.extBut _ _ D.i2z.symm (e3.extBut _ _ D.TOz.symm (e2.extBut _ _ D.i1z.symm z1)))
 have kp : ∀ b o,b≠z→b≠to→b≠i1→b≠i2→s.heap.get? b = some o→g5.get? b = some o:=fun b o b1 b2 b3 b4 e => e5.extBut _ _ b2 (e4.extBut _ _ b4 (e3.extBut _ _ b2 (e2.extBut _ _ b3 (e1.extBut _ _ b1 e))))
 have k15 : g5.IsTupleIter i1 l1 (n1 + 1):=((k12.extBut e3.extBut D.TOi1.symm).extBut e4.extBut D.i12).extBut e5.extBut D.TOi1.symm
 have k25 : g5.IsTupleIter i2 l2 (n2 + 1):=k24.extBut e5.extBut D.TOi2.symm
 have zlt : z < g5.objs.size:=Heap.lt_size z5
 show wpAny _ _ (Builtin.SmallTypes.ownedTupleHandOut (.ref z) (.ref g5.objs.size) >>= _) _ _ _
 refine wpAny_bind ?_
 unfold Builtin.SmallTypes.ownedTupleHandOut
 have z6 : IsZip (g5.push { cls:=.type "tuple", data:=.seq #[u, v] }) z ti to .ellipsis:=Heap.get?_push_of_some _ z5
 refine wpAny_bind (wpAny_setField_rec z6 (by simp) fun g7 z7 e7 => ?_)
 replace z7 : IsZip g7 z ti to (rawInt g5.objs.size):=z7
 refine wpAny_setField_rec z7 (by simp) fun g8 z8 e8 => ?_
 replace z8 : IsZip g8 z ti to (rawInt g5.objs.size):=z8
 have up : ∀ b o,b≠z→g5.get? b = some o→g8.get? b = some o:=fun b o b1 e => e8.extBut _ _ b1 (e7.extBut _ _ b1 (Heap.get?_push_of_some _ e))
 have p8 : IsPair g8 g5.objs.size u v:=e8.extBut _ _ (Nat.ne_of_gt zlt) (e7.extBut _ _ (Nat.ne_of_gt zlt) (Heap.get?_push_size _ rfl))
 have s8 : g8.objs.size = g5.objs.size + 1:=by rw [e8.1,e7.1,Heap.size_push]
 rw [sz] at z8 p8 s8
 refine wpAny_pure ⟨_,rfl,?_⟩
 show Q (.ref g5.objs.size) _
 rw [sz]
 have kp8 : ∀ b o,b≠z→b≠to→b≠i1→b≠i2→s.heap.get? b = some o→g8.get? b = some o:=fun b o b1 b2 b3 b4 e => up b o b1 (kp b o b1 b2 b3 b4 e)
 exact hQ g8 ⟨D,z8,kp8 _ _ D.TIz D.TITO D.TIi1 D.TIi2 ht,⟨_,_,up _ _ D.TOz o5⟩,tit_keep k15 fun o e => up _ o D.i1z e,tit_keep k25 fun o e => up _ o D.i2z e,tup_keep m1 fun o e => kp8 _ o D.l1z D.l1TO D.l1i1 D.l1i2 e,tup_keep m2 fun o e => kp8 _ o D.l2z D.l2TO D.l2i1 D.l2i2 e⟩ p8 s8 kp8
theorem zipT_end {Q : Fin→Shared→Prop} (hh : A.handled = none) (S : ZAt z ti to i1 i2 l1 l2 .none us vs n1 n2 s.heap) (he : us[n1]? = none∨vs[n2]? = none)
  (hE : ∀ g e, (∀ b o, b ≠ z → b ≠ to → b ≠ i1 → b ≠ i2 → s.heap.get? b = some o → g.get? b = some o) → (∃ o, g.get? e = some o ∧ o.cls = .type "StopIteration") → E (.ref e) { s with heap:=g }) :
  wpAny (model prog w) A (Builtin.«zip.__next__» ⟨[.ref z],[]⟩) Q E s:=by
 obtain ⟨D,hz,ht,⟨c,d,ho⟩,k1,k2,m1,m2⟩:=S
 show wpAny _ _ (field (.ref z) 2 >>= _) _ _ _
 refine wpAny_bind (wpAny_field hz rfl (x:=.bool false) rfl ?_)
 show wpAny _ _ (field (.ref z) 3 >>= _) _ _ _
 refine wpAny_bind (wpAny_field hz rfl (x:=.ref ti) rfl (wpAny_bind (wpAny_seqItems ht rfl ?_)))
 show wpAny _ _ (Builtin.SmallTypes.ownedTupleIsFree (.ref z) >>= _) _ _ _
 refine wpAny_bind ?_
 unfold Builtin.SmallTypes.ownedTupleIsFree
 refine wpAny_bind (wpAny_field hz rfl (x:=.none) rfl (wpAny_pure ?_))
 simp only [if_true]
 refine wpAny_bind (wpAny_rule (wpAny_bind (wpAny_field hz rfl (x:=.ref to) rfl (wpAny_bind (wpAny_setField_rec hz (by simp) fun g1 z1 e1 => ?_)))))
 replace z1 : IsZip g1 z ti to .ellipsis:=z1
 refine wpAny_bind ?_
 simp only [List.zipIdx_cons,List.zipIdx_nil,List.forIn_cons,List.forIn_nil]
 refine wpAny_bind (wpAny_bind (wpAny_onRaise ?_))
 show wpAny _ _ (Builtin.SmallTypes.nextOf (.ref i1) >>= _) _ _ _
 cases hx : us[n1]? with
 | none =>
  refine wpAny_bind (nextT_end hh (k1.extBut e1.extBut D.i1z) (m1.extBut e1.extBut D.l1z) hx fun g2 e e2 q => ?_)
  obtain ⟨oe,qo,qc⟩:=q
  have z2 : IsZip g2 z ti to .ellipsis:=e2 _ _ D.i1z.symm z1
  have ez : e≠z:=fun x => by subst x;rw [z2] at qo;cases qo;simp at qc
  exact wpAny_setField_rec z2 (by simp) fun g3 _ e3 => hE g3 e (fun b o b1 _ b3 _ x => e3.extBut _ _ b1 (e2 _ _ b3 (e1.extBut _ _ b1 x))) ⟨oe,e3.extBut _ _ ez qo,qc⟩
 | some x =>
  have hy : vs[n2]? = none:=by
   rcases he with q | q
   ·rw [hx] at q;cases q
   ·exact q
  refine wpAny_bind (nextT_item (k1.extBut e1.extBut D.i1z) (m1.extBut e1.extBut D.l1z) hx fun g2 k12 e2 => wpAny_pure ?_)
  have o2 : IsPair g2 to c d:=e2.extBut _ _ D.TOi1 (e1.extBut _ _ D.TOz ho)
  refine wpAny_bind (wpAny_seqItems o2 rfl (wpAny_bind (wpAny_updateSeq_pair o2 fun g3 o3 e3 => ?_)))
  refine wpAny_bind (wpAny_letGo (wpAny_pure (wpAny_bind (wpAny_bind (wpAny_onRaise ?_)))))
  show wpAny _ _ (Builtin.SmallTypes.nextOf (.ref i2) >>= _) _ _ _
  refine wpAny_bind (nextT_end hh (((k2.extBut e1.extBut D.i2z).extBut e2.extBut D.i12.symm).extBut e3.extBut D.TOi2.symm) (((m2.extBut e1.extBut D.l2z).extBut e2.extBut D.l2i1).extBut e3.extBut D.l2TO) hy fun g4 e e4 q => ?_)
  obtain ⟨oe,qo,qc⟩:=q
  have z4 : IsZip g4 z ti to .ellipsis:=e4 _ _ D.i2z.symm (e3.extBut _ _ D.TOz.symm (e2.extBut _ _ D.i1z.symm z1))
  have ez : e≠z:=fun x => by subst x;rw [z4] at qo;cases qo;simp at qc
  exact wpAny_setField_rec z4 (by simp) fun g5 _ e5 => hE g5 e (fun b o b1 b2 b3 b4 x => e5.extBut _ _ b1 (e4 _ _ b4 (e3.extBut _ _ b2 (e2.extBut _ _ b3 (e1.extBut _ _ b1 x))))) ⟨oe,e5.extBut _ _ ez qo,qc⟩
theorem nextZ_item {Q : Option Value→Shared→Prop} (S : ZAt z ti to i1 i2 l1 l2 .none us vs n1 n2 s.heap) (hu : us[n1]? = some u) (hv : vs[n2]? = some v)
  (hQ : ∀ g,ZAt z ti to i1 i2 l1 l2 (rawInt s.heap.objs.size) us vs (n1 + 1) (n2 + 1) g→IsPair g s.heap.objs.size u v→g.objs.size = s.heap.objs.size + 1 →
   (∀ b o,b≠z→b≠to→b≠i1→b≠i2→s.heap.get? b = some o→g.get? b = some o)→Q (some (.ref s.heap.objs.size)) { s with heap:=g }) :
  wpAny (model prog w) A (pyNext (.ref z)) Q E s:=by
 have ty : s.TypeIs (.ref z) "zip":=⟨_, S.zr, rfl⟩
 unfold pyNext
 exact wpAny_bind (wpAny_attempt (wpAny_callSpecial?_slot (name:=Str.ofString "__next__") ty F.slot_zip_next (wpAny_call_entry F.slot_zip_next ty F.entry_zip_next (zipT_item S hu hv fun g q1 q2 q3 q4 => wpAny_pure (hQ g q1 q2 q3 q4)) (F.args_zip_next_1 _))))
theorem nextZ_end {Q : Option Value→Shared→Prop} (hh : A.handled = none) (S : ZAt z ti to i1 i2 l1 l2 .none us vs n1 n2 s.heap) (he : us[n1]? = none∨vs[n2]? = none)
  (hQ : ∀ g,(∀ b o,b≠z→b≠to→b≠i1→b≠i2→s.heap.get? b = some o→g.get? b = some o)→Q none { s with heap:=g }) : wpAny (model prog w) A (pyNext (.ref z)) Q E s:=by
 have ty : s.TypeIs (.ref z) "zip":=⟨_, S.zr, rfl⟩
 unfold pyNext
 refine wpAny_bind (wpAny_attempt (wpAny_callSpecial?_slot (name:=Str.ofString "__next__") ty F.slot_zip_next (wpAny_call_entry F.slot_zip_next ty F.entry_zip_next (zipT_end hh S he fun g e kp q => ?_) (F.args_zip_next_1 _))))
 obtain ⟨o,qo,qc⟩:=q
 exact wpAny_bind (wpAny_isInstance (T:="StopIteration") (b:=true) ⟨o, qo, qc⟩ isSubtype_stop (wpAny_pure (hQ _ kp)))
noncomputable abbrev zo (l : Addr) : Obj:={ cls:=.type "tuple_iterator", data:=.fields #[.ref l, .int 0 0] }
noncomputable abbrev zh (h : Heap) (l1 l2 : Addr) : Heap:=((((h.push (zo l1)).push (zo l2)).push { cls:=.type "tuple", data:=.seq #[.ref h.objs.size, .ref (h.push (zo l1)).objs.size] }).push { cls:=.type "tuple", data:=.seq #[.none, .none] }).push
 { cls:=.type "zip", data:=.fields #[.none, .bool false, .bool false, .ref ((h.push (zo l1)).push (zo l2)).objs.size, .ref (((h.push (zo l1)).push (zo l2)).push { cls:=.type "tuple", data:=.seq #[.ref h.objs.size, .ref (h.push (zo l1)).objs.size] }).objs.size] }
theorem zipT_new (l1 l2 : Addr) (us vs : Array Value) : Meets (Builtin.«zip.__new__» ⟨[.type "zip", .ref l1, .ref l2], []⟩) (fun _ R s => s.heap.IsTuple l1 us ∧ s.heap.IsTuple l2 vs ∧
   R (.ok (.ret (.ref ((((s.heap.push (zo l1)).push (zo l2)).push { cls:=.type "tuple", data:=.seq #[.ref s.heap.objs.size, .ref (s.heap.push (zo l1)).objs.size] }).push { cls:=.type "tuple", data:=.seq #[.none, .none] }).objs.size))) { s with heap:=zh s.heap l1 l2 }) :=
 .of_wp fun prog w A R s h => by
  obtain ⟨hp,g,d,tk,os⟩:=s;obtain ⟨m1,m2,h⟩:=h
  have hsub:=sub_zip
  have t1 : Heap.IsTuple (Shared.heap ⟨hp,g,d,tk,os⟩) l1 us:=m1
  have t2 : Heap.IsTuple (Shared.heap ⟨hp.push (zo l1),g,d,tk,os⟩) l2 vs:=tup_keep m2 fun o e => Heap.get?_push_of_some _ e
  wp_walk using wpAny_pyIter_tuple t1,wpAny_pyIter_tuple t2
  exact ⟨_,rfl,h⟩
theorem zap {n a b : Nat} (h1 : a < n) (h2 : b < n) : ZipApart (n + 4) (n + 2) (n + 3) n (n + 1) a b where
 TIz:=show n + 2≠n + 4 by omega
 TOz:=show n + 3≠n + 4 by omega
 i1z:=show n≠n + 4 by omega
 i2z:=show n + 1≠n + 4 by omega
 TITO:=show n + 2≠n + 3 by omega
 TIi1:=show n + 2≠n by omega
 TIi2:=show n + 2≠n + 1 by omega
 TOi1:=show n + 3≠n by omega
 TOi2:=show n + 3≠n + 1 by omega
 i12:=show n≠n + 1 by omega
 l1z:=show a≠n + 4 by omega
 l1TO:=show a≠n + 3 by omega
 l1i1:=show a≠n by omega
 l1i2:=show a≠n + 1 by omega
 l2z:=show b≠n + 4 by omega
 l2TO:=show b≠n + 3 by omega
 l2i1:=show b≠n by omega
 l2i2:=show b≠n + 1 by omega
theorem call_zipT {Q : Value→Shared→Prop} (m1 : s.heap.IsTuple l1 us) (m2 : s.heap.IsTuple l2 vs)
  (h : ∀ g,ZAt (s.heap.objs.size + 4) (s.heap.objs.size + 2) (s.heap.objs.size + 3) s.heap.objs.size (s.heap.objs.size + 1) l1 l2 .none us vs 0 0 g→g.objs.size = s.heap.objs.size + 5 →
   (∀ b o,s.heap.get? b = some o→g.get? b = some o)→Q (.ref (s.heap.objs.size + 4)) { s with heap:=g }) :
  wpAny (model prog w) A (call (.type "zip") [.ref l1, .ref l2]) Q E s:=by
 refine callType_new F.called_zip (by decide) (F.typeCall_zip_2 _ _) (F.newCall_zip_2 _ _) (fun obj => F.args_object_init_3 obj _ _) F.entry_zip_new (zipT_new l1 l2 us vs) ⟨m1,m2,?_⟩
 have lt1 : l1 < s.heap.objs.size:=by obtain ⟨_,e,_⟩:=m1;exact Heap.lt_size e
 have lt2 : l2 < s.heap.objs.size:=by obtain ⟨_,e,_⟩:=m2;exact Heap.lt_size e
 have a1 : (s.heap.push (zo l1)).objs.size = s.heap.objs.size + 1:=Heap.size_push ..
 have a2 : ((s.heap.push (zo l1)).push (zo l2)).objs.size = s.heap.objs.size + 2:=by rw [Heap.size_push,a1]
 have a3 : (((s.heap.push (zo l1)).push (zo l2)).push { cls:=.type "tuple", data:=.seq #[.ref s.heap.objs.size, .ref (s.heap.push (zo l1)).objs.size] }).objs.size = s.heap.objs.size + 3:=by rw [Heap.size_push, a2]
 have a4 : ((((s.heap.push (zo l1)).push (zo l2)).push { cls:=.type "tuple", data:=.seq #[.ref s.heap.objs.size, .ref (s.heap.push (zo l1)).objs.size] }).push { cls:=.type "tuple", data:=.seq #[.none, .none] }).objs.size = s.heap.objs.size + 4:=by rw [Heap.size_push, a3]
 have a5 : (zh s.heap l1 l2).objs.size = s.heap.objs.size + 5:=by rw [Heap.size_push,a4]
 have b5 : (zh s.heap l1 l2).get? ((((s.heap.push (zo l1)).push (zo l2)).push { cls:=.type "tuple", data:=.seq #[.ref s.heap.objs.size, .ref (s.heap.push (zo l1)).objs.size] }).push { cls:=.type "tuple", data:=.seq #[.none, .none] }).objs.size = some _:=Heap.get?_push_size _ rfl
 have b4 : (zh s.heap l1 l2).get? (((s.heap.push (zo l1)).push (zo l2)).push { cls:=.type "tuple", data:=.seq #[.ref s.heap.objs.size, .ref (s.heap.push (zo l1)).objs.size] }).objs.size = some _:=Heap.get?_push_of_some _ (Heap.get?_push_size _ rfl)
 have b3 : (zh s.heap l1 l2).get? ((s.heap.push (zo l1)).push (zo l2)).objs.size = some _:=Heap.get?_push_of_some _ (Heap.get?_push_of_some _ (Heap.get?_push_size _ rfl))
 have b2 : (zh s.heap l1 l2).get? (s.heap.push (zo l1)).objs.size = some _:=Heap.get?_push_of_some _ (Heap.get?_push_of_some _ (Heap.get?_push_of_some _ (Heap.get?_push_size _ rfl)))
 have b1 : (zh s.heap l1 l2).get? s.heap.objs.size = some _:=Heap.get?_push_of_some _ (Heap.get?_push_of_some _ (Heap.get?_push_of_some _ (Heap.get?_push_of_some _ (Heap.get?_push_size _ rfl))))
 have kp : ∀ b o,s.heap.get? b = some o→(zh s.heap l1 l2).get? b = some o:=fun b o x => Heap.get?_push_of_some _ (Heap.get?_push_of_some _ (Heap.get?_push_of_some _ (Heap.get?_push_of_some _ (Heap.get?_push_of_some _ x))))
 show _∧_
 rw [a2,a3,a4] at b5
 rw [a1,a2] at b3
 rw [a3] at b4
 rw [a1] at b2
 rw [a4]
 exact ⟨⟨_,b5,rfl⟩,h _ ⟨zap lt1 lt2,b5,b3,⟨_,_,b4⟩,⟨_,b1,rfl,rfl⟩,⟨_,b2,rfl,rfl⟩,tup_keep m1 fun o e => kp _ o e,tup_keep m2 fun o e => kp _ o e⟩ a5 kp⟩
end
noncomputable def Itz (K : PySem.W.Frag) (a b : Addr) : It :=
 ⟨fun i H => ∃ xs ys x y,SqT K H a xs∧SqT K H b ys∧xs[i]? = some x∧ys[i]? = some y,
  fun i H x H' => ∃ p y1 y2,H p = none∧x = .ref p∧H' = upd H p (.tup [y1,y2])∧(∀ xs,SqT K H a xs→xs[i]? = some y1)∧∀ ys,SqT K H b ys→ys[i]? = some y2,
  fun i H => ∃ xs ys,SqT K H a xs∧SqT K H b ys∧(xs[i]? = none∨ys[i]? = none)⟩
noncomputable def ZOwn (z ti to i1 i2 a b : Addr) (i : Nat) (h : Heap) : Prop:=IsZip h z ti to .none∧IsPair h ti (.ref i1) (.ref i2)∧(∃ c d,IsPair h to c d)∧h.IsTupleIter i1 a i∧h.IsTupleIter i2 b i
theorem zown_at {z ti to i1 i2 a b : Addr} {i : Nat} {h : Heap} {us vs : Array Value} (D : ZipApart z ti to i1 i2 a b) (S : ZOwn z ti to i1 i2 a b i h) (m1 : h.IsTuple a us) (m2 : h.IsTuple b vs) : ZAt z ti to i1 i2 a b .none us vs i i h :=
 ⟨D,S.1,S.2.1,S.2.2.1,S.2.2.2.1,S.2.2.2.2,m1,m2⟩
theorem mem5 {z ti to i1 i2 b : Addr} (h : b∈([z,ti,to,i1,i2] : List Addr)) : b = z∨b = ti∨b = to∨b = i1∨b = i2:=by simpa using h
theorem turn_zipT {P : Program} {w : World} {K : PySem.W.Frag} {els : List Expr} {x1 : Nat} {tpos : Pos} {z ti to i1 i2 a b : Addr} (D : ZipApart z ti to i1 i2 a b) :
  Turn P w K (.Tuple els x1 tpos) (Itz K a b) [z,ti,to,i1,i2] z (ZOwn z ti to i1 i2 a b) where
 mem:=by simp
 obj:=fun i h st q hq => by
  obtain ⟨r1,r2,⟨c,d,r3⟩,⟨o4,e4,c4,d4⟩,⟨o5,e5,c5,d5⟩⟩:=st
  rcases mem5 hq with e | e | e | e | e <;> subst e
  ·exact ⟨_,r1,fun v x => by cases x⟩
  ·exact ⟨_,r2,fun v x => by cases x⟩
  ·exact ⟨_,r3,fun v x => by cases x⟩
  ·exact ⟨o4,e4,fun v x => by rw [d4] at x;cases x⟩
  ·exact ⟨o5,e5,fun v x => by rw [d5] at x;cases x⟩
 keep:=fun i h h' st k => by
  obtain ⟨r1,r2,⟨c,d,r3⟩,r4,r5⟩:=st
  exact ⟨k z (by simp) _ r1,k ti (by simp) _ r2,⟨c,d,k to (by simp) _ r3⟩,tit_keep r4 fun o e => k i1 (by simp) o e,tit_keep r5 fun o e => k i2 (by simp) o e⟩
 item:=by
  intro X hP hw hK hc i pins s σ H E I hf st hg
  subst hP hw hK
  obtain ⟨xs,ys,x,y,hqx,hqy,hx,hy⟩:=hg
  obtain ⟨us,rx,p1,_⟩:=I.tuple hqx
  obtain ⟨vs,ry,p2,_⟩:=I.tuple hqy
  obtain ⟨u,hu,ru⟩:=rx.get hx
  obtain ⟨v,hv,rv⟩:=ry.get hy
  have S:=zown_at D st (show s.heap.IsTuple a us.toArray from p1) (show s.heap.IsTuple b vs.toArray from p2)
  refine nextZ_item S (u:=u) (v:=v) (by simpa using hu) (by simpa using hv) fun g S1 hT hsz kp => ?_
  refine ⟨.ref s.heap.objs.size,rfl,wpAny_letOwnedTupleGo_zip (s:={ s with heap:=g }) S1.zr fun g2 hz2 e2 => ?_⟩
  have e2' : Heap.SameBut z g g2:=e2
  have lt : ∀ q o,s.heap.get? q = some o→q < s.heap.objs.size:=fun q o e => Heap.lt_size e
  have zlt:=lt _ _ st.1
  have kp2 : ∀ q o,q≠z→q≠to→q≠i1→q≠i2→s.heap.get? q = some o→g2.get? q = some o:=fun q o n1 n2 n3 n4 e => e2'.extBut q o n1 (kp q o n1 n2 n3 n4 e)
  have fz:=hf z (by simp)
  have fo:=hf to (by simp)
  have f1:=hf i1 (by simp)
  have f2:=hf i2 (by simp)
  have zK:=hf ti (by simp)
  have hTn : H s.heap.objs.size = none:=I.hok.fresh (Nat.le_refl _)
  have nT : ∀ q o,s.heap.get? q = some o→q≠s.heap.objs.size:=fun q o e => Nat.ne_of_lt (Heap.lt_size e)
  have hTo : g2.get? s.heap.objs.size = some { cls:=.type "tuple", data:=.seq #[u, v] }:=e2'.extBut _ _ (Nat.ne_of_gt zlt) hT
  have nch : ∀ q,q ∉ ([z,to,i1,i2] : List Addr)→q≠z∧q≠to∧q≠i1∧q≠i2:=fun q hq => by simpa using hq
  have I2 : Inv X pins σ (upd H s.heap.objs.size (.tup [x,y])) { s with heap:=g2 }:=by
   refine I.step (g':=s.gens) (d':=s.drawn) (t':=s.toks) (ch:=[z,to,i1,i2]) (fun q hq => ?_) (fun q o _ _ hc e _ => kp2 q o (nch q hc).1 (nch q hc).2.1 (nch q hc).2.2.1 (nch q hc).2.2.2 e) (fun q o _ _ hc e _ => ⟨o.slots,kp2 q o (nch q hc).1 (nch q hc).2.1 (nch q hc).2.2.1 (nch q hc).2.2.2 e⟩) (fun q o _ e n => by rw [upd_ne (nT q o e)];exact n)
    (fun q o hc e => ⟨o,kp2 q o (nch q hc).1 (nch q hc).2.1 (nch q hc).2.2.1 (nch q hc).2.2.2 e⟩) (fun q zs e => by rw [upd_ne (ne_of_none e hTn)];exact e) (fun q o u e => by rw [upd_ne (ne_of_none e hTn)];exact e) (fun q ps e => ⟨#[],by rw [upd_ne (ne_of_none e hTn),e];simp⟩) (fun m hm => ?_) (fun q u' e => ?_) I.bare
   ·have hq' : q = z∨q = to∨q = i1∨q = i2:=by simpa using hq
    rcases hq' with e | e | e | e <;> subst e
    ·exact ⟨fz.2.2.2.1,fz.2.1,fz.2.2.2.2.1,fz.2.2.2.2.2⟩
    ·exact ⟨fo.2.2.2.1,fo.2.1,fo.2.2.2.2.1,fo.2.2.2.2.2⟩
    ·exact ⟨f1.2.2.2.1,f1.2.1,f1.2.2.2.2.1,f1.2.2.2.2.2⟩
    ·exact ⟨f2.2.2.2.1,f2.2.1,f2.2.2.2.2.1,f2.2.2.2.2.2⟩
   ·obtain ⟨o,es,ep,ho,r⟩:=hm
    exact ⟨o,es,ep,kp2 _ o (Ne.symm fz.2.1) (Ne.symm fo.2.1) (Ne.symm f1.2.1) (Ne.symm f2.2.1) ho,r⟩
   ·by_cases hqT : q = s.heap.objs.size
    ·subst hqT
     rw [upd_same] at e;cases e
     exact ⟨by show 2≤sizeLine;decide,[u,v],.cons ru (.cons rv .nil),⟨_,hTo,rfl,_,rfl⟩⟩
    ·rw [upd_ne hqT] at e
     have nb : ∀ c v,H c = some v→c≠z∧c≠to∧c≠i1∧c≠i2:=fun c v e => ⟨ne_of_none e fz.1,ne_of_none e fo.1,ne_of_none e f1.1,ne_of_none e f2.1⟩
     refine (I.hok q u' e).stay (fun c v hc r => ?_) (fun c r => by rw [upd_ne (ne_of_none r hTn)];exact r) (fun c zs r => by rw [upd_ne (ne_of_none r hTn)];exact r) (fun c _ r _ => by rw [upd_ne (ne_of_none r hTn)];exact r)
     have nc : c≠z∧c≠to∧c≠i1∧c≠i2:=by
      rcases hc with k | k
      ·rw [k];exact nb q u' e
      ·exact nb c _ k
     exact kp2 c v nc.1 nc.2.1 nc.2.2.1 nc.2.2.2 r
  refine ⟨.ref s.heap.objs.size,_,I2,rfl,⟨s.heap.objs.size,x,y,hTn,rfl,rfl,fun ws hw => by rw [I.tuple_inj hw hqx];exact hx,fun ws hw => by rw [I.tuple_inj hw hqy];exact hy⟩,?_,fun q hq => ?_⟩
  ·obtain ⟨c,d,ho⟩:=S1.out
   exact ⟨hz2,e2'.extBut _ _ D.TIz S1.its,⟨c,d,e2'.extBut _ _ D.TOz ho⟩,S1.one.extBut e2'.extBut D.i1z,S1.two.extBut e2'.extBut D.i2z⟩
  ·have hn : ∀ {q o},s.heap.get? q = some o→H q = none→upd H s.heap.objs.size (.tup [x,y]) q = none:=fun e n => by rw [upd_ne (nT _ _ e)];exact n
   obtain ⟨r1,r2,⟨c,d,r3⟩,⟨o4,e4,_⟩,⟨o5,e5,_⟩⟩:=st
   rcases mem5 hq with e | e | e | e | e <;> subst e
   ·exact hn r1 fz.1
   ·exact hn r2 zK.1
   ·exact hn r3 fo.1
   ·exact hn e4 f1.1
   ·exact hn e5 f2.1
 done:=by
  intro X hP hw hK hc i pins s σ H E I hf st hg
  subst hP hw hK
  obtain ⟨xs,ys,hqx,hqy,he⟩:=hg
  obtain ⟨us,rx,p1,_⟩:=I.tuple hqx
  obtain ⟨vs,ry,p2,_⟩:=I.tuple hqy
  have S:=zown_at D st (show s.heap.IsTuple a us.toArray from p1) (show s.heap.IsTuple b vs.toArray from p2)
  have l1:=rx.length
  have l2:=ry.length
  have he' : us.toArray[i]? = none∨vs.toArray[i]? = none:=by
   rcases he with e | e
   ·left;rw [List.getElem?_eq_none_iff] at e;simp;omega
   ·right;rw [List.getElem?_eq_none_iff] at e;simp;omega
  refine nextZ_end (I.ok.hd hc) S he' fun g kp => ⟨rfl,?_⟩
  have fz:=hf z (by simp)
  have fo:=hf to (by simp)
  have f1:=hf i1 (by simp)
  have f2:=hf i2 (by simp)
  have nch : ∀ q,q ∉ ([z,to,i1,i2] : List Addr)→q≠z∧q≠to∧q≠i1∧q≠i2:=fun q hq => by simpa using hq
  have kc : ∀ q o,q ∉ ([z,to,i1,i2] : List Addr)→s.heap.get? q = some o→g.get? q = some o:=fun q o hc e => kp q o (nch q hc).1 (nch q hc).2.1 (nch q hc).2.2.1 (nch q hc).2.2.2 e
  refine I.step (g':=s.gens) (d':=s.drawn) (t':=s.toks) (ch:=[z,to,i1,i2]) (fun q hq => ?_) (fun q o _ _ hc e _ => kc q o hc e) (fun q o _ _ hc e _ => ⟨o.slots,kc q o hc e⟩) (fun _ _ _ _ n => n) (fun q o hc e => ⟨o,kc q o hc e⟩)
   (fun _ _ e => e) (fun _ _ _ e => e) (fun q ps e => ⟨#[],by rw [e];simp⟩) (fun m hm => ?_) (fun q u' e => ?_) I.bare
  ·have hq' : q = z∨q = to∨q = i1∨q = i2:=by simpa using hq
   rcases hq' with e | e | e | e <;> subst e
   ·exact ⟨fz.2.2.2.1,fz.2.1,fz.2.2.2.2.1,fz.2.2.2.2.2⟩
   ·exact ⟨fo.2.2.2.1,fo.2.1,fo.2.2.2.2.1,fo.2.2.2.2.2⟩
   ·exact ⟨f1.2.2.2.1,f1.2.1,f1.2.2.2.2.1,f1.2.2.2.2.2⟩
   ·exact ⟨f2.2.2.2.1,f2.2.1,f2.2.2.2.2.1,f2.2.2.2.2.2⟩
  ·obtain ⟨o,es,ep,ho,r⟩:=hm
   exact ⟨o,es,ep,kp _ o (Ne.symm fz.2.1) (Ne.symm fo.2.1) (Ne.symm f1.2.1) (Ne.symm f2.2.1) ho,r⟩
  ·have nb : ∀ c v,H c = some v→c≠z∧c≠to∧c≠i1∧c≠i2:=fun c v e => ⟨ne_of_none e fz.1,ne_of_none e fo.1,ne_of_none e f1.1,ne_of_none e f2.1⟩
   refine (I.hok q u' e).stay (fun c v hc r => ?_) (fun c r => r) fun c zs r => r
   have nc : c≠z∧c≠to∧c≠i1∧c≠i2:=by
    rcases hc with k | k
    ·rw [k];exact nb q u' e
    ·exact nb c _ k
   exact kp c v nc.1 nc.2.1 nc.2.2.1 nc.2.2.2 r
 self:=fun _ _ _ _ _ st h => wpAny_pyIter_zip st.1 h
section
variable {X : Cx}
theorem boot_zip : bootBuiltins "zip" = some (.type "zip"):=by decide +kernel
noncomputable def iZip (K : PySem.W.Frag) (ta : TA) : TI:=fun σ H R => ta σ H fun vs H1 => ∃ a xs b ys,vs = [.ref a,.ref b]∧SqT K H1 a xs∧SqT K H1 b ys∧R (Itz K a b) H1
theorem zip_it {pins : List (Addr × Obj)} {σ : St} {H : Hp} {s : Shared} {R : It→Hp→Prop} {els : List Expr} {x1 : Nat} {tpos : Pos} {a b : Addr} {xs ys : List V} {E : Value→Shared→Prop} (I : Inv X pins σ H s) (hx : SqT X.K H a xs) (hy : SqT X.K H b ys) (q : R (Itz X.K a b) H) :
  wpAny (model X.prog X.w) X.A (call (.type "zip") [.ref a, .ref b]) (fun v s1 => wpAny (model X.prog X.w) X.A (pyIter v) (PIE X pins σ (.Tuple els x1 tpos) R) E s1) E s:=by
 obtain ⟨us,rx,p1,_⟩:=I.tuple hx
 obtain ⟨vs,ry,p2,_⟩:=I.tuple hy
 refine call_zipT (show s.heap.IsTuple a us.toArray from p1) (show s.heap.IsTuple b vs.toArray from p2) fun g S hsz kp => ?_
 refine wpAny_pyIter_zip (s:={ s with heap:=g }) S.zr ?_
 have I1 : Inv X pins σ H { s with heap:=g }:=I.kept (t':=s.toks) kp
 refine ⟨s.heap.objs.size + 4,_,_,_,H,rfl,I1,turn_zipT S.ap,⟨S.zr,S.its,S.out,S.one,S.two⟩,fun c hc => ?_,q⟩
 have hle : s.heap.objs.size≤c:=by
  rcases mem5 hc with e | e | e | e | e <;> subst e
  ·exact Nat.le_add_right _ _
  ·exact Nat.le_add_right _ _
  ·exact Nat.le_add_right _ _
  ·exact Nat.le_refl _
  ·exact Nat.le_add_right _ _
 exact I.fpOk hle (I.hok.fresh hle)
theorem pi_zip {a b : Expr} {ta : TA} {p pos tpos : Pos} {els : List Expr} {x1 : Nat} (hg : Gl X "zip") (hm : X.mg "zip" = none) (ha : PA X [a, b] ta) (hs : starEach [a, b] X.env = [(false, eval a X.env), (false, eval b X.env)]) (hs2 : starEach [b] X.env = [(false, eval b X.env)]) :
  PI X (.Tuple els x1 tpos) (.Call (.Name "zip" p) [a, b] [] pos) (iZip X.K ta):=by
 intro pins s σ H R I h
 refine Call_ (ld_blt I hg hm boot_zip (PyProof.Rows.callWith_type1 (thn (ha pos pins s σ H _ I h) fun us s1 ⟨vs,H1,I1,r1,q1⟩ => ?_) (by rw [hs,hs2]) (by rw [hs2];rfl)))
 obtain ⟨c,xs,d,ys,rfl,hx,hy,q⟩:=q1
 obtain ⟨u,v,rfl,ru,rv⟩:=vals2 r1
 cases ru
 cases rv
 exact zip_it I1 hx hy q
noncomputable def Itd (hi : Int) (n : Nat) : It:=⟨fun i _ => i < n,fun i H x H' => H' = H∧x = .int (hi - i),fun i _ => n≤i⟩
theorem turn_down {P : Program} {w : World} {K : PySem.W.Frag} {tg : Expr} (it : Addr) (hi : Int) (n : Nat) : Turn P w K tg (Itd hi n) [it] it (fun i h => IsRangeIter h it (hi + (i : Nat) * (-1)) ((n : Int) - (i : Nat)) (-1)) where
 mem:=by simp
 obj:=fun i h st b hb => by
  rw [List.mem_singleton.mp hb]
  exact ⟨_,st,fun v z => by
   have z' : Data.fields _ = Data.cell v:=z
   cases z'⟩
 keep:=fun i h h' st k => k it (by simp) _ st
 item:=by
  intro X hP hw hK hc i pins s σ H E I hf st hg
  subst hP hw hK
  obtain ⟨f0,f1,f2,f3,f4,f5⟩:=hf it (by simp)
  have W:=Walks.range (prog:=X.prog) (w:=X.w) (I.ok.hd hc) it hi (-1) n
  refine W.item i s _ _ hg st fun v h' tk hv st' kk => ?_
  obtain ⟨t,rfl⟩:=hv
  have I1 : Inv X pins σ H { s with heap:=h',toks:=tk }:=I.turned (fun b o hb e => kk b o (by simpa using hb) e) f0 f1 f3 f4 f5
  refine ⟨_, rfl, go_of (s:={ s with heap:=h', toks:=tk }) (n:="range_iterator") st' rfl rfl (by decide) ⟨.int (hi - i), H, I1, ⟨t, ?_⟩, ⟨rfl, rfl⟩, st', fun b hb => (hf b hb).1⟩⟩
  rw [show hi + (i : Int) * (-1) = hi - (i : Int) by omega]
 done:=by
  intro X hP hw hK hc i pins s σ H E I hf st hg
  subst hP hw hK
  obtain ⟨f0,f1,f2,f3,f4,f5⟩:=hf it (by simp)
  exact wpAny_pyNext_range_end (I.ok.hd hc) st (by have : n≤i:=hg;omega) fun h' eb => ⟨rfl,I.turned (t':=s.toks) (fun b o hb e => eb b o hb e) f0 f1 f3 f4 f5⟩
 self:=fun _ _ _ _ _ st h => wpAny_pyIter_rangeiter st h
noncomputable def iDown (ta : TA) : TI:=fun σ H R => ta σ H fun vs H1 => ∃ i j : Int,vs = [.int i,.int j,.int (-1)]∧(-(2 ^ 30)≤i∧i < 2 ^ 30∧-(2 ^ 30)≤j∧j < 2 ^ 30)∧R (Itd i (i - j).toNat) H1
theorem pi_down {tg a b c : Expr} {ta : TA} {p pos : Pos} (hg : Gl X "range") (hm : X.mg "range" = none) (ha : PA X [a, b, c] ta) (hs : starEach [a, b, c] X.env = [(false, eval a X.env), (false, eval b X.env), (false, eval c X.env)]) (hs2 : starEach [b, c] X.env = [(false, eval b X.env), (false, eval c X.env)]) :
  PI X tg (.Call (.Name "range" p) [a, b, c] [] pos) (iDown ta):=by
 intro pins s σ H R I h
 refine Call_ (ld_blt I hg hm boot_range (PyProof.Rows.callWith_type1 (thn (ha pos pins s σ H _ I h) fun us s1 ⟨vs,H1,I1,r1,q1⟩ => ?_) (by rw [hs,hs2]) (by rw [hs2];rfl)))
 obtain ⟨i,j,e,⟨q1,q2,q3,q4⟩,q⟩:=q1
 subst e
 cases r1 with
 | cons r rr =>
  obtain ⟨u2,u3,rfl,r2,r3⟩:=vals2 rr
  obtain ⟨t1,rfl⟩:=r
  obtain ⟨t2,rfl⟩:=r2
  obtain ⟨t3,rfl⟩:=r3
  refine call_range_3 (by decide) ?_ (.inl (PyProof.noPylong_small (by omega)))
  refine wpAny_pyIter_range (IsRange.new ..) (PySem.W.small_down (by omega) (by omega) (by omega) (by omega)) ?_
  have I2 : Inv X pins σ H1 { s1 with heap:=s1.heap.push { cls:=.type "range", data:=.fields #[.int i t1, .int j t2, .int (-1) t3] }, toks:=s1.toks }:=I1.kept fun b o e => Heap.get?_push_of_some _ e
  refine ⟨_,[_],_,_,H1,rfl,I2.kept (t':=s1.toks) fun b o e => Heap.get?_push_of_some _ e,turn_down _ i (i - j).toNat,?_,fun b hb => ?_,q⟩
  ·have e1 : i + ((0 : Nat) : Int) * (-1) = i:=by simp
   have e2 : (((i - j).toNat : Nat) : Int) - ((0 : Nat) : Int) = Builtin.Range.rangeSize i j (-1):=by rw [PySem.W.rangeSize_downNat];simp
   show IsRangeIter _ _ (i + ((0 : Nat) : Int) * (-1)) ((((i - j).toNat : Nat) : Int) - ((0 : Nat) : Int)) (-1)
   rw [e1,e2]
   exact Heap.get?_push_size _ rfl
  ·rw [List.mem_singleton.mp hb]
   exact I2.fpOk (Nat.le_refl _) (I2.hok.fresh (Nat.le_refl _))
end
end Mi
namespace Mi
open PySem L2
open PyProof.Rows hiding St
noncomputable def atV : List (D × Addr × Value)→List V→D→Option V
 | x :: xs,y :: ys,k => if x.1 = k then some y else atV xs ys k
 | _,_,_ => none
theorem atV_key {k : D} : ∀ {xs : List (D × Addr × Value)} {ys : List V},Vals ys (xs.map (·.2.2))→(∃ v p,atV xs ys k = some v∧atKey xs k = some p∧RelV v p.2)∨(atV xs ys k = none∧atKey xs k = none)
 | [],[],_ => .inr ⟨rfl,rfl⟩
 | [],_ :: _,h => by cases h
 | _ :: _,[],h => by cases h
 | x :: xs,y :: ys,h => by
  cases h with
  | cons r rs =>
   by_cases e : x.1 = k
   ·refine .inl ⟨y,x.2,if_pos e,?_,r⟩
    unfold atKey
    rw [List.find?_cons_of_pos (by simpa using e)]
    rfl
   ·have e1 : atV (x :: xs) (y :: ys) k = atV xs ys k:=if_neg e
    have e2 : atKey (x :: xs) k = atKey xs k:=by
     unfold atKey
     rw [List.find?_cons_of_neg (by simpa using e)]
    rw [e1,e2]
    exact atV_key rs
section
variable {X : Cx}
noncomputable def rIxDt (X : Cx) : R2:=fun x y H Q => ∃ k a ks xs ys v,Rp (gOf X) H k y∧isKey k = true∧x = .ref a∧DictR X H a ks xs ys∧atV xs ys k = some v∧Q v H
theorem ix_dict (hu : X.A.units + 100 < cLine) : IxR X (rIxDt X):=by
 intro value slice pins s σ H x y v u Q I rx ry h hs
 obtain ⟨k,a,ks,xs,ys,z,r1,hk,rfl,d,hv,q⟩:=h
 cases rx
 obtain ⟨_,_,ds,rfl⟩:=isKey_iff hk
 rw [Rp] at r1
 obtain ⟨b,zs,rfl,sq,rs⟩:=id r1
 cases ry
 obtain ⟨h1,h2,h3,h4⟩:=dictOf I d
 have hin : X.A.in1.units = X.A.units + 1:=rfl
 rcases atV_key (k:=.tup ds) h3 with ⟨z',p,e1,e2,rp⟩ | ⟨e1,_⟩
 ·rw [hv] at e1;cases e1
  exact subscriptTail_builtinR (x:=p.2) h4.typeIs slot_dict_getitem.lookup
   (wpAny_getItem_heap (Q:=fun r s' => r = p.2∧EP X pins σ Q r s') (knd:=deepKind X.prog X.w) (by show X.A.in1.units + 10 < cLine;omega) (keyAt I hk (by rw [Rp];exact ⟨b,zs,rfl,sq,rs⟩)) h4 e2 ⟨rfl,z,H,I.tok _,rp,q⟩) hs
 ·rw [hv] at e1;cases e1
end
end Mi
namespace Mi
open PySem L2
open PyProof.Rows hiding St
section
variable {prog : Program} {w : World} {A : Around} {E : Value→Shared→Prop} {s : Shared}
end
section
variable {X : Cx}
end
end Mi
namespace PySem
open Builtin
theorem tm_noFill : fillsNumberSlot (.type "tuple") "mul" = pure false:=fillsNumberSlot_seq (id:="tuple.__mul__") (r:=some (.builtin "tuple.__rmul__")) F.slot_tuple_mul.lookup (by decide +kernel) F.slot_tuple_rmul.lookup (by decide +kernel)
theorem tm_rep : seqRepeat? (.type "tuple") = pure (some (.builtin "tuple.__mul__")):=by
 unfold seqRepeat?; rw [seqSlot_of (T:="tuple") (name:="__mul__") (id:="tuple.__mul__") F.slot_tuple_mul.lookup (by decide +kernel), seqSlot_of (T:="tuple") (name:="__rmul__") (id:="tuple.__rmul__") F.slot_tuple_rmul.lookup (by decide +kernel)]; rfl
theorem tm_rmul (a : Int) (t : Tok) (l : Addr) (dd : Option Addr) (sl : Array (Option Value)) (items : Array Value) (n : Nat) : Meets (Builtin.«int.__rmul__» ⟨[.int a t, .ref l], []⟩) (fun _ R s => s.heap.get? l = some ⟨.type "tuple", dd, .seq items n, sl⟩ ∧ R (.ok (.ret Value.notImplemented)) s) :=
 .of_wp fun prog w A R s h => by
  obtain ⟨hp,g,d,tk,os⟩:=s;obtain ⟨hl,h⟩:=h
  have hT : (⟨hp, g, d, tk, os⟩ : Shared).TypeIs (.ref l) "tuple":=⟨_, hl, rfl⟩
  wp_walk;exact ⟨_,rfl,h⟩
theorem tm_mul (l : Addr) (dd : Option Addr) (sl : Array (Option Value)) (items : Array Value) (n : Nat) (x : Int) (u : Tok) (h0 : items.isEmpty = false) (h1 : 2≤x) (h2 : x≤1000) (h3 : items.size≤1000) :
  Meets (Builtin.«tuple.__mul__» ⟨[.ref l, .int x u], []⟩) (fun _ R s => s.heap.get? l = some ⟨.type "tuple", dd, .seq items n, sl⟩ ∧ R (.ok (.ret (Value.ref s.heap.objs.size))) { s with heap:=s.heap.push { cls:=Value.type "tuple", data:=Data.seq (List.foldl (fun x1 x2 => x1 ++ x2) #[] (List.replicate x.toNat items)) }, toks:=s.toks }) :=
 .of_wp fun prog w A R s h => by
  obtain ⟨hp,g,d,tk,os⟩:=s;obtain ⟨hl,h⟩:=h
  have hT : (⟨hp, g, d, tk, os⟩ : Shared).TypeIs (.ref l) "tuple":=⟨_, hl, rfl⟩
  have c1 : (decide (x < -2 ^ 63) || decide (x ≥ 2 ^ 63)) = false:=by
   rw [Bool.or_eq_false_iff];exact ⟨decide_eq_false (by omega),decide_eq_false (by omega)⟩
  have c2 : (items.isEmpty || x == 1) = false:=by
   rw [Bool.or_eq_false_iff];exact ⟨h0,beq_eq_false_iff_ne.mpr (by omega)⟩
  have c3 : (decide (x≤0) || items.isEmpty) = false:=by
   rw [Bool.or_eq_false_iff];exact ⟨decide_eq_false (by omega),h0⟩
  wp_walk
  rw [c1,if_neg Bool.false_ne_true]
  wp_walk
  have cm : (items.size : Int) * x≤1000000:=by
   have h3' : (items.size : Int)≤1000:=by omega
   exact Int.le_trans (Int.mul_le_mul h3' h2 (by omega) (by decide)) (by decide)
  have cm0 : 0≤(items.size : Int) * x:=Int.mul_nonneg (by omega) (by omega)
  have c4 : ¬ ((items.size : Int) * x > (2 ^ 63 - 1) / 8):=by
   have : (2 ^ 63 - 1 : Int) / 8 = 1152921504606846975:=by decide
   omega
  have c5 : Tuple.tupleTooMany ((items.size : Int) * x) = false:=by
   unfold Tuple.tupleTooMany
   refine decide_eq_false ?_
   have : (1000000 : Nat)≤sizeLine:=by decide
   omega
  have cs : sizeOk (.seq (List.foldl (fun x1 x2 => x1++x2) #[] (List.replicate x.toNat items))):=by
   have e : ∀ (k : Nat) (acc : Array Value),(List.foldl (fun x1 x2 => x1++x2) acc (List.replicate k items)).size = acc.size + k * items.size:=fun k => by
    induction k with
    | zero => intro acc;simp
    | succ k ih => intro acc;rw [List.replicate_succ,List.foldl_cons,ih,Array.size_append,Nat.succ_mul];omega
   show (List.foldl (fun x1 x2 => x1++x2) #[] (List.replicate x.toNat items)).size≤sizeLine
   rw [e]
   have e0 : (#[] : Array Value).size = 0:=rfl
   have e1 : ((x.toNat * items.size : Nat) : Int) = (items.size : Int) * x:=by
    rw [Int.natCast_mul,Int.toNat_of_nonneg (by omega),Int.mul_comm]
   have : (1000000 : Nat)≤sizeLine:=by decide
   omega
  rw [c2,if_neg Bool.false_ne_true]
  dsimp only
  rw [c3,if_neg Bool.false_ne_true,if_neg c4,c5,if_neg Bool.false_ne_true]
  first
   | exact wpAny_bind (m:=Tuple.tupleExact _) (wpAny_newObj_type (wpAny_pure ⟨_,rfl,h⟩) cs)
   | exact wpAny_bind (m:=Tuple.tupleExact _) (wpAny_newObj_type (wpAny_pure (wpAny_pure ⟨_,rfl,h⟩)) cs)
   | exact wpAny_bind (m:=Tuple.tupleExact _) (wpAny_newObj_type (wpAny_bind (wpAny_pure (wpAny_pure ⟨_,rfl,h⟩))) cs)
end PySem
namespace HT
open PySem PyProof.Rows
section
variable {prog : Program} {w : World} {A : Around} {E : Value→Shared→Prop} {s : Shared}
end
end HT
namespace L2
open PySem PySem.Spec PyProof.Rows
section
variable {X : Cx}
noncomputable def rRepT (K : PySem.W.Frag) : R2:=fun x y H Q => ∃ a k xs,x = .ref a∧y = .int k∧SqT K H a xs∧xs≠[]∧xs.length≤1000∧2≤k∧k≤1000∧∀ p,H p = none→Q (.ref p) (upd H p (.tup (List.replicate k.toNat xs).flatten))
theorem op_repT : OpR X (binaryOp .Mult) (rRepT X.K):=by
 intro pins s σ H x y v u Q I rx ry h
 obtain ⟨a,k,xs,rfl,rfl,hx,hne,hl,h1,h2,q⟩:=h
 cases rx
 obtain ⟨t,rfl⟩:=ry
 obtain ⟨its,r,ht,hz⟩:=I.tuple hx
 obtain ⟨⟨cls,dd,data,sl⟩,e,hc,n,hd⟩:=ht
 simp only at hc hd
 subst hc hd
 have hlen:=r.length
 have hemp : its.toArray.isEmpty = false:=by
  cases its with
  | nil => exact absurd (List.length_eq_zero_iff.mp hlen) hne
  | cons b l => rfl
 have hnew : List.foldl (fun x1 x2 => x1++x2) #[] (List.replicate k.toNat its.toArray) = (List.replicate k.toNat its).flatten.toArray:=by
  have:=foldl_rep its k.toNat []
  rw [List.nil_append] at this
  exact this
 refine wpAny_binaryOp_repeat_ref (T:="tuple") (U:="int") (by decide) ⟨_, e, rfl⟩ (fun s' => typeIs_int s' k t) tm_noFill F.fills_int_mul F.slot_int_rmul tm_rep F.slot_int_index.lookup
  (call_meets F.slot_int_rmul (typeIs_int s k t) F.entry_int_rmul (F.args_int_rmul_2 _ _) (tm_rmul k t a dd sl its.toArray n)
   ⟨e,rfl,⟨_,e,rfl⟩,call_meets F.slot_tuple_mul ⟨_,e,rfl⟩ F.entry_tuple_mul (F.args_tuple_mul_2 _ _) (tm_mul a dd sl its.toArray n k t hemp h1 h2 (by rw [List.size_toArray];omega)) ⟨e,?_⟩⟩)
 rw [hnew]
 have hz2 : (List.replicate k.toNat xs).flatten.length≤sizeLine:=by
  rw [len_rep]
  have h3 : k.toNat * xs.length≤1000 * 1000:=Nat.mul_le_mul (by omega) hl
  have : (1000 * 1000 : Nat)≤sizeLine:=by decide
  omega
 refine ⟨.ref s.heap.objs.size,_,I.laid (t':=s.toks) (o:=.tup (List.replicate k.toNat xs).flatten) (fun b ob q => Heap.get?_push_of_some _ q) (Nat.le_refl _) ?_,rfl,q _ (I.hok.fresh (Nat.le_refl _))⟩
 exact ⟨hz2,_,r.rep k.toNat,IsTup.new _ _⟩
end
end L2
namespace Mi
open PySem L2
inductive M where
 | var (i : Nat) | con (d : D)
 | tup (es : List M) | lst (es : List M) | dct0
 | bin (op : BO) (a b : M) | cmp (op : CO) (a b : M) | chain (p q : CO) (a b c : M)
 | and (es : List M) | or (es : List M) | not (a : M) | neg (a : M) | ite (c a b : M)
 | ix (a b : M) | slc (a lo hi : M)
 | dget (a k d : M) | mth (f : MT) (a b : M) | fmt (s : Str) (a b : M)
 | call (f : Nat) (es : List M) | blt (f : BI) (es : List M) | isin (a : M) (t : Ty)
 | comp (elt : M) (tg : Tg) (k : IK) (src : List M) (hc : Bool) (c : M) (cap : List Bool)
noncomputable def truthD : D→R Bool
 | .bl b => .ok b
 | _ => .stuck
noncomputable def partD : D→R (Option Int)
 | .int i => .ok (some i)
 | _ => .stuck
noncomputable def isNon : M→Bool
 | .con .non => true
 | _ => false
noncomputable def cutD (ds : List D) (lo hi : Option Int) : List D:=(ds.drop (HT.sIx ds.length 0 lo)).take (HT.sIx ds.length ds.length hi - HT.sIx ds.length 0 lo)
noncomputable def slD (d : D) (lo hi : Option Int) : R D:=match d with
 | .lst ds => .ok (.lst (cutD ds lo hi))
 | .tup ds => if HT.sIx ds.length 0 lo = 0∧HT.sIx ds.length ds.length hi = ds.length then .ok (.tup ds) else .ok (.tup (cutD ds lo hi))
 | .str z => if z.length≤lim then .ok (.str (sliceS z lo hi)) else .stuck
 | _ => .stuck
noncomputable def lenD : D→R D
 | .lst ds => .ok (.int ds.length)
 | .tup ds => .ok (.int ds.length)
 | .str z => if z.length≤lim then .ok (.int z.length) else .stuck
 | _ => .stuck
noncomputable def sortedD (d : D) : R D:=do
 let ds ← seqOf d
 if sortOk ds then .ok (.lst (isort ds)) else .stuck
noncomputable def bltD : BI→List D→R D
 | .len,[d] => lenD d
 | .min2,[.int a,.int b] => .ok (.int (if b < a then b else a))
 | .max2,[.int a,.int b] => .ok (.int (if b > a then b else a))
 | .all,[.lst ds] => (match boolsOf ds with | some bs => .ok (.bl (bs.all id)) | none => .stuck)
 | .any,[.lst ds] => (match boolsOf ds with | some bs => .ok (.bl (bs.any id)) | none => .stuck)
 | .sorted,[d] => sortedD d
 | .list,[.lst ds] => .ok (.lst ds)
 | .list,[.tup ds] => .ok (.lst ds)
 | .tuple,[.lst ds] => .ok (.tup ds)
 | .tuple,[.tup ds] => .ok (.tup ds)
 | .listEnum,[.tup ds] => .ok (.lst (enumFrom' 0 ds))
 | .listRev,[.lst ds] => .ok (.lst ds.reverse)
 | .str,[d] => strD d
 | .int,[d] => intD d
 | _,_ => .stuck
noncomputable def dgetD : D→D→D→R D
 | .dct ks vs,k,z => if keyB k then .ok ((getKs ks vs k).getD z) else .stuck
 | _,_,_ => .stuck
noncomputable def bindT : Tg→D→En→R En
 | .one i,d,ρ => .ok (ρ.set i (some d))
 | .two i j,.tup [a,b],ρ => .ok ((ρ.set i (some a)).set j (some b))
 | _,_,_ => .stuck
noncomputable def compGo (f : D→R (Option D)) : List D→R (List D)
 | [] => .ok []
 | d :: ds => do
  let y ← f d
  let ys ← compGo f ds
  .ok (match y with | some y => y :: ys | none => ys)
noncomputable def getE (ρ : En) (i : Nat) : R D:=match ρ[i]? with | some (some d) => .ok d | _ => .stuck
mutual
noncomputable def evE (cl : Nat→List D→R D) : M→En→R D
 | .var i,ρ => getE ρ i
 | .con d,_ => .ok d
 | .tup es,ρ => do let ds ← evEs cl es ρ;if ds.length≤lim then .ok (.tup ds) else .stuck
 | .lst es,ρ => do let ds ← evEs cl es ρ;if ds.length≤lim then .ok (.lst ds) else .stuck
 | .dct0,_ => .ok (.dct [] [])
 | .bin op a b,ρ => do let x ← evE cl a ρ;let y ← evE cl b ρ;binD op x y
 | .cmp op a b,ρ => do let x ← evE cl a ρ;let y ← evE cl b ρ;let r ← cmpD op x y;.ok (.bl r)
 | .chain p q a b c,ρ => do
  let x ← evE cl a ρ
  let y ← evE cl b ρ
  let r ← cmpD p x y
  if r then do let z ← evE cl c ρ;let r2 ← cmpD q y z;.ok (.bl r2) else .ok (.bl false)
 | .and es,ρ => evAnd cl es ρ
 | .or es,ρ => evOr cl es ρ
 | .not a,ρ => do let x ← evE cl a ρ;let t ← truthD x;.ok (.bl (!t))
 | .neg a,ρ => do let x ← evE cl a ρ;(match x with | .int i => .ok (.int (-i)) | _ => .stuck)
 | .ite c a b,ρ => do let x ← evE cl c ρ;let t ← truthD x;if t then evE cl a ρ else evE cl b ρ
 | .ix a b,ρ => do let x ← evE cl a ρ;let y ← evE cl b ρ;ixD x y
 | .slc a lo hi,ρ => do
  let x ← evE cl a ρ
  let l ← (if isNon lo then .ok none else (do let d ← evE cl lo ρ;partD d))
  let h ← (if isNon hi then .ok none else (do let d ← evE cl hi ρ;partD d))
  slD x l h
 | .dget a k d,ρ => do let x ← evE cl a ρ;let y ← evE cl k ρ;let z ← evE cl d ρ;dgetD x y z
 | .mth f a b,ρ => do let x ← evE cl a ρ;let y ← evE cl b ρ;mthD f x y
 | .fmt s a b,ρ => do let x ← evE cl a ρ;let y ← evE cl b ρ;fmtD s x y
 | .call f es,ρ => do let ds ← evEs cl es ρ;cl f ds
 | .blt f es,ρ => do let ds ← evEs cl es ρ;bltD f ds
 | .isin a t,ρ => do let x ← evE cl a ρ;.ok (.bl (isinD x t))
 | .comp elt tg k src hc c cap,ρ => do
  let ss ← evEs cl src ρ
  let items ← itemsOf k ss
  let ys ← compGo (fun d => do
   let ρ' ← bindT tg d (maskV cap ρ)
   let t ← (if hc then (do let x ← evE cl c ρ';truthD x) else .ok true)
   if t then do let y ← evE cl elt ρ';.ok (some y) else .ok none) items
  if ys.length≤lim then .ok (.lst ys) else .stuck
noncomputable def evEs (cl : Nat→List D→R D) : List M→En→R (List D)
 | [],_ => .ok []
 | e :: es,ρ => do let d ← evE cl e ρ;let ds ← evEs cl es ρ;.ok (d :: ds)
noncomputable def evAnd (cl : Nat→List D→R D) : List M→En→R D
 | [],_ => .stuck
 | [e],ρ => do let x ← evE cl e ρ;let t ← truthD x;.ok (.bl t)
 | e :: e' :: es,ρ => do let x ← evE cl e ρ;let t ← truthD x;if t then evAnd cl (e' :: es) ρ else .ok (.bl false)
noncomputable def evOr (cl : Nat→List D→R D) : List M→En→R D
 | [],_ => .stuck
 | [e],ρ => do let x ← evE cl e ρ;let t ← truthD x;.ok (.bl t)
 | e :: e' :: es,ρ => do let x ← evE cl e ρ;let t ← truthD x;if t then .ok (.bl true) else evOr cl (e' :: es) ρ
end
inductive MS where
 | set (t : Tg) (e : M) | app (i : Nat) (e : M) | ext (i : Nat) (e : M) | put (i : Nat) (k v : M)
 | putB (i : Nat) (k v : M) | pop (i : Nat) (e : M) | callm (i f : Nat) (e : M) | retO (i : Nat) | setF (i f : Nat) (es : List M)
 | expr (e : M) | ret (e : M) | ifs (c : M) (a b : List MS) | forr (t : Tg) (k : IK) (src : List M) (b : List MS)
 | pass | brk | cnt | rai
 | setB (t : Tg) (e : M) | setC (t : Tg) (e : M)
 | chk (j : Nat) (e : M)
inductive Out where
 | nx (ρ : En) | rt (d : D) | bk (ρ : En) | ct (ρ : En) | ro (d : D)
noncomputable def likeE : En→En→En
 | a :: as,b :: bs => (if a.isSome then b else none) :: likeE as bs
 | [],bs => bs.map fun _ => none
 | _,[] => []
noncomputable def forGo (f : D→En→R Out) (ρ₀ : En) : List D→En→R Out
 | [],ρ => .ok (.nx ρ)
 | d :: ds,ρ => do
  let o ← f d ρ
  match o with
  | .nx ρ' => forGo f ρ₀ ds (likeE ρ₀ ρ')
  | .ct ρ' => forGo f ρ₀ ds (likeE ρ₀ ρ')
  | .bk ρ' => .ok (.nx (likeE ρ₀ ρ'))
  | .rt d => .ok (.rt d)
  | .ro d => .ok (.ro d)
noncomputable def appD : D→D→R D
 | .lst ds,d => if ds.length < lim then .ok (.lst (ds++[d])) else .stuck
 | _,_ => .stuck
noncomputable def extD : D→D→R D
 | .lst ds,.lst es => if ds.length + es.length≤lim then .ok (.lst (ds++es)) else .stuck
 | .lst ds,.tup es => if ds.length + es.length≤lim then .ok (.lst (ds++es)) else .stuck
 | _,_ => .stuck
noncomputable def putD : D→D→D→R D
 | .dct ks vs,k,v => if isKey k∧ks.length < lim∧ks.length = vs.length then .ok (.dct (putKs ks vs k v).1 (putKs ks vs k v).2) else .stuck
 | _,_,_ => .stuck
noncomputable def popD : D→D→R D
 | .lst ds,.int i => if ds.length≤lim then (match ixN ds.length i with | some k => .ok (.lst (ds.eraseIdx k)) | none => .stuck) else .stuck
 | _,_ => .stuck
mutual
noncomputable def lfD : D→Bool
 | .tup ds => lfDs ds
 | .lst _ => false
 | .dct _ _ => false
 | _ => true
noncomputable def lfDs : List D→Bool
 | [] => true
 | d :: ds => lfD d && lfDs ds
end
noncomputable def lfL : D→Bool
 | .lst ds => lfDs ds
 | _ => false
noncomputable def lfC : D→Bool
 | .dct ks vs => lfDs ks && lfDs vs
 | _ => false
noncomputable def chkD (ρ : En) : D→R Out
 | .bl true => .ok (.nx ρ)
 | _ => .stuck
mutual
noncomputable def runS (cl : Nat→List D→R D) : MS→En→R Out
 | .set t e,ρ => do let d ← evE cl e ρ;let ρ' ← bindT t d ρ;.ok (.nx ρ')
 | .app i e,ρ => do let l ← getE ρ i;let d ← evE cl e ρ;let l' ← appD l d;.ok (.nx (ρ.set i (some l')))
 | .ext i e,ρ => do let l ← getE ρ i;let d ← evE cl e ρ;let l' ← extD l d;.ok (.nx (ρ.set i (some l')))
 | .put i k v,ρ => do
  let dv ← evE cl v ρ
  let l ← getE ρ i
  let dk ← evE cl k ρ
  let l' ← putD l dk dv
  .ok (.nx (ρ.set i (some l')))
 | .putB i k v,ρ => do
  let dv ← evE cl v ρ
  let l ← getE ρ i
  let dk ← evE cl k ρ
  let l' ← putD l dk dv
  if lfD dv && lfD dk then .ok (.nx (ρ.set i (some l'))) else .stuck
 | .pop i e,ρ => do let l ← getE ρ i;let d ← evE cl e ρ;let l' ← popD l d;.ok (.nx (ρ.set i (some l')))
 | .callm i f e,ρ => do let d ← evE cl e ρ;let l ← getE ρ i;let l' ← cl (1000 + f) [d,l];.ok (.nx (ρ.set i (some l')))
 | .retO i,ρ => do let d ← getE ρ i;.ok (.ro d)
 | .setF i f es,ρ => do let ds ← evEs cl es ρ;let d ← cl (2000 + f) ds;if lfC d then .ok (.nx (ρ.set i (some d))) else .stuck
 | .expr e,ρ => do let _ ← evE cl e ρ;.ok (.nx ρ)
 | .ret e,ρ => do let d ← evE cl e ρ;.ok (.rt d)
 | .ifs c a b,ρ => do
  let x ← evE cl c ρ
  let t ← truthD x
  if t then runB cl a ρ else runB cl b ρ
 | .forr t k src b,ρ => do
  let ss ← evEs cl src ρ
  let items ← itemsOf k ss
  forGo (fun d ρ => do let ρ1 ← bindT t d ρ;runB cl b ρ1) ρ items ρ
 | .pass,ρ => .ok (.nx ρ)
 | .brk,ρ => .ok (.bk ρ)
 | .cnt,ρ => .ok (.ct ρ)
 | .rai,ρ => .stuck
 | .chk _ e,ρ => do let d ← evE cl e ρ;let r ← cl 5000 [d];chkD ρ r
 | .setB t e,ρ => do let d ← evE cl e ρ;if lfD d then (do let ρ' ← bindT t d ρ;.ok (.nx ρ')) else .stuck
 | .setC t e,ρ => do let d ← evE cl e ρ;if lfL d then (do let ρ' ← bindT t d ρ;.ok (.nx ρ')) else .stuck
noncomputable def runB (cl : Nat→List D→R D) : List MS→En→R Out
 | [],ρ => .ok (.nx ρ)
 | m :: ms,ρ => do
  let o ← runS cl m ρ
  match o with
  | .nx ρ' => runB cl ms ρ'
  | o => .ok o
end
mutual
noncomputable def useE : M→List Nat
 | .var i => [i]
 | .con _ => []
 | .tup es => useEs es
 | .lst es => useEs es
 | .dct0 => []
 | .bin _ a b => useE a++useE b
 | .cmp _ a b => useE a++useE b
 | .chain _ _ a b c => useE a++(useE b++useE c)
 | .and es => useEs es
 | .or es => useEs es
 | .not a => useE a
 | .neg a => useE a
 | .ite c a b => useE c++(useE a++useE b)
 | .ix a b => useE a++useE b
 | .slc a b c => useE a++(useE b++useE c)
 | .dget a b c => useE a++(useE b++useE c)
 | .mth _ a b => useE a++useE b
 | .fmt _ a b => useE a++useE b
 | .call _ es => useEs es
 | .blt _ es => useEs es
 | .isin a _ => useE a
 | .comp elt _ _ src _ c _ => useEs src++(useE c++useE elt)
noncomputable def useEs : List M→List Nat
 | [] => []
 | e :: es => useE e++useEs es
end
noncomputable def without (O U : List Nat) : List Nat:=O.filter fun i => !U.contains i
noncomputable def tgSlots : Tg→List Nat
 | .one i => [i]
 | .two i j => [i,j]
noncomputable def freshM : M→Bool
 | .lst _ => true
 | .dct0 => true
 | .blt .list _ => true
 | .bin .add _ (.lst _) => true
 | _ => false
noncomputable abbrev Ow:=Option (List Nat)
noncomputable def meetO : Ow→Ow→Ow
 | none,b => b
 | a,none => a
 | some a,some b => some (a.filter fun i => b.contains i)
mutual
noncomputable def chkS (inv : List Nat) : MS→List Nat→Option Ow
 | .set (.one i) e,O => some (some (if freshM e then i :: without (without O (useE e)) [i] else without (without O (useE e)) [i]))
 | .set (.two i j) e,O => some (some (without (without O (useE e)) [i,j]))
 | .app i e,O => if (without O (useE e)).contains i then some (some (without O (useE e))) else none
 | .ext i e,O => if (without O (useE e)).contains i then some (some (without O (useE e))) else none
 | .put i k v,O => if (without O (useE k++useE v)).contains i then some (some (without O (useE k++useE v))) else none
 | .putB i k v,O => if O.contains i then some (some O) else none
 | .pop i e,O => if (without O (useE e)).contains i then some (some (without O (useE e))) else none
 | .callm i f e,O => if (without O (useE e)).contains i then some (some (without O (useE e))) else none
 | .retO i,O => if O.contains i then some none else none
 | .setF i f es,O => some (some (i :: without (without O (useEs es)) [i]))
 | .expr e,O => some (some (without O (useE e)))
 | .ret e,O => some none
 | .ifs c a b,O => do
  let x ← chkB inv a O
  let y ← chkB inv b O
  some (meetO x y)
 | .forr t k src b,O => do
  let O1:=without (without O (useEs src)) (tgSlots t)
  let x ← chkB O1 b O1
  let O2:=(meetO (some O1) x).getD []
  let y ← chkB O2 b O2
  match y with
  | none => some (some O2)
  | some O3 => if O2.all (fun i => O3.contains i) then some (some O2) else none
 | .pass,O => some (some O)
 | .brk,O => if inv.all (fun i => O.contains i) then some none else none
 | .cnt,O => if inv.all (fun i => O.contains i) then some none else none
 | .rai,O => some none
 | .chk _ e,O => some (some (without O (useE e)))
 | .setB t e,O => some (some (without O (tgSlots t)))
 | .setC t e,O => some (some (without O (tgSlots t)))
noncomputable def chkB (inv : List Nat) : List MS→List Nat→Option Ow
 | [],O => some (some O)
 | m :: ms,O => do
  let x ← chkS inv m O
  match x with
  | none => some none
  | some O1 => chkB inv ms O1
end
mutual
noncomputable def asgS : MS→List Nat
 | .set t _ => tgSlots t
 | .setB t _ => tgSlots t
 | .setC t _ => tgSlots t
 | .setF i _ _ => [i]
 | .ifs _ a b => asgB a++asgB b
 | .forr t _ _ b => tgSlots t++asgB b
 | _ => []
noncomputable def asgB : List MS→List Nat
 | [] => []
 | m :: ms => asgS m++asgB ms
end
structure Def where
 np : Nat
 nn : Nat
 body : List MS
 nrm : Bool
noncomputable def mutB (d : Def) : Bool:=decide (d.np = 2) && !(asgB d.body).contains 1 && (match chkB [] d.body [1] with | some (some O) => O.contains 1 | _ => false)
section eqs
variable (cl : Nat→List D→R D) (ρ : En)
theorem wD (i : Nat) : evE cl (.var i) ρ = getE ρ i:=rfl
theorem wE (d : D) : evE cl (.con d) ρ = .ok d:=rfl
theorem wF (es : List M) : evE cl (.tup es) ρ = (do let ds ← evEs cl es ρ;if ds.length≤lim then .ok (.tup ds) else .stuck):=rfl
theorem wG (es : List M) : evE cl (.lst es) ρ = (do let ds ← evEs cl es ρ;if ds.length≤lim then .ok (.lst ds) else .stuck):=rfl
theorem wH : evE cl .dct0 ρ = .ok (.dct [] []):=rfl
theorem wI (op : BO) (a b : M) : evE cl (.bin op a b) ρ = (do let x ← evE cl a ρ;let y ← evE cl b ρ;binD op x y):=rfl
theorem wJ (op : CO) (a b : M) : evE cl (.cmp op a b) ρ = (do let x ← evE cl a ρ;let y ← evE cl b ρ;let r ← cmpD op x y;.ok (.bl r)):=rfl
theorem qI (p q : CO) (a b c : M) : evE cl (.chain p q a b c) ρ = (do
  let x ← evE cl a ρ
  let y ← evE cl b ρ
  let r ← cmpD p x y
  if r then do let z ← evE cl c ρ;let r2 ← cmpD q y z;.ok (.bl r2) else .ok (.bl false)):=rfl
theorem wK (es : List M) : evE cl (.and es) ρ = evAnd cl es ρ:=rfl
theorem we (es : List M) : evE cl (.or es) ρ = evOr cl es ρ:=rfl
theorem wL (a : M) : evE cl (.not a) ρ = (do let x ← evE cl a ρ;let t ← truthD x;.ok (.bl (!t))):=rfl
theorem wN (c a b : M) : evE cl (.ite c a b) ρ = (do let x ← evE cl c ρ;let t ← truthD x;if t then evE cl a ρ else evE cl b ρ):=rfl
theorem wf (a b : M) : evE cl (.ix a b) ρ = (do let x ← evE cl a ρ;let y ← evE cl b ρ;ixD x y):=rfl
theorem wO (a lo hi : M) : evE cl (.slc a lo hi) ρ = (do
  let x ← evE cl a ρ
  let l ← (if isNon lo then .ok none else (do let d ← evE cl lo ρ;partD d))
  let h ← (if isNon hi then .ok none else (do let d ← evE cl hi ρ;partD d))
  slD x l h):=rfl
theorem qW (a k d : M) : evE cl (.dget a k d) ρ = (do let x ← evE cl a ρ;let y ← evE cl k ρ;let z ← evE cl d ρ;dgetD x y z):=rfl
theorem ev_mth (f : MT) (a b : M) : evE cl (.mth f a b) ρ = (do let x ← evE cl a ρ;let y ← evE cl b ρ;mthD f x y):=rfl
theorem ev_fmt (s : Str) (a b : M) : evE cl (.fmt s a b) ρ = (do let x ← evE cl a ρ;let y ← evE cl b ρ;fmtD s x y):=rfl
theorem qX (f : Nat) (es : List M) : evE cl (.call f es) ρ = (do let ds ← evEs cl es ρ;cl f ds):=rfl
theorem wP (f : BI) (es : List M) : evE cl (.blt f es) ρ = (do let ds ← evEs cl es ρ;bltD f ds):=rfl
theorem qY (a : M) (t : Ty) : evE cl (.isin a t) ρ = (do let x ← evE cl a ρ;.ok (.bl (isinD x t))):=rfl
theorem qZ (elt : M) (tg : Tg) (k : IK) (src : List M) (hc : Bool) (c : M) (cap : List Bool) : evE cl (.comp elt tg k src hc c cap) ρ = (do
  let ss ← evEs cl src ρ
  let items ← itemsOf k ss
  let ys ← compGo (fun d => do
   let ρ' ← bindT tg d (maskV cap ρ)
   let t ← (if hc then (do let x ← evE cl c ρ';truthD x) else .ok true)
   if t then do let y ← evE cl elt ρ';.ok (some y) else .ok none) items
  if ys.length≤lim then .ok (.lst ys) else .stuck):=rfl
theorem qa : evEs cl [] ρ = .ok []:=rfl
theorem qJ (e : M) (es : List M) : evEs cl (e :: es) ρ = (do let d ← evE cl e ρ;let ds ← evEs cl es ρ;.ok (d :: ds)):=rfl
theorem qb (e : M) : evAnd cl [e] ρ = (do let x ← evE cl e ρ;let t ← truthD x;.ok (.bl t)):=rfl
theorem qK (e e' : M) (es : List M) : evAnd cl (e :: e' :: es) ρ = (do let x ← evE cl e ρ;let t ← truthD x;if t then evAnd cl (e' :: es) ρ else .ok (.bl false)):=rfl
theorem wQ (e : M) : evOr cl [e] ρ = (do let x ← evE cl e ρ;let t ← truthD x;.ok (.bl t)):=rfl
theorem qd (e e' : M) (es : List M) : evOr cl (e :: e' :: es) ρ = (do let x ← evE cl e ρ;let t ← truthD x;if t then .ok (.bl true) else evOr cl (e' :: es) ρ):=rfl
theorem qq (t : Tg) (e : M) : runS cl (.set t e) ρ = (do let d ← evE cl e ρ;let ρ' ← bindT t d ρ;.ok (.nx ρ')):=rfl
theorem qr (i : Nat) (e : M) : runS cl (.app i e) ρ = (do let l ← getE ρ i;let d ← evE cl e ρ;let l' ← appD l d;.ok (.nx (ρ.set i (some l')))):=rfl
theorem qu (i : Nat) (e : M) : runS cl (.ext i e) ρ = (do let l ← getE ρ i;let d ← evE cl e ρ;let l' ← extD l d;.ok (.nx (ρ.set i (some l')))):=rfl
theorem qv (i : Nat) (k v : M) : runS cl (.put i k v) ρ = (do
  let dv ← evE cl v ρ
  let l ← getE ρ i
  let dk ← evE cl k ρ
  let l' ← putD l dk dv
  .ok (.nx (ρ.set i (some l')))):=rfl
theorem qP (i : Nat) (k v : M) : runS cl (.putB i k v) ρ = (do
  let dv ← evE cl v ρ
  let l ← getE ρ i
  let dk ← evE cl k ρ
  let l' ← putD l dk dv
  if lfD dv && lfD dk then .ok (.nx (ρ.set i (some l'))) else .stuck):=rfl
theorem qw (i : Nat) (e : M) : runS cl (.pop i e) ρ = (do let l ← getE ρ i;let d ← evE cl e ρ;let l' ← popD l d;.ok (.nx (ρ.set i (some l')))):=rfl
theorem qH (i f : Nat) (e : M) : runS cl (.callm i f e) ρ = (do let d ← evE cl e ρ;let l ← getE ρ i;let l' ← cl (1000 + f) [d,l];.ok (.nx (ρ.set i (some l')))):=rfl
theorem qQ (i : Nat) : runS cl (.retO i) ρ = (do let d ← getE ρ i;.ok (.ro d)):=rfl
theorem qR (i f : Nat) (es : List M) : runS cl (.setF i f es) ρ = (do let ds ← evEs cl es ρ;let d ← cl (2000 + f) ds;if lfC d then .ok (.nx (ρ.set i (some d))) else .stuck):=rfl
theorem qS (e : M) : runS cl (.expr e) ρ = (do let _ ← evE cl e ρ;.ok (.nx ρ)):=rfl
theorem qx (e : M) : runS cl (.ret e) ρ = (do let d ← evE cl e ρ;.ok (.rt d)):=rfl
theorem qy (c : M) (a b : List MS) : runS cl (.ifs c a b) ρ = (do
  let x ← evE cl c ρ
  let t ← truthD x
  if t then runB cl a ρ else runB cl b ρ):=rfl
theorem qz (t : Tg) (k : IK) (src : List M) (b : List MS) : runS cl (.forr t k src b) ρ = (do
  let ss ← evEs cl src ρ
  let items ← itemsOf k ss
  forGo (fun d ρ => do let ρ1 ← bindT t d ρ;runB cl b ρ1) ρ items ρ):=rfl
theorem qT : runS cl .pass ρ = .ok (.nx ρ):=rfl
theorem wA : runS cl .brk ρ = .ok (.bk ρ):=rfl
theorem wB : runS cl .cnt ρ = .ok (.ct ρ):=rfl
theorem wC : runS cl .rai ρ = .stuck:=rfl
theorem qU (t : Tg) (e : M) : runS cl (.setB t e) ρ = (do let d ← evE cl e ρ;if lfD d then (do let ρ' ← bindT t d ρ;.ok (.nx ρ')) else .stuck):=rfl
theorem qV (t : Tg) (e : M) : runS cl (.setC t e) ρ = (do let d ← evE cl e ρ;if lfL d then (do let ρ' ← bindT t d ρ;.ok (.nx ρ')) else .stuck):=rfl
theorem qp : runB cl [] ρ = .ok (.nx ρ):=rfl
noncomputable def thenB (ms : List MS) : Out→R Out
 | .nx ρ' => runB cl ms ρ'
 | o => .ok o
theorem qO (m : MS) (ms : List MS) : runB cl (m :: ms) ρ = (runS cl m ρ >>= thenB cl ms):=rfl
theorem qC (ms : List MS) : thenB cl ms (.nx ρ) = runB cl ms ρ:=rfl
theorem qD (ms : List MS) (d : D) : thenB cl ms (.rt d) = .ok (.rt d):=rfl
theorem qE (ms : List MS) (d : D) : thenB cl ms (.ro d) = .ok (.ro d):=rfl
theorem qF (ms : List MS) : thenB cl ms (.bk ρ) = .ok (.bk ρ):=rfl
theorem qG (ms : List MS) : thenB cl ms (.ct ρ) = .ok (.ct ρ):=rfl
theorem wg (d : D) : getE (some d :: ρ) 0 = .ok d:=rfl
theorem wj (o : Option D) (i : Nat) : getE (o :: ρ) (i + 1) = getE ρ i:=rfl
theorem qe (b : Bool) : truthD (.bl b) = .ok b:=rfl
theorem wR (i : Int) : partD (.int i) = .ok (some i):=rfl
theorem wS (i : Nat) (d : D) : bindT (.one i) d ρ = .ok (ρ.set i (some d)):=rfl
theorem wT (i j : Nat) (a b : D) : bindT (.two i j) (.tup [a,b]) ρ = .ok ((ρ.set i (some a)).set j (some b)):=rfl
theorem wU (d : D) (b : Option D) (as bs : En) : likeE (some d :: as) (b :: bs) = b :: likeE as bs:=rfl
theorem wV (b : Option D) (as bs : En) : likeE (none :: as) (b :: bs) = none :: likeE as bs:=rfl
theorem wW : likeE [] [] = []:=rfl
theorem wk : isNon (.con .non) = true:=rfl
theorem wl (i : Int) : isNon (.con (.int i)) = false:=rfl
theorem wm (i : Nat) : isNon (.var i) = false:=rfl
theorem wn (op : BO) (a b : M) : isNon (.bin op a b) = false:=rfl
theorem wX {α : Type} (a b : α) : (if true = true then a else b) = a:=rfl
theorem wY {α : Type} (a b : α) : (if false = true then a else b) = b:=rfl
theorem wp {α β : Type} (f : α→β) (a : α) (l : List α) : List.map f (a :: l) = f a :: List.map f l:=rfl
theorem wq {α β : Type} (f : α→β) : List.map f [] = []:=rfl
theorem wM (i : Int) : evE cl (.neg (.con (.int i))) ρ = .ok (.int (-i)):=rfl
theorem wu {α : Type} (a : α) : List.replicate 0 a = []:=rfl
theorem wv {α : Type} (n : Nat) (a : α) : List.replicate (n + 1) a = a :: List.replicate n a:=rfl
theorem ww : (!true) = false:=rfl
theorem wx : (!false) = true:=rfl
theorem wr {α : Type} (a : α) (l m : List α) : (a :: l)++m = a :: (l++m):=rfl
theorem wt {α : Type} (m : List α) : ([] : List α)++m = m:=rfl
theorem wa (bs : List Bool) (v : Option D) (vs : En) : maskV (true :: bs) (v :: vs) = v :: maskV bs vs:=rfl
theorem wb (bs : List Bool) (v : Option D) (vs : En) : maskV (false :: bs) (v :: vs) = none :: maskV bs vs:=rfl
theorem wc : maskV [] ([] : En) = []:=rfl
theorem zE {α : Type} (a : α) (l : List α) : (a :: l).length = l.length + 1:=rfl
theorem zF {α : Type} : ([] : List α).length = 0:=rfl
theorem zG {α : Type} (a : α) (l : List α) : (a :: l)[0]? = some a:=rfl
theorem zH {α : Type} (a : α) (l : List α) (i : Nat) : (a :: l)[i + 1]? = l[i]?:=rfl
theorem zI {α : Type} (a b : α) (l : List α) : (a :: l).set 0 b = b :: l:=rfl
theorem zJ {α : Type} (a b : α) (l : List α) (i : Nat) : (a :: l).set (i + 1) b = a :: l.set i b:=rfl
theorem zK : (false = true) = False:=Bool.false_eq_true
theorem use_call (f : Nat) (es : List M) : useE (.call f es) = useEs es:=rfl
theorem uses_nil : useEs [] = []:=rfl
theorem uses_cons (e : M) (es : List M) : useEs (e :: es) = useE e++useEs es:=rfl
end eqs
end Mi
namespace Mi
open PySem L2
open PyProof.Rows hiding St
theorem mem_without {O U : List Nat} {i : Nat} : i∈without O U↔i∈O∧i ∉ U:=by
 unfold without
 rw [List.mem_filter]
 simp
noncomputable def OwnAt (g : G) (H Hs : Hp) (a : Addr) : D→Prop
 | .lst ds => ∃ xs,H a = some (.lst xs)∧Rps g Hs ds xs
 | .dct ks vs => ∃ xs ys,H a = some (.ext (DAt g a xs ys))∧ks = xs.map (·.1)∧(∀ k∈ks,isKey k = true)∧Rps g Hs ks (xs.map fun x => V.ref x.2.1)∧Rps g Hs vs ys
 | _ => False
theorem OwnAt.obj {g : G} {H Hs : Hp} {a : Addr} {d : D} (h : OwnAt g H Hs a d) : ∃ o,H a = some o:=by
 cases d <;> simp only [OwnAt] at h
 ·obtain ⟨xs,h,_⟩:=h;exact ⟨_,h⟩
 ·obtain ⟨xs,ys,h,_⟩:=h;exact ⟨_,h⟩
theorem OwnAt.mono {g : G} {H Hs H' Hs' : Hp} {a : Addr} {d : D} (h : OwnAt g H Hs a d) (k : ∀ o,H a = some o→H' a = some o) (m : Same Hs Hs') : OwnAt g H' Hs' a d:=by
 cases d <;> simp only [OwnAt] at h ⊢
 ·obtain ⟨xs,h,r⟩:=h;exact ⟨xs,k _ h,r.mono m⟩
 ·obtain ⟨xs,ys,h,e,hk,r1,r2⟩:=h;exact ⟨xs,ys,k _ h,e,hk,r1.mono m,r2.mono m⟩
theorem OwnAt.pub {g : G} {H Hs : Hp} {a : Addr} {d : D} {o : HO} (h : OwnAt g H Hs a d) (ho : H a = some o) (m : Same Hs (upd Hs a o)) : Rp g (upd Hs a o) d (.ref a):=by
 cases d <;> simp only [OwnAt] at h
 ·obtain ⟨xs,h,r⟩:=h
  rw [ho] at h;cases h
  rw [Rp]
  exact ⟨a,xs,rfl,SqL.of upd_same,r.mono m⟩
 ·obtain ⟨xs,ys,h,e,hk,r1,r2⟩:=h
  rw [ho] at h;cases h
  rw [Rp]
  exact ⟨a,xs,ys,rfl,upd_same,e,hk,r1.mono m,r2.mono m⟩
noncomputable def isMutO : HO→Bool
 | .lst _ => true | .ext _ => true | _ => false
noncomputable def OnlyM (Hs Hs' : Hp) : Prop:=∀ b o,Hs' b = some o→Hs b = some o∨isMutO o = true
theorem OnlyM.refl (Hs : Hp) : OnlyM Hs Hs:=fun _ _ q => .inl q
theorem OnlyM.trans {Hs Hs1 Hs2 : Hp} (a : OnlyM Hs Hs1) (b : OnlyM Hs1 Hs2) : OnlyM Hs Hs2:=fun c o q => by
 rcases b c o q with z | z
 ·exact a c o z
 ·exact .inr z
theorem OwnAt.onlyM {g : G} {H Hs : Hp} {a : Addr} {d : D} {o : HO} (h : OwnAt g H Hs a d) (ho : H a = some o) : OnlyM Hs (upd Hs a o):=fun b u q => by
 by_cases e : b = a
 ·subst e
  rw [upd_same] at q
  cases q
  right
  cases d <;> simp only [OwnAt] at h
  ·obtain ⟨xs,h,_⟩:=h
   rw [ho] at h;cases h;rfl
  ·obtain ⟨xs,ys,h,_⟩:=h
   rw [ho] at h;cases h;rfl
 ·rw [upd_ne e] at q
  exact .inl q
structure Ent where
 hp : Hp
 pins : List (Nat × Addr)
structure FR (g : G) (E : Ent) (Es : Hp) (O : List Nat) (ρ : En) (σ : St) (H Hs : Hp) : Prop where
 grow : Grow E.hp Es H Hs
 len : ρ.length = σ.length
 val : ∀ (i : Nat) d,ρ[i]? = some (some d)→i ∉ O→∃ v,σ[i]? = some (some v)∧Rp g Hs d v
 own : ∀ i∈O,∀ d,ρ[i]? = some (some d)→∃ a,σ[i]? = some (some (.ref a))∧E.hp a = none∧Hs a = none∧OwnAt g H Hs a d
 apart : ∀ i∈O,∀ j∈O,i≠j→∀ d e a,ρ[i]? = some (some d)→ρ[j]? = some (some e)→σ[i]? = some (some (.ref a))→σ[j]?≠some (some (.ref a))
 pin : ∀ q∈E.pins,σ[q.1]? = some (some (.ref q.2))
section
variable {g : G} {E : Ent} {Es : Hp} {O O' : List Nat} {ρ : En} {σ : St} {H Hs H' Hs' : Hp}
theorem FR.grown (F : FR g E Es O ρ σ H Hs) (w : Grow H Hs H' Hs') : FR g E Es O ρ σ H' Hs':=by
 have m:=w.same F.grow.sub
 refine ⟨F.grow.trans w,F.len,fun i d h hi => ?_,fun i hi d h => ?_,F.apart,F.pin⟩
 ·obtain ⟨v,e,r⟩:=F.val i d h hi
  exact ⟨v,e,r.mono m⟩
 ·obtain ⟨a,e,e0,e1,o⟩:=F.own i hi d h
  obtain ⟨ob,ho⟩:=o.obj
  exact ⟨a,e,e0,by rw [w.old a ob ho];exact e1,o.mono (fun u q => w.keep a u q) m⟩
theorem FR.sub (F : FR g E Es O ρ σ H Hs) : Same Hs H:=F.grow.sub
theorem FR.pub1 (F : FR g E Es O ρ σ H Hs) (i : Nat) : ∃ Hs',FR g E Es (O.filter fun j => j != i) ρ σ H Hs'∧Same Hs Hs'∧OnlyM Hs Hs':=by
 have memf : ∀ {j},j∈(O.filter fun j => j != i)↔j∈O∧j≠i:=by intro j;rw [List.mem_filter];simp
 by_cases hi : i∈O
 ·cases hd : ρ[i]? with
  | none =>
   refine ⟨Hs,⟨F.grow,F.len,fun j d h hj => F.val j d h fun z => hj (memf.mpr ⟨z,?_⟩),fun j hj d h => F.own j (memf.mp hj).1 d h,fun j hj k hk => F.apart j (memf.mp hj).1 k (memf.mp hk).1,F.pin⟩,fun _ _ q => q,OnlyM.refl _⟩
   rintro rfl;rw [hd] at h;cases h
  | some x =>
   cases x with
   | none =>
    refine ⟨Hs,⟨F.grow,F.len,fun j d h hj => F.val j d h fun z => hj (memf.mpr ⟨z,?_⟩),fun j hj d h => F.own j (memf.mp hj).1 d h,fun j hj k hk => F.apart j (memf.mp hj).1 k (memf.mp hk).1,F.pin⟩,fun _ _ q => q,OnlyM.refl _⟩
    rintro rfl;rw [hd] at h;cases h
   | some d0 =>
    obtain ⟨a,e,e0,e1,o⟩:=F.own i hi d0 hd
    obtain ⟨ob,ho⟩:=o.obj
    have m : Same Hs (upd Hs a ob):=fun b u q => by
     have : b≠a:=ne_of_none q e1
     rw [upd_ne this];exact q
    refine ⟨upd Hs a ob,⟨⟨F.grow.keep,fun b u q => ?_,fun b u q => ?_⟩,F.len,fun j d h hj => ?_,fun j hj d h => ?_,fun j hj k hk => F.apart j (memf.mp hj).1 k (memf.mp hk).1,F.pin⟩,m,o.onlyM ho⟩
    ·rw [upd_ne (ne_of_none q e0)];exact F.grow.old b u q
    ·by_cases hb : b = a
     ·subst hb;rw [upd_same] at q;cases q;exact ho
     ·rw [upd_ne hb] at q;exact F.grow.sub b u q
    ·by_cases hji : j = i
     ·subst hji
      rw [hd] at h;cases h
      exact ⟨.ref a,e,o.pub ho m⟩
     ·obtain ⟨v,ev,r⟩:=F.val j d h fun z => hj (memf.mpr ⟨z,hji⟩)
      exact ⟨v,ev,r.mono m⟩
    ·obtain ⟨hjO,hji⟩:=memf.mp hj
     obtain ⟨b,eb,b0,b1,ob'⟩:=F.own j hjO d h
     have hba : b≠a:=fun z => by
      subst z
      exact F.apart i hi j hjO (Ne.symm hji) d0 d b hd h e eb
     exact ⟨b,eb,b0,by rw [upd_ne hba];exact b1,ob'.mono (fun _ q => q) m⟩
 ·refine ⟨Hs,⟨F.grow,F.len,fun j d h hj => F.val j d h fun z => hj (memf.mpr ⟨z,fun q => hi (q ▸ z)⟩),fun j hj d h => F.own j (memf.mp hj).1 d h,fun j hj k hk => F.apart j (memf.mp hj).1 k (memf.mp hk).1,F.pin⟩,fun _ _ q => q,OnlyM.refl _⟩
theorem FR.congrO (F : FR g E Es O ρ σ H Hs) (h : ∀ i,i∈O'↔i∈O) : FR g E Es O' ρ σ H Hs :=
 ⟨F.grow,F.len,fun i d q hi => F.val i d q fun z => hi ((h i).mpr z),fun i hi d q => F.own i ((h i).mp hi) d q,fun i hi j hj => F.apart i ((h i).mp hi) j ((h j).mp hj),F.pin⟩
theorem FR.pubs : ∀ (U : List Nat) {Hs : Hp} {O : List Nat},FR g E Es O ρ σ H Hs→∃ Hs',FR g E Es (without O U) ρ σ H Hs'∧Same Hs Hs'∧OnlyM Hs Hs'
 | [],Hs,O,F => ⟨Hs,F.congrO fun i => by rw [mem_without];simp,fun _ _ q => q,OnlyM.refl _⟩
 | u :: U,Hs,O,F => by
  obtain ⟨H1,F1,m1,w1⟩:=F.pub1 u
  obtain ⟨H2,F2,m2,w2⟩:=FR.pubs U F1
  refine ⟨H2,F2.congrO fun i => ?_,fun a o q => m2 a o (m1 a o q),w1.trans w2⟩
  rw [mem_without,mem_without,List.mem_filter]
  simp
  constructor
  ·rintro ⟨a,b,c⟩;exact ⟨⟨a,b⟩,c⟩
  ·rintro ⟨⟨a,b⟩,c⟩;exact ⟨a,b,c⟩
theorem FR.fewer (F : FR g E Es O ρ σ H Hs) (h : ∀ i∈O',i∈O) : ∃ Hs',FR g E Es O' ρ σ H Hs'∧Same Hs Hs':=by
 obtain ⟨H1,F1,m1,_⟩:=FR.pubs (O.filter fun i => !O'.contains i) F
 refine ⟨H1,F1.congrO fun i => ?_,m1⟩
 rw [mem_without,List.mem_filter]
 simp
 constructor
 ·intro hi;exact ⟨h i hi,fun _ => hi⟩
 ·rintro ⟨a,b⟩;exact b a
theorem FR.setS {i : Nat} {d : D} {v : V} (F : FR g E Es O ρ σ H Hs) (hq : ∀ q∈E.pins,q.1≠i) (r : Rp g Hs d v) : FR g E Es (without O [i]) (ρ.set i (some d)) (σ.set i (some v)) H Hs:=by
 have memw : ∀ {j},j∈without O [i]↔j∈O∧j≠i:=by intro j;rw [mem_without];simp
 refine ⟨F.grow,by rw [List.length_set,List.length_set];exact F.len,fun j e h hj => ?_,fun j hj e h => ?_,fun j hj k hk hjk e f a h1 h2 h3 => ?_,fun q hp' => by rw [List.getElem?_set_ne (Ne.symm (hq q hp'))];exact F.pin q hp'⟩
 ·by_cases hji : j = i
  ·subst hji
   have hl : j < ρ.length:=by
    have:=(List.getElem?_eq_some_iff.mp h).1
    simpa using this
   rw [List.getElem?_set_self hl] at h
   cases h
   exact ⟨v,by rw [List.getElem?_set_self (by rw [← F.len];exact hl)],r⟩
  ·rw [List.getElem?_set_ne (Ne.symm hji)] at h
   obtain ⟨w,ew,rw'⟩:=F.val j e h fun z => hj (memw.mpr ⟨z,hji⟩)
   exact ⟨w,by rw [List.getElem?_set_ne (Ne.symm hji)];exact ew,rw'⟩
 ·obtain ⟨hjO,hji⟩:=memw.mp hj
  rw [List.getElem?_set_ne (Ne.symm hji)] at h
  obtain ⟨a,ea,q⟩:=F.own j hjO e h
  exact ⟨a,by rw [List.getElem?_set_ne (Ne.symm hji)];exact ea,q⟩
 ·obtain ⟨hjO,hji⟩:=memw.mp hj
  obtain ⟨hkO,hki⟩:=memw.mp hk
  rw [List.getElem?_set_ne (Ne.symm hji)] at h1 h3
  rw [List.getElem?_set_ne (Ne.symm hki)] at h2
  rw [List.getElem?_set_ne (Ne.symm hki)]
  exact F.apart j hjO k hkO hjk e f a h1 h2 h3
theorem FR.adopt {i : Nat} {d : D} {p : Addr} (F : FR g E Es O ρ σ H Hs) (hq : ∀ q∈E.pins,q.1≠i) (w : Grow H Hs H' Hs') (hp : H p = none) (Hsp : Hs' p = none) (r : OwnAt g H' Hs' p d) : FR g E Es (i :: without O [i]) (ρ.set i (some d)) (σ.set i (some (.ref p))) H' Hs':=by
 have memw : ∀ {j},j∈without O [i]↔j∈O∧j≠i:=by intro j;rw [mem_without];simp
 have Ep : E.hp p = none:=by
  cases q : E.hp p with
  | none => rfl
  | some u => rw [F.grow.keep p u q] at hp;cases hp
 have F':=F.grown w
 refine ⟨F'.grow,by rw [List.length_set,List.length_set];exact F.len,fun j e h hj => ?_,fun j hj e h => ?_,fun j hj k hk hjk e f a h1 h2 h3 => ?_,fun q hp' => by rw [List.getElem?_set_ne (Ne.symm (hq q hp'))];exact F.pin q hp'⟩
 ·have hji : j≠i:=fun z => hj (by rw [z];exact List.mem_cons_self)
  rw [List.getElem?_set_ne (Ne.symm hji)] at h
  obtain ⟨w,ew,rw'⟩:=F'.val j e h fun z => hj (List.mem_cons_of_mem _ (memw.mpr ⟨z,hji⟩))
  exact ⟨w,by rw [List.getElem?_set_ne (Ne.symm hji)];exact ew,rw'⟩
 ·by_cases hji : j = i
  ·subst hji
   have hl : j < ρ.length:=by
    have:=(List.getElem?_eq_some_iff.mp h).1
    simpa using this
   rw [List.getElem?_set_self hl] at h
   cases h
   exact ⟨p,by rw [List.getElem?_set_self (by rw [← F.len];exact hl)],Ep,Hsp,r⟩
  ·have hjO : j∈O:=by
    rcases List.mem_cons.mp hj with z | z
    ·exact absurd z hji
    ·exact (memw.mp z).1
   rw [List.getElem?_set_ne (Ne.symm hji)] at h
   obtain ⟨a,ea,q⟩:=F'.own j hjO e h
   exact ⟨a,by rw [List.getElem?_set_ne (Ne.symm hji)];exact ea,q⟩
 ·have inO : ∀ {k},k∈i :: without O [i]→k≠i→k∈O:=fun {k} hk hki => by
   rcases List.mem_cons.mp hk with z | z
   ·exact absurd z hki
   ·exact (memw.mp z).1
  have neP : ∀ {k e a},k∈O→ρ[k]? = some (some e)→σ[k]? = some (some (.ref a))→a≠p:=fun {k e a} hk h1 h2 => by
   obtain ⟨b,eb,_,_,ob⟩:=F.own k hk e h1
   rw [h2] at eb
   cases eb
   obtain ⟨u,hu⟩:=ob.obj
   exact ne_of_none hu hp
  have setSelf : ∀ {v : V},(σ.set i (some v))[i]? = some (some v)∨i ≥ σ.length:=fun {v} => by
   by_cases hl : i < σ.length
   ·left;rw [List.getElem?_set_self hl]
   ·right;omega
  by_cases hji : j = i
  ·subst hji
   have hkj : k≠j:=Ne.symm hjk
   have hlj : j < σ.length:=by
    have:=(List.getElem?_eq_some_iff.mp h3).1
    simpa using this
   rw [List.getElem?_set_self hlj] at h3
   cases h3
   rw [List.getElem?_set_ne (Ne.symm hkj)] at h2
   rw [List.getElem?_set_ne (Ne.symm hkj)]
   intro z
   exact neP (inO hk hkj) h2 z rfl
  ·rw [List.getElem?_set_ne (Ne.symm hji)] at h1 h3
   by_cases hki : k = i
   ·subst hki
    intro z
    have hlk : k < σ.length:=by
     have:=(List.getElem?_eq_some_iff.mp z).1
     simpa using this
    rw [List.getElem?_set_self hlk] at z
    cases z
    exact neP (inO hj hji) h1 h3 rfl
   ·rw [List.getElem?_set_ne (Ne.symm hki)] at h2
    rw [List.getElem?_set_ne (Ne.symm hki)]
    exact F.apart j (inO hj hji) k (inO hk hki) hjk e f a h1 h2 h3
theorem FR.setO {i : Nat} {d : D} {p : Addr} {o : HO} (F : FR g E Es O ρ σ H Hs) (hq : ∀ q∈E.pins,q.1≠i) (hp : H p = none) (r : OwnAt g (upd H p o) Hs p d) : FR g E Es (i :: without O [i]) (ρ.set i (some d)) (σ.set i (some (.ref p))) (upd H p o) Hs:=by
 refine F.adopt hq (Grow.own F.sub hp) hp ?_ r
 cases q : Hs p with
 | none => rfl
 | some u => rw [F.sub p u q] at hp;cases hp
theorem FR.mut {i : Nat} {d d' : D} {a : Addr} {o : HO} (F : FR g E Es O ρ σ H Hs) (hi : i∈O) (hd : ρ[i]? = some (some d)) (ha : σ[i]? = some (some (.ref a))) (r : OwnAt g (upd H a o) Hs a d') : FR g E Es O (ρ.set i (some d')) σ (upd H a o) Hs:=by
 obtain ⟨b,eb,b0,b1,ob⟩:=F.own i hi d hd
 rw [ha] at eb
 cases eb
 refine ⟨⟨fun c u q => ?_,F.grow.old,fun c u q => ?_⟩,by rw [List.length_set];exact F.len,fun j e h hj => ?_,fun j hj e h => ?_,fun j hj k hk hjk e f c h1 h2 h3 => ?_,F.pin⟩
 ·rw [upd_ne (ne_of_none q b0)];exact F.grow.keep c u q
 ·rw [upd_ne (ne_of_none q b1)];exact F.grow.sub c u q
 ·have hji : j≠i:=fun z => hj (z ▸ hi)
  rw [List.getElem?_set_ne (Ne.symm hji)] at h
  exact F.val j e h hj
 ·by_cases hji : j = i
  ·subst hji
   have hl : j < ρ.length:=by
    have:=(List.getElem?_eq_some_iff.mp h).1
    simpa using this
   rw [List.getElem?_set_self hl] at h
   cases h
   exact ⟨a,ha,b0,b1,r⟩
  ·rw [List.getElem?_set_ne (Ne.symm hji)] at h
   obtain ⟨c,ec,c0,c1,oc⟩:=F.own j hj e h
   have hca : c≠a:=fun z => by
    subst z
    exact F.apart i hi j hj (Ne.symm hji) d e c hd h ha ec
   exact ⟨c,ec,c0,c1,oc.mono (fun u q => by rw [upd_ne hca];exact q) fun _ _ q => q⟩
 ·have some1 : ∀ {k e},(ρ.set i (some d'))[k]? = some (some e)→∃ e',ρ[k]? = some (some e'):=fun {k e} h => by
   by_cases hki : k = i
   ·subst hki;exact ⟨d,hd⟩
   ·rw [List.getElem?_set_ne (Ne.symm hki)] at h;exact ⟨e,h⟩
  obtain ⟨e',h1'⟩:=some1 h1
  obtain ⟨f',h2'⟩:=some1 h2
  exact F.apart j hj k hk hjk e' f' c h1' h2' h3
noncomputable def hole (H : Hp) (a : Addr) : Hp:=fun b => if b = a then none else H b
theorem hole_ne {H : Hp} {a b : Addr} (h : b≠a) : hole H a b = H b:=if_neg h
theorem hole_at {H : Hp} {a : Addr} : hole H a a = none:=if_pos rfl
theorem likeE_get : ∀ {a b : En} {i : Nat} {d : D},(likeE a b)[i]? = some (some d)→b[i]? = some (some d)
 | [],b,i,d,h => by
  simp only [likeE,List.getElem?_map] at h
  cases e : b[i]? <;> simp [e] at h
 | _ :: _,[],i,d,h => by simp [likeE] at h
 | x :: as,y :: bs,0,d,h => by
  simp only [likeE,List.getElem?_cons_zero] at h ⊢
  split at h
  ·exact h
  ·cases h
 | x :: as,y :: bs,i + 1,d,h => by
  simp only [likeE,List.getElem?_cons_succ] at h ⊢
  exact likeE_get h
theorem likeE_len : ∀ (a b : En),(likeE a b).length = b.length
 | [],b => by simp [likeE]
 | _ :: _,[] => rfl
 | _ :: as,_ :: bs => by simp [likeE,likeE_len as bs]
theorem FR.less {ρ' : En} (F : FR g E Es O ρ σ H Hs) (hl : ρ'.length = ρ.length) (h : ∀ (i : Nat) d,ρ'[i]? = some (some d)→ρ[i]? = some (some d)) : FR g E Es O ρ' σ H Hs :=
 ⟨F.grow,hl.trans F.len,fun i d q hi => F.val i d (h i d q) hi,fun i hi d q => F.own i hi d (h i d q),fun i hi j hj hij d e a q1 q2 => F.apart i hi j hj hij d e a (h i d q1) (h j e q2),F.pin⟩
theorem unpub {Hs1 H1 Hs2 : Hp} (hs : Same Hs H) (hw : OnlyM Hs Hs1) (g2 : Grow H Hs1 H1 Hs2) : ∃ Hs3,Grow H Hs H1 Hs3∧(∀ t o,Hs2 t = some o→isMutO o = false→Hs3 t = some o)∧∀ t,H t = none→Hs3 t = Hs2 t:=by
 classical
 refine ⟨fun b => if (H b).isSome then Hs b else Hs2 b,⟨g2.keep,fun a o q => ?_,fun a o q => ?_⟩,fun t o q hm => ?_,fun t ht => ?_⟩
 ·show (if (H a).isSome then Hs a else Hs2 a) = _
  rw [q];rfl
 ·by_cases e : (H a).isSome = true
  ·have q' : Hs a = some o:=by rw [← q];exact (if_pos e).symm
   exact g2.keep a o (hs a o q')
  ·have q' : Hs2 a = some o:=by rw [← q];exact (if_neg e).symm
   exact g2.sub a o q'
 ·show (if (H t).isSome then Hs t else Hs2 t) = _
  by_cases e : (H t).isSome = true
  ·rw [if_pos e]
   obtain ⟨u,hu⟩:=Option.isSome_iff_exists.mp e
   have h1 : Hs1 t = some o:=by rw [← g2.old t u hu];exact q
   rcases hw t o h1 with z | z
   ·exact z
   ·rw [hm] at z;cases z
  ·rw [if_neg e];exact q
 ·show (if (H t).isSome then Hs t else Hs2 t) = _
  rw [ht];rfl
end
end Mi
namespace Mi
open PySem L2
open PyProof.Rows hiding St
theorem bind_ok {α β : Type} {r : R α} {f : α→R β} {b : β} (h : (r >>= f) = .ok b) : ∃ a,r = .ok a∧f a = .ok b:=by
 cases r with
 | ok a => exact ⟨a,rfl,h⟩
 | exc x => rw [exc_bind] at h;cases h
 | stuck => rw [stuck_bind] at h;cases h
theorem if_ok {α : Type} {c : Prop} [Decidable c] {a : R α} {b : α} (h : (if c then a else .stuck) = .ok b) : c∧a = .ok b:=by
 by_cases hc : c
 ·rw [if_pos hc] at h;exact ⟨hc,h⟩
 ·rw [if_neg hc] at h;cases h
theorem pe_imp {X : Cx} {e : Expr} {t t' : TE} (h : PE X e t) (i : ∀ σ H Q,t' σ H Q→t σ H Q) : PE X e t':=fun pins s σ H Q I hq => h pins s σ H Q I (i σ H Q hq)
theorem pt_imp {X : Cx} {e : Expr} {t t' : TT} (h : PT X e t) (i : ∀ σ H Q,t' σ H Q→t σ H Q) : PT X e t':=fun pins s σ H Q I hq => h pins s σ H Q I (i σ H Q hq)
theorem pa_imp {X : Cx} {e : List Expr} {t t' : TA} (h : PA X e t) (i : ∀ σ H Q,t' σ H Q→t σ H Q) : PA X e t':=fun pos pins s σ H Q I hq => h pos pins s σ H Q I (i σ H Q hq)
section
variable {X : Cx} {H Hs H1 Hs1 : Hp} {Q : VK} {d : D} {v : V}
theorem rp_int {g : G} {i : Int} {v : V} : Rp g H (.int i) v↔v = .int i:=by rw [Rp]
theorem rp_bl {g : G} {i : Bool} {v : V} : Rp g H (.bl i) v↔v = .bl i:=by rw [Rp]
theorem rp_non {g : G} {v : V} : Rp g H .non v↔v = .non:=by rw [Rp]
theorem rp_str {g : G} {i : Str} {v : V} : Rp g H (.str i) v↔v = .str i:=by rw [Rp]
theorem rp_tup {g : G} {ds : List D} {v : V} : Rp g H (.tup ds) v↔∃ a xs,v = .ref a∧SqT g.K H a xs∧Rps g H ds xs:=by rw [Rp]
theorem rp_lst {g : G} {ds : List D} {v : V} : Rp g H (.lst ds) v↔∃ a xs,v = .ref a∧SqL g.K H a xs∧Rps g H ds xs:=by rw [Rp]
theorem rp_dct {g : G} {ks vs : List D} {v : V} : Rp g H (.dct ks vs) v↔∃ a xs ys,v = .ref a∧H a = some (.ext (DAt g a xs ys))∧ks = xs.map (·.1)∧(∀ k∈ks,isKey k = true)∧Rps g H ks (xs.map fun x => V.ref x.2.1)∧Rps g H vs ys:=by rw [Rp]
noncomputable def XD (X : Cx) (H Hs : Hp) (Q : VK) (d : D) : Prop:=∀ v H' Hs',Grow H Hs H' Hs'→Rp (gOf X) Hs' d v→Q v H'
theorem XD.grow (h : XD X H Hs Q d) (w : Grow H Hs H1 Hs1) : XD X H1 Hs1 Q d:=fun v H' Hs' g r => h v H' Hs' (w.trans g) r
theorem XD.here (h : XD X H Hs Q d) (hs : Same Hs H) (r : Rp (gOf X) Hs d v) : Q v H:=h v H Hs (Grow.refl hs) r
theorem XD.int {i : Int} (h : XD X H Hs Q (.int i)) (hs : Same Hs H) : Q (.int i) H:=h.here hs (rp_int.mpr rfl)
theorem XD.bl {i : Bool} (h : XD X H Hs Q (.bl i)) (hs : Same Hs H) : Q (.bl i) H:=h.here hs (rp_bl.mpr rfl)
theorem XD.non (h : XD X H Hs Q .non) (hs : Same Hs H) : Q .non H:=h.here hs (rp_non.mpr rfl)
theorem same_upd {p : Addr} {o : HO} (hs : Same Hs H) (hp : H p = none) : Same Hs (upd Hs p o):=(Grow.new (o:=o) hs hp).same hs
theorem XD.newL {ds : List D} {xs : List V} (h : XD X H Hs Q (.lst ds)) (hs : Same Hs H) (r : Rps (gOf X) Hs ds xs) : ∀ p,H p = none→Q (.ref p) (upd H p (.lst xs)):=fun p hp =>
 h _ _ _ (Grow.new (o:=.lst xs) hs hp) (rp_lst.mpr ⟨p,xs,rfl,SqL.of upd_same,r.mono (same_upd hs hp)⟩)
theorem XD.newT {ds : List D} {xs : List V} (h : XD X H Hs Q (.tup ds)) (hs : Same Hs H) (r : Rps (gOf X) Hs ds xs) : ∀ p,H p = none→Q (.ref p) (upd H p (.tup xs)):=fun p hp =>
 h _ _ _ (Grow.new (o:=.tup xs) hs hp) (rp_tup.mpr ⟨p,xs,rfl,SqT.of upd_same,r.mono (same_upd hs hp)⟩)
noncomputable def Op2 (X : Cx) (r : R2) (op : D→D→R D) : Prop:=∀ x y d e z H Hs Q,Same Hs H→Rp (gOf X) Hs d x→Rp (gOf X) Hs e y→op d e = .ok z→XD X H Hs Q z→r x y H Q
theorem op_catL : OpR X (binaryOp .Add) (rCatL X.K):=by
 intro pins s σ H x y v u Q I rx ry h
 obtain ⟨l,b,xs,zs,rfl,rfl,hH,hB,hz,q⟩:=h
 cases rx
 cases ry
 obtain ⟨its,r,pl,_⟩:=I.list hH
 obtain ⟨its2,r2,pl2,_⟩:=I.list hB
 obtain ⟨⟨cls,dd,data,sl⟩,ho,hc,n,hd⟩:=pl.isList
 obtain ⟨⟨cls2,dd2,data2,sl2⟩,ho2,hc2,n2,hd2⟩:=pl2.isList
 simp only at hc hd hc2 hd2
 subst hc hd hc2 hd2
 have hl:=r.length
 have hl2:=r2.length
 have e : its.toArray++its2.toArray = (its++its2).toArray:=by simp
 refine concat_meets ⟨_,ho,rfl⟩ ⟨_,ho2,rfl⟩ noFill_list_add seq_list_add PySem.F.slot_list_add PySem.F.entry_list_add (PySem.F.args_list_add_2 _ _) (list_addW l b its.toArray its2.toArray n n2 dd dd2 sl sl2 (by simp only [List.size_toArray];omega)) ⟨ho,ho2,?_⟩
 rw [e]
 exact ⟨.ref _,_,I.lnew (t':=s.toks) (r.append r2) (by rw [List.length_append];omega),rfl,q _ I.fresh⟩
noncomputable def rCatS : R2:=fun x y H Q => ∃ i j,x = .str i∧y = .str j∧i.length + j.length≤sizeLine∧Q (.str (i++j)) H
noncomputable def rAddD (X : Cx) : R2:=fun x y H Q => rI0 (fun i j => .int (i + j)) x y H Q∨(rCatT0 X.K x y H Q∨(rCatT X.K x y H Q∨(rCatL X.K x y H Q∨rCatS x y H Q)))
theorem op_addD : OpR X (binaryOp .Add) (rAddD X):=op_add.or (op_catT0.or (op_catT.or (op_catL.or op_add_str)))
theorem op2_add : Op2 X (rAddD X) addD:=by
 intro x y d e z H Hs Q hs rx ry h k
 have hlim:=lim_le
 cases d <;> cases e <;> simp only [addD] at h <;> try (cases h;done)
 ·cases h
  exact .inl ⟨_,_,rp_int.mp rx,rp_int.mp ry,k.int hs⟩
 ·obtain ⟨hl,h⟩:=if_ok h
  cases h
  exact .inr (.inr (.inr (.inr ⟨_,_,rp_str.mp rx,rp_str.mp ry,Nat.le_trans hl hlim,k.here hs (rp_str.mpr rfl)⟩)))
 ·obtain ⟨hl,h⟩:=if_ok h
  cases h
  obtain ⟨a,xs,rfl,s1,r1⟩:=rp_tup.mp rx
  obtain ⟨b,ys,rfl,s2,r2⟩:=rp_tup.mp ry
  have l1:=r1.length
  have l2:=r2.length
  by_cases hx : xs = []
  ·subst hx
   refine .inr (.inl ⟨a,b,ys,rfl,rfl,sqT_mono hs s1,sqT_mono hs s2,k.here hs ?_⟩)
   rename_i as bs
   have : as = []:=by cases as with | nil => rfl | cons _ _ => simp at l1
   subst this
   exact ry
  ·refine .inr (.inr (.inl ⟨a,b,xs,ys,rfl,rfl,sqT_mono hs s1,sqT_mono hs s2,hx,by omega,fun hy => ?_,fun _ => k.newT hs (r1.append r2)⟩))
   subst hy
   rename_i as bs
   have : bs = []:=by cases bs with | nil => rfl | cons _ _ => simp at l2
   subst this
   rw [List.append_nil] at k
   exact k.here hs rx
 ·obtain ⟨hl,h⟩:=if_ok h
  cases h
  obtain ⟨a,xs,rfl,s1,r1⟩:=rp_lst.mp rx
  obtain ⟨b,ys,rfl,s2,r2⟩:=rp_lst.mp ry
  have l1:=r1.length
  have l2:=r2.length
  exact .inr (.inr (.inr (.inl ⟨a,b,xs,ys,rfl,rfl,sqL_mono hs s1,sqL_mono hs s2,by omega,k.newL hs (r1.append r2)⟩)))
noncomputable def opOf : BO→Operator
 | .add => .Add | .sub => .Sub | .mul => .Mult | .mod => .Mod | .fdiv => .FloorDiv
noncomputable def rBin (X : Cx) : BO→R2
 | .add => rAddD X
 | .sub => rI0 fun i j => .int (i - j)
 | .mul => fun x y H Q => rI CMul (fun i j => .int (i * j)) x y H Q∨rRepT X.K x y H Q
 | .mod => rI (fun _ j => 0 < j) fun i j => .int (i % j)
 | .fdiv => rI CDiv fun i j => .int (i / j)
theorem op_bin (o : BO) : OpR X (binaryOp (opOf o)) (rBin X o):=by
 cases o
 ·exact op_addD
 ·exact op_sub
 ·exact op_mul.or op_repT
 ·exact op_mod
 ·exact op_fdiv
theorem smallI_iff {i : Int} (h : smallI i = true) : -(2 ^ 64) < i∧i < 2 ^ 64:=by
 cases i with
 | ofNat n =>
  have:=Nat.le_of_ble_eq_true h
  rw [Int.ofNat_eq_natCast]
  exact ⟨by omega,by omega⟩
 | negSucc n =>
  have:=Nat.le_of_ble_eq_true h
  exact ⟨by omega,by omega⟩
theorem rps_rep {g : G} {H : Hp} {ds : List D} {xs : List V} (r : Rps g H ds xs) : ∀ k : Nat,Rps g H (List.replicate k ds).flatten (List.replicate k xs).flatten
 | 0 => Rps.nil
 | k + 1 => by
  rw [List.replicate_succ,List.replicate_succ,List.flatten_cons,List.flatten_cons]
  exact r.append (rps_rep r k)
theorem op2_bin (o : BO) : Op2 X (rBin X o) (binD o):=by
 cases o
 ·intro x y d e z H Hs Q hs rx ry h k
  exact op2_add x y d e z H Hs Q hs rx ry (by simpa only [binD] using h) k
 all_goals
  intro x y d e z H Hs Q hs rx ry h k
  cases d <;> cases e <;> simp only [binD] at h <;> try (cases h;done)
 ·cases h
  exact ⟨_,_,rp_int.mp rx,rp_int.mp ry,k.int hs⟩
 ·obtain ⟨c,h⟩:=if_ok h
  cases h
  refine .inl ⟨_,_,rp_int.mp rx,rp_int.mp ry,?_,k.int hs⟩
  simp only [Bool.or_eq_true] at c
  rcases c with c | c
  ·exact .inl (smallI_iff c)
  ·exact .inr (smallI_iff c)
 ·obtain ⟨⟨c1,c2,c3,c4⟩,h⟩:=if_ok h
  cases h
  obtain ⟨a,xs,rfl,s1,r1⟩:=rp_tup.mp rx
  have l1:=r1.length
  refine .inr ⟨a,_,xs,rfl,rp_int.mp ry,sqT_mono hs s1,fun z => ?_,by omega,c1,c2,k.newT hs (rps_rep r1 _)⟩
  subst z
  simp only [List.length_nil] at l1
  omega
 ·obtain ⟨c,h⟩:=if_ok h
  cases h
  exact ⟨_,_,rp_int.mp rx,rp_int.mp ry,c,k.int hs⟩
 ·obtain ⟨c,h⟩:=if_ok h
  cases h
  exact ⟨_,_,rp_int.mp rx,rp_int.mp ry,c,k.int hs⟩
noncomputable def copOf : CO→CmpOp
 | .eq => .Eq | .ne => .NotEq | .lt => .Lt | .le => .LtE | .gt => .Gt | .ge => .GtE | .in_ => .In | .notin => .NotIn
noncomputable def rInT (neg : Bool) : R2:=fun x y H Q => ∃ i j,x = .str i∧y = .str j∧Q (.bl (if neg then !(!(Builtin.Str.occurrences j i 0 j.length 1).isEmpty) else !(Builtin.Str.occurrences j i 0 j.length 1).isEmpty)) H
noncomputable def rCmp (X : Cx) : CO→R2
 | .eq => rEqD X
 | .ne => rNeD X
 | .lt => rI0 fun i j => .bl (decide (i < j))
 | .le => rI0 fun i j => .bl (decide (i≤j))
 | .gt => rI0 fun i j => .bl (decide (j < i))
 | .ge => rI0 fun i j => .bl (decide (j≤i))
 | .in_ => fun x y H Q => (rInS X false x y H Q∨rInDt X false x y H Q)∨rInT false x y H Q
 | .notin => fun x y H Q => (rInS X true x y H Q∨rInDt X true x y H Q)∨rInT true x y H Q
theorem op_cmp (hu : X.A.units + 100 < cLine) (o : CO) : OpR X (compareOp (copOf o)) (rCmp X o):=by
 cases o
 ·exact op_eqD hu
 ·exact op_neD hu
 ·exact op_lt
 ·exact op_le
 ·exact op_gt
 ·exact op_ge
 ·exact ((op_inS hu).or (op_inDt hu)).or op_in_str
 ·exact ((op_notInS hu).or (op_notInDt hu)).or op_notin_str
theorem inD_rule {b neg : Bool} {x y : V} {d e : D} (hs : Same Hs H) (rx : Rp (gOf X) Hs d x) (ry : Rp (gOf X) Hs e y) (h : inD d e = .ok b) (k : Q (.bl (if neg then !b else b)) H) : (rInS X neg x y H Q∨rInDt X neg x y H Q)∨rInT neg x y H Q:=by
 cases e <;> simp only [inD] at h <;> try (cases h;done)
 ·cases d <;> simp only at h <;> try (cases h;done)
  cases h
  exact .inr ⟨_,_,rp_str.mp rx,rp_str.mp ry,k⟩
 ·obtain ⟨c,h⟩:=if_ok h
  cases h
  obtain ⟨p,xs,rfl,s1,r1⟩:=rp_tup.mp ry
  simp only [Bool.and_eq_true,decide_eq_true_eq] at c
  exact .inl (.inl ⟨d,_,p,xs,rx.mono hs,rfl,.inr (sqT_mono hs s1),r1.mono hs,c.1,c.2,k⟩)
 ·obtain ⟨c,h⟩:=if_ok h
  cases h
  obtain ⟨p,xs,rfl,s1,r1⟩:=rp_lst.mp ry
  simp only [Bool.and_eq_true,decide_eq_true_eq] at c
  exact .inl (.inl ⟨d,_,p,xs,rx.mono hs,rfl,.inl (sqL_mono hs s1),r1.mono hs,c.1,c.2,k⟩)
 ·obtain ⟨c,h⟩:=if_ok h
  cases h
  obtain ⟨a,xs,ys,rfl,ha,e1,e2,r1,r2⟩:=rp_dct.mp ry
  exact .inl (.inr ⟨d,a,_,xs,ys,rx.mono hs,c,rfl,⟨hs _ _ ha,e1,e2,r1.mono hs⟩,k⟩)
theorem op2_cmp (o : CO) : Op2 X (rCmp X o) (fun d e => do let r ← cmpD o d e;.ok (.bl r)):=by
 intro x y d e z H Hs Q hs rx ry h0 k
 obtain ⟨b,h,hz⟩:=bind_ok h0
 clear h0
 cases hz
 cases o
 ·simp only [cmpD] at h
  obtain ⟨c,h⟩:=if_ok h
  cases h
  exact ⟨d,e,rx.mono hs,ry.mono hs,c,k.bl hs⟩
 ·simp only [cmpD] at h
  obtain ⟨c,h⟩:=if_ok h
  cases h
  exact ⟨d,e,rx.mono hs,ry.mono hs,c,k.bl hs⟩
 ·cases d <;> cases e <;> simp only [cmpD] at h <;> try (cases h;done)
  cases h;exact ⟨_,_,rp_int.mp rx,rp_int.mp ry,k.bl hs⟩
 ·cases d <;> cases e <;> simp only [cmpD] at h <;> try (cases h;done)
  cases h;exact ⟨_,_,rp_int.mp rx,rp_int.mp ry,k.bl hs⟩
 ·cases d <;> cases e <;> simp only [cmpD] at h <;> try (cases h;done)
  cases h;exact ⟨_,_,rp_int.mp rx,rp_int.mp ry,k.bl hs⟩
 ·cases d <;> cases e <;> simp only [cmpD] at h <;> try (cases h;done)
  cases h;exact ⟨_,_,rp_int.mp rx,rp_int.mp ry,k.bl hs⟩
 ·simp only [cmpD] at h
  exact inD_rule hs rx ry h (k.bl hs)
 ·simp only [cmpD] at h
  obtain ⟨c,h1,h2⟩:=bind_ok h
  clear h
  cases h2
  exact inD_rule (neg:=true) hs rx ry h1 (k.bl hs)
noncomputable def rIxD (X : Cx) : R2:=fun x y H Q => ((rIxL X.K x y H Q∨rIxT X.K x y H Q)∨rIxDt X x y H Q)∨rIxS x y H Q
theorem ix_D (hu : X.A.units + 100 < cLine) : IxR X (rIxD X):=((ix_list.or ix_tup).or (ix_dict hu)).or ix_str
theorem gets {g : G} {k : D} : ∀ {xs : List (D × Addr × Value)} {vs : List D} {ys : List V},Rps g H vs ys→(∃ z v,getKs (xs.map (·.1)) vs k = some z∧atV xs ys k = some v∧Rp g H z v)∨(getKs (xs.map (·.1)) vs k = none∧atV xs ys k = none)
 | [],_,_,_ => .inr ⟨rfl,rfl⟩
 | x :: xs,[],ys,r => by
  obtain rfl:=r.nil_inv
  exact .inr ⟨rfl,rfl⟩
 | x :: xs,z :: vs,ys,r => by
  obtain ⟨v,ys',rfl,r0,rs⟩:=r.cons_inv
  by_cases e : x.1 = k
  ·exact .inl ⟨z,v,if_pos e,if_pos e,r0⟩
  ·have e1 : getKs ((x :: xs).map (·.1)) (z :: vs) k = getKs (xs.map (·.1)) vs k:=if_neg e
   have e2 : atV (x :: xs) (v :: ys') k = atV xs ys' k:=if_neg e
   rw [e1,e2]
   exact gets rs
theorem atI_of {ds : List D} {xs : List V} {i : Int} {z : D} {g : G} (r : Rps g Hs ds xs) (h : (match ixN ds.length i with | some k => (match ds[k]? with | some d => R.ok d | none => .stuck) | none => .stuck) = .ok z) : ∃ v,atI xs i = some v∧Rp g Hs z v:=by
 cases e : ixN ds.length i with
 | none => rw [e] at h;cases h
 | some k =>
  rw [e] at h
  cases e2 : ds[k]? with
  | none => simp only [e2] at h;cases h
  | some d =>
   simp only [e2] at h
   cases h
   obtain ⟨v,ev,rv⟩:=r.getD e2
   refine ⟨v,?_,rv⟩
   unfold atI
   rw [← r.length,e]
   exact ev
theorem op2_ix : Op2 X (rIxD X) ixD:=by
 intro x y d e z H Hs Q hs rx ry h k
 cases d <;> try (cases h;done)
 ·cases e <;> try (cases h;done)
  obtain ⟨hl,h⟩:=if_ok h
  split at h <;> try (cases h;done)
  cases h
  exact .inr ⟨_,_,_,rp_str.mp rx,rp_int.mp ry,Nat.le_trans hl lim_le,‹_›,k.here hs (rp_str.mpr rfl)⟩
 ·cases e <;> try (cases h;done)
  obtain ⟨a,xs,rfl,s1,r1⟩:=rp_tup.mp rx
  obtain ⟨v,e1,r2⟩:=atI_of r1 h
  exact .inl (.inl (.inr ⟨a,xs,_,v,rfl,rp_int.mp ry,sqT_mono hs s1,e1,k.here hs r2⟩))
 ·cases e <;> try (cases h;done)
  obtain ⟨a,xs,rfl,s1,r1⟩:=rp_lst.mp rx
  obtain ⟨v,e1,r2⟩:=atI_of r1 h
  exact .inl (.inl (.inl ⟨a,xs,_,v,rfl,rp_int.mp ry,sqL_mono hs s1,e1,k.here hs r2⟩))
 ·rename_i ks vs
  obtain ⟨hk,h⟩:=if_ok h
  obtain ⟨a,xs,ys,rfl,ha,e1,e2,r1,r2⟩:=rp_dct.mp rx
  subst e1
  rcases gets (k:=e) (xs:=xs) r2 with ⟨z',v,g1,g2,g3⟩ | ⟨g1,g2⟩
  ·rw [g1] at h
   cases h
   exact .inl (.inr ⟨e,a,_,xs,ys,v,ry.mono hs,hk,rfl,⟨hs _ _ ha,rfl,e2,r1.mono hs⟩,g2,k.here hs g3⟩)
  ·rw [g1] at h
   cases h
end
end Mi
namespace Mi
open PySem L2
open PyProof.Rows hiding St
structure Tx where
 F : List Str
 gl : List (Str × D)
noncomputable def visB (sc : Scope) (x : Str) : Bool:=match sc.names.lookup x with
 | some .local => true | some .cell => true | some .free => true | _ => false
noncomputable def ownB (sc : Scope) (x : Str) : Bool:=match sc.names.lookup x with
 | some .local => true | some .cell => true | _ => false
noncomputable def glbB (sc : Scope) (x : Str) : Bool:=match sc.names.lookup x with
 | some .globalImplicit => true | _ => false
noncomputable def okName (x : Str) : Bool:=!(x == ("__debug__" : Str)) && !(x == ("__classdict__" : Str)) && !(x == ("__name__" : Str))
noncomputable def boB : BO→Operator→Bool
 | .add,.Add => true | .sub,.Sub => true | .mul,.Mult => true | .mod,.Mod => true | .fdiv,.FloorDiv => true | _,_ => false
theorem boB_eq {o : BO} {p : Operator} (h : boB o p = true) : p = opOf o:=by cases o <;> cases p <;> first | rfl | cases h
noncomputable def coB : CO→CmpOp→Bool
 | .eq,.Eq => true | .ne,.NotEq => true | .lt,.Lt => true | .le,.LtE => true | .gt,.Gt => true | .ge,.GtE => true | .in_,.In => true | .notin,.NotIn => true | _,_ => false
theorem coB_eq {o : CO} {p : CmpOp} (h : coB o p = true) : p = copOf o:=by cases o <;> cases p <;> first | rfl | cases h
noncomputable def conB : D→Const→Bool
 | .int i,.int j => decide (i = j)
 | .bl i,.bool j => decide (i = j)
 | .non,.none => true
 | .str x,.str y => decide (x = y)
 | _,_ => false
noncomputable def biName : BI→Str
 | .len => "len" | .min2 => "min" | .max2 => "max" | .all => "all" | .any => "any" | .sorted => "sorted" | .list => "list" | .tuple => "tuple" | .listEnum => "list" | .listRev => "list" | .str => "str" | .int => "int"
noncomputable def mtName : MT→Str
 | .ends => "endswith" | .split => "split" | .join => "join"
noncomputable def glB : Option D→D→Bool
 | some (.int i),.int j => decide (i = j)
 | some (.str i),.str j => decide (i = j)
 | _,_ => false
theorem glB_ok {o : Option D} {d : D} (h : glB o d = true) : o = some d:=by
 unfold glB at h
 split at h
 ·rw [of_decide_eq_true h]
 ·rw [of_decide_eq_true h]
 ·cases h
noncomputable def Ty.nm : Ty→Str
 | .int => "int" | .bool => "bool" | .str => "str" | .tuple => "tuple" | .list => "list"
noncomputable def bltNames : List Str:=["len", "min", "max", "all", "any", "sorted", "list", "tuple", "isinstance", "int", "bool", "str", "range", "enumerate", "zip", "reversed"]
noncomputable def scB (around scope : Scope) : Bool :=
 decide (scope.kind = .function) && decide ((scope.names.map (·.1)).Nodup) && scope.names.all fun p => decide (p.2≠.free) || decide (around.names.lookup p.1 = some .cell) || decide (around.names.lookup p.1 = some .free)
noncomputable def isK (k : Nat) (e : Expr) : Bool:=Nat.beq e.ctorIdx k
noncomputable def isS (k : Nat) (s : Stmt) : Bool:=Nat.beq s.ctorIdx k
theorem isK_ok {k : Nat} {e : Expr} {b : Bool} (h : (isK k e && b) = true) : e.ctorIdx = k:=Nat.eq_of_beq_eq_true (Bool.and_eq_true_iff.mp h).1
theorem isS_ok {k : Nat} {s : Stmt} {b : Bool} (h : (isS k s && b) = true) : s.ctorIdx = k:=Nat.eq_of_beq_eq_true (Bool.and_eq_true_iff.mp h).1
section
variable {e : Expr} {s : Stmt} {b : Bool}
theorem inv_Name (h : (isK 23 e && b) = true) : ∃ x p,e = .Name x p:=Expr.Name.elim (motive_1:=fun e => ∃ x p,e = .Name x p) e (isK_ok h) fun _ _ => ⟨_,_,rfl⟩
theorem inv_Tuple (h : (isK 25 e && b) = true) : ∃ x k p,e = .Tuple x k p:=Expr.Tuple.elim (motive_1:=fun e => ∃ x k p,e = .Tuple x k p) e (isK_ok h) fun _ _ _ => ⟨_,_,_,rfl⟩
theorem inv_List (h : (isK 24 e && b) = true) : ∃ x p,e = .List x p:=Expr.List.elim (motive_1:=fun e => ∃ x p,e = .List x p) e (isK_ok h) fun _ _ => ⟨_,_,rfl⟩
theorem inv_BinOp (h : (isK 2 e && b) = true) : ∃ x o y p,e = .BinOp x o y p:=Expr.BinOp.elim (motive_1:=fun e => ∃ x o y p,e = .BinOp x o y p) e (isK_ok h) fun _ _ _ _ => ⟨_,_,_,_,rfl⟩
theorem inv_Compare (h : (isK 15 e && b) = true) : ∃ x o y p,e = .Compare x o y p:=Expr.Compare.elim (motive_1:=fun e => ∃ x o y p,e = .Compare x o y p) e (isK_ok h) fun _ _ _ _ => ⟨_,_,_,_,rfl⟩
theorem inv_BoolOp (h : (isK 0 e && b) = true) : ∃ o y p,e = .BoolOp o y p:=Expr.BoolOp.elim (motive_1:=fun e => ∃ o y p,e = .BoolOp o y p) e (isK_ok h) fun _ _ _ => ⟨_,_,_,rfl⟩
theorem inv_UnaryOp (h : (isK 3 e && b) = true) : ∃ o y p,e = .UnaryOp o y p:=Expr.UnaryOp.elim (motive_1:=fun e => ∃ o y p,e = .UnaryOp o y p) e (isK_ok h) fun _ _ _ => ⟨_,_,_,rfl⟩
theorem inv_Subscript (h : (isK 21 e && b) = true) : ∃ x y p,e = .Subscript x y p:=Expr.Subscript.elim (motive_1:=fun e => ∃ x y p,e = .Subscript x y p) e (isK_ok h) fun _ _ _ => ⟨_,_,_,rfl⟩
theorem inv_ListComp (h : (isK 8 e && b) = true) : ∃ x y z p,e = .ListComp x y z p:=Expr.ListComp.elim (motive_1:=fun e => ∃ x y z p,e = .ListComp x y z p) e (isK_ok h) fun _ _ _ _ => ⟨_,_,_,_,rfl⟩
theorem inv_Call (h : (isK 16 e && b) = true) : ∃ x y z p,e = .Call x y z p:=Expr.Call.elim (motive_1:=fun e => ∃ x y z p,e = .Call x y z p) e (isK_ok h) fun _ _ _ _ => ⟨_,_,_,_,rfl⟩
theorem inv_Attribute (h : (isK 20 e && b) = true) : ∃ x y p,e = .Attribute x y p:=Expr.Attribute.elim (motive_1:=fun e => ∃ x y p,e = .Attribute x y p) e (isK_ok h) fun _ _ _ => ⟨_,_,_,rfl⟩
theorem inv_Assign (h : (isS 5 s && b) = true) : ∃ x y p,s = .Assign x y p:=Stmt.Assign.elim s (isS_ok h) fun _ _ _ => ⟨_,_,_,rfl⟩
theorem inv_Expr (h : (isS 24 s && b) = true) : ∃ x p,s = .Expr x p:=Stmt.Expr.elim s (isS_ok h) fun _ _ => ⟨_,_,rfl⟩
theorem inv_Return (h : (isS 3 s && b) = true) : ∃ x p,s = .Return x p:=Stmt.Return.elim s (isS_ok h) fun _ _ => ⟨_,_,rfl⟩
theorem inv_If (h : (isS 12 s && b) = true) : ∃ x y z p,s = .If x y z p:=Stmt.If.elim s (isS_ok h) fun _ _ _ _ => ⟨_,_,_,_,rfl⟩
theorem inv_For (h : (isS 9 s && b) = true) : ∃ x y z w p,s = .For x y z w p:=Stmt.For.elim s (isS_ok h) fun _ _ _ _ _ => ⟨_,_,_,_,_,rfl⟩
theorem inv_Pass (h : (isS 25 s && b) = true) : ∃ p,s = .Pass p:=Stmt.Pass.elim s (isS_ok h) fun _ => ⟨_,rfl⟩
theorem inv_Break (h : (isS 26 s && b) = true) : ∃ p,s = .Break p:=Stmt.Break.elim s (isS_ok h) fun _ => ⟨_,rfl⟩
theorem inv_Continue (h : (isS 27 s && b) = true) : ∃ p,s = .Continue p:=Stmt.Continue.elim s (isS_ok h) fun _ => ⟨_,rfl⟩
end
noncomputable def callB (e : Expr) (f : Str→List Expr→Bool) : Bool:=isK 16 e && match e with
 | .Call g es ks _ => isK 23 g && (match g,ks with | .Name x _,[] => f x es | _,_ => false)
 | _ => false
theorem callB_ok {e : Expr} {f : Str→List Expr→Bool} (h : callB e f = true) : ∃ x p es q,e = .Call (.Name x p) es [] q∧f x es = true:=by
 obtain ⟨g,es,ks,q,rfl⟩:=inv_Call h
 have h2 : (isK 23 g && _) = true:=h
 obtain ⟨x,p,rfl⟩:=inv_Name h2
 cases ks with
 | nil => exact ⟨x,p,es,q,rfl,h⟩
 | cons _ _ => cases h
noncomputable def tgB (N : List Str) (sc : Scope) : Tg→Expr→Bool
 | .one i,e => isK 23 e && match e with | .Name x _ => ownB sc x && decide (N[i]? = some x) | _ => false
 | .two i j,e => isK 25 e && match e with
  | .Tuple es _ _ => (match es with
   | [a,b] => isK 23 a && (isK 23 b && match a,b with | .Name x _,.Name y _ => ownB sc x && ownB sc y && decide (N[i]? = some x) && decide (N[j]? = some y) && decide (i≠j) | _,_ => false)
   | _ => false)
  | _ => false
theorem tgB_one {N : List Str} {sc : Scope} {i : Nat} {e : Expr} (h : tgB N sc (.one i) e = true) : ∃ x p,e = .Name x p∧ownB sc x = true∧N[i]? = some x:=by
 obtain ⟨x,p,rfl⟩:=inv_Name h
 have h2 : (ownB sc x && decide (N[i]? = some x)) = true:=h
 simp only [Bool.and_eq_true,decide_eq_true_eq] at h2
 exact ⟨x,p,rfl,h2⟩
theorem tgB_two {N : List Str} {sc : Scope} {i j : Nat} {e : Expr} (h : tgB N sc (.two i j) e = true) : ∃ x p y q k r,e = .Tuple [.Name x p,.Name y q] k r∧((((ownB sc x = true∧ownB sc y = true)∧N[i]? = some x)∧N[j]? = some y)∧i≠j):=by
 obtain ⟨es,k,r,rfl⟩:=inv_Tuple h
 rcases es with _ | ⟨a,_ | ⟨b,_ | ⟨c,es⟩⟩⟩ <;> try (cases h;done)
 obtain ⟨x,p,rfl⟩:=inv_Name (show (isK 23 a && _) = true from h)
 obtain ⟨y,q,rfl⟩:=inv_Name (show (isK 23 b && _) = true from h)
 have h2 : (ownB sc x && ownB sc y && decide (N[i]? = some x) && decide (N[j]? = some y) && decide (i≠j)) = true:=h
 simp only [Bool.and_eq_true,decide_eq_true_eq] at h2
 exact ⟨x,p,y,q,k,r,rfl,h2⟩
noncomputable def isTupE : Expr→Bool
 | .Tuple .. => true | _ => false
noncomputable def plainIxB : Expr→Bool
 | .Slice .. => false | _ => true
noncomputable def noStar : Expr→Bool
 | .Starred .. => false | _ => true
noncomputable def notSet : Expr→Bool
 | .Set .. => false | _ => true
noncomputable def argsC : Expr→List Expr
 | .Call _ es _ _ => es
 | _ => []
noncomputable def argsOf : IK→Expr→List Expr
 | .seq,e => [e]
 | .rng,e => argsC e
 | .enum,e => argsC e
 | .zip,e => argsC e
 | .rev,e => argsC e
noncomputable def shapeB (sc : Scope) : IK→Expr→Expr→Bool
 | .seq,_,e => notSet e
 | .rng, _, e => callB e fun f es => decide (f = "range") && glbB sc f && (decide (es.length = 1) || decide (es.length = 2) || decide (es.length = 3)) && es.all noStar
 | .enum, tg, e => callB e fun f es => decide (f = "enumerate") && glbB sc f && decide (es.length = 1) && es.all noStar && isTupE tg
 | .zip, tg, e => callB e fun f es => decide (f = "zip") && glbB sc f && decide (es.length = 2) && es.all noStar && isTupE tg
 | .rev,_,_ => false
noncomputable def getB (e : Expr) (f : Str→Expr→Expr→Bool) : Bool:=isK 16 e && match e with
 | .Call g es ks cp => isK 20 g && (match g with
  | .Attribute o m ap => isK 23 o && (match o, es, ks with | .Name x _, [y, z], [] => decide (m = "get") && (ap.endLine == cp.line) && f x y z | _, _, _ => false)
  | _ => false)
 | _ => false
noncomputable def baseB : Expr→Bool
 | .Name .. => true | .Constant .. => true | _ => false
noncomputable def mthB (e : Expr) (m : Str) (f : Expr→Expr→Bool) : Bool:=isK 16 e && match e with
 | .Call g es ks cp => isK 20 g && (match g with
  | .Attribute o n ap => (match es,ks with | [y],[] => decide (n = m) && (ap.endLine == cp.line) && baseB o && noStar y && f o y | _,_ => false)
  | _ => false)
 | _ => false
theorem mthB_ok {e : Expr} {m : Str} {f : Expr→Expr→Bool} (h : mthB e m f = true) : ∃ o ap y cp,e = .Call (.Attribute o m ap) [y] [] cp∧(ap.endLine == cp.line) = true∧baseB o = true∧noStar y = true∧f o y = true:=by
 obtain ⟨g,es,ks,cp,rfl⟩:=inv_Call h
 obtain ⟨o,n,ap,rfl⟩:=inv_Attribute (show (isK 20 g && _) = true from h)
 rcases es with _ | ⟨y,_ | ⟨z,es⟩⟩ <;> try (cases h;done)
 rcases ks with _ | ⟨k,ks⟩ <;> try (cases h;done)
 have h2 : (decide (n = m) && (ap.endLine == cp.line) && baseB o && noStar y && f o y) = true:=h
 simp only [Bool.and_eq_true,decide_eq_true_eq] at h2
 obtain ⟨⟨⟨⟨rfl,h3⟩,h4⟩,h5⟩,h6⟩:=h2
 exact ⟨o,ap,y,cp,rfl,h3,h4,h5,h6⟩
mutual
noncomputable def okE (T : Tx) (N : List Str) : M→Scope→Expr→Bool
 | .var i,sc,e => isK 23 e && match e with | .Name x _ => okName x && visB sc x && decide (N[i]? = some x) | _ => false
 | .con d,sc,e => match e with
  | .Constant c _ _ => conB d c
  | .Name x _ => okName x && glbB sc x && glB (T.gl.lookup x) d
  | _ => false
 | .tup ms,sc,e => isK 25 e && match e with | .Tuple es _ _ => okEs T N ms sc es && es.all noStar | _ => false
 | .lst ms,sc,e => isK 24 e && match e with | .List es _ => okEs T N ms sc es && es.all noStar | _ => false
 | .dct0,_,_ => false
 | .bin o a b,sc,e => isK 2 e && match e with | .BinOp x p y _ => boB o p && okE T N a sc x && okE T N b sc y | _ => false
 | .cmp o a b,sc,e => isK 15 e && match e with | .Compare x [p] [y] _ => coB o p && notSet y && okE T N a sc x && okE T N b sc y | _ => false
 | .chain o o' a b c,sc,e => isK 15 e && match e with | .Compare x [p,p'] [y,z] _ => coB o p && coB o' p' && notSet y && notSet z && okE T N a sc x && okE T N b sc y && okE T N c sc z | _ => false
 | .and ms,sc,e => isK 0 e && match e with | .BoolOp .And es _ => okEs T N ms sc es && !ms.isEmpty | _ => false
 | .or ms,sc,e => isK 0 e && match e with | .BoolOp .Or es _ => okEs T N ms sc es && !ms.isEmpty | _ => false
 | .not a,sc,e => isK 3 e && match e with | .UnaryOp .Not x _ => okE T N a sc x | _ => false
 | .neg _,_,_ => false
 | .ite _ _ _,_,_ => false
 | .ix a b,sc,e => isK 21 e && match e with | .Subscript x y _ => plainIxB y && okE T N a sc x && okE T N b sc y | _ => false
 | .slc _ _ _,_,_ => false
 | .dget _ _ _,_,_ => false
 | .mth f a b,sc,e => mthB e (mtName f) fun o y => okE T N a sc o && okE T N b sc y
 | .fmt _ _ _,_,_ => false
 | .call f ms,sc,e => callB e fun x es => okName x && glbB sc x && decide (T.F[f]? = some x) && okEs T N ms sc es && es.all noStar
 | .blt b ms,sc,e => callB e fun x es => decide (x = biName b) && glbB sc x && !es.isEmpty && es.all noStar && (match b,es with
   | .sorted,_ => false
   | .listEnum,_ => false
   | .listRev,_ => false
   | .tuple,_ => false
   | .str,_ => false
   | .int,_ => false
   | .max2,_ => false
   | _,_ => okEs T N ms sc es)
 | .isin a t,sc,e => callB e fun x es => match es with
  | [y, z'] => isK 23 z' && (match z' with | .Name z _ => decide (x = "isinstance") && glbB sc x && okE T N a sc y && noStar y && decide (z = t.nm) && glbB sc z | _ => false)
  | _ => false
 | .comp elt tg k src hc c cap,sc,e => isK 8 e && match e with
  | .ListComp elt' [⟨tg',iter,ifs,as⟩] scope _ => decide (as = 0) && scB sc scope && tgB N scope tg tg' && shapeB sc k tg' iter && okEs T N src sc (argsOf k iter) &&
   (match hc,ifs with | true,[c'] => okE T N c scope c' | false,[] => true | _,_ => false) && okE T N elt scope elt' && decide (cap = keepOf N scope)
  | _ => false
noncomputable def okEs (T : Tx) (N : List Str) : List M→Scope→List Expr→Bool
 | [],_,es => es.isEmpty
 | m :: ms,sc,es => match es with | e :: es => okE T N m sc e && okEs T N ms sc es | [] => false
end
section
variable {T : Tx} {N : List Str} {sc : Scope} {a b c : M} {ms : List M} {x y z : Expr} {es : List Expr} {pos p2 p3 : Pos} {s f : Str} {k : Nat}
theorem okE_var {i : Nat} : okE T N (.var i) sc (.Name s pos) = (okName s && visB sc s && decide (N[i]? = some s)):=rfl
theorem okE_conN {d : D} : okE T N (.con d) sc (.Name s pos) = (okName s && glbB sc s && glB (T.gl.lookup s) d):=rfl
theorem okE_tup : okE T N (.tup ms) sc (.Tuple es k pos) = (okEs T N ms sc es && es.all noStar):=rfl
theorem okE_lst : okE T N (.lst ms) sc (.List es pos) = (okEs T N ms sc es && es.all noStar):=rfl
theorem okE_bin {o : BO} {p : Operator} : okE T N (.bin o a b) sc (.BinOp x p y pos) = (boB o p && okE T N a sc x && okE T N b sc y):=rfl
theorem okE_cmp {o : CO} {p : CmpOp} : okE T N (.cmp o a b) sc (.Compare x [p] [y] pos) = (coB o p && notSet y && okE T N a sc x && okE T N b sc y):=rfl
theorem okE_chain {o o' : CO} {p p' : CmpOp} : okE T N (.chain o o' a b c) sc (.Compare x [p,p'] [y,z] pos) = (coB o p && coB o' p' && notSet y && notSet z && okE T N a sc x && okE T N b sc y && okE T N c sc z):=rfl
theorem okE_and : okE T N (.and ms) sc (.BoolOp .And es pos) = (okEs T N ms sc es && !ms.isEmpty):=rfl
theorem okE_or : okE T N (.or ms) sc (.BoolOp .Or es pos) = (okEs T N ms sc es && !ms.isEmpty):=rfl
theorem okE_ix : okE T N (.ix a b) sc (.Subscript x y pos) = (plainIxB y && okE T N a sc x && okE T N b sc y):=rfl
theorem okE_comp {elt : M} {tg : Tg} {ik : IK} {hc : Bool} {cap : List Bool} {elt' tg' iter : Expr} {ifs : List Expr} {as : Int} {scope : Scope} : okE T N (.comp elt tg ik ms hc c cap) sc (.ListComp elt' [⟨tg',iter,ifs,as⟩] scope pos) = (decide (as = 0) && scB sc scope && tgB N scope tg tg' && shapeB sc ik tg' iter && okEs T N ms sc (argsOf ik iter) &&
   (match hc,ifs with | true,[c'] => okE T N c scope c' | false,[] => true | _,_ => false) && okE T N elt scope elt' && decide (cap = keepOf N scope)):=rfl
theorem okEs_nil : okEs T N [] sc es = es.isEmpty:=rfl
theorem okEs_no : okEs T N (a :: ms) sc [] = false:=rfl
theorem okEs_cons : okEs T N (a :: ms) sc (x :: es) = (okE T N a sc x && okEs T N ms sc es):=rfl
end
end Mi
namespace Mi
open PySem L2
open PyProof.Rows hiding St
noncomputable def Vs (g : G) (ρ : En) (σ : St) (Hs : Hp) (U : List Nat) : Prop:=ρ.length = σ.length∧∀ i∈U,∀ d,ρ[i]? = some (some d)→∃ v,σ[i]? = some (some v)∧Rp g Hs d v
section
variable {g : G} {ρ : En} {σ : St} {Hs Hs' : Hp} {U U' : List Nat}
theorem Vs.mono (h : Vs g ρ σ Hs U) (m : Same Hs Hs') : Vs g ρ σ Hs' U:=⟨h.1,fun i hi d e => let ⟨v,a,r⟩:=h.2 i hi d e;⟨v,a,r.mono m⟩⟩
theorem Vs.sub (h : Vs g ρ σ Hs U) (hs : ∀ i∈U',i∈U) : Vs g ρ σ Hs U':=⟨h.1,fun i hi d e => h.2 i (hs i hi) d e⟩
theorem Vs.l (h : Vs g ρ σ Hs (U++U')) : Vs g ρ σ Hs U:=h.sub fun _ hi => List.mem_append_left _ hi
theorem Vs.r (h : Vs g ρ σ Hs (U++U')) : Vs g ρ σ Hs U':=h.sub fun _ hi => List.mem_append_right _ hi
end
noncomputable def tM (X : Cx) (U : List Nat) (r : En→R D) : TE:=fun σ H Q => ∃ ρ Hs d,Same Hs H∧Vs (gOf X) ρ σ Hs U∧r ρ = .ok d∧XD X H Hs Q d
noncomputable def XDs (X : Cx) (H Hs : Hp) (Q : List V→Hp→Prop) (ds : List D) : Prop:=∀ vs H' Hs',Grow H Hs H' Hs'→Rps (gOf X) Hs' ds vs→Q vs H'
noncomputable def tMs (X : Cx) (U : List Nat) (r : En→R (List D)) : TA:=fun σ H Q => ∃ ρ Hs ds,Same Hs H∧Vs (gOf X) ρ σ Hs U∧r ρ = .ok ds∧XDs X H Hs Q ds
noncomputable def tMT (X : Cx) (U : List Nat) (r : En→R D) : TT:=fun σ H Q => ∃ ρ Hs b,Same Hs H∧Vs (gOf X) ρ σ Hs U∧r ρ = .ok (.bl b)∧∀ H' Hs',Grow H Hs H' Hs'→Q b H'
section
variable {X : Cx} {σ : St} {H Hs : Hp} {Q : VK} {U Ua Ub Uc : List Nat} {r ra rb rc : En→R D}
theorem tM_op {rr : R2} {op : D→D→R D} (o : Op2 X rr op) : tM X (Ua++Ub) (fun ρ => do let x ← ra ρ;let y ← rb ρ;op x y) σ H Q→tOp rr (tM X Ua ra) (tM X Ub rb) σ H Q:=by
 rintro ⟨ρ,Hs,z,hs,hv,h,k⟩
 obtain ⟨x,hx,h⟩:=bind_ok h
 obtain ⟨y,hy,h⟩:=bind_ok h
 refine ⟨ρ,Hs,x,hs,hv.l,hx,fun v H1 Hs1 g1 r1 => ?_⟩
 refine ⟨ρ,Hs1,y,g1.sub,hv.r.mono (g1.same hs),hy,fun u H2 Hs2 g2 r2 => ?_⟩
 exact o v u x y z H2 Hs2 Q g2.sub (r1.mono (g2.same g1.sub)) r2 h (k.grow (g1.trans g2))
theorem tM_test {Q : Bool→Hp→Prop} : tMT X U r σ H Q→tM X U r σ H fun x H1 => ∃ c,x = .bl c∧Q c H1:=by
 rintro ⟨ρ,Hs,b,hs,hv,h,k⟩
 exact ⟨ρ,Hs,.bl b,hs,hv,h,fun v H1 Hs1 g1 r1 => ⟨b,rp_bl.mp r1,k H1 Hs1 g1⟩⟩
end
structure ScRel (sc : Scope) (X : Cx) : Prop where
 glb : ∀ x,glbB sc x = true→Gl X x
 vis : ∀ x,visB sc x = true→Vis X.env.scope x
 cf : ∀ x,sc.names.lookup x = some .cell∨sc.names.lookup x = some .free→X.env.scope.names.lookup x = some .cell∨X.env.scope.names.lookup x = some .free
 own : ∀ x,ownB sc x = true→L2.Loc X.env.scope x∧(X.fn x = true∨X.env.scope.names.lookup x = some .local)
noncomputable def spD (g : G) (c : List D→R D) (np : Nat) : Sp:=fun vs H Q _ => ∃ ds Hs d,vs.length = np∧Same Hs H∧Rps g Hs ds vs∧c ds = .ok d∧∀ v H' Hs',Grow H Hs H' Hs'→Rp g Hs' d v→Q v H'
noncomputable def spMu (g : G) (c : List D→R D) (np : Nat) : Sp:=fun vs H Q _ => ∃ d0 d d' v0 a Hs,vs = [v0,.ref a]∧vs.length = np∧Same Hs H∧Rp g Hs d0 v0∧Hs a = none∧OwnAt g H Hs a d∧c [d0,d] = .ok d'∧∀ H' Hs',Grow (hole H a) Hs H' Hs'→Hs' a = none→OwnAt g H' Hs' a d'→Q .non H'
noncomputable def spF (g : G) (c : List D→R D) (np : Nat) : Sp:=fun vs H Q _ => ∃ ds Hs d,vs.length = np∧Same Hs H∧Rps g Hs ds vs∧c ds = .ok d∧∀ v H' Hs',Grow H Hs H' Hs'→Rp g Hs' d v→(∀ a,v = .ref a→H a = none)→Q v H'
noncomputable def GlV : D→Option Value→Prop
 | .int i,o => ∃ t,o = some (.int i t)
 | .str z,o => ∃ t,o = some (.str z t)
 | _,_ => False
structure Cok (T : Tx) (cl : Nat→List D→R D) (X : Cx) : Prop where
 calm : X.calm = true
 nd : X.N.Nodup
 un : X.A.units + 100 < cLine
 blt : ∀ f∈bltNames,X.mg f = none
 gl : ∀ x d,T.gl.lookup x = some d→GlV d (X.mg x)
 fns : ∀ f x,T.F[f]? = some x→∃ k a fd ps,FnOk X.prog X.w X.K X.mg X.base CX0 k a fd ps (spD (gOf X) (cl f) ps.length)∧FnOk X.prog X.w X.K X.mg X.base CX0 k a fd ps (spMu (gOf X) (cl (1000 + f)) ps.length)∧Room k X.A∧X.mg x = some (.ref a)∧PySem.W.keepIn X.K (.ref a) = true∧Binds X.K fd ps []∧(∀ ds d,cl f ds = .ok d→ds.length = ps.length)∧(∀ ds d,cl (1000 + f) ds = .ok d→ps.length = 2)∧FnOk X.prog X.w X.K X.mg X.base CX0 k a fd ps (spF (gOf X) (cl (2000 + f)) ps.length)∧∀ ds d,cl (2000 + f) ds = .ok d→ds.length = ps.length
theorem Cok.blk {T : Tx} {cl : Nat→List D→R D} {X : Cx} (C : Cok T cl X) (scope : Scope) (s : Shared) (H : Hp) (fp : List Addr) (xe : Value→Shared→Prop) : Cok T cl (blkCx X scope s H fp xe) :=
 ⟨C.calm,C.nd,C.un,C.blt,C.gl,C.fns⟩
theorem scB_ok {sc scope : Scope} {X : Cx} (h : scB sc scope = true) (S : ScRel sc X) : ScOk X.env.scope scope:=by
 unfold scB at h
 simp only [Bool.and_eq_true,decide_eq_true_eq,List.all_eq_true,Bool.or_eq_true] at h
 refine ⟨h.1.1,h.1.2,fun x hx => ?_⟩
 have:=h.2 (x,.free) (PySem.mem_of_lookup hx)
 rcases this with (q | q) | q
 ·exact absurd rfl q
 ·exact S.cf x (.inl q)
 ·exact S.cf x (.inr q)
theorem visB_iff {sc : Scope} {x : Str} (h : visB sc x = true) : Vis sc x:=by
 unfold visB at h
 unfold Vis
 split at h <;> simp_all
theorem ownB_iff {sc : Scope} {x : Str} (h : ownB sc x = true) : L2.Loc sc x:=by
 unfold ownB at h
 unfold L2.Loc
 split at h <;> simp_all
theorem glbB_iff {sc : Scope} {x : Str} (h : glbB sc x = true) : sc.names.lookup x = some .globalImplicit:=by
 unfold glbB at h
 split at h <;> simp_all
theorem scRel_blk {sc scope : Scope} {X : Cx} {s : Shared} {H : Hp} {fp : List Addr} {xe : Value→Shared→Prop} (S : ScRel sc X) : ScRel scope (blkCx X scope s H fp xe):=by
 have look : ∀ x,(blkCx X scope s H fp xe).env.scope.names.lookup x = (scope.names.lookup x).map fun k => if (k == NameKind.free && X.env.scope.kind == .function && X.env.kindOf x == some .cell) then NameKind.cell else k:=fun x => relabel_look scope X.env x
 refine ⟨fun x h => ?_,fun x h => ?_,fun x h => ?_,fun x h => ?_⟩
 ·show (blkCx X scope s H fp xe).env.scope.names.lookup x = _
  rw [look,glbB_iff h];rfl
 ·unfold Vis
  rw [look]
  rcases visB_iff h with e | e | e <;> rw [e]
  ·exact .inl rfl
  ·exact .inr (.inl rfl)
  ·simp only [Option.map_some]
   split
   ·exact .inr (.inl rfl)
   ·exact .inr (.inr rfl)
 ·rw [look]
  rcases h with e | e <;> rw [e]
  ·exact .inl rfl
  ·simp only [Option.map_some]
   split
   ·exact .inl rfl
   ·exact .inr rfl
 ·unfold L2.Loc
  rw [look]
  rcases ownB_iff h with e | e <;> rw [e]
  ·exact ⟨.inl rfl,.inr rfl⟩
  ·exact ⟨.inr rfl,.inl (by show decide (scope.names.lookup x = some .cell) = true;rw [e];rfl)⟩
theorem star_cons {e : Expr} {es : List Expr} {env : Env} (h : noStar e = true) : starEach (e :: es) env = (false,eval e env) :: starEach es env:=by
 cases e <;> first | rfl | cases h
theorem star_any {env : Env} {pos : Pos} : ∀ {es : List Expr},es.all noStar = true→(backTo pos (starEach es env)).any (·.1) = false
 | [],_ => rfl
 | e :: es,h => by
  simp only [List.all_cons,Bool.and_eq_true] at h
  rw [star_cons h.1]
  show (false || (backTo pos (starEach es env)).any (·.1)) = false
  rw [star_any h.2];rfl
section
variable {X : Cx} {σ : St} {H Hs : Hp} {Q : VK} {U Ua Ub Uc : List Nat} {r ra rb rc : En→R D} {e : Expr} {es : List Expr} {rs : En→R (List D)}
theorem pa_nilD : PA X [] (tMs X [] fun _ => .ok []):=pa_imp pa_nil fun σ H Q => by
 rintro ⟨ρ,Hs,ds,hs,hv,h,k⟩
 cases h
 exact k [] H Hs (Grow.refl hs) .nil
theorem pa_consD (ha : PE X e (tM X Ua ra)) (hr : PA X es (tMs X Ub rs)) (hn : noStar e = true) : PA X (e :: es) (tMs X (Ua++Ub) fun ρ => do let d ← ra ρ;let ds ← rs ρ;.ok (d :: ds)) :=
 pa_imp (pa_cons ha hr (star_cons hn)) fun σ H Q => by
  rintro ⟨ρ,Hs,zs,hs,hv,h,k⟩
  obtain ⟨x,hx,h⟩:=bind_ok h
  obtain ⟨ys,hy,h⟩:=bind_ok h
  cases h
  refine ⟨ρ,Hs,x,hs,hv.l,hx,fun v H1 Hs1 g1 r1 => ?_⟩
  refine ⟨ρ,Hs1,ys,g1.sub,hv.r.mono (g1.same hs),hy,fun us H2 Hs2 g2 r2 => ?_⟩
  exact k (v :: us) H2 Hs2 (g1.trans g2) (Rps.cons (r1.mono (g2.same g1.sub)) r2)
variable {pos : Pos}
theorem se_var {i : Nat} {x : Str} (hN : X.N[i]? = some x) (hv : Vis X.env.scope x) (ho : okName x = true) : PE X (.Name x pos) (tM X [i] fun ρ => getE ρ i):=by
 unfold okName at ho
 simp only [Bool.and_eq_true,Bool.not_eq_true'] at ho
 refine pe_imp (pe_var hN hv ho.1.1 ho.1.2) fun σ H Q => ?_
 rintro ⟨ρ,Hs,d,hs,hv,h,k⟩
 dsimp only [getE] at h
 split at h
 ·cases h
  rename_i e
  obtain ⟨v,ev,rv⟩:=hv.2 i (List.mem_singleton.mpr rfl) d e
  exact ⟨v,ev,k.here hs rv⟩
 ·cases h
theorem se_con {d : D} {c : Const} {j : Nat} (h : conB d c = true) : PE X (.Constant c j pos) (tM X [] fun _ => .ok d):=by
 cases d <;> cases c <;> simp only [conB] at h <;> try (cases h;done)
 ·refine pe_imp pe_non fun σ H Q => ?_
  rintro ⟨ρ,Hs,d,hs,hv,h,k⟩
  cases h;exact k.non hs
 ·simp only [decide_eq_true_eq] at h
  subst h
  refine pe_imp pe_bl fun σ H Q => ?_
  rintro ⟨ρ,Hs,d,hs,hv,h,k⟩
  cases h;exact k.bl hs
 ·simp only [decide_eq_true_eq] at h
  subst h
  refine pe_imp pe_int fun σ H Q => ?_
  rintro ⟨ρ,Hs,d,hs,hv,h,k⟩
  cases h;exact k.int hs
 ·simp only [decide_eq_true_eq] at h
  subst h
  refine pe_imp pe_str fun σ H Q => ?_
  rintro ⟨ρ,Hs,d,hs,hv,h,k⟩
  cases h;exact k.here hs (rp_str.mpr rfl)
theorem se_glob {T : Tx} {cl : Nat→List D→R D} {x : Str} {d : D} (C : Cok T cl X) (hg : Gl X x) (ho : okName x = true) (h : T.gl.lookup x = some d) : PE X (.Name x pos) (tM X [] fun _ => .ok d):=by
 unfold okName at ho
 simp only [Bool.and_eq_true,Bool.not_eq_true'] at ho
 have g:=C.gl x d h
 cases d <;> try exact g.elim
 ·obtain ⟨t,e⟩:=g
  refine pe_imp (pe_glob hg e (v:=.int _) ⟨t,rfl⟩ ho.1.1) fun σ H Q => ?_
  rintro ⟨ρ,Hs,d,hs,hv,h,k⟩
  cases h;exact k.int hs
 ·obtain ⟨t,e⟩:=g
  refine pe_imp (pe_glob hg e (v:=.str _) ⟨t,rfl⟩ ho.1.1) fun σ H Q => ?_
  rintro ⟨ρ,Hs,d,hs,hv,h,k⟩
  cases h;exact k.here hs (rp_str.mpr rfl)
theorem se_tup {k : Nat} (h : PA X es (tMs X U rs)) : PE X (.Tuple es k pos) (tM X U fun ρ => do let ds ← rs ρ;if ds.length≤lim then .ok (.tup ds) else .stuck) :=
 pe_imp (pe_tup h) fun σ H Q => by
  rintro ⟨ρ,Hs,d,hs,hv,h,k⟩
  obtain ⟨ds,hd,h⟩:=bind_ok h
  obtain ⟨hl,h⟩:=if_ok h
  cases h
  refine ⟨ρ,Hs,ds,hs,hv,hd,fun vs H1 Hs1 g1 r1 => ⟨?_,(k.grow g1).newT g1.sub r1⟩⟩
  rw [← r1.length];exact Nat.le_trans hl lim_le
theorem se_lst (h : PA X es (tMs X U rs)) : PE X (.List es pos) (tM X U fun ρ => do let ds ← rs ρ;if ds.length≤lim then .ok (.lst ds) else .stuck) :=
 pe_imp (pe_lst h) fun σ H Q => by
  rintro ⟨ρ,Hs,d,hs,hv,h,k⟩
  obtain ⟨ds,hd,h⟩:=bind_ok h
  obtain ⟨hl,h⟩:=if_ok h
  cases h
  refine ⟨ρ,Hs,ds,hs,hv,hd,fun vs H1 Hs1 g1 r1 => ⟨?_,(k.grow g1).newL g1.sub r1⟩⟩
  rw [← r1.length];exact Nat.le_trans hl lim_le
variable {a b c : Expr}
theorem se_bin (o : BO) (ha : PE X a (tM X Ua ra)) (hb : PE X b (tM X Ub rb)) : PE X (.BinOp a (opOf o) b pos) (tM X (Ua++Ub) fun ρ => do let x ← ra ρ;let y ← rb ρ;binD o x y) :=
 pe_imp (pe_op (op_bin o) ha hb) fun σ H Q h => tM_op (op2_bin o) h
theorem marks_no {p : CmpOp} {b : Expr} (h : notSet b = true) : behindInMarks p b = false:=by cases b <;> first | rfl | cases h
theorem se_cmp (hu : X.A.units + 100 < cLine) (o : CO) (ha : PE X a (tM X Ua ra)) (hb : PE X b (tM X Ub rb)) (hn : notSet b = true) :
  PE X (.Compare a [copOf o] [b] pos) (tM X (Ua++Ub) fun ρ => do let x ← ra ρ;let y ← rb ρ;let r ← cmpD o x y;.ok (.bl r)) :=
 pe_imp (pe_cmpR (op_cmp hu o) ha hb (marks_no hn)) fun σ H Q h => tM_op (op2_cmp o) h
theorem st_cmp (hu : X.A.units + 100 < cLine) (o : CO) (ha : PE X a (tM X Ua ra)) (hb : PE X b (tM X Ub rb)) (hn : notSet b = true) :
  PT X (.Compare a [copOf o] [b] pos) (tMT X (Ua++Ub) fun ρ => do let x ← ra ρ;let y ← rb ρ;let r ← cmpD o x y;.ok (.bl r)) :=
 pt_imp (pt_cmpR (op_cmp hu o) ha hb (marks_no hn)) fun σ H Q h => tM_op (op2_cmp o) (tM_test h)
theorem tM_chain (o o' : CO) : tM X (Ua++(Ub++Uc)) (fun ρ => do let x ← ra ρ;let y ← rb ρ;let r ← cmpD o x y;if r then do let z ← rc ρ;let r2 ← cmpD o' y z;.ok (.bl r2) else .ok (.bl false)) σ H Q →
  tChain (rCmp X o) (rCmp X o') (tM X Ua ra) (tM X Ub rb) (tM X Uc rc) σ H Q:=by
 rintro ⟨ρ,Hs,z,hs,hv,h,k⟩
 obtain ⟨x,hx,h⟩:=bind_ok h
 obtain ⟨y,hy,h⟩:=bind_ok h
 obtain ⟨t,ht,h⟩:=bind_ok h
 refine ⟨ρ,Hs,x,hs,hv.l,hx,fun v H1 Hs1 g1 r1 => ?_⟩
 refine ⟨ρ,Hs1,y,g1.sub,hv.r.l.mono (g1.same hs),hy,fun u H2 Hs2 g2 r2 => ?_⟩
 have hv2:=hv.r.r.mono ((g1.trans g2).same hs)
 refine op2_cmp o v u x y (.bl t) H2 Hs2 _ g2.sub (r1.mono (g2.same g1.sub)) r2 (by show (cmpD o x y >>= fun r => R.ok (D.bl r)) = _;rw [ht];rfl) fun w H3 Hs3 g3 r3 => ⟨t,rp_bl.mp r3,?_⟩
 have k3:=(k.grow (g1.trans g2)).grow g3
 cases t with
 | false => rw [if_neg (by decide)];rw [if_neg (by decide)] at h;cases h;exact k3.bl g3.sub
 | true =>
  rw [if_pos rfl]
  rw [if_pos rfl] at h
  obtain ⟨zc,hc,h⟩:=bind_ok h
  refine ⟨ρ,Hs3,zc,g3.sub,hv2.mono (g3.same g2.sub),hc,fun q H4 Hs4 g4 r4 => ?_⟩
  exact op2_cmp o' u q y zc z H4 Hs4 Q g4.sub (r2.mono ((g3.trans g4).same g2.sub)) r4 h (k3.grow g4)
theorem last_no {p p' : CmpOp} (h : notSet c = true) : lastMarks [p,p'] [b,c] = false:=by
 show behindInMarks p' c = false
 exact marks_no h
theorem se_chain (hu : X.A.units + 100 < cLine) (o o' : CO) (ha : PE X a (tM X Ua ra)) (hb : PE X b (tM X Ub rb)) (hc : PE X c (tM X Uc rc)) (hn : notSet c = true) :
  PE X (.Compare a [copOf o,copOf o'] [b,c] pos) (tM X (Ua++(Ub++Uc)) fun ρ => do let x ← ra ρ;let y ← rb ρ;let r ← cmpD o x y;if r then do let z ← rc ρ;let r2 ← cmpD o' y z;.ok (.bl r2) else .ok (.bl false)) :=
 pe_imp (pe_chain (op_cmp hu o) (op_cmp hu o') ha hb hc (last_no hn)) fun σ H Q h => tM_chain o o' h
theorem st_chain (hu : X.A.units + 100 < cLine) (o o' : CO) (ha : PE X a (tM X Ua ra)) (hb : PE X b (tM X Ub rb)) (hc : PE X c (tM X Uc rc)) (hn : notSet c = true) :
  PT X (.Compare a [copOf o,copOf o'] [b,c] pos) (tMT X (Ua++(Ub++Uc)) fun ρ => do let x ← ra ρ;let y ← rb ρ;let r ← cmpD o x y;if r then do let z ← rc ρ;let r2 ← cmpD o' y z;.ok (.bl r2) else .ok (.bl false)) :=
 pt_imp (pt_chain (op_cmp hu o) (op_cmp hu o') ha hb hc (last_no hn)) fun σ H Q h => tM_chain o o' (tM_test h)
theorem se_not (ha : PE X a (tM X Ua ra)) : PE X (.UnaryOp .Not a pos) (tM X Ua fun ρ => do let x ← ra ρ;let t ← truthD x;.ok (.bl (!t))) :=
 pe_imp (pe_not ha) fun σ H Q => by
  rintro ⟨ρ,Hs,z,hs,hv,h,k⟩
  obtain ⟨x,hx,h⟩:=bind_ok h
  obtain ⟨t,ht,h⟩:=bind_ok h
  cases h
  cases x <;> simp only [truthD] at ht <;> try (cases ht;done)
  cases ht
  exact ⟨ρ,Hs,_,hs,hv,hx,fun v H1 Hs1 g1 r1 => ⟨t,rp_bl.mp r1,(k.grow g1).bl g1.sub⟩⟩
theorem truthD_ok {d : D} {t : Bool} (h : truthD d = .ok t) : d = .bl t:=by
 cases d <;> simp only [truthD] at h <;> first | (cases h;rfl) | cases h
theorem st_not (ha : PT X a (tMT X Ua ra)) : PT X (.UnaryOp .Not a pos) (tMT X Ua fun ρ => do let x ← ra ρ;let t ← truthD x;.ok (.bl (!t))) :=
 pt_imp (pt_not ha) fun σ H Q => by
  rintro ⟨ρ,Hs,z,hs,hv,h,k⟩
  obtain ⟨x,hx,h1⟩:=bind_ok h
  obtain ⟨t,ht,h2⟩:=bind_ok h1
  clear h h1
  cases truthD_ok ht
  cases h2
  exact ⟨ρ,Hs,t,hs,hv,hx,k⟩
theorem plain_ix (h : plainIxB b = true) : PlainIx b:=by
 intro o i
 cases b <;> first | rfl | cases h
theorem se_ix (hu : X.A.units + 100 < cLine) (ha : PE X a (tM X Ua ra)) (hb : PE X b (tM X Ub rb)) (hp : plainIxB b = true) : PE X (.Subscript a b pos) (tM X (Ua++Ub) fun ρ => do let x ← ra ρ;let y ← rb ρ;ixD x y) :=
 pe_imp (pe_ix (ix_D hu) ha hb (plain_ix hp)) fun σ H Q h => tM_op op2_ix h
theorem pt_plain (ha : PE X a (tM X Ua ra)) (he : ∀ whole,isTrue a X.env whole = (do let v ← whole;standAt a.pos;holding [v] (truthy v))) : PT X a (tMT X Ua ra) :=
 pt_imp (pt_val ha he) fun σ H Q h => tM_test h
theorem se_call {T : Tx} {cl : Nat→List D→R D} {f : Nat} {x : Str} {p : Pos} (C : Cok T cl X) (hg : Gl X x) (ho : okName x = true) (hF : T.F[f]? = some x) (ha : PA X (e :: es) (tMs X U rs)) (hn : (e :: es).all noStar = true) :
  PE X (.Call (.Name x p) (e :: es) [] pos) (tM X U fun ρ => do let ds ← rs ρ;cl f ds):=by
 unfold okName at ho
 simp only [Bool.and_eq_true,Bool.not_eq_true',List.all_cons] at ho hn
 obtain ⟨k,a,fd,ps,F,_,hr,hm,hk,hb,hlen,_⟩:=C.fns f x hF
 refine pe_imp (pe_call F hr hg hm hk hb .nil pass0 ha ho.1.1 (star_cons hn.1) (star_any hn.2)) fun σ H Q => ?_
 rintro ⟨ρ,Hs,z,hs,hv,h,k⟩
 obtain ⟨ds,hd,h⟩:=bind_ok h
 refine ⟨ρ,Hs,ds,hs,hv,hd,fun vs H1 Hs1 g1 r1 => ?_⟩
 show spD (gOf X) (cl f) ps.length (vs++[]) H1 Q E0
 rw [List.append_nil]
 exact ⟨ds,Hs1,z,by rw [← r1.length];exact hlen ds z h,g1.sub,r1,h,fun v H2 Hs2 g2 r2 => k v H2 Hs2 (g1.trans g2) r2⟩
theorem se_call0 {T : Tx} {cl : Nat→List D→R D} {f : Nat} {x : Str} {p : Pos} (C : Cok T cl X) (hg : Gl X x) (ho : okName x = true) (hF : T.F[f]? = some x) :
  PE X (.Call (.Name x p) [] [] pos) (tM X [] fun ρ => cl f []):=by
 unfold okName at ho
 simp only [Bool.and_eq_true,Bool.not_eq_true'] at ho
 obtain ⟨k,a,fd,ps,F,_,hr,hm,hk,hb,hlen,_⟩:=C.fns f x hF
 refine pe_imp (pe_call0 F hr hg hm hk hb .nil pass0 ho.1.1) fun σ H Q => ?_
 rintro ⟨ρ,Hs,z,hs,hv,h,k⟩
 exact ⟨[],Hs,z,hlen [] z h,hs,Rps.nil,h,fun v H2 Hs2 g2 r2 => k v H2 Hs2 g2 r2⟩
noncomputable def plainBI : BI→Bool
 | .listEnum => false | .listRev => false | .sorted => false | .tuple => false | .str => false | .int => false | .max2 => false | _ => true
noncomputable def rBlt (X : Cx) : BI→List V→Hp→VK→Prop
 | .len => fun xs H Q => (∃ p ys,xs = [.ref p]∧(SqL X.K H p ys∨SqT X.K H p ys)∧Q (.int ys.length) H)∨∃ z,xs = [.str z]∧z.length≤sizeLine∧Q (.int z.length) H
 | .str => fun _ _ _ => False
 | .int => fun _ _ _ => False
 | .min2 => fun xs H Q => ∃ i j,xs = [.int i,.int j]∧Q (.int (if j < i then j else i)) H
 | .max2 => fun _ _ _ => False
 | .all => rAll X
 | .any => rAny X
 | .sorted => fun _ _ _ => False
 | .list => fun xs H Q => ∃ p ys,xs = [.ref p]∧(SqL X.K H p ys∨SqT X.K H p ys)∧∀ l,H l = none→Q (.ref l) (upd H l (.lst ys))
 | .tuple => fun _ _ _ => False
 | .listEnum => fun _ _ _ => False
 | .listRev => fun _ _ _ => False
theorem bools_rp {g : G} {Hs : Hp} : ∀ {ds : List D} {xs : List V} {bs : List Bool},Rps g Hs ds xs→boolsOf ds = some bs→xs = bs.map V.bl
 | [],xs,bs,r,h => by
  simp only [boolsOf] at h
  cases h
  exact r.nil_inv
 | d :: ds,xs,bs,r,h => by
  obtain ⟨v,ws,rfl,r1,r2⟩:=r.cons_inv
  cases d <;> simp only [boolsOf] at h <;> try (cases h;done)
  cases e : boolsOf ds with
  | none => rw [e] at h;cases h
  | some cs =>
   rw [e] at h
   cases h
   rw [bools_rp r2 e,rp_bl.mp r1];rfl
theorem blt_all0 {es : List D} (e : boolsOf es = none) : bltD .all [.lst es] = .stuck:=by
 show (match boolsOf es with | some bs => R.ok (D.bl (bs.all id)) | none => .stuck) = _
 rw [e]
theorem blt_all1 {es : List D} {bs : List Bool} (e : boolsOf es = some bs) : bltD .all [.lst es] = .ok (.bl (bs.all id)):=by
 show (match boolsOf es with | some bs => R.ok (D.bl (bs.all id)) | none => .stuck) = _
 rw [e]
theorem blt_any0 {es : List D} (e : boolsOf es = none) : bltD .any [.lst es] = .stuck:=by
 show (match boolsOf es with | some bs => R.ok (D.bl (bs.any id)) | none => .stuck) = _
 rw [e]
theorem blt_any1 {es : List D} {bs : List Bool} (e : boolsOf es = some bs) : bltD .any [.lst es] = .ok (.bl (bs.any id)):=by
 show (match boolsOf es with | some bs => R.ok (D.bl (bs.any id)) | none => .stuck) = _
 rw [e]
theorem strs_rp {g : G} {Hs : Hp} : ∀ {ds : List D} {xs : List V} {ts : List Str},Rps g Hs ds xs→strsOf ds = some ts→xs = ts.map V.str
 | [],xs,ts,r,h => by
  cases h
  exact r.nil_inv
 | d :: ds,xs,ts,r,h => by
  obtain ⟨v,ws,rfl,r1,r2⟩:=r.cons_inv
  cases d <;> simp only [strsOf] at h <;> try (cases h;done)
  cases e : strsOf ds with
  | none => rw [e] at h;cases h
  | some cs =>
   rw [e] at h
   cases h
   rw [strs_rp r2 e,rp_str.mp r1];rfl
theorem rps_strs {g : G} {Hs : Hp} : ∀ ts : List Str,Rps g Hs (ts.map D.str) (ts.map V.str)
 | [] => Rps.nil
 | t :: ts => Rps.cons (rp_str.mpr rfl) (rps_strs ts)
theorem base_eq {o : Expr} {m : Str} {env : Env} (h : baseB o = true) : attributeBase o m env (eval o env) = eval o env:=by
 cases o <;> first | rfl | cases h
theorem mthD_inv {f : MT} {x y z : D} (h : mthD f x y = .ok z) : ∃ s,x = .str s:=by
 cases f <;> cases x <;> first | exact ⟨_,rfl⟩ | (cases y <;> cases h)
theorem se_mth {f : MT} {o y : Expr} {ap cp : Pos} {Uo Uy : List Nat} {ro ry : En→R D} (ho : PE X o (tM X Uo ro)) (hy : PE X y (tM X Uy ry)) (hn : noStar y = true) (hb : baseB o = true) (hl : (ap.endLine == cp.line) = true) :
  PE X (.Call (.Attribute o (mtName f) ap) [y] [] cp) (tM X (Uo++Uy) fun ρ => do let x ← ro ρ;let y ← ry ρ;mthD f x y):=by
 have pa : PA X [y] (tMs X (Uy++[]) fun ρ => do let d ← ry ρ;let ds ← (R.ok [] : R (List D));.ok (d :: ds)):=pa_consD hy pa_nilD hn
 have few : ((backTo cp (starEach [y] X.env)).all (fun x => !x.1) && (backToKw cp (keywordEach [] X.env)).all (fun x => x.1.isSome) && decide (([y] : List Expr).length + ([] : List Keyword).length + (if ([] : List Keyword).isEmpty then 0 else 1) < 30)) = true:=by rw [star_cons hn];rfl
 have run : ∀ {r : V→List V→Hp→VK→Prop} {σ : St} {H : Hp} {Q : VK},(∀ (s : Str) (d z : D) (v : V) (H : Hp) (Hs : Hp) (Q : VK),Same Hs H→Rp (gOf X) Hs d v→mthD f (.str s) d = .ok z→XD X H Hs Q z→r (.str s) [v] H Q) →
   tM X (Uo ++ Uy) (fun ρ => do let x ← ro ρ; let y ← ry ρ; mthD f x y) σ H Q → tBM X.K "str" r (tM X Uo ro) (tMs X (Uy ++ []) fun ρ => do let d ← ry ρ; let ds ← (R.ok [] : R (List D)); .ok (d :: ds)) σ H Q:=by
  intro r σ H Q hr
  rintro ⟨ρ,Hs,z,hs,hv,h,k⟩
  obtain ⟨dx,hdx,h⟩:=bind_ok h
  obtain ⟨dy,hdy,h⟩:=bind_ok h
  obtain ⟨s,rfl⟩:=mthD_inv h
  refine ⟨ρ,Hs,_,hs,hv.l,hdx,fun v H1 Hs1 g1 r1 => ?_⟩
  cases rp_str.mp r1
  refine ⟨rfl,ρ,Hs1,[dy],g1.sub,by rw [List.append_nil];exact hv.r.mono (g1.same hs),by show (ry ρ >>= fun d => R.ok (d :: [])) = _;rw [hdy];rfl,fun vs H2 Hs2 g2 r2 => ?_⟩
  obtain ⟨v,ws,rfl,r3,r4⟩:=r2.cons_inv
  cases r4.nil_inv
  exact hr s dy z v H2 Hs2 Q g2.sub r3 h (k.grow (g1.trans g2))
 cases f with
 | ends =>
  refine pe_imp (pe_bm PySem.F.plainAttrs_str PySem.F.slot_str_endswith PySem.F.type_str_endswith mt_endswith ho pa (base_eq hb) few hl (star_cons hn) rfl) fun σ H Q => run fun s d z v H Hs Q hs r h k => ?_
  cases d <;> try (cases h;done)
  cases h
  exact ⟨s,_,rfl,by rw [rp_str.mp r],k.bl hs⟩
 | split =>
  refine pe_imp (pe_bm PySem.F.plainAttrs_str PySem.F.slot_str_split PySem.F.type_str_split mt_split ho pa (base_eq hb) few hl (star_cons hn) rfl) fun σ H Q => run fun s d z v H Hs Q hs r h k => ?_
  cases d <;> try (cases h;done)
  obtain ⟨⟨h1,h2⟩,h⟩:=if_ok h
  cases h
  have hz : lim + 2≤sizeLine:=by decide
  have hle:=split_le s ‹_›
  exact ⟨s,_,rfl,by rw [rp_str.mp r],by rw [h1];rfl,by omega,by omega,k.newL hs (rps_strs _)⟩
 | join =>
  refine pe_imp (pe_bm PySem.F.plainAttrs_str PySem.F.slot_str_join PySem.F.type_str_join mt_join ho pa (base_eq hb) few hl (star_cons hn) rfl) fun σ H Q => run fun s d z v H Hs Q hs r h k => ?_
  cases d <;> try (cases h;done)
  rename_i ds
  replace h : (match strsOf ds with | some ts => if (ts.map fun (x : Str) => x.length).sum + ts.length * s.length≤lim then R.ok (D.str (Txt.join s ts)) else .stuck | none => .stuck) = .ok z:=h
  split at h <;> try (cases h;done)
  rename_i ts e
  obtain ⟨hl,h⟩:=if_ok h
  cases h
  obtain ⟨a,xs,rfl,s1,r1⟩:=rp_lst.mp r
  cases strs_rp r1 e
  refine ⟨s,a,ts,rfl,rfl,sqL_mono hs s1,?_,k.here hs (rp_str.mpr rfl)⟩
  unfold JoinOk
  rw [StrLaws.joinTotal]
  have:=lim_le
  simp only [PySem.Builtin.Str.tooLong,Bool.not_eq_true',decide_eq_false_iff_not,gt_iff_lt,Nat.not_lt]
  omega
theorem blt_read (b : BI) {ds : List D} {vs : List V} {z : D} (hs : Same Hs H) (r : Rps (gOf X) Hs ds vs) (h : bltD b ds = .ok z) (k : XD X H Hs Q z) (hb : plainBI b = true) : rBlt X b vs H Q:=by
 have one : ∀ {d : D},Rps (gOf X) Hs [d] vs→∃ v,vs = [v]∧Rp (gOf X) Hs d v:=fun r => by
  obtain ⟨v,ws,rfl,r1,r2⟩:=r.cons_inv
  cases r2.nil_inv
  exact ⟨v,rfl,r1⟩
 have two : ∀ {d e : D},Rps (gOf X) Hs [d,e] vs→∃ v w,vs = [v,w]∧Rp (gOf X) Hs d v∧Rp (gOf X) Hs e w:=fun r => by
  obtain ⟨v,ws,rfl,r1,r2⟩:=r.cons_inv
  obtain ⟨w,ws,rfl,r3,r4⟩:=r2.cons_inv
  cases r4.nil_inv
  exact ⟨v,w,rfl,r1,r3⟩
 rcases ds with _ | ⟨d,_ | ⟨e,_ | ⟨f,fs⟩⟩⟩
 ·cases b <;> cases h
 ·obtain ⟨v,rfl,r1⟩:=one r
  cases b
  case listEnum => cases hb
  case listRev => cases hb
  case max2 => cases hb
  case int => cases hb
  case str => cases hb
  case tuple => cases hb
  case sorted => cases hb
  all_goals dsimp only [rBlt]
  case min2 => cases d <;> cases h
  case len =>
   cases d <;> try (cases h;done)
   ·obtain ⟨hl,h⟩:=if_ok h
    cases h
    exact .inr ⟨_,by rw [rp_str.mp r1],Nat.le_trans hl lim_le,k.int hs⟩
   ·obtain ⟨a,xs,rfl,s1,r2⟩:=rp_tup.mp r1
    cases h
    exact .inl ⟨a,xs,rfl,.inr (sqT_mono hs s1),by rw [← r2.length];exact k.int hs⟩
   ·obtain ⟨a,xs,rfl,s1,r2⟩:=rp_lst.mp r1
    cases h
    exact .inl ⟨a,xs,rfl,.inl (sqL_mono hs s1),by rw [← r2.length];exact k.int hs⟩
  case all =>
   cases d <;> try (cases h;done)
   rename_i es
   cases e : boolsOf es with
   | none => rw [blt_all0 e] at h;cases h
   | some bs =>
    rw [blt_all1 e] at h
    cases h
    obtain ⟨a,xs,rfl,s1,r2⟩:=rp_lst.mp r1
    cases bools_rp r2 e
    exact ⟨a,bs,rfl,sqL_mono hs s1,k.bl hs⟩
  case any =>
   cases d <;> try (cases h;done)
   rename_i es
   cases e : boolsOf es with
   | none => rw [blt_any0 e] at h;cases h
   | some bs =>
    rw [blt_any1 e] at h
    cases h
    obtain ⟨a,xs,rfl,s1,r2⟩:=rp_lst.mp r1
    cases bools_rp r2 e
    exact ⟨a,bs,rfl,sqL_mono hs s1,k.bl hs⟩
  case list =>
   cases d <;> try (cases h;done)
   ·cases h
    obtain ⟨a,xs,rfl,s1,r2⟩:=rp_tup.mp r1
    exact ⟨a,xs,rfl,.inr (sqT_mono hs s1),k.newL hs r2⟩
   ·cases h
    obtain ⟨a,xs,rfl,s1,r2⟩:=rp_lst.mp r1
    exact ⟨a,xs,rfl,.inl (sqL_mono hs s1),k.newL hs r2⟩
 ·obtain ⟨v,w,rfl,r1,r2⟩:=two r
  cases b
  case listEnum => cases hb
  case listRev => cases hb
  case min2 =>
   cases d <;> cases e <;> try (cases h;done)
   cases h
   cases rp_int.mp r1
   cases rp_int.mp r2
   exact ⟨_,_,rfl,k.int hs⟩
  case max2 => cases hb
  all_goals (first | (cases h;done) | (cases d <;> cases h))
 ·have e0 : bltD b (d :: e :: f :: fs) = .stuck:=by cases b <;> first | rfl | (cases d <;> first | rfl | (cases e <;> rfl))
  rw [e0] at h
  cases h
theorem boot_any' : bootBuiltins "any" = some (.builtin "any"):=by decide +kernel
theorem boot_int' : bootBuiltins "int" = some (.type "int"):=by decide +kernel
theorem boot_str' : bootBuiltins "str" = some (.type "str"):=by decide +kernel
theorem boot_tuple' : bootBuiltins "tuple" = some (.type "tuple"):=by decide +kernel
theorem boot_list' : bootBuiltins "list" = some (.type "list"):=by decide +kernel
theorem se_blt {T : Tx} {cl : Nat→List D→R D} (b : BI) {x : Str} {p : Pos} (C : Cok T cl X) (hx : x = biName b) (hg : Gl X x) (ha : PA X (e :: es) (tMs X U rs)) (hn : (e :: es).all noStar = true) (hb : plainBI b = true) :
  PE X (.Call (.Name x p) (e :: es) [] pos) (tM X U fun ρ => do let ds ← rs ρ;bltD b ds):=by
 simp only [List.all_cons,Bool.and_eq_true] at hn
 have key : PE X (.Call (.Name x p) (e :: es) [] pos) (tCB (rBlt X b) (tMs X U rs)):=by
  subst hx
  cases b
  case listEnum => cases hb
  case listRev => cases hb
  case str => cases hb
  case int => cases hb
  case len => exact pe_callB (call_len_seq.or call_len_str) hg (C.blt _ (by decide +kernel)) PySem.boot_len ha (by decide +kernel) (by decide +kernel) (star_cons hn.1) (star_any hn.2)
  case min2 => exact pe_callB (call_min2 C.calm) hg (C.blt _ (by decide +kernel)) boot_min ha (by decide +kernel) (by decide +kernel) (star_cons hn.1) (star_any hn.2)
  case max2 => cases hb
  case all => exact pe_callB (call_allL C.calm) hg (C.blt _ (by decide +kernel)) boot_all ha (by decide +kernel) (by decide +kernel) (star_cons hn.1) (star_any hn.2)
  case any => exact pe_callB (call_anyL C.calm) hg (C.blt _ (by decide +kernel)) boot_any' ha (by decide +kernel) (by decide +kernel) (star_cons hn.1) (star_any hn.2)
  case sorted => cases hb
  case list => exact pe_callTy call_list_of hg (C.blt _ (by decide +kernel)) boot_list' ha (by decide +kernel) (by decide +kernel) (star_cons hn.1) (star_any hn.2)
  case tuple => cases hb
 refine pe_imp key fun σ H Q => ?_
 rintro ⟨ρ,Hs,z,hs,hv,h,k⟩
 obtain ⟨ds,hd,h⟩:=bind_ok h
 exact ⟨ρ,Hs,ds,hs,hv,hd,fun vs H1 Hs1 g1 r1 => blt_read b g1.sub r1 h (k.grow g1) hb⟩
end
end Mi
namespace Mi
open PySem L2
open PyProof.Rows hiding St
section
variable {X : Cx} {σ : St} {H Hs : Hp} {Q : VK} {U Ua Ub Uc : List Nat} {r ra rb rc : En→R D} {e a : Expr} {es : List Expr} {rs : En→R (List D)} {pos : Pos} {T : Tx} {cl : Nat→List D→R D}
theorem one_inv {g : G} {d : D} {vs : List V} (r : Rps g Hs [d] vs) : ∃ v,vs = [v]∧Rp g Hs d v:=by
 obtain ⟨v,ws,rfl,r1,r2⟩:=r.cons_inv
 cases r2.nil_inv
 exact ⟨v,rfl,r1⟩
theorem two_inv {g : G} {d e : D} {vs : List V} (r : Rps g Hs [d,e] vs) : ∃ v w,vs = [v,w]∧Rp g Hs d v∧Rp g Hs e w:=by
 obtain ⟨v,ws,rfl,r1,r2⟩:=r.cons_inv
 obtain ⟨w,ws,rfl,r3,r4⟩:=r2.cons_inv
 cases r4.nil_inv
 exact ⟨v,w,rfl,r1,r3⟩
theorem boot_bool' : bootBuiltins "bool" = some (.type "bool"):=by decide +kernel
theorem pe_ty {p : Pos} (C : Cok T cl X) (t : Ty) (hg : Gl X t.nm) : PE X (.Name t.nm p) (tC (.ty t.name)):=by
 cases t
 ·exact pe_bltn hg (C.blt _ (by decide +kernel)) boot_int' rfl (by decide +kernel) (by decide +kernel)
 ·exact pe_bltn hg (C.blt _ (by decide +kernel)) boot_bool' rfl (by decide +kernel) (by decide +kernel)
 ·exact pe_bltn hg (C.blt _ (by decide +kernel)) boot_str' rfl (by decide +kernel) (by decide +kernel)
 ·exact pe_bltn hg (C.blt _ (by decide +kernel)) boot_tuple' rfl (by decide +kernel) (by decide +kernel)
 ·exact pe_bltn hg (C.blt _ (by decide +kernel)) boot_list' rfl (by decide +kernel) (by decide +kernel)
theorem se_isin {p p2 : Pos} (C : Cok T cl X) (t : Ty) (hg : Gl X "isinstance") (hg2 : Gl X t.nm) (ha : PE X a (tM X U ra)) (hn : noStar a = true) :
  PE X (.Call (.Name "isinstance" p) [a, .Name t.nm p2] [] pos) (tM X U fun ρ => do let x ← ra ρ; .ok (.bl (isinD x t))):=by
 refine pe_imp (pe_callB call_isin hg (C.blt _ (by decide +kernel)) boot_isinstance (pa_cons ha (pa_cons (pe_ty C t hg2) pa_nil (star_cons rfl)) (star_cons hn)) (by decide +kernel) (by decide +kernel) (star_cons hn) rfl) fun σ H Q => ?_
 rintro ⟨ρ,Hs,z,hs,hv,h,k⟩
 obtain ⟨x,hx,h1⟩:=bind_ok h
 clear h
 cases h1
 exact ⟨ρ,Hs,x,hs,hv,hx,fun v H1 Hs1 g1 r1 => ⟨x,v,t,rfl,r1.mono g1.sub,(k.grow g1).bl g1.sub⟩⟩
structure Src (g : G) (J : It) (Hs : Hp) (ds : List D) : Prop where
 go : ∀ i H,Same Hs H→i < ds.length→J.go i H
 yld : ∀ i H x H' Hs1 d,Same Hs Hs1→Same Hs1 H→ds[i]? = some d→J.yld i H x H'→∃ Hs2,Grow H Hs1 H' Hs2∧Rp g Hs2 d x
 stop : ∀ H,Same Hs H→J.stop ds.length H
theorem src_list {a : Addr} {ds : List D} {zs : List V} (h : SqL X.K Hs a zs) (r : Rps (gOf X) Hs ds zs) : Src (gOf X) (Itl X.K a) Hs ds where
 go:=fun i H hs hi => ⟨zs,zs[i]'(by rw [← r.length];exact hi),sqL_mono hs h,by simp⟩
 yld:=fun i H x H' Hs1 d hs1 hs e ⟨e1,y⟩ => by
  subst e1
  have e2:=y zs (sqL_mono (hs1.trans hs) h)
  obtain ⟨v,e3,rv⟩:=r.getD e
  rw [e2] at e3;cases e3
  exact ⟨Hs1,Grow.refl hs,rv.mono hs1⟩
 stop:=fun H hs => ⟨zs,sqL_mono hs h,by rw [← r.length];exact Nat.le_refl _⟩
theorem src_tup {a : Addr} {ds : List D} {zs : List V} (h : SqT X.K Hs a zs) (r : Rps (gOf X) Hs ds zs) : Src (gOf X) (Itt X.K a) Hs ds where
 go:=fun i H hs hi => ⟨zs,zs[i]'(by rw [← r.length];exact hi),sqT_mono hs h,by simp⟩
 yld:=fun i H x H' Hs1 d hs1 hs e ⟨e1,y⟩ => by
  subst e1
  have e2:=y zs (sqT_mono (hs1.trans hs) h)
  obtain ⟨v,e3,rv⟩:=r.getD e
  rw [e2] at e3;cases e3
  exact ⟨Hs1,Grow.refl hs,rv.mono hs1⟩
 stop:=fun H hs => ⟨zs,sqT_mono hs h,by rw [← r.length];exact Nat.le_refl _⟩
theorem src_rng {lo : Int} {n : Nat} : Src (gOf X) (Itr lo n) Hs ((List.range n).map fun (k : Nat) => D.int (lo + (k : Int))) where
 go:=fun i H hs hi => by show i < n;simpa using hi
 yld:=fun i H x H' Hs1 d hs1 hs e ⟨e1,y⟩ => by
  subst e1 y
  rw [List.getElem?_map] at e
  cases q : (List.range n)[i]? with
  | none => rw [q] at e;cases e
  | some j =>
   rw [q] at e
   have : j = i:=by
    have:=List.getElem?_eq_some_iff.mp q
    obtain ⟨_,z⟩:=this
    simpa using z.symm
   subst this
   cases e
   exact ⟨Hs1,Grow.refl hs,rp_int.mpr rfl⟩
 stop:=fun H hs => by simp [Itr]
theorem enum_get : ∀ {n : Nat} {ds : List D} {i : Nat} {d : D},(enumFrom' n ds)[i]? = some d→∃ y,ds[i]? = some y∧d = .tup [.int ((n + i : Nat) : Int),y]
 | n,[],i,d,h => by simp [enumFrom'] at h
 | n,y :: ds,0,d,h => by simp [enumFrom'] at h;exact ⟨y,rfl,by rw [← h];rfl⟩
 | n,y :: ds,i + 1,d,h => by
  simp only [enumFrom',List.getElem?_cons_succ] at h
  obtain ⟨z,e1,e2⟩:=enum_get h
  exact ⟨z,by simpa using e1,by rw [e2,show n + 1 + i = n + (i + 1) by omega]⟩
theorem enum_len : ∀ (n : Nat) (ds : List D),(enumFrom' n ds).length = ds.length
 | _,[] => rfl
 | n,d :: ds => by simp [enumFrom',enum_len (n + 1) ds]
theorem src_enumT {a : Addr} {ds : List D} {zs : List V} (h : SqT X.K Hs a zs) (r : Rps (gOf X) Hs ds zs) : Src (gOf X) (IteT X.K a) Hs (enumFrom' 0 ds) where
 go:=fun i H hs hi => ⟨zs,zs[i]'(by rw [← r.length];rw [enum_len] at hi;exact hi),sqT_mono hs h,by simp⟩
 yld:=fun i H x H' Hs1 d hs1 hs e ⟨p,y,hp,e1,e2,y2⟩ => by
  subst e1 e2
  have e3:=y2 zs (sqT_mono (hs1.trans hs) h)
  obtain ⟨z,e4,e5⟩:=enum_get e
  obtain ⟨v,e6,rv⟩:=r.getD e4
  rw [e3] at e6;cases e6
  subst e5
  refine ⟨_,Grow.new hs hp,rp_tup.mpr ⟨p,_,rfl,SqT.of upd_same,Rps.cons (rp_int.mpr (by simp)) (Rps.one (rv.mono (hs1.trans (same_upd hs hp))))⟩⟩
 stop:=fun H hs => ⟨zs,sqT_mono hs h,by rw [enum_len,r.length]⟩
theorem src_enumL {a : Addr} {ds : List D} {zs : List V} (h : SqL X.K Hs a zs) (r : Rps (gOf X) Hs ds zs) : Src (gOf X) (IteL X.K a) Hs (enumFrom' 0 ds) where
 go:=fun i H hs hi => ⟨zs,zs[i]'(by rw [← r.length];rw [enum_len] at hi;exact hi),sqL_mono hs h,by simp⟩
 yld:=fun i H x H' Hs1 d hs1 hs e ⟨p,y,hp,e1,e2,y2⟩ => by
  subst e1 e2
  have e3:=y2 zs (sqL_mono (hs1.trans hs) h)
  obtain ⟨z,e4,e5⟩:=enum_get e
  obtain ⟨v,e6,rv⟩:=r.getD e4
  rw [e3] at e6;cases e6
  subst e5
  refine ⟨_,Grow.new hs hp,rp_tup.mpr ⟨p,_,rfl,SqT.of upd_same,Rps.cons (rp_int.mpr (by simp)) (Rps.one (rv.mono (hs1.trans (same_upd hs hp))))⟩⟩
 stop:=fun H hs => ⟨zs,sqL_mono hs h,by rw [enum_len,r.length]⟩
noncomputable def tI (X : Cx) (U : List Nat) (r : En→R (List D)) : TI:=fun σ H R => ∃ ρ Hs ds,Same Hs H∧Vs (gOf X) ρ σ Hs U∧r ρ = .ok ds∧∀ J H' Hs',Grow H Hs H' Hs'→Src (gOf X) J Hs' ds→R J H'
variable {tg iter b : Expr}
theorem si_seq (h : PE X iter (tM X U r)) : PI X tg iter (tI X U fun ρ => do let d ← r ρ;itemsOf .seq [d]):=by
 intro pins s σ H R I hq
 obtain ⟨ρ,Hs,ds,hs,hv,h1,k⟩:=hq
 obtain ⟨d,hd,h2⟩:=bind_ok h1
 clear h1
 cases d <;> try (cases h2;done)
 ·cases h2
  refine pi_tup h pins s σ H R I ⟨ρ,Hs,_,hs,hv,hd,fun v H1 Hs1 g1 r1 => ?_⟩
  obtain ⟨a,zs,rfl,s1,r2⟩:=rp_tup.mp r1
  exact ⟨a,rfl,⟨zs,sqT_mono g1.sub s1⟩,k _ _ _ g1 (src_tup s1 r2)⟩
 ·cases h2
  refine pi_list h pins s σ H R I ⟨ρ,Hs,_,hs,hv,hd,fun v H1 Hs1 g1 r1 => ?_⟩
  obtain ⟨a,zs,rfl,s1,r2⟩:=rp_lst.mp r1
  exact ⟨a,rfl,⟨zs,sqL_mono g1.sub s1⟩,k _ _ _ g1 (src_list s1 r2)⟩
theorem lim62 : (lim : Int) < 2 ^ 62:=by decide
theorem si_rng1 {p : Pos} (C : Cok T cl X) (hg : Gl X "range") (hn : noStar a = true) (ha : PA X [a] (tMs X U rs)) (hl : ∀ ρ ds, rs ρ = .ok ds → ds.length = 1) :
  PI X tg (.Call (.Name "range" p) [a] [] pos) (tI X U fun ρ => do let ds ← rs ρ; itemsOf .rng ds):=by
 intro pins s σ H R I hq
 obtain ⟨ρ,Hs,ds,hs,hv,h1,k⟩:=hq
 obtain ⟨d,hd,h2⟩:=bind_ok h1
 clear h1
 have hlen:=hl ρ d hd
 rcases d with _ | ⟨d,_ | ⟨d2,d3⟩⟩
 ·simp at hlen
 ·cases d <;> try (cases h2;done)
  obtain ⟨c,h3⟩:=if_ok h2
  cases h3
  refine pi_range1 hg (C.blt _ (by decide +kernel)) ha (star_cons hn) pins s σ H R I ⟨ρ,Hs,_,hs,hv,hd,fun vs H1 Hs1 g1 r1 => ?_⟩
  obtain ⟨v,rfl,r2⟩:=one_inv r1
  cases rp_int.mp r2
  have:=lim62
  refine ⟨_,rfl,by omega,by omega,k _ _ _ g1 ?_⟩
  have e:=src_rng (X:=X) (Hs:=Hs1) (lo:=0) (n:=Int.toNat ‹Int›)
  simpa using e
 ·simp at hlen
theorem si_rng2 {p : Pos} (C : Cok T cl X) (hg : Gl X "range") (hn : noStar a = true) (hn2 : noStar b = true) (ha : PA X [a, b] (tMs X U rs)) (hl : ∀ ρ ds, rs ρ = .ok ds → ds.length = 2) :
  PI X tg (.Call (.Name "range" p) [a, b] [] pos) (tI X U fun ρ => do let ds ← rs ρ; itemsOf .rng ds):=by
 intro pins s σ H R I hq
 obtain ⟨ρ,Hs,ds,hs,hv,h1,k⟩:=hq
 obtain ⟨d,hd,h2⟩:=bind_ok h1
 clear h1
 have hlen:=hl ρ d hd
 rcases d with _ | ⟨d,_ | ⟨d2,_ | ⟨d3,d4⟩⟩⟩
 ·simp at hlen
 ·simp at hlen
 ·cases d <;> cases d2 <;> try (cases h2;done)
  obtain ⟨c,h3⟩:=if_ok h2
  cases h3
  refine pi_range2 hg (C.blt _ (by decide +kernel)) ha (by rw [star_cons hn,star_cons hn2];rfl) (by rw [star_cons hn2];rfl) pins s σ H R I ⟨ρ,Hs,_,hs,hv,hd,fun vs H1 Hs1 g1 r1 => ?_⟩
  obtain ⟨v,w,rfl,r2,r3⟩:=two_inv r1
  cases rp_int.mp r2
  cases rp_int.mp r3
  have:=lim62
  exact ⟨_,_,rfl,⟨by omega,by omega,by omega,by omega⟩,k _ _ _ g1 src_rng⟩
 ·simp at hlen
theorem si_enum {p tpos : Pos} {els : List Expr} {x1 : Nat} (C : Cok T cl X) (hg : Gl X "enumerate") (hn : noStar a = true) (ha : PA X [a] (tMs X U rs)) :
  PI X (.Tuple els x1 tpos) (.Call (.Name "enumerate" p) [a] [] pos) (tI X U fun ρ => do let ds ← rs ρ; itemsOf .enum ds):=by
 intro pins s σ H R I hq
 obtain ⟨ρ,Hs,ds,hs,hv,h1,k⟩:=hq
 obtain ⟨d,hd,h2⟩:=bind_ok h1
 clear h1
 rcases d with _ | ⟨d,_ | ⟨d2,d3⟩⟩
 ·cases h2
 ·cases d <;> try (cases h2;done)
  ·cases h2
   refine pi_enumT hg (C.blt _ (by decide +kernel)) ha (star_cons hn) pins s σ H R I ⟨ρ,Hs,_,hs,hv,hd,fun vs H1 Hs1 g1 r1 => ?_⟩
   obtain ⟨v,rfl,r2⟩:=one_inv r1
   obtain ⟨a,zs,rfl,s1,r3⟩:=rp_tup.mp r2
   exact ⟨a,zs,rfl,sqT_mono g1.sub s1,k _ _ _ g1 (src_enumT s1 r3)⟩
  ·cases h2
   refine pi_enumL hg (C.blt _ (by decide +kernel)) ha (star_cons hn) pins s σ H R I ⟨ρ,Hs,_,hs,hv,hd,fun vs H1 Hs1 g1 r1 => ?_⟩
   obtain ⟨v,rfl,r2⟩:=one_inv r1
   obtain ⟨a,zs,rfl,s1,r3⟩:=rp_lst.mp r2
   exact ⟨a,zs,rfl,sqL_mono g1.sub s1,k _ _ _ g1 (src_enumL s1 r3)⟩
 ·cases d <;> cases h2
theorem zip_get : ∀ {as bs : List D} {i : Nat} {d : D},(zipD as bs)[i]? = some d→∃ x y,as[i]? = some x∧bs[i]? = some y∧d = .tup [x,y]
 | [],bs,i,d,h => by cases bs <;> cases h
 | a :: as,[],i,d,h => by cases h
 | a :: as,b :: bs,0,d,h => by cases h;exact ⟨a,b,rfl,rfl,rfl⟩
 | a :: as,b :: bs,i + 1,d,h => zip_get (as:=as) (bs:=bs) (i:=i) h
theorem zip_len : ∀ (as bs : List D),(zipD as bs).length = min as.length bs.length
 | [],bs => by cases bs <;> simp [zipD]
 | a :: as,[] => by simp [zipD]
 | a :: as,b :: bs => by
  have:=zip_len as bs
  simp only [zipD,List.length_cons]
  omega
theorem src_zip {a b : Addr} {as bs : List D} {xs ys : List V} (h1 : SqT X.K Hs a xs) (h2 : SqT X.K Hs b ys) (r1 : Rps (gOf X) Hs as xs) (r2 : Rps (gOf X) Hs bs ys) : Src (gOf X) (Itz X.K a b) Hs (zipD as bs) where
 go:=fun i H hs hi => by
  rw [zip_len] at hi
  have l1:=r1.length
  have l2:=r2.length
  exact ⟨xs,ys,xs[i]'(by omega),ys[i]'(by omega),sqT_mono hs h1,sqT_mono hs h2,by simp,by simp⟩
 yld:=fun i H x H' Hs1 d hs1 hs e ⟨p,u,v,hp,e1,e2,y1,y2⟩ => by
  subst e1 e2
  obtain ⟨d1,d2,g1,g2,rfl⟩:=zip_get e
  obtain ⟨v1,f1,q1⟩:=r1.getD g1
  obtain ⟨v2,f2,q2⟩:=r2.getD g2
  rw [y1 xs (sqT_mono (hs1.trans hs) h1)] at f1;cases f1
  rw [y2 ys (sqT_mono (hs1.trans hs) h2)] at f2;cases f2
  have m : Same Hs (upd Hs1 p (.tup [u,v])):=hs1.trans (same_upd hs hp)
  exact ⟨_,Grow.new hs hp,rp_tup.mpr ⟨p,_,rfl,SqT.of upd_same,Rps.cons (q1.mono m) (Rps.one (q2.mono m))⟩⟩
 stop:=fun H hs => by
  have l1:=r1.length
  have l2:=r2.length
  refine ⟨xs,ys,sqT_mono hs h1,sqT_mono hs h2,?_⟩
  rw [zip_len,List.getElem?_eq_none_iff,List.getElem?_eq_none_iff]
  omega
theorem si_zip {p tpos : Pos} {els : List Expr} {x1 : Nat} (C : Cok T cl X) (hg : Gl X "zip") (hn : noStar a = true) (hn2 : noStar b = true) (ha : PA X [a, b] (tMs X U rs)) :
  PI X (.Tuple els x1 tpos) (.Call (.Name "zip" p) [a, b] [] pos) (tI X U fun ρ => do let ds ← rs ρ; itemsOf .zip ds):=by
 intro pins s σ H R I hq
 obtain ⟨ρ,Hs,ds,hs,hv,h1,k⟩:=hq
 obtain ⟨d,hd,h2⟩:=bind_ok h1
 clear h1
 rcases d with _ | ⟨d,_ | ⟨d2,_ | ⟨d3,d4⟩⟩⟩
 ·cases h2
 ·cases d <;> cases h2
 ·cases d <;> cases d2 <;> try (cases h2;done)
  cases h2
  refine pi_zip hg (C.blt _ (by decide +kernel)) ha (by rw [star_cons hn,star_cons hn2];rfl) (by rw [star_cons hn2];rfl) pins s σ H R I ⟨ρ,Hs,_,hs,hv,hd,fun vs H1 Hs1 g1 r1 => ?_⟩
  obtain ⟨v,w,rfl,r2,r3⟩:=two_inv r1
  obtain ⟨a1,xs,rfl,s1,q1⟩:=rp_tup.mp r2
  obtain ⟨a2,ys,rfl,s2,q2⟩:=rp_tup.mp r3
  exact ⟨a1,xs,a2,ys,rfl,sqT_mono g1.sub s1,sqT_mono g1.sub s2,k _ _ _ g1 (src_zip s1 s2 q1 q2)⟩
 ·cases d <;> cases d2 <;> cases h2
theorem src_down {hi : Int} {n : Nat} : Src (gOf X) (Itd hi n) Hs ((List.range n).map fun (k : Nat) => D.int (hi - (k : Int))) where
 go:=fun i H hs hl => by show i < n;simpa using hl
 yld:=fun i H x H' Hs1 d hs1 hs e ⟨e1,y⟩ => by
  subst e1 y
  rw [List.getElem?_map] at e
  cases q : (List.range n)[i]? with
  | none => rw [q] at e;cases e
  | some j =>
   rw [q] at e
   have : j = i:=by
    obtain ⟨_,z⟩:=List.getElem?_eq_some_iff.mp q
    simpa using z.symm
   subst this
   cases e
   exact ⟨Hs1,Grow.refl hs,rp_int.mpr rfl⟩
 stop:=fun H hs => by show n≤_;simp
theorem si_rng3 {p : Pos} {c : Expr} (C : Cok T cl X) (hg : Gl X "range") (hn : noStar a = true) (hn2 : noStar b = true) (hn3 : noStar c = true) (ha : PA X [a, b, c] (tMs X U rs)) (hl : ∀ ρ ds, rs ρ = .ok ds → ds.length = 3) :
  PI X tg (.Call (.Name "range" p) [a, b, c] [] pos) (tI X U fun ρ => do let ds ← rs ρ; itemsOf .rng ds):=by
 intro pins s σ H R I hq
 obtain ⟨ρ,Hs,ds,hs,hv,h1,k⟩:=hq
 obtain ⟨d,hd,h2⟩:=bind_ok h1
 clear h1
 have hlen:=hl ρ d hd
 rcases d with _ | ⟨d,_ | ⟨d2,_ | ⟨d3,_ | ⟨d4,d5⟩⟩⟩⟩
 ·simp at hlen
 ·simp at hlen
 ·simp at hlen
 ·cases d <;> cases d2 <;> cases d3 <;> try (cases h2;done)
  obtain ⟨⟨c0,c1,c2,c3,c4⟩,h3⟩:=if_ok h2
  cases h3
  refine pi_down hg (C.blt _ (by decide +kernel)) ha (by rw [star_cons hn,star_cons hn2,star_cons hn3];rfl) (by rw [star_cons hn2,star_cons hn3];rfl) pins s σ H R I ⟨ρ,Hs,_,hs,hv,hd,fun vs H1 Hs1 g1 r1 => ?_⟩
  obtain ⟨v,ws,rfl,r2,r3⟩:=r1.cons_inv
  obtain ⟨w,w',rfl,r4,r5⟩:=two_inv r3
  cases rp_int.mp r2
  cases rp_int.mp r4
  cases rp_int.mp r5
  subst c0
  have:=lim62
  have hlim : (lim : Int) = 100000:=rfl
  exact ⟨_,_,rfl,⟨by omega,by omega,by omega,by omega⟩,k _ _ _ g1 src_down⟩
 ·simp at hlen
end
end Mi
namespace Mi
open PySem L2
open PyProof.Rows hiding St
noncomputable def putL {α : Type} : List (Option α)→List (Nat × α)→List (Option α)
 | xs,[] => xs
 | xs,(i,a) :: r => putL (xs.set i (some a)) r
theorem putL_len {α : Type} : ∀ (xs : List (Option α)) (l : List (Nat × α)),(putL xs l).length = xs.length
 | xs,[] => rfl
 | xs,(i,a) :: r => by rw [putL,putL_len,List.length_set]
theorem putL_out {α : Type} {j : Nat} : ∀ {xs : List (Option α)} {l : List (Nat × α)},j ∉ l.map (·.1)→(putL xs l)[j]? = xs[j]?
 | xs,[],_ => rfl
 | xs,(i,a) :: r,h => by
  simp only [List.map_cons,List.mem_cons,not_or] at h
  rw [putL,putL_out h.2,List.getElem?_set_ne (Ne.symm h.1)]
theorem putL_get {g : G} {Hs : Hp} {j : Nat} {d : D} : ∀ {l : List (Nat × D × V)} {ρ : En} {σ : St},ρ.length = σ.length→(∀ p∈l,Rp g Hs p.2.1 p.2.2) →
  (putL ρ (l.map fun p => (p.1,p.2.1)))[j]? = some (some d)→(∀ d,ρ[j]? = some (some d)→∃ v,σ[j]? = some (some v)∧Rp g Hs d v)∨j∈l.map (·.1)→∃ v,(putL σ (l.map fun p => (p.1,p.2.2)))[j]? = some (some v)∧Rp g Hs d v
 | [],ρ,σ,hl,hr,h,o => by
  rcases o with o | o
  ·exact o d h
  ·cases o
 | (i,e,v) :: l,ρ,σ,hl,hr,h,o => by
  simp only [List.map_cons,putL] at h ⊢
  have hl2 : (ρ.set i (some e)).length = (σ.set i (some v)).length:=by rw [List.length_set,List.length_set];exact hl
  refine putL_get hl2 (fun p hp => hr p (List.mem_cons_of_mem _ hp)) h ?_
  by_cases hj : j = i
  ·subst hj
   refine .inl fun d' q => ?_
   have hlt : j < ρ.length:=by
    have:=(List.getElem?_eq_some_iff.mp q).1
    simpa using this
   rw [List.getElem?_set_self hlt] at q
   cases q
   exact ⟨v,by rw [List.getElem?_set_self (by rw [← hl];exact hlt)],hr _ List.mem_cons_self⟩
  ·rw [List.map_cons,List.mem_cons] at o
   rcases o with o | o | o
   ·refine .inl fun d' q => ?_
    rw [List.getElem?_set_ne (Ne.symm hj)] at q ⊢
    exact o d' q
   ·exact absurd o hj
   ·exact .inr o
section
variable {X : Cx} {σ : St} {H Hs : Hp} {Q : VK} {U Ua Ub Uc : List Nat} {r ra rb rc : En→R D} {e a : Expr} {es : List Expr} {rs : En→R (List D)} {pos : Pos} {T : Tx} {cl : Nat→List D→R D}
noncomputable def gTg (K : PySem.W.Frag) : Tg→TG
 | .one i => gName i
 | .two i j => gTup K 2 (gCons (gName i) (gCons (gName j) gNil))
theorem pg_tg {sc : Scope} {t : Tg} {tg : Expr} (C : Cok T cl X) (S : ScRel sc X) (h : tgB X.N sc t tg = true) : PG X tg (gTg X.K t):=by
 cases t with
 | one i =>
  obtain ⟨_,_,rfl,ho,hn⟩:=tgB_one h
  obtain ⟨h1,h2⟩:=S.own _ ho
  exact pg_name C.nd hn h1 h2
 | two i j =>
  obtain ⟨_,_,_,_,_,_,rfl,⟨⟨⟨h1,h2⟩,h3⟩,h4⟩,h5⟩:=tgB_two h
  obtain ⟨a1,a2⟩:=S.own _ h1
  obtain ⟨b1,b2⟩:=S.own _ h2
  exact pg_tup C.calm (pgs_cons (pg_name C.nd h3 a1 a2) (pgs_cons (pg_name C.nd h4 b1 b2) pgs_nil (by rfl)) (by rfl)) (by rfl) (by rfl)
theorem tg_read {t : Tg} {d : D} {ρ ρ' : En} {x : V} {K : St→Hp→Prop} (hs : Same Hs H) (h : bindT t d ρ = .ok ρ') (rx : Rp (gOf X) Hs d x)
  (k : ∀ l : List (Nat × D × V),l.map (·.1) = tgSlots t→(∀ p∈l,Rp (gOf X) Hs p.2.1 p.2.2)→ρ' = putL ρ (l.map fun p => (p.1,p.2.1))→K (putL σ (l.map fun p => (p.1,p.2.2))) H) : gTg X.K t x σ H K:=by
 cases t with
 | one i =>
  cases h
  exact k [(i,d,x)] rfl (fun p hp => by rw [List.mem_singleton.mp hp];exact rx) rfl
 | two i j =>
  cases d <;> try (cases h;done)
  rename_i ds
  rcases ds with _ | ⟨a,_ | ⟨b,_ | ⟨c,cs⟩⟩⟩ <;> try (cases h;done)
  cases h
  obtain ⟨p,xs,rfl,s1,r1⟩:=rp_tup.mp rx
  obtain ⟨v,w,rfl,r2,r3⟩:=two_inv r1
  refine ⟨p,[v,w],rfl,sqT_mono hs s1,rfl,v,[w],rfl,w,[],rfl,rfl,?_⟩
  refine k [(i,a,v),(j,b,w)] rfl (fun q hq => ?_) rfl
  rcases List.mem_cons.mp hq with rfl | hq
  ·exact r2
  ·rw [List.mem_singleton.mp hq];exact r3
noncomputable def tHc (X : Cx) (hc : Bool) (U : List Nat) (r : En→R D) : TT:=if hc then tMT X U r else fun _ H Q => Q true H
theorem keep_own {N : List Str} {sc : Scope} {i : Nat} {x : Str} (h : ownB sc x = true) (hi : N[i]? = some x) : (keepOf N sc)[i]? = some false:=by
 unfold keepOf
 rw [List.getElem?_map,hi]
 rcases ownB_iff h with e | e <;> simp [e]
theorem tg_own {N : List Str} {sc : Scope} {t : Tg} {tg : Expr} (h : tgB N sc t tg = true) : ∀ i∈tgSlots t,(keepOf N sc)[i]? = some false:=by
 cases t with
 | one i =>
  obtain ⟨_,_,rfl,ho,hn⟩:=tgB_one h
  intro j hj
  rw [List.mem_singleton.mp hj]
  exact keep_own ho hn
 | two i j =>
  obtain ⟨_,_,_,_,_,_,rfl,⟨⟨⟨h1,h2⟩,h3⟩,h4⟩,h5⟩:=tgB_two h
  intro q hq
  rcases List.mem_cons.mp hq with rfl | hq
  ·exact keep_own h1 h3
  ·rw [List.mem_singleton.mp hq];exact keep_own h2 h4
noncomputable def tMf (X : Cx) (U : List Nat) (r : En→R D) : TE:=fun σ H Q => ∃ ρ Hs d,Same Hs H∧Vs (gOf X) ρ σ Hs U∧r ρ = .ok d∧∀ v H' Hs',Grow H Hs H' Hs'→Rp (gOf X) Hs' d v→(∀ a,v = .ref a→H a = none)→Q v H'
theorem tM_f {r : En→R D} : tM X U r σ H Q→tMf X U r σ H Q:=by
 rintro ⟨ρ,Hs,d,hs,hv,h,k⟩
 exact ⟨ρ,Hs,d,hs,hv,h,fun v H' Hs' g r _ => k v H' Hs' g r⟩
theorem comp_read {scope : Scope} {t : Tg} {tg : Expr} {hc : Bool} {rI : En→R (List D)} {cap : List Bool} {N : List Str} (htg : tgB N scope t tg = true) (hcap : cap = keepOf N scope) :
  tMf X (Ua++(Uc++Ub)) (fun ρ => do
   let items ← rI ρ
   let ys ← compGo (fun d => do
    let ρ' ← bindT t d (maskV cap ρ)
    let b ← (if hc then (do let x ← rc ρ';truthD x) else .ok true)
    if b then do let y ← rb ρ';.ok (some y) else .ok none) items
   if ys.length≤lim then .ok (.lst ys) else .stuck) σ H Q →
  tComp (tI X Ua rI) (gTg X.K t) (tHc X hc Uc rc) (tM X Ub rb) (maskV (keepOf N scope)) σ H Q:=by
 rintro ⟨ρ,Hs,z,hs,hv,h,k⟩
 obtain ⟨ds,hd,h1⟩:=bind_ok h
 obtain ⟨tot,ht,h2⟩:=bind_ok h1
 obtain ⟨hlim,h3⟩:=if_ok h2
 clear h h1 h2
 cases h3
 have hll:=lim_le
 generalize hf : (fun d => do
    let ρ' ← bindT t d (maskV cap ρ)
    let b ← (if hc then (do let x ← rc ρ';truthD x) else .ok true)
    if b then do let y ← rb ρ';.ok (some y) else .ok none) = f at ht
 refine ⟨ρ,Hs,ds,hs,hv.l,hd,fun J H1 Hs1 g1 src => ?_⟩
 intro A hA
 refine ⟨fun i m ys H' => m = ds.length - i∧i≤ds.length∧∃ Hs' don rest,Grow H1 Hs1 H' Hs'∧Hs' A = none∧H' A = some (.lst ys)∧Rps (gOf X) Hs' don ys∧compGo f (ds.drop i) = .ok rest∧don++rest = tot,⟨ds.length,by simp,Nat.zero_le _,Hs1,[],tot,Grow.own g1.sub hA,g1.sub.free hA,upd_same,Rps.nil,ht,rfl⟩,?_⟩
 rintro i m ys H' ⟨rfl,hi,Hs',don,rest,g2,fA,eA,rA,hrest,etot⟩
 have hs':=g1.sub
 by_cases hlt : i < ds.length
 ·refine .inr ⟨src.go i H' ((g2.same hs').trans g2.sub) hlt,fun x H2 hy => ?_⟩
  have hdi : ds[i]? = some ds[i]:=by simp [hlt]
  obtain ⟨Hs2,g3,rx⟩:=src.yld i H' x H2 Hs' ds[i] (g2.same hs') g2.sub hdi hy
  have edrop : ds.drop i = ds[i] :: ds.drop (i + 1):=by rw [List.drop_eq_getElem_cons hlt]
  rw [edrop] at hrest
  unfold compGo at hrest
  obtain ⟨y,hy1,hr1⟩:=bind_ok hrest
  obtain ⟨zs,hz,hr2⟩:=bind_ok hr1
  clear hrest hr1
  have hy0:=hy1
  rw [← hf] at hy1
  obtain ⟨ρ',hρ,hy2⟩:=bind_ok hy1
  obtain ⟨b,hb,hy3⟩:=bind_ok hy2
  clear hy1 hy2
  have gA : Grow H1 Hs1 H2 Hs2:=g2.trans g3
  refine tg_read g3.sub hρ rx fun l hl hrl eρ => ?_
  have slots : ∀ j∈tgSlots t,(keepOf N scope)[j]? = some false:=tg_own htg
  have lenm : (maskV cap ρ).length = (maskV (keepOf N scope) σ).length:=by rw [maskV_length,maskV_length];exact hv.1
  have mV : (l.map fun p => (p.1,p.2.2)).map (·.1) = tgSlots t:=by rw [← hl,List.map_map];rfl
  have mD : (l.map fun p => (p.1,p.2.1)).map (·.1) = tgSlots t:=by rw [← hl,List.map_map];rfl
  have ext : ExtS (maskV (keepOf N scope) σ) (putL (maskV (keepOf N scope) σ) (l.map fun p => (p.1,p.2.2))):=⟨putL_len _ _,fun j v q => by
   have hj : j ∉ tgSlots t:=fun hj => by
    have:=(maskV_get q).1
    rw [slots j hj] at this
    cases this
   rw [putL_out (by rw [mV];exact hj)];exact q⟩
  have vs2 : ∀ {U'},(∀ j∈U',j∈Uc++Ub)→Vs (gOf X) ρ' (putL (maskV (keepOf N scope) σ) (l.map fun p => (p.1,p.2.2))) Hs2 U':=fun {U'} hU => by
   refine ⟨by rw [eρ,putL_len,putL_len];exact lenm,fun j hj d hd' => ?_⟩
   rw [eρ] at hd'
   refine putL_get lenm hrl hd' (.inl fun d2 hd2 => ?_)
   obtain ⟨c1,c2⟩:=maskV_get hd2
   obtain ⟨v,e1,r1⟩:=hv.r.2 j (hU j hj) d2 c2
   exact ⟨v,maskV_set (by rw [← hcap];exact c1) e1,r1.mono (((g1.trans gA).same hs))⟩
  refine ⟨ext,?_⟩
  have aA2 : H2 A = some (.lst ys):=g3.keep A _ eA
  have step : ∀ H4 Hs4,Grow H2 Hs2 H4 Hs4→(if b = true then tM X Ub rb (putL (maskV (keepOf N scope) σ) (l.map fun p => (p.1,p.2.2))) H4 (fun y' H5 => H5 A = some (.lst ys)∧ys.length < sizeLine∧∃ m',m' < ds.length - i∧(m' = ds.length - (i + 1)∧i + 1≤ds.length∧∃ Hs' don rest,Grow H1 Hs1 (upd H5 A (.lst (ys++[y']))) Hs'∧Hs' A = none∧(upd H5 A (.lst (ys++[y']))) A = some (.lst (ys++[y']))∧Rps (gOf X) Hs' don (ys++[y'])∧compGo f (ds.drop (i + 1)) = .ok rest∧don++rest = tot))
    else ∃ m',m' < ds.length - i∧(m' = ds.length - (i + 1)∧i + 1≤ds.length∧∃ Hs' don rest,Grow H1 Hs1 H4 Hs'∧Hs' A = none∧H4 A = some (.lst ys)∧Rps (gOf X) Hs' don ys∧compGo f (ds.drop (i + 1)) = .ok rest∧don++rest = tot)):=by
   intro H4 Hs4 g4
   have f4 : Hs4 A = none:=by rw [(g3.trans g4).old A _ eA];exact fA
   cases b with
   | false =>
    rw [if_neg (by decide)]
    rw [if_neg (by decide)] at hy3
    cases hy3
    cases hr2
    exact ⟨_,by omega,rfl,hlt,Hs4,don,zs,gA.trans g4,f4,g4.keep A _ aA2,rA.mono ((g3.trans g4).same g2.sub),hz,etot⟩
   | true =>
    rw [if_pos rfl]
    rw [if_pos rfl] at hy3
    obtain ⟨w,hw,hy4⟩:=bind_ok hy3
    cases hy4
    cases hr2
    refine ⟨ρ',Hs4,w,g4.sub,(vs2 fun j hj => List.mem_append_right _ hj).mono (g4.same g3.sub),hw,fun y' H5 Hs5 g5 r5 => ?_⟩
    have a5 : H5 A = some (.lst ys):=(g4.trans g5).keep A _ aA2
    have f5 : Hs5 A = none:=by rw [((g3.trans g4).trans g5).old A _ eA];exact fA
    have rl:=rA.length
    have hlen : ys.length < sizeLine:=by
     have : don.length + (w :: zs).length = tot.length:=by rw [← List.length_append,etot]
     rw [List.length_cons] at this
     omega
    refine ⟨a5,hlen,_,by omega,rfl,hlt,Hs5,don++[w],zs,?_,f5,upd_same,?_,hz,by rw [List.append_assoc];exact etot⟩
    ·have g6:=(gA.trans g4).trans g5
     refine ⟨fun c o q => by rw [upd_ne (ne_of_none q hA)];exact g6.keep c o q,g6.old,fun c o q => ?_⟩
     rw [upd_ne (ne_of_none q f5)];exact g6.sub c o q
    ·exact (rA.mono (((g3.trans g4).trans g5).same g2.sub)).append (Rps.one r5)
  cases hc with
  | false =>
   rw [if_neg (by decide)] at hb
   cases hb
   exact step H2 Hs2 (Grow.refl g3.sub)
  | true =>
   rw [if_pos rfl] at hb
   obtain ⟨x2,hx2,hb2⟩:=bind_ok hb
   cases truthD_ok hb2
   exact ⟨ρ',Hs2,b,g3.sub,vs2 fun j hj => List.mem_append_left _ hj,hx2,fun H4 Hs4 g4 => step H4 Hs4 g4⟩
 ·have e : i = ds.length:=by omega
  subst e
  refine .inl ⟨src.stop H' ((g2.same hs').trans g2.sub),?_⟩
  rw [List.drop_length] at hrest
  cases hrest
  rw [List.append_nil] at etot
  subst etot
  have m2 : Same Hs' (upd Hs' A (.lst ys)):=fun c o q => by rw [upd_ne (ne_of_none q fA)];exact q
  refine k _ _ (upd Hs' A (.lst ys)) (g1.trans ⟨g2.keep,fun c o q => by rw [upd_ne (ne_of_none q hA)];exact g2.old c o q,fun c o q => ?_⟩) (rp_lst.mpr ⟨A,ys,rfl,SqL.of upd_same,rA.mono m2⟩) (fun b e => by cases e;exact (show Same H H1 from g1.keep).free hA)
  by_cases z : c = A
  ·subst z;rw [upd_same] at q;cases q;exact eA
  ·rw [upd_ne z] at q;exact g2.sub c o q
end
end Mi
namespace Mi
open PySem L2
open PyProof.Rows hiding St
noncomputable def plainT : Expr→Bool
 | .UnaryOp .Not _ _ => false
 | .BoolOp .. => false
 | .IfExp .. => false
 | .Compare .. => false
 | _ => true
theorem isTrue_plainT {e : Expr} {env : Env} (h : plainT e = true) : ∀ whole,isTrue e env whole = (do let v ← whole;standAt e.pos;holding [v] (truthy v)):=by
 intro whole
 cases e <;> first | rfl | (cases h;done) | skip
 rename_i op a p
 cases op <;> first | rfl | cases h
noncomputable def GoodAt (X : Cx) (U : List Nat) (r : En→R D) (e : Expr) : Prop:=PE X e (tM X U r)∧PT X e (tMT X U r)
noncomputable def Good (T : Tx) (cl : Nat→List D→R D) (m : M) : Prop:=∀ {X : Cx} {sc : Scope} {e : Expr},Cok T cl X→ScRel sc X→okE T X.N m sc e = true→GoodAt X (useE m) (evE cl m) e
section
variable {T : Tx} {cl : Nat→List D→R D} {X : Cx} {sc : Scope} {U : List Nat} {r : En→R D} {e : Expr}
theorem good_plain (h : PE X e (tM X U r)) (hp : plainT e = true) : GoodAt X U r e:=⟨h,pt_plain h (isTrue_plainT hp)⟩
theorem pa_all (C : Cok T cl X) (S : ScRel sc X) : ∀ {ms : List M} {es : List Expr},(∀ m∈ms,Good T cl m)→okEs T X.N ms sc es = true→es.all noStar = true→PA X es (tMs X (useEs ms) (evEs cl ms))
 | [],es,G,h,hn => by
  rw [okEs_nil,List.isEmpty_iff] at h
  subst h
  have e : evEs cl [] = fun _ => .ok []:=funext fun _ => by simp only [evEs]
  rw [e]
  simp only [useEs]
  exact pa_nilD
 | m :: ms,[],G,h,hn => by cases h
 | m :: ms,x :: es,G,h,hn => by
  simp only [okEs_cons,Bool.and_eq_true] at h
  simp only [List.all_cons,Bool.and_eq_true] at hn
  have e : evEs cl (m :: ms) = (fun ρ => (do let d ← evE cl m ρ;let ds ← evEs cl ms ρ;.ok (d :: ds))):=funext fun _ => by simp only [evEs]
  rw [e]
  simp only [useEs]
  exact pa_consD (G m List.mem_cons_self C S h.1).1 (pa_all C S (fun q hq => G q (List.mem_cons_of_mem _ hq)) h.2 hn.2) hn.1
theorem evEs_len : ∀ {ms : List M} {ρ : En} {ds : List D},evEs cl ms ρ = .ok ds→ds.length = ms.length
 | [],ρ,ds,h => by simp only [evEs] at h;cases h;rfl
 | m :: ms,ρ,ds,h => by
  simp only [evEs] at h
  obtain ⟨x,hx,h1⟩:=bind_ok h
  obtain ⟨xs,hxs,h2⟩:=bind_ok h1
  have:=evEs_len hxs
  cases h2
  simp [this]
theorem okEs_len : ∀ {ms : List M} {es : List Expr},okEs T X.N ms sc es = true→es.length = ms.length
 | [],es,h => by
  rw [okEs_nil,List.isEmpty_iff] at h
  rw [h];rfl
 | m :: ms,[],h => by cases h
 | m :: ms,e :: es,h => by
  simp only [okEs_cons,Bool.and_eq_true] at h
  simp [okEs_len h.2]
theorem and_all (C : Cok T cl X) (S : ScRel sc X) {pos : Pos} : ∀ {ms : List M} {es : List Expr},(∀ m∈ms,Good T cl m)→okEs T X.N ms sc es = true→ms.isEmpty = false→PE X (.BoolOp .And es pos) (tM X (useEs ms) (evAnd cl ms))∧PW X (.BoolOp .And es pos) (tMT X (useEs ms) (evAnd cl ms))
 | [],es,G,h,hn => by cases hn
 | m :: ms,[],G,h,hn => by cases h
 | [m],[x],G,h,hn => by
  simp only [okEs_cons,Bool.and_eq_true] at h
  obtain ⟨g1,g2⟩:=G m List.mem_cons_self C S h.1
  constructor
  ·refine pe_imp (pe_one g1) fun σ H Q => ?_
   rintro ⟨ρ,Hs,z,hs,hv,h,k⟩
   simp only [evAnd] at h
   obtain ⟨d,hd,h1⟩:=bind_ok h
   obtain ⟨t,ht,h2⟩:=bind_ok h1
   clear h h1
   cases truthD_ok ht
   cases h2
   simp only [useEs] at hv
   exact ⟨ρ,Hs,_,hs,hv.l,hd,k⟩
  ·have:=pw_and1 (pos:=pos) g2
   intro wh pins s σ H Q I hq
   refine this wh pins s σ H Q I ?_
   obtain ⟨ρ,Hs,z,hs,hv,h,k⟩:=hq
   simp only [evAnd] at h
   obtain ⟨d,hd,h1⟩:=bind_ok h
   obtain ⟨t,ht,h2⟩:=bind_ok h1
   clear h h1
   cases truthD_ok ht
   cases h2
   simp only [useEs] at hv
   exact ⟨ρ,Hs,_,hs,hv.l,hd,k⟩
 | [m],x :: y :: es,G,h,hn => by rw [okEs_cons,okEs_nil] at h;simp at h
 | m :: m' :: ms,[x],G,h,hn => by rw [okEs_cons,okEs_no] at h;simp at h
 | m :: m' :: ms,x :: y :: es,G,h,hn => by
  have h':=h
  simp only [okEs_cons,Bool.and_eq_true] at h
  obtain ⟨g1,g2⟩:=G m List.mem_cons_self C S h.1
  obtain ⟨i1,i2⟩:=and_all C S (pos:=pos) (ms:=m' :: ms) (es:=y :: es) (fun q hq => G q (List.mem_cons_of_mem _ hq)) (by simp only [okEs_cons,Bool.and_eq_true];exact h.2) rfl
  constructor
  ·refine pe_imp (pe_and g1 i1) fun σ H Q => ?_
   rintro ⟨ρ,Hs,z,hs,hv,h,k⟩
   simp only [evAnd] at h
   obtain ⟨d,hd,h1⟩:=bind_ok h
   obtain ⟨t,ht,h2⟩:=bind_ok h1
   clear h h1
   cases truthD_ok ht
   rw [useEs] at hv
   refine ⟨ρ,Hs,_,hs,hv.l,hd,fun v H1 Hs1 g1 r1 => ⟨t,rp_bl.mp r1,?_⟩⟩
   cases t with
   | false => rw [if_neg (by decide)];rw [if_neg (by decide)] at h2;cases h2;exact (k.grow g1).bl g1.sub
   | true => rw [if_pos rfl];rw [if_pos rfl] at h2;exact ⟨ρ,Hs1,z,g1.sub,hv.r.mono (g1.same hs),h2,k.grow g1⟩
  ·have:=pw_and (pos:=pos) g2 i2
   intro wh pins s σ H Q I hq
   refine this wh pins s σ H Q I ?_
   obtain ⟨ρ,Hs,z,hs,hv,h,k⟩:=hq
   simp only [evAnd] at h
   obtain ⟨d,hd,h1⟩:=bind_ok h
   obtain ⟨t,ht,h2⟩:=bind_ok h1
   clear h h1
   cases truthD_ok ht
   rw [useEs] at hv
   refine ⟨ρ,Hs,t,hs,hv.l,hd,fun H1 Hs1 g1 => ?_⟩
   cases t with
   | false => rw [if_neg (by decide)];rw [if_neg (by decide)] at h2;cases h2;exact k H1 Hs1 g1
   | true => rw [if_pos rfl];rw [if_pos rfl] at h2;exact ⟨ρ,Hs1,z,g1.sub,hv.r.mono (g1.same hs),h2,fun H' Hs' g => k H' Hs' (g1.trans g)⟩
theorem or_all (C : Cok T cl X) (S : ScRel sc X) {pos : Pos} : ∀ {ms : List M} {es : List Expr},(∀ m∈ms,Good T cl m)→okEs T X.N ms sc es = true→ms.isEmpty = false→PE X (.BoolOp .Or es pos) (tM X (useEs ms) (evOr cl ms))∧PW X (.BoolOp .Or es pos) (tMT X (useEs ms) (evOr cl ms))
 | [],es,G,h,hn => by cases hn
 | m :: ms,[],G,h,hn => by cases h
 | [m],[x],G,h,hn => by
  simp only [okEs_cons,Bool.and_eq_true] at h
  obtain ⟨g1,g2⟩:=G m List.mem_cons_self C S h.1
  constructor
  ·refine pe_imp (pe_one g1) fun σ H Q => ?_
   rintro ⟨ρ,Hs,z,hs,hv,h,k⟩
   simp only [evOr] at h
   obtain ⟨d,hd,h1⟩:=bind_ok h
   obtain ⟨t,ht,h2⟩:=bind_ok h1
   clear h h1
   cases truthD_ok ht
   cases h2
   simp only [useEs] at hv
   exact ⟨ρ,Hs,_,hs,hv.l,hd,k⟩
  ·have:=pw_or1 (pos:=pos) g2
   intro wh pins s σ H Q I hq
   refine this wh pins s σ H Q I ?_
   obtain ⟨ρ,Hs,z,hs,hv,h,k⟩:=hq
   simp only [evOr] at h
   obtain ⟨d,hd,h1⟩:=bind_ok h
   obtain ⟨t,ht,h2⟩:=bind_ok h1
   clear h h1
   cases truthD_ok ht
   cases h2
   simp only [useEs] at hv
   exact ⟨ρ,Hs,_,hs,hv.l,hd,k⟩
 | [m],x :: y :: es,G,h,hn => by rw [okEs_cons,okEs_nil] at h;simp at h
 | m :: m' :: ms,[x],G,h,hn => by rw [okEs_cons,okEs_no] at h;simp at h
 | m :: m' :: ms,x :: y :: es,G,h,hn => by
  simp only [okEs_cons,Bool.and_eq_true] at h
  obtain ⟨g1,g2⟩:=G m List.mem_cons_self C S h.1
  obtain ⟨i1,i2⟩:=or_all C S (pos:=pos) (ms:=m' :: ms) (es:=y :: es) (fun q hq => G q (List.mem_cons_of_mem _ hq)) (by simp only [okEs_cons,Bool.and_eq_true];exact h.2) rfl
  constructor
  ·refine pe_imp (pe_or g1 i1) fun σ H Q => ?_
   rintro ⟨ρ,Hs,z,hs,hv,h,k⟩
   simp only [evOr] at h
   obtain ⟨d,hd,h1⟩:=bind_ok h
   obtain ⟨t,ht,h2⟩:=bind_ok h1
   clear h h1
   cases truthD_ok ht
   rw [useEs] at hv
   refine ⟨ρ,Hs,_,hs,hv.l,hd,fun v H1 Hs1 g1 r1 => ⟨t,rp_bl.mp r1,?_⟩⟩
   cases t with
   | true => rw [if_pos rfl];rw [if_pos rfl] at h2;cases h2;exact (k.grow g1).bl g1.sub
   | false => rw [if_neg (by decide)];rw [if_neg (by decide)] at h2;exact ⟨ρ,Hs1,z,g1.sub,hv.r.mono (g1.same hs),h2,k.grow g1⟩
  ·have:=pw_or (pos:=pos) g2 i2
   intro wh pins s σ H Q I hq
   refine this wh pins s σ H Q I ?_
   obtain ⟨ρ,Hs,z,hs,hv,h,k⟩:=hq
   simp only [evOr] at h
   obtain ⟨d,hd,h1⟩:=bind_ok h
   obtain ⟨t,ht,h2⟩:=bind_ok h1
   clear h h1
   cases truthD_ok ht
   rw [useEs] at hv
   refine ⟨ρ,Hs,t,hs,hv.l,hd,fun H1 Hs1 g1 => ?_⟩
   cases t with
   | true => rw [if_pos rfl];rw [if_pos rfl] at h2;cases h2;exact k H1 Hs1 g1
   | false => rw [if_neg (by decide)];rw [if_neg (by decide)] at h2;exact ⟨ρ,Hs1,z,g1.sub,hv.r.mono (g1.same hs),h2,fun H' Hs' g => k H' Hs' (g1.trans g)⟩
theorem src_all (C : Cok T cl X) (S : ScRel sc X) {k : IK} {src : List M} {tg iter : Expr} (G : ∀ m∈src,Good T cl m) (h1 : shapeB sc k tg iter = true) (h2 : okEs T X.N src sc (argsOf k iter) = true) :
  PI X tg iter (tI X (useEs src) fun ρ => do let ss ← evEs cl src ρ;itemsOf k ss):=by
 cases k with
 | seq =>
  rcases src with _ | ⟨m,_ | ⟨m',ms⟩⟩
  ·cases h2
  ·replace h2 : (okE T X.N m sc iter && okEs T X.N [] sc []) = true:=h2
   simp only [Bool.and_eq_true] at h2
   have g:=(G m List.mem_cons_self C S h2.1).1
   intro pins s σ H R I hq
   refine si_seq g pins s σ H R I ?_
   obtain ⟨ρ,Hs,ds,hs,hv,h,k⟩:=hq
   simp only [qJ,qa] at h
   simp only [uses_cons,uses_nil] at hv
   obtain ⟨ss,hss,h3⟩:=bind_ok h
   obtain ⟨d,hd,h4⟩:=bind_ok hss
   simp only [qN] at h4
   cases h4
   exact ⟨ρ,Hs,ds,hs,hv.l,by simp only [hd,qN];exact h3,k⟩
  ·(replace h2 : (okE T X.N m sc iter && false) = true:=h2;simp at h2)
 | rng =>
  ·obtain ⟨f,p,es,q,rfl,h3⟩:=callB_ok h1
   simp only [Bool.and_eq_true,decide_eq_true_eq,Bool.or_eq_true] at h3
   obtain ⟨⟨⟨rfl,hg⟩,hl⟩,hn⟩:=h3
   have gg:=S.glb _ hg
   replace h2 : okEs T X.N src sc es = true:=h2
   have pa:=pa_all C S G h2 hn
   have len:=okEs_len h2
   rcases es with _ | ⟨x,_ | ⟨y,_ | ⟨z,zs⟩⟩⟩
   ·simp at hl
   ·simp only [List.all_cons,List.all_nil,Bool.and_eq_true] at hn
    exact si_rng1 C gg hn.1 pa fun ρ ds h => by rw [evEs_len h,← len];rfl
   ·simp only [List.all_cons,List.all_nil,Bool.and_eq_true] at hn
    exact si_rng2 C gg hn.1 hn.2.1 pa fun ρ ds h => by rw [evEs_len h,← len];rfl
   ·rcases zs with _ | ⟨z2,zs⟩
    ·simp only [List.all_cons,List.all_nil,Bool.and_eq_true] at hn
     exact si_rng3 C gg hn.1 hn.2.1 hn.2.2.1 pa fun ρ ds h => by rw [evEs_len h,← len];rfl
    ·simp at hl
 | enum =>
  ·obtain ⟨f,p,es,q,rfl,h3⟩:=callB_ok h1
   simp only [Bool.and_eq_true,decide_eq_true_eq] at h3
   obtain ⟨⟨⟨⟨rfl,hg⟩,hl⟩,hn⟩,ht⟩:=h3
   have gg:=S.glb _ hg
   replace h2 : okEs T X.N src sc es = true:=h2
   have pa:=pa_all C S G h2 hn
   rcases es with _ | ⟨x,_ | ⟨y,ys⟩⟩
   ·simp at hl
   ·simp only [List.all_cons,List.all_nil,Bool.and_eq_true] at hn
    cases tg <;> try (cases ht;done)
    exact si_enum C gg hn.1 pa
   ·simp at hl
 | zip =>
  ·obtain ⟨f,p,es,q,rfl,h3⟩:=callB_ok h1
   simp only [Bool.and_eq_true,decide_eq_true_eq] at h3
   obtain ⟨⟨⟨⟨rfl,hg⟩,hl⟩,hn⟩,ht⟩:=h3
   have gg:=S.glb _ hg
   replace h2 : okEs T X.N src sc es = true:=h2
   have pa:=pa_all C S G h2 hn
   rcases es with _ | ⟨x,_ | ⟨y,_ | ⟨z,ys⟩⟩⟩
   ·simp at hl
   ·simp at hl
   ·simp only [List.all_cons,List.all_nil,Bool.and_eq_true] at hn
    cases tg <;> try (cases ht;done)
    exact si_zip C gg hn.1 hn.2.1 pa
   ·simp at hl
 | rev => cases h1
end
end Mi
namespace Mi
open PySem L2
open PyProof.Rows hiding St
section
variable {T : Tx} {cl : Nat→List D→R D}
theorem good_var {i : Nat} : Good T cl (.var i):=by
 intro X sc e C S h
 have ee : evE cl (.var i) = fun ρ => getE ρ i:=rfl
 rw [ee]
 obtain ⟨_,_,rfl⟩:=inv_Name h
 rw [okE_var] at h
 simp only [Bool.and_eq_true,decide_eq_true_eq] at h
 exact good_plain (se_var h.2 (S.vis _ h.1.2) h.1.1) rfl
theorem good_con {d : D} : Good T cl (.con d):=by
 intro X sc e C S h
 have ee : evE cl (.con d) = fun _ => .ok d:=rfl
 rw [ee]
 cases e <;> try (cases h;done)
 ·exact good_plain (se_con h) rfl
 ·rw [okE_conN] at h
  simp only [Bool.and_eq_true] at h
  exact good_plain (se_glob C (S.glb _ h.1.2) h.1.1 (glB_ok h.2)) rfl
theorem good_tup {ms : List M} (G : ∀ m∈ms,Good T cl m) : Good T cl (.tup ms):=by
 intro X sc e C S h
 have ee : evE cl (.tup ms) = fun ρ => (do let ds ← evEs cl ms ρ;if ds.length≤lim then .ok (.tup ds) else .stuck):=rfl
 rw [ee]
 obtain ⟨_,_,_,rfl⟩:=inv_Tuple h
 rw [okE_tup] at h
 simp only [Bool.and_eq_true] at h
 exact good_plain (se_tup (pa_all C S G h.1 h.2)) rfl
theorem good_lst {ms : List M} (G : ∀ m∈ms,Good T cl m) : Good T cl (.lst ms):=by
 intro X sc e C S h
 have ee : evE cl (.lst ms) = fun ρ => (do let ds ← evEs cl ms ρ;if ds.length≤lim then .ok (.lst ds) else .stuck):=rfl
 rw [ee]
 obtain ⟨_,_,rfl⟩:=inv_List h
 rw [okE_lst] at h
 simp only [Bool.and_eq_true] at h
 exact good_plain (se_lst (pa_all C S G h.1 h.2)) rfl
theorem good_bin {o : BO} {a b : M} (ga : Good T cl a) (gb : Good T cl b) : Good T cl (.bin o a b):=by
 intro X sc e C S h
 have ee : evE cl (.bin o a b) = fun ρ => (do let x ← evE cl a ρ;let y ← evE cl b ρ;binD o x y):=rfl
 rw [ee]
 obtain ⟨_,_,_,_,rfl⟩:=inv_BinOp h
 rw [okE_bin] at h
 simp only [Bool.and_eq_true] at h
 cases boB_eq h.1.1
 exact good_plain (se_bin o (ga C S h.1.2).1 (gb C S h.2).1) rfl
theorem good_cmp {o : CO} {a b : M} (ga : Good T cl a) (gb : Good T cl b) : Good T cl (.cmp o a b):=by
 intro X sc e C S h
 have ee : evE cl (.cmp o a b) = fun ρ => (do let x ← evE cl a ρ;let y ← evE cl b ρ;let r ← cmpD o x y;.ok (.bl r)):=rfl
 rw [ee]
 obtain ⟨x,ops,cs,p,rfl⟩:=inv_Compare h
 rcases ops with _ | ⟨op,_ | ⟨op2,ops⟩⟩ <;> rcases cs with _ | ⟨y,_ | ⟨y2,cs⟩⟩ <;> try (cases h;done)
 rw [okE_cmp] at h
 simp only [Bool.and_eq_true] at h
 cases coB_eq h.1.1.1
 exact ⟨se_cmp C.un o (ga C S h.1.2).1 (gb C S h.2).1 h.1.1.2,st_cmp C.un o (ga C S h.1.2).1 (gb C S h.2).1 h.1.1.2⟩
theorem good_chain {o o' : CO} {a b c : M} (ga : Good T cl a) (gb : Good T cl b) (gc : Good T cl c) : Good T cl (.chain o o' a b c):=by
 intro X sc e C S h
 have ee : evE cl (.chain o o' a b c) = fun ρ => (do let x ← evE cl a ρ;let y ← evE cl b ρ;let r ← cmpD o x y;if r then do let z ← evE cl c ρ;let r2 ← cmpD o' y z;.ok (.bl r2) else .ok (.bl false)):=rfl
 rw [ee]
 obtain ⟨x,ops,cs,p,rfl⟩:=inv_Compare h
 rcases ops with _ | ⟨op,_ | ⟨op2,_ | ⟨op3,ops⟩⟩⟩ <;> rcases cs with _ | ⟨y,_ | ⟨y2,_ | ⟨y3,cs⟩⟩⟩ <;> try (cases h;done)
 rw [okE_chain] at h
 simp only [Bool.and_eq_true] at h
 obtain ⟨⟨⟨⟨⟨⟨h1,h2⟩,h3⟩,h4⟩,h5⟩,h6⟩,h7⟩:=h
 cases coB_eq h1
 cases coB_eq h2
 exact ⟨se_chain C.un o o' (ga C S h5).1 (gb C S h6).1 (gc C S h7).1 h4,st_chain C.un o o' (ga C S h5).1 (gb C S h6).1 (gc C S h7).1 h4⟩
theorem good_and {ms : List M} (G : ∀ m∈ms,Good T cl m) : Good T cl (.and ms):=by
 intro X sc e C S h
 have ee : evE cl (.and ms) = evAnd cl ms:=rfl
 rw [ee]
 obtain ⟨op,es,p,rfl⟩:=inv_BoolOp h
 cases op <;> try (cases h;done)
 rw [okE_and] at h
 simp only [Bool.and_eq_true,Bool.not_eq_true'] at h
 obtain ⟨h1,h2⟩:=and_all C S (pos:=p) G h.1 h.2
 exact ⟨h1,h2.pt⟩
theorem good_or {ms : List M} (G : ∀ m∈ms,Good T cl m) : Good T cl (.or ms):=by
 intro X sc e C S h
 have ee : evE cl (.or ms) = evOr cl ms:=rfl
 rw [ee]
 obtain ⟨op,es,p,rfl⟩:=inv_BoolOp h
 cases op <;> try (cases h;done)
 rw [okE_or] at h
 simp only [Bool.and_eq_true,Bool.not_eq_true'] at h
 obtain ⟨h1,h2⟩:=or_all C S (pos:=p) G h.1 h.2
 exact ⟨h1,h2.pt⟩
theorem good_not {a : M} (ga : Good T cl a) : Good T cl (.not a):=by
 intro X sc e C S h
 have ee : evE cl (.not a) = fun ρ => (do let x ← evE cl a ρ;let t ← truthD x;.ok (.bl (!t))):=rfl
 rw [ee]
 obtain ⟨op,x,p,rfl⟩:=inv_UnaryOp h
 cases op <;> try (cases h;done)
 exact ⟨se_not (ga C S h).1,st_not (ga C S h).2⟩
theorem good_ix {a b : M} (ga : Good T cl a) (gb : Good T cl b) : Good T cl (.ix a b):=by
 intro X sc e C S h
 have ee : evE cl (.ix a b) = fun ρ => (do let x ← evE cl a ρ;let y ← evE cl b ρ;ixD x y):=rfl
 rw [ee]
 obtain ⟨_,_,_,rfl⟩:=inv_Subscript h
 rw [okE_ix] at h
 simp only [Bool.and_eq_true] at h
 exact good_plain (se_ix C.un (ga C S h.1.2).1 (gb C S h.2).1 h.1.1) rfl
theorem good_call {f : Nat} {ms : List M} (G : ∀ m∈ms,Good T cl m) : Good T cl (.call f ms):=by
 intro X sc e C S h
 have ee : evE cl (.call f ms) = fun ρ => (do let ds ← evEs cl ms ρ;cl f ds):=rfl
 rw [ee]
 obtain ⟨_,_,es,p,rfl,h9⟩:=callB_ok h
 replace h:=h9
 clear h9
 simp only [Bool.and_eq_true,decide_eq_true_eq] at h
 obtain ⟨⟨⟨⟨h1,h2⟩,h3⟩,h4⟩,h5⟩:=h
 cases es with
 | nil =>
  have:=okEs_len h4
  cases ms with
  | nil =>
   simp only [use_call,uses_nil,qa]
   exact good_plain (se_call0 C (S.glb _ h2) h1 h3) rfl
  | cons _ _ => simp at this
 | cons x xs => exact good_plain (se_call C (S.glb _ h2) h1 h3 (pa_all C S G h4 h5) h5) rfl
theorem good_blt {b : BI} {ms : List M} (G : ∀ m∈ms,Good T cl m) : Good T cl (.blt b ms):=by
 intro X sc e C S h
 have ee : evE cl (.blt b ms) = fun ρ => (do let ds ← evEs cl ms ρ;bltD b ds):=rfl
 rw [ee]
 obtain ⟨_,_,es,p,rfl,h9⟩:=callB_ok h
 replace h:=h9
 clear h9
 simp only [Bool.and_eq_true,decide_eq_true_eq,Bool.not_eq_true'] at h
 obtain ⟨⟨⟨⟨h1,h2⟩,h3⟩,h4⟩,h5⟩:=h
 cases es with
 | nil => cases h3
 | cons x xs =>
  by_cases hb : b = .listEnum
  ·subst hb;cases h5
  ·by_cases hb2 : b = .listRev
   ·subst hb2;cases h5
   have hp : plainBI b = true:=by
    cases b <;> first | rfl | exact absurd rfl hb | exact absurd rfl hb2 | cases h5
   have h6 : okEs T X.N ms sc (x :: xs) = true:=by
    cases b <;> first | exact absurd rfl hb | exact h5 | cases hp
   exact good_plain (se_blt b C h1 (S.glb _ h2) (pa_all C S G h6 h4) h4 hp) rfl
theorem good_mth {f : MT} {a b : M} (ga : Good T cl a) (gb : Good T cl b) : Good T cl (.mth f a b):=by
 intro X sc e C S h
 have ee : evE cl (.mth f a b) = fun ρ => (do let x ← evE cl a ρ;let y ← evE cl b ρ;mthD f x y):=rfl
 rw [ee]
 obtain ⟨o,ap,y,cp,rfl,hl,hb,hn,h9⟩:=mthB_ok h
 simp only [Bool.and_eq_true] at h9
 exact good_plain (se_mth (ga C S h9.1).1 (gb C S h9.2).1 hn hb hl) rfl
theorem good_isin {a : M} {t : Ty} (ga : Good T cl a) : Good T cl (.isin a t):=by
 intro X sc e C S h
 have ee : evE cl (.isin a t) = fun ρ => (do let x ← evE cl a ρ;.ok (.bl (isinD x t))):=rfl
 rw [ee]
 obtain ⟨_,_,es,p,rfl,h9⟩:=callB_ok h
 replace h:=h9
 clear h9
 rcases es with _ | ⟨y,_ | ⟨z,_ | ⟨z2,zs⟩⟩⟩ <;> try (cases h;done)
 obtain ⟨_,_,rfl⟩:=inv_Name (show (isK 23 z && _) = true from h)
 replace h : (decide (_ = ("isinstance" : Str)) && glbB sc _ && okE T X.N a sc y && noStar y && decide (_ = t.nm) && glbB sc _) = true:=h
 simp only [Bool.and_eq_true,decide_eq_true_eq] at h
 obtain ⟨⟨⟨⟨⟨h1,h2⟩,h3⟩,h4⟩,h5⟩,h6⟩:=h
 subst h1 h5
 exact good_plain (se_isin C t (S.glb _ h2) (S.glb _ h6) (ga C S h3).1 h4) rfl
theorem fold_no {iter : Expr} {env : Env} (h : notSet iter = true) : ∀ x,foldedSetIterable iter env x = pure x:=by
 intro x
 cases iter <;> first | rfl | cases h
theorem shape_no {sc : Scope} {k : IK} {tg iter : Expr} (h : shapeB sc k tg iter = true) : notSet iter = true:=by
 cases k
 ·exact h
 ·obtain ⟨_,_,_,_,rfl,_⟩:=callB_ok h
  rfl
 ·obtain ⟨_,_,_,_,rfl,_⟩:=callB_ok h
  rfl
 ·obtain ⟨_,_,_,_,rfl,_⟩:=callB_ok h
  rfl
 ·cases h
theorem comp_eq {elt c : M} {tg : Tg} {k : IK} {src : List M} {hc : Bool} {cap : List Bool} : evE cl (.comp elt tg k src hc c cap) = fun ρ => (do
   let items ← (do let ss ← evEs cl src ρ;itemsOf k ss)
   let ys ← compGo (fun d => do
    let ρ' ← bindT tg d (maskV cap ρ)
    let b ← (if hc then (do let x ← evE cl c ρ';truthD x) else .ok true)
    if b then do let y ← evE cl elt ρ';.ok (some y) else .ok none) items
   if ys.length≤lim then .ok (.lst ys) else .stuck):=funext fun ρ => by
  simp only [qZ]
  cases evEs cl src ρ <;> simp
theorem good_comp {elt c : M} {tg : Tg} {k : IK} {src : List M} {hc : Bool} {cap : List Bool} (ge : Good T cl elt) (gc : Good T cl c) (G : ∀ m∈src,Good T cl m) : Good T cl (.comp elt tg k src hc c cap):=by
 intro X sc e C S h
 rw [comp_eq]
 obtain ⟨elt',gens,scope,p,rfl⟩:=inv_ListComp h
 rcases gens with _ | ⟨⟨tg',iter,ifs,as⟩,_ | ⟨g2,gs⟩⟩ <;> try (cases h;done)
 rw [okE_comp] at h
 simp only [Bool.and_eq_true,decide_eq_true_eq] at h
 obtain ⟨⟨⟨⟨⟨⟨⟨h1,h2⟩,h3⟩,h4⟩,h5⟩,h6⟩,h7⟩,h8⟩:=h
 subst h1
 refine good_plain ?_ rfl
 refine pe_imp (pe_listcomp C.calm (src_all C S G h4 h5) (scB_ok h2 S) (g:=gTg X.K tg) (tt:=tHc X hc (useE c) (evE cl c)) (te:=tM X (useE elt) (evE cl elt)) (fun s₃ H₃ fp xe => ?_) (fold_no (shape_no h4))) fun σ H Q hq => ?_
 ·have S' : ScRel scope (blkCx X scope s₃ H₃ fp xe):=scRel_blk S
  have C':=C.blk scope s₃ H₃ fp xe
  refine ⟨pg_tg C' S' h3,?_,(ge C' S' h7).1⟩
  cases hc with
  | true =>
   rcases ifs with _ | ⟨i1,_ | ⟨i2,is⟩⟩ <;> try (cases h6;done)
   exact pts_one (gc C' S' h6).2
  | false =>
   rcases ifs with _ | ⟨i1,is⟩ <;> try (cases h6;done)
   exact pts_nil
 ·exact comp_read h3 h8 (tM_f hq)
theorem good : ∀ m : M,Good T cl m
 | .var i => good_var
 | .con d => good_con
 | .tup ms => good_tup fun m hm => good m
 | .lst ms => good_lst fun m hm => good m
 | .dct0 => fun C S h => (by cases h)
 | .bin o a b => good_bin (good a) (good b)
 | .cmp o a b => good_cmp (good a) (good b)
 | .chain o o' a b c => good_chain (good a) (good b) (good c)
 | .and ms => good_and fun m hm => good m
 | .or ms => good_or fun m hm => good m
 | .not a => good_not (good a)
 | .neg a => fun C S h => (by cases h)
 | .ite c a b => fun C S h => (by cases h)
 | .ix a b => good_ix (good a) (good b)
 | .slc a l h => fun C S h => (by cases h)
 | .dget a k d => fun C S h => (by cases h)
 | .mth f a b => good_mth (good a) (good b)
 | .fmt s a b => fun C S h => (by cases h)
 | .call f ms => good_call fun m hm => good m
 | .blt b ms => good_blt fun m hm => good m
 | .isin a t => good_isin (good a)
 | .comp elt tg k src hc c cap => good_comp (good elt) (good c) fun m hm => good m
termination_by m => sizeOf m
decreasing_by
 all_goals simp_wf
 all_goals first | omega | (have:=List.sizeOf_lt_of_mem hm;omega)
end
end Mi
namespace Mi
open PySem L2
open PyProof.Rows hiding St
noncomputable def noComp : Expr→Bool
 | .ListComp .. => false | .SetComp .. => false | .DictComp .. => false | _ => true
noncomputable def isCompM : M→Bool
 | .comp .. => true | _ => false
noncomputable def methB (st : Stmt) (f : Str→Str→Expr→Bool→Bool) : Bool:=isS 24 st && match st with
 | .Expr e _ => isK 16 e && (match e with
  | .Call g es ks cp => isK 20 g && (match g with
   | .Attribute o m ap => isK 23 o && (match o,es,ks with | .Name x _,[v],[] => f x m v (ap.endLine == cp.line) | _,_,_ => false)
   | _ => false)
  | _ => false)
 | _ => false
theorem methB_ok {st : Stmt} {f : Str→Str→Expr→Bool→Bool} (h : methB st f = true) : ∃ x p m ap v cp q,st = .Expr (.Call (.Attribute (.Name x p) m ap) [v] [] cp) q∧f x m v (ap.endLine == cp.line) = true:=by
 obtain ⟨e,q,rfl⟩:=inv_Expr h
 obtain ⟨g,es,ks,cp,rfl⟩:=inv_Call (show (isK 16 e && _) = true from h)
 obtain ⟨o,m,ap,rfl⟩:=inv_Attribute (show (isK 20 g && _) = true from h)
 obtain ⟨x,p,rfl⟩:=inv_Name (show (isK 23 o && _) = true from h)
 rcases es with _ | ⟨v,_ | ⟨v2,es⟩⟩ <;> try (cases h;done)
 rcases ks with _ | ⟨k,ks⟩ <;> try (cases h;done)
 exact ⟨x,p,m,ap,v,cp,q,rfl,h⟩
noncomputable def itemB (st : Stmt) (f : Str→Expr→Expr→Bool) : Bool:=isS 5 st && match st with
 | .Assign ts v _ => (match ts with
  | [tg] => isK 21 tg && (match tg with | .Subscript o k _ => isK 23 o && (match o with | .Name x _ => f x k v | _ => false) | _ => false)
  | _ => false)
 | _ => false
noncomputable def tupOk : Tg→Expr→Bool
 | .one _,_ => true
 | _,v => !isTupE v
mutual
noncomputable def okS (T : Tx) (N : List Str) (sc : Scope) : MS→Stmt→Bool
 | .set t e,st => isS 5 st && match st with | .Assign [tg] v _ => tgB N sc t tg && okE T N e sc v && (noComp v || isCompM e) && tupOk t v | _ => false
 | .app _ _,_ => false
 | .ext i e, st => methB st fun x m v b => visB sc x && okName x && decide (N[i]? = some x) && decide (m = "extend") && okE T N e sc v && noStar v && b
 | .put _ _ _,_ => false
 | .putB _ _ _,_ => false
 | .pop _ _,_ => false
 | .retO _,_ => false
 | .setF _ _ _,_ => false
 | .callm _ _ _,_ => false
 | .expr _,_ => false
 | .ret e,st => isS 3 st && match st with
  | .Return (some v) _ => okE T N e sc v
  | .Return none _ => isNon e
  | _ => false
 | .ifs c a b,st => isS 12 st && match st with | .If c' a' b' _ => okE T N c sc c' && okB T N sc a a' && okB T N sc b b' | _ => false
 | .forr t k src b,st => isS 9 st && match st with | .For tg iter body els _ => els.isEmpty && (tgB N sc t tg && shapeB sc k tg iter && okEs T N src sc (argsOf k iter) && okB T N sc b body) | _ => false
 | .pass,st => isS 25 st && match st with | .Pass _ => true | _ => false
 | .brk,st => isS 26 st && match st with | .Break _ => true | _ => false
 | .cnt,st => isS 27 st && match st with | .Continue _ => true | _ => false
 | .rai,st => match st with | .Raise .. => true | _ => false
 | .chk _ _,_ => false
 | .setB _ _,_ => false
 | .setC _ _,_ => false
noncomputable def okB (T : Tx) (N : List Str) (sc : Scope) : List MS→List Stmt→Bool
 | [],sts => sts.isEmpty
 | m :: ms,sts => match sts with | st :: sts => okS T N sc m st && okB T N sc ms sts | [] => false
end
section
variable {T : Tx} {N : List Str} {sc : Scope} {st : Stmt} {i : Nat} {e k v c : M} {t : Tg} {a b : List MS} {src : List M} {ik : IK} {sts : List Stmt} {m : MS}
theorem okS_set {tg w : Expr} {pos : Pos} : okS T N sc (.set t e) (.Assign [tg] w pos) = (tgB N sc t tg && okE T N e sc w && (noComp w || isCompM e) && tupOk t w):=rfl
theorem okS_ifs {c' : Expr} {a' b' : List Stmt} {pos : Pos} : okS T N sc (.ifs c a b) (.If c' a' b' pos) = (okE T N c sc c' && okB T N sc a a' && okB T N sc b b'):=rfl
theorem okB_nil : okB T N sc [] sts = sts.isEmpty:=rfl
theorem okB_cons : okB T N sc (m :: a) (st :: sts) = (okS T N sc m st && okB T N sc a sts):=rfl
end
section
variable {inv O : List Nat} {i j : Nat} {e k v c : M} {a b : List MS} {t : Tg} {ik : IK} {src : List M} {m : MS}
theorem chkS_ext : chkS inv (.ext i e) O = (if (without O (useE e)).contains i then some (some (without O (useE e))) else none):=rfl
theorem chkS_ifs : chkS inv (.ifs c a b) O = (do
  let x ← chkB inv a O
  let y ← chkB inv b O
  some (meetO x y)):=rfl
theorem chkS_for : chkS inv (.forr t ik src b) O = (do
  let O1:=without (without O (useEs src)) (tgSlots t)
  let x ← chkB O1 b O1
  let O2:=(meetO (some O1) x).getD []
  let y ← chkB O2 b O2
  match y with
  | none => some (some O2)
  | some O3 => if O2.all (fun i => O3.contains i) then some (some O2) else none):=rfl
theorem chkS_brk : chkS inv .brk O = (if inv.all (fun i => O.contains i) then some none else none):=rfl
theorem chkS_cnt : chkS inv .cnt O = (if inv.all (fun i => O.contains i) then some none else none):=rfl
theorem chkB_cons : chkB inv (m :: a) O = (do
  let x ← chkS inv m O
  match x with
  | none => some none
  | some O1 => chkB inv a O1):=rfl
end
noncomputable def EndOk (g : G) (E : Ent) (Es Hs : Hp) (O' : Ow) (inv : List Nat) (D : Ends) : Out→Prop
 | .nx ρ' => ∀ O1,O' = some O1→∀ σ' H' Hs',FR g E Es O1 ρ' σ' H' Hs'→Same Hs Hs'→D.nx σ' H'
 | .rt d => ∀ v H' Hs',Grow E.hp Es H' Hs'→Rp g Hs' d v→D.rt v H'
 | .ro d => ∀ v H' Hs',Grow E.hp Es H' Hs'→Rp g Hs' d v→(∀ a,v = .ref a→E.hp a = none)→D.rt v H'
 | .bk ρ' => ∀ σ' H' Hs',FR g E Es inv ρ' σ' H' Hs'→Same Hs Hs'→D.bk σ' H'
 | .ct ρ' => ∀ σ' H' Hs',FR g E Es inv ρ' σ' H' Hs'→Same Hs Hs'→D.ct σ' H'
theorem EndOk.mono {g : G} {E : Ent} {Es Hs Hs1 : Hp} {O' : Ow} {inv : List Nat} {D : Ends} {o : Out} (h : EndOk g E Es Hs O' inv D o) (m : Same Hs Hs1) : EndOk g E Es Hs1 O' inv D o:=by
 cases o with
 | nx ρ => exact fun O1 e σ' H' Hs' F s => h O1 e σ' H' Hs' F (m.trans s)
 | rt d => exact h
 | ro d => exact h
 | bk ρ => exact fun σ' H' Hs' F s => h σ' H' Hs' F (m.trans s)
 | ct ρ => exact fun σ' H' Hs' F s => h σ' H' Hs' F (m.trans s)
noncomputable def tMS (X : Cx) (E : Ent) (Es : Hp) (O : List Nat) (O' : Ow) (inv : List Nat) (run : En→R Out) : TS:=fun D σ H => ∃ ρ Hs o,FR (gOf X) E Es O ρ σ H Hs∧run ρ = .ok o∧EndOk (gOf X) E Es Hs O' inv D o
theorem ps_imp {X : Cx} {st : Stmt} {t t' : TS} (h : PS X st t) (i : ∀ D σ H,t' D σ H→t D σ H) : PS X st t':=fun pins s σ H D I hq => h pins s σ H D I (i D σ H hq)
theorem pss_imp {X : Cx} {st : List Stmt} {t t' : TS} (h : PSs X st t) (i : ∀ D σ H,t' D σ H→t D σ H) : PSs X st t':=fun pins s σ H D I hq => h pins s σ H D I (i D σ H hq)
section
variable {g : G} {E : Ent} {Es : Hp} {O O' : List Nat} {ρ : En} {σ : St} {H Hs H' Hs' : Hp}
theorem FR.vs (F : FR g E Es O ρ σ H Hs) {U : List Nat} (h : ∀ i∈U,i ∉ O) : Vs g ρ σ Hs U:=⟨F.len,fun i hi d e => F.val i d e (h i hi)⟩
theorem FR.pubU (F : FR g E Es O ρ σ H Hs) (U : List Nat) : ∃ Hs',FR g E Es (without O U) ρ σ H Hs'∧Same Hs Hs'∧Vs g ρ σ Hs' U:=by
 obtain ⟨Hs',F',m,_⟩:=FR.pubs U F
 exact ⟨Hs',F',m,F'.vs fun i hi hm => (mem_without.mp hm).2 hi⟩
theorem FR.pubW (F : FR g E Es O ρ σ H Hs) (U : List Nat) : ∃ Hs',FR g E Es (without O U) ρ σ H Hs'∧Same Hs Hs'∧Vs g ρ σ Hs' U∧OnlyM Hs Hs':=by
 obtain ⟨Hs',F',m,w⟩:=FR.pubs U F
 exact ⟨Hs',F',m,F'.vs fun i hi hm => (mem_without.mp hm).2 hi,w⟩
theorem FR.putL : ∀ {l : List (Nat × D × V)} {O : List Nat} {ρ : En} {σ : St},FR g E Es O ρ σ H Hs→(∀ q∈E.pins,q.1 ∉ l.map (·.1))→(∀ p∈l,Rp g Hs p.2.1 p.2.2)→FR g E Es (without O (l.map (·.1))) (putL ρ (l.map fun p => (p.1,p.2.1))) (putL σ (l.map fun p => (p.1,p.2.2))) H Hs
 | [],O,ρ,σ,F,hq,h => F.congrO fun i => by rw [mem_without];simp
 | (i,d,v) :: l,O,ρ,σ,F,hq,h => by
  have F1:=F.setS (i:=i) (fun q hm e => hq q hm (by rw [List.map_cons,e];exact List.mem_cons_self)) (h _ List.mem_cons_self)
  have F2:=FR.putL F1 (fun q hm e => hq q hm (List.mem_cons_of_mem _ e)) fun p hp => h p (List.mem_cons_of_mem _ hp)
  simp only [List.map_cons,Mi.putL]
  refine F2.congrO fun j => ?_
  rw [mem_without,mem_without,mem_without]
  simp
  constructor
  ·rintro ⟨a,b,c⟩;exact ⟨⟨a,b⟩,c⟩
  ·rintro ⟨⟨a,b⟩,c⟩;exact ⟨a,b,c⟩
end
theorem swaps_no {v : Expr} {t : Option Expr} {l : Nat} {env : Env} (h : noComp v = true) : swapsWith v t l env = pure false:=by
 cases v <;> first | rfl | cases h
theorem stores_no {tg v : Expr} {env : Env} {N : List Str} {sc : Scope} {t : Tg} (h : tupOk t v = true) (h1 : tgB N sc t tg = true) : swappedStores [tg] v env = pure none:=by
 cases t with
 | one i =>
  obtain ⟨_,_,rfl,_⟩:=tgB_one h1
  cases v <;> rfl
 | two i j =>
  obtain ⟨_,_,_,_,_,_,rfl,_⟩:=tgB_two h1
  cases v <;> first | (cases h;done) | rfl
theorem assign1 {tg : Expr} {env : Env} {N : List Str} {sc : Scope} {t : Tg} (h : tgB N sc t tg = true) : (assignEach [tg] env).map (·.2) = [assign tg env]:=by
 cases t with
 | one i =>
  obtain ⟨_,_,rfl,_⟩:=tgB_one h
  rfl
 | two i j =>
  obtain ⟨_,_,_,_,_,_,rfl,_⟩:=tgB_two h
  rfl
section
variable {T : Tx} {cl : Nat→List D→R D} {X : Cx} {sc : Scope} {E : Ent} {Es : Hp} {O : List Nat} {inv : List Nat} {pos : Pos}
theorem ss_set {t : Tg} {e : M} {tg v : Expr} (C : Cok T cl X) (S : ScRel sc X) (hq : ∀ q∈E.pins,q.1 ∉ tgSlots t) (h1 : tgB X.N sc t tg = true) (h2 : okE T X.N e sc v = true) (h3 : noComp v = true) (h4 : tupOk t v = true) :
  PS X (.Assign [tg] v pos) (tMS X E Es O (some (without (without O (useE e)) (tgSlots t))) inv (runS cl (.set t e))):=by
 refine ps_imp (ps_asg (good e C S h2).1 (pg_tg C S h1) (swaps_no (t:=some tg) (l:=pos.line) (env:=X.env) h3) (stores_no h4 h1) (assign1 h1)) fun D σ H => ?_
 rintro ⟨ρ,Hs,o,F,h,k⟩
 simp only [qq,qr,qu,qv,qS,qx,qy,qz,qT,wA,wB,wC,qU,qV] at h
 obtain ⟨d,hd,hb⟩:=bind_ok h
 obtain ⟨ρ',hρ,hb2⟩:=bind_ok hb
 clear h hb
 cases hb2
 obtain ⟨Hs1,F1,m1,vs⟩:=F.pubU (useE e)
 refine ⟨ρ,Hs1,d,F1.sub,vs,hd,fun x H1 Hs2 g2 r2 => ?_⟩
 have F2:=F1.grown g2
 refine tg_read (X:=X) g2.sub hρ r2 fun l hl hrl eρ => ?_
 have F3:=F2.putL (by rw [hl];exact hq) hrl
 rw [hl,← eρ] at F3
 exact k _ rfl _ _ _ F3 (m1.trans (g2.same F1.sub))
noncomputable def swB (sc : Scope) (x : Str) (l1 l2 : Nat) (scope : Scope) : Bool:=(sc.names.lookup x == some .local) && l1 == l2 && !(scope.names.any fun (n,k) => n == x && (k == .local || k == .cell))
theorem swaps_is {elt : Expr} {gs : List Comprehension} {scope : Scope} {p p' : Pos} {x : Str} {l : Nat} {env : Env} (hk : env.scope.kind = .function) : swapsWith (.ListComp elt gs scope p) (some (.Name x p')) l env = pure (swB env.scope x p'.line p.line scope):=by
 show (pure (env.blockKind == .function && env.kindOf x == some .local && p'.line == p.line && !(scope.names.any fun (n,k) => n == x && (k == .local || k == .cell))) : Sem Bool) = _
 have hb : env.blockKind = .function:=by unfold Env.blockKind;rw [hk];rfl
 rw [hb]
 rfl
theorem ss_compG {t : Tg} {elt c : M} {tg' : Tg} {k : IK} {src : List M} {hc : Bool} {cap : List Bool} {tg v : Expr} {TSx : TS} (C : Cok T cl X) (S : ScRel sc X) (h1 : tgB X.N sc t tg = true) (h2 : okE T X.N (.comp elt tg' k src hc c cap) sc v = true) (h4 : tupOk t v = true)
  (read : ∀ D σ H,TSx D σ H→tAsg (tMf X (useE (.comp elt tg' k src hc c cap)) (evE cl (.comp elt tg' k src hc c cap))) (gTg X.K t) D σ H) : PS X (.Assign [tg] v pos) TSx:=by
 have h2':=h2
 obtain ⟨elt',gens,scope,p,rfl⟩:=inv_ListComp h2'
 rcases gens with _ | ⟨⟨tgx,iter,ifs,as⟩,_ | ⟨g2,gs⟩⟩ <;> try (cases h2';done)
 rw [okE_comp] at h2'
 simp only [Bool.and_eq_true,decide_eq_true_eq] at h2'
 obtain ⟨⟨⟨⟨⟨⟨⟨q1,q2⟩,q3⟩,q4⟩,q5⟩,q6⟩,q7⟩,q8⟩:=h2'
 subst q1
 have blk : ∀ s₃ H₃ fp xe,PG (blkCx X scope s₃ H₃ fp xe) tgx (gTg X.K tg')∧PTs (blkCx X scope s₃ H₃ fp xe) ifs (tHc X hc (useE c) (evE cl c))∧PE (blkCx X scope s₃ H₃ fp xe) elt' (tM X (useE elt) (evE cl elt)):=fun s₃ H₃ fp xe => by
  have S' : ScRel scope (blkCx X scope s₃ H₃ fp xe):=scRel_blk S
  have C':=C.blk scope s₃ H₃ fp xe
  refine ⟨pg_tg C' S' q3,?_,(good elt C' S' q7).1⟩
  cases hc with
  | true =>
   rcases ifs with _ | ⟨i1,_ | ⟨i2,is⟩⟩ <;> try (cases q6;done)
   exact pts_one (good c C' S' q6).2
  | false =>
   rcases ifs with _ | ⟨i1,is⟩ <;> try (cases q6;done)
   exact pts_nil
 have rd : ∀ σ H (Q : VK),tMf X (useE (.comp elt tg' k src hc c cap)) (evE cl (.comp elt tg' k src hc c cap)) σ H Q→tComp (tI X (useEs src) fun ρ => do let ss ← evEs cl src ρ;itemsOf k ss) (gTg X.K tg') (tHc X hc (useE c) (evE cl c)) (tM X (useE elt) (evE cl elt)) (maskV (keepOf X.N scope)) σ H Q:=fun σ H Q h => by
  rw [comp_eq] at h
  exact comp_read q3 q8 h
 have hE : PE X (.ListComp elt' [⟨tgx,iter,ifs,0⟩] scope p) (tMf X (useE (.comp elt tg' k src hc c cap)) (evE cl (.comp elt tg' k src hc c cap))) :=
  pe_imp (pe_listcomp C.calm (src_all C S (fun m _ => good m) q4 q5) (scB_ok q2 S) blk (fold_no (shape_no q4))) rd
 cases t with
 | two i j =>
  have hno : ∀ l env,swapsWith (.ListComp elt' [⟨tgx,iter,ifs,0⟩] scope p) (some tg) l env = pure false:=fun l env => by
   obtain ⟨_,_,_,_,_,_,rfl,_⟩:=tgB_two h1
   rfl
  exact ps_imp (ps_asg hE (pg_tg C S h1) (hno pos.line X.env) (stores_no h4 h1) (assign1 h1)) read
 | one i =>
  have h1':=h1
  clear h1
  obtain ⟨x,p',rfl,h1⟩:=tgB_one h1'
  obtain ⟨l1,l2⟩:=S.own _ h1.1
  cases hsw : swB X.env.scope x p'.line p.line scope with
  | false =>
   intro pins s σ H D I h
   have e0 : swapsWithSole [.Name x p'] (.ListComp elt' [⟨tgx,iter,ifs,0⟩] scope p) pos.line X.env = pure (swB X.env.scope x p'.line p.line scope):=swaps_is (l:=pos.line) I.ok.kind
   exact ps_asg hE (pg_tg C S h1') (by rw [e0,hsw]) (stores_no h4 h1') (assign1 h1') pins s σ H D I (read D σ H h)
  | true =>
   exact ps_imp (ps_compset C.nd h1.2 l1 l2 (fun hk => by rw [swaps_is hk,hsw]) C.calm (src_all C S (fun m _ => good m) q4 q5) (scB_ok q2 S) blk (fold_no (shape_no q4))) fun D σ H h => rd _ _ _ (read D σ H h)
theorem ss_comp {t : Tg} {elt c : M} {tg' : Tg} {k : IK} {src : List M} {hc : Bool} {cap : List Bool} {tg v : Expr} (C : Cok T cl X) (S : ScRel sc X) (hq : ∀ q∈E.pins,q.1 ∉ tgSlots t) (h1 : tgB X.N sc t tg = true) (h2 : okE T X.N (.comp elt tg' k src hc c cap) sc v = true) (h4 : tupOk t v = true) :
  PS X (.Assign [tg] v pos) (tMS X E Es O (some (without (without O (useE (.comp elt tg' k src hc c cap))) (tgSlots t))) inv (runS cl (.set t (.comp elt tg' k src hc c cap)))):=by
 refine ss_compG C S h1 h2 h4 fun D σ H => ?_
 rintro ⟨ρ,Hs,o,F,h,kk⟩
 simp only [qq,qr,qu,qv,qS,qx,qy,qz,qT,wA,wB,wC,qU,qV] at h
 obtain ⟨d,hd,hb⟩:=bind_ok h
 obtain ⟨ρ',hρ,hb2⟩:=bind_ok hb
 clear h hb
 cases hb2
 obtain ⟨Hs1,F1,m1,vs⟩:=F.pubU (useE (.comp elt tg' k src hc c cap))
 refine ⟨ρ,Hs1,d,F1.sub,vs,hd,fun x H1 Hs2 g2 r2 _ => ?_⟩
 have F2:=F1.grown g2
 refine tg_read (X:=X) g2.sub hρ r2 fun l hl hrl eρ => ?_
 have F3:=F2.putL (by rw [hl];exact hq) hrl
 rw [hl,← eρ] at F3
 exact kk _ rfl _ _ _ F3 (m1.trans (g2.same F1.sub))
theorem ss_setL {i : Nat} {ms : List M} {tg v : Expr} (C : Cok T cl X) (S : ScRel sc X) (hq : ∀ q∈E.pins,q.1≠i) (h1 : tgB X.N sc (.one i) tg = true) (h2 : okE T X.N (.lst ms) sc v = true) (h3 : noComp v = true) (h4 : tupOk (.one i) v = true) :
  PS X (.Assign [tg] v pos) (tMS X E Es O (some (i :: without (without O (useE (.lst ms))) [i])) inv (runS cl (.set (.one i) (.lst ms)))):=by
 obtain ⟨_,_,rfl⟩:=inv_List h2
 rw [okE_lst] at h2
 simp only [Bool.and_eq_true] at h2
 refine ps_imp (ps_asg (pe_lst (pa_all C S (fun m _ => good m) h2.1 h2.2)) (pg_tg C S h1) (swaps_no (t:=some tg) (l:=pos.line) (env:=X.env) h3) (stores_no h4 h1) (assign1 h1)) fun D σ H => ?_
 rintro ⟨ρ,Hs,o,F,h,k⟩
 simp only [qq,wG,wH,wF] at h
 obtain ⟨d,hd,hb⟩:=bind_ok h
 obtain ⟨ρ',hρ,hb2⟩:=bind_ok hb
 clear h hb
 obtain ⟨ds,hds,hd2⟩:=bind_ok hd
 clear hd
 obtain ⟨hlim,hd3⟩:=if_ok hd2
 clear hd2
 cases hd3
 cases hρ
 cases hb2
 obtain ⟨Hs1,F1,m1,vs⟩:=F.pubU (useEs ms)
 refine ⟨ρ,Hs1,ds,F1.sub,vs,hds,fun xs H1 Hs2 g2 r2 => ⟨by rw [← r2.length];exact Nat.le_trans hlim lim_le,fun p hp => ?_⟩⟩
 have F2:=F1.grown g2
 have F3:=F2.setO (i:=i) (d:=.lst ds) (o:=.lst xs) hq hp ⟨xs,upd_same,r2⟩
 exact k _ rfl _ _ _ F3 (m1.trans (g2.same F1.sub))
theorem ss_setA {i : Nat} {ma : M} {ms : List M} {tg v : Expr} (C : Cok T cl X) (S : ScRel sc X) (hq : ∀ q∈E.pins,q.1≠i) (h1 : tgB X.N sc (.one i) tg = true) (h2 : okE T X.N (.bin .add ma (.lst ms)) sc v = true) (h3 : noComp v = true) (h4 : tupOk (.one i) v = true) :
  PS X (.Assign [tg] v pos) (tMS X E Es O (some (i :: without (without O (useE (.bin .add ma (.lst ms)))) [i])) inv (runS cl (.set (.one i) (.bin .add ma (.lst ms))))):=by
 obtain ⟨x,p,y,pp,rfl⟩:=inv_BinOp h2
 rw [okE_bin] at h2
 simp only [Bool.and_eq_true] at h2
 obtain ⟨⟨hb,ha⟩,hc⟩:=h2
 have hop:=boB_eq hb
 subst hop
 refine ps_imp (ps_asg (pe_op (op_catL (X:=X)) (good ma C S ha).1 (good (.lst ms) C S hc).1) (pg_tg C S h1) (swaps_no (t:=some tg) (l:=pos.line) (env:=X.env) h3) (stores_no h4 h1) (assign1 h1)) fun D σ H => ?_
 rintro ⟨ρ,Hs,o,F,h,k⟩
 simp only [qq,wI] at h
 obtain ⟨d,hd,hb1⟩:=bind_ok h
 obtain ⟨ρ',hρ,hb2⟩:=bind_ok hb1
 clear h hb1
 cases hρ
 cases hb2
 obtain ⟨d1,hd1,hd'⟩:=bind_ok hd
 obtain ⟨d2,hd2,hd3⟩:=bind_ok hd'
 clear hd hd'
 have hl2 : ∃ ds2,d2 = .lst ds2:=by
  rw [wG] at hd2
  obtain ⟨ds,_,q⟩:=bind_ok hd2
  obtain ⟨_,q2⟩:=if_ok q
  cases q2
  exact ⟨ds,rfl⟩
 obtain ⟨ds2,rfl⟩:=hl2
 replace hd3 : addD d1 (.lst ds2) = .ok d:=hd3
 cases d1 <;> try (cases hd3;done)
 rename_i ds1
 replace hd3 : (if ds1.length + ds2.length≤lim then R.ok (Mi.D.lst (ds1++ds2)) else .stuck) = .ok d:=hd3
 obtain ⟨hlim,hd4⟩:=if_ok hd3
 cases hd4
 obtain ⟨Hs1,F1,m1,vs⟩:=F.pubU (useE (.bin .add ma (.lst ms)))
 refine ⟨ρ,Hs1,.lst ds1,F1.sub,vs.l,hd1,fun x1 H1 Hs2 g2 r2 => ?_⟩
 refine ⟨ρ,Hs2,.lst ds2,g2.sub,vs.r.mono (g2.same F1.sub),hd2,fun x2 H2 Hs3 g3 r3 => ?_⟩
 have g4:=g2.trans g3
 have F2:=F1.grown g4
 obtain ⟨a1,xs,rfl,s1,rx⟩:=rp_lst.mp (r2.mono (g3.same g2.sub))
 obtain ⟨a2,zs,rfl,s2,rz⟩:=rp_lst.mp r3
 have l1:=rx.length
 have l2:=rz.length
 refine ⟨a1,a2,xs,zs,rfl,rfl,sqL_mono F2.sub s1,sqL_mono F2.sub s2,by have:=lim_le;omega,fun p hp => ?_⟩
 have F3:=F2.setO (i:=i) (d:=.lst (ds1++ds2)) (o:=.lst (xs++zs)) hq hp ⟨xs++zs,upd_same,rx.append rz⟩
 exact k _ rfl _ _ _ F3 (m1.trans (g4.same F1.sub))
theorem ss_setLs {i : Nat} {ms : List M} {tg v : Expr} (C : Cok T cl X) (S : ScRel sc X) (hq : ∀ q∈E.pins,q.1≠i) (h1 : tgB X.N sc (.one i) tg = true) (h2 : okE T X.N (.blt .list ms) sc v = true) (h4 : tupOk (.one i) v = true) :
  PS X (.Assign [tg] v pos) (tMS X E Es O (some (i :: without (without O (useE (.blt .list ms))) [i])) inv (runS cl (.set (.one i) (.blt .list ms)))):=by
 obtain ⟨x,p,es,q,rfl,h9⟩:=callB_ok h2
 simp only [Bool.and_eq_true,decide_eq_true_eq,Bool.not_eq_true'] at h9
 obtain ⟨⟨⟨⟨a1,a2⟩,a3⟩,a4⟩,a5⟩:=h9
 subst a1
 rcases es with _ | ⟨y,ys⟩
 ·cases a3
 have a6 : okEs T X.N ms sc (y :: ys) = true:=a5
 have pa:=pa_all C S (fun m _ => good m) a6 a4
 have a7:=a4
 simp only [List.all_cons,Bool.and_eq_true] at a7
 refine ps_imp (ps_asg (pe_callTy call_list_of (S.glb _ a2) (C.blt _ (by decide +kernel)) boot_list' pa (by decide +kernel) (by decide +kernel) (star_cons a7.1) (star_any a7.2)) (pg_tg C S h1) rfl (stores_no h4 h1) (assign1 h1)) fun D σ H => ?_
 rintro ⟨ρ,Hs,o,F,h,k⟩
 simp only [qq,wP] at h
 obtain ⟨d,hd,hb⟩:=bind_ok h
 obtain ⟨ρ',hρ,hb2⟩:=bind_ok hb
 clear h hb
 obtain ⟨ds,hds,hd2⟩:=bind_ok hd
 clear hd
 cases hρ
 cases hb2
 obtain ⟨Hs1,F1,m1,vs⟩:=F.pubU (useEs ms)
 refine ⟨ρ,Hs1,ds,F1.sub,vs,hds,fun xs H1 Hs2 g2 r2 => ?_⟩
 have F2:=F1.grown g2
 rcases ds with _ | ⟨d0,_ | ⟨d1,ds⟩⟩
 ·cases hd2
 ·obtain ⟨v,rfl,r3⟩:=one_inv r2
  cases d0 <;> try (cases hd2;done)
  ·cases hd2
   obtain ⟨a,zs,rfl,s1,r4⟩:=rp_tup.mp r3
   refine ⟨a,zs,rfl,.inr (sqT_mono g2.sub s1),fun p hp => ?_⟩
   exact k _ rfl _ _ _ (F2.setO (i:=i) (o:=.lst zs) hq hp ⟨zs,upd_same,r4⟩) (m1.trans (g2.same F1.sub))
  ·cases hd2
   obtain ⟨a,zs,rfl,s1,r4⟩:=rp_lst.mp r3
   refine ⟨a,zs,rfl,.inl (sqL_mono g2.sub s1),fun p hp => ?_⟩
   exact k _ rfl _ _ _ (F2.setO (i:=i) (o:=.lst zs) hq hp ⟨zs,upd_same,r4⟩) (m1.trans (g2.same F1.sub))
 ·cases d0 <;> cases hd2
theorem getE_ok {ρ : En} {i : Nat} {d : D} (h : getE ρ i = .ok d) : ρ[i]? = some (some d):=by
 unfold getE at h
 split at h
 ·cases h;assumption
 ·cases h
theorem ss_ext {i : Nat} {e : M} {x : Str} {v : Expr} {p ap cp : Pos} (C : Cok T cl X) (S : ScRel sc X) (hv : visB sc x = true) (ho : okName x = true) (hN : X.N[i]? = some x) (h2 : okE T X.N e sc v = true) (hn : noStar v = true) (hl : (ap.endLine == cp.line) = true)
  (hi : i ∈ without O (useE e)) : PS X (.Expr (.Call (.Attribute (.Name x p) "extend" ap) [v] [] cp) pos) (tMS X E Es O (some (without O (useE e))) inv (runS cl (.ext i e))):=by
 unfold okName at ho
 simp only [Bool.and_eq_true,Bool.not_eq_true'] at ho
 refine ps_imp (ps_expr (pe_bm PySem.F.plainAttrs_list PySem.F.slot_list_extend PySem.F.type_list_extend mt_extL (pe_var hN (S.vis _ hv) ho.1.1 ho.1.2) (pa_cons (good e C S h2).1 pa_nil (star_cons hn)) rfl (by rw [star_cons hn];rfl) hl (star_cons hn) rfl) rfl) fun D σ H => ?_
 rintro ⟨ρ,Hs,o,F,h,k⟩
 simp only [qq,qr,qu,qv,qS,qx,qy,qz,qT,wA,wB,wC,qU,qV] at h
 obtain ⟨l,hl1,hb⟩:=bind_ok h
 obtain ⟨d,hd,hb1⟩:=bind_ok hb
 obtain ⟨l',hl',hb2⟩:=bind_ok hb1
 clear h hb hb1
 cases hb2
 obtain ⟨Hs1,F1,m1,vs⟩:=F.pubU (useE e)
 have hρ:=getE_ok hl1
 obtain ⟨a,ea,a0,a1,ow⟩:=F1.own i hi l hρ
 cases l <;> try (cases hl';done)
 rename_i ds
 obtain ⟨xs,hxs,rxs⟩:=ow
 refine ⟨.ref a,ea,.inl ⟨rfl,xs,SqL.of hxs⟩,ρ,Hs1,d,F1.sub,vs,hd,fun y H1 Hs2 g2 r2 => ?_⟩
 have F2:=F1.grown g2
 have hl:=rxs.length
 cases d <;> try (cases hl';done)
 ·simp only [extD] at hl'
  obtain ⟨hlt,hl2⟩:=if_ok hl'
  clear hl'
  cases hl2
  obtain ⟨b,zs,rfl,s1,rz⟩:=rp_tup.mp r2
  have hz:=rz.length
  refine ⟨a,b,xs,zs,rfl,rfl,g2.keep a _ hxs,.inr (sqT_mono g2.sub s1),by omega,?_⟩
  have F3:=F2.mut (o:=.lst (xs++zs)) (d':=.lst (ds++_)) hi hρ ea ⟨_,upd_same,(rxs.mono (g2.same F1.sub)).append rz⟩
  exact k _ rfl _ _ _ F3 (m1.trans (g2.same F1.sub))
 ·simp only [extD] at hl'
  obtain ⟨hlt,hl2⟩:=if_ok hl'
  clear hl'
  cases hl2
  obtain ⟨b,zs,rfl,s1,rz⟩:=rp_lst.mp r2
  have hz:=rz.length
  refine ⟨a,b,xs,zs,rfl,rfl,g2.keep a _ hxs,.inl (sqL_mono g2.sub s1),by omega,?_⟩
  have F3:=F2.mut (o:=.lst (xs++zs)) (d':=.lst (ds++_)) hi hρ ea ⟨_,upd_same,(rxs.mono (g2.same F1.sub)).append rz⟩
  exact k _ rfl _ _ _ F3 (m1.trans (g2.same F1.sub))
theorem ss_ret {e : M} {v : Expr} (C : Cok T cl X) (S : ScRel sc X) (h2 : okE T X.N e sc v = true) : PS X (.Return (some v) pos) (tMS X E Es O none inv (runS cl (.ret e))):=by
 refine ps_imp (ps_ret (good e C S h2).1) fun D σ H => ?_
 rintro ⟨ρ,Hs,o,F,h,k⟩
 simp only [qq,qr,qu,qv,qS,qx,qy,qz,qT,wA,wB,wC,qU,qV] at h
 obtain ⟨d,hd,hb⟩:=bind_ok h
 clear h
 cases hb
 obtain ⟨Hs1,F1,m1,vs⟩:=F.pubU (useE e)
 exact ⟨ρ,Hs1,d,F1.sub,vs,hd,fun y H1 Hs2 g2 r2 => k y H1 Hs2 (F1.grow.trans g2) r2⟩
theorem ss_retN {e : M} (h2 : isNon e = true) : PS X (.Return none pos) (tMS X E Es O none inv (runS cl (.ret e))):=by
 refine ps_imp ps_retN fun D σ H => ?_
 rintro ⟨ρ,Hs,o,F,h,k⟩
 cases e <;> try (cases h2;done)
 rename_i d
 cases d <;> try (cases h2;done)
 simp only [qq,qr,qu,qv,qS,qx,qy,qz,qT,wA,wB,wC,qU,qV,wG,wH,wE,wF,qN] at h
 cases h
 exact k .non H Hs F.grow (rp_non.mpr rfl)
end
end Mi
namespace Mi
open PySem L2
open PyProof.Rows hiding St
section
variable {T : Tx} {cl : Nat→List D→R D} {X : Cx} {sc : Scope} {E : Ent} {Es : Hp} {O : List Nat} {inv : List Nat} {pos : Pos}
theorem EndOk.meetL {g : G} {Hs : Hp} {x y : Ow} {D : Ends} {o : Out} (h : EndOk g E Es Hs (meetO x y) inv D o) : EndOk g E Es Hs x inv D o:=by
 cases o with
 | rt d => exact h
 | ro d => exact h
 | bk ρ => exact h
 | ct ρ => exact h
 | nx ρ =>
  intro O1 e σ' H' Hs' F s
  subst e
  cases y with
  | none => exact h O1 rfl σ' H' Hs' F s
  | some b =>
   obtain ⟨Hs2,F2,m⟩:=F.fewer (O':=O1.filter fun i => b.contains i) fun i hi => (List.mem_filter.mp hi).1
   exact h _ rfl σ' H' Hs2 F2 (s.trans m)
theorem EndOk.meetR {g : G} {Hs : Hp} {x y : Ow} {D : Ends} {o : Out} (h : EndOk g E Es Hs (meetO x y) inv D o) : EndOk g E Es Hs y inv D o:=by
 cases o with
 | rt d => exact h
 | ro d => exact h
 | bk ρ => exact h
 | ct ρ => exact h
 | nx ρ =>
  intro O1 e σ' H' Hs' F s
  subst e
  cases x with
  | none => exact h O1 rfl σ' H' Hs' F s
  | some b =>
   obtain ⟨Hs2,F2,m⟩:=F.fewer (O':=b.filter fun i => O1.contains i) fun i hi => by
    have:=(List.mem_filter.mp hi).2
    simpa using this
   exact h _ rfl σ' H' Hs2 F2 (s.trans m)
theorem ss_if {c : M} {a b : List MS} {c' : Expr} {a' b' : List Stmt} {x y : Ow} (C : Cok T cl X) (S : ScRel sc X) (h1 : okE T X.N c sc c' = true) (ha : PSs X a' (tMS X E Es O x inv (runB cl a))) (hb : PSs X b' (tMS X E Es O y inv (runB cl b))) :
  PS X (.If c' a' b' pos) (tMS X E Es O (meetO x y) inv (runS cl (.ifs c a b))):=by
 refine ps_imp (ps_if (good c C S h1).2 ha hb) fun D σ H => ?_
 rintro ⟨ρ,Hs,o,F,h,k⟩
 simp only [qq,qr,qu,qv,qS,qx,qy,qz,qT,wA,wB,wC,qU,qV] at h
 obtain ⟨d,hd,hb⟩:=bind_ok h
 obtain ⟨t,ht,hb2⟩:=bind_ok hb
 clear h hb
 cases truthD_ok ht
 obtain ⟨Hs1,F1,m1,vs,w1⟩:=F.pubW (useE c)
 refine ⟨ρ,Hs1,t,F1.sub,vs,hd,fun H1 Hs2 g2 => ?_⟩
 obtain ⟨Hs3,g3,_,_⟩:=unpub F.sub w1 g2
 have m2:=g3.same F.sub
 cases t with
 | true => (try dsimp only);rw [if_pos rfl];rw [if_pos rfl] at hb2;exact ⟨ρ,Hs3,o,F.grown g3,hb2,k.meetL.mono m2⟩
 | false => (try dsimp only);rw [if_neg (by decide)];rw [if_neg (by decide)] at hb2;exact ⟨ρ,Hs3,o,F.grown g3,hb2,k.meetR.mono m2⟩
theorem for_src {g : G} {J : It} {Hs0 : Hp} {ds : List D} {gt : TG} {tb : TS} {D : Ends} {σ : St} {H : Hp} (src : Src g J Hs0 ds) (Pv : Nat→St→Hp→Prop) (h0 : Pv 0 σ H) (hsame : ∀ i σ H,Pv i σ H→Same Hs0 H)
  (step : ∀ i d x σ H H',ds[i]? = some d→Pv i σ H→J.yld i H x H'→gt x σ H' fun σ2 H2 => tb { D with nx:=Pv (i + 1),ct:=Pv (i + 1),bk:=D.nx } σ2 H2) (hd : ∀ σ H,Pv ds.length σ H→D.nx σ H) :
  ∃ W : Nat→Nat→St→Hp→Prop,(∃ m,W 0 m σ H)∧∀ i m σ H,W i m σ H →
   (J.stop i H∧D.nx σ H)∨(J.go i H∧∃ N : St→Hp→Prop,(∀ σ' H',N σ' H'→∃ m',m' < m∧W (i + 1) m' σ' H')∧∀ x H',J.yld i H x H'→gt x σ H' fun σ2 H2 => tb { D with nx:=N,ct:=N,bk:=D.nx } σ2 H2):=by
 refine ⟨fun i m σ H => m = ds.length - i∧i≤ds.length∧Pv i σ H,⟨ds.length,by simp,Nat.zero_le _,h0⟩,?_⟩
 rintro i m σ H ⟨rfl,hi,p⟩
 by_cases hlt : i < ds.length
 ·refine .inr ⟨src.go i H (hsame i σ H p) hlt,Pv (i + 1),fun σ' H' p' => ⟨ds.length - (i + 1),by omega,rfl,hlt,p'⟩,fun x H' y => ?_⟩
  exact step i ds[i] x σ H H' (by simp [hlt]) p y
 ·have e : i = ds.length:=by omega
  subst e
  exact .inl ⟨src.stop H (hsame _ σ H p),hd σ H p⟩
theorem ss_for {t : Tg} {k : IK} {src : List M} {b : List MS} {tg iter : Expr} {body : List Stmt} {O2 : List Nat} {y : Ow} (C : Cok T cl X) (S : ScRel sc X) (hp : PassesOwn (model X.prog X.w) X.A X.env X.xe) (hq : ∀ q∈E.pins,q.1 ∉ tgSlots t)
  (h1 : tgB X.N sc t tg = true) (h2 : shapeB sc k tg iter = true) (h3 : okEs T X.N src sc (argsOf k iter) = true) (hsub : ∀ i∈O2,i∈without (without O (useEs src)) (tgSlots t)) (hy : ∀ O3,y = some O3→∀ i∈O2,i∈O3)
  (hb : PSs X body (tMS X E Es O2 y O2 (runB cl b))) : PS X (.For tg iter body [] pos) (tMS X E Es O (some O2) inv (runS cl (.forr t k src b))):=by
 refine ps_imp (ps_for hp C.calm (src_all C S (fun m _ => good m) h2 h3) (pg_tg C S h1) hb (fold_no (shape_no h2))) fun D σ H => ?_
 rintro ⟨ρ,Hs,o,F,h,kk⟩
 simp only [qq,qr,qu,qv,qS,qx,qy,qz,qT,wA,wB,wC,qU,qV] at h
 obtain ⟨ss,hss,hb1⟩:=bind_ok h
 obtain ⟨ds,hds,hrun⟩:=bind_ok hb1
 clear h hb1
 obtain ⟨Hs1,F1,m1,vs⟩:=F.pubU (useEs src)
 refine ⟨ρ,Hs1,ds,F1.sub,vs,by simp only [hss,qN];exact hds,fun J H1 Hs2 g2 sr => ?_⟩
 have F2:=F1.grown g2
 obtain ⟨Hs3,F3,m3⟩:=F2.fewer (O':=O2) fun i hi => (mem_without.mp (hsub i hi)).1
 have mm : Same Hs Hs3:=(m1.trans (g2.same F1.sub)).trans m3
 refine for_src sr (fun i σ H => ∃ ρ1 Hs',FR (gOf X) E Es O2 ρ1 σ H Hs'∧Same Hs3 Hs'∧forGo (fun d ρ => do let ρ1 ← bindT t d ρ;runB cl b ρ1) ρ (ds.drop i) ρ1 = .ok o) ⟨ρ,Hs3,F3,Same.refl _,hrun⟩ (fun i σ H ⟨ρ1,Hs',F',s',_⟩ => (m3.trans s').trans F'.sub) ?_ ?_
 ·rintro i d x σ1 H1' H2' hdi ⟨ρ1,Hs',F',s',hgo⟩ hy'
  obtain ⟨hlt,ed⟩:=List.getElem?_eq_some_iff.mp hdi
  rw [List.drop_eq_getElem_cons hlt,ed] at hgo
  unfold forGo at hgo
  obtain ⟨o1,ho1,hgo2⟩:=bind_ok hgo
  clear hgo
  obtain ⟨ρ2,hρ2,hrb⟩:=bind_ok ho1
  clear ho1
  obtain ⟨Hs4,g4,rx⟩:=sr.yld i H1' x H2' Hs' d (m3.trans s') F'.sub hdi hy'
  have F4:=F'.grown g4
  have s4 : Same Hs3 Hs4:=s'.trans (g4.same F'.sub)
  refine tg_read (X:=X) g4.sub hρ2 rx fun l hl hrl eρ => ?_
  have F5:=F4.putL (by rw [hl];exact hq) hrl
  rw [hl,← eρ] at F5
  obtain ⟨Hs6,F6,m6⟩:=F5.fewer (O':=O2) fun j hj => mem_without.mpr ⟨hj,(mem_without.mp (hsub j hj)).2⟩
  refine ⟨ρ2,Hs6,o1,F6,hrb,?_⟩
  have s6 : Same Hs3 Hs6:=s4.trans m6
  cases o1 with
  | nx ρ3 =>
   intro O3 e3 σ' H' Hs7 F7 s7
   obtain ⟨Hs8,F8,m8⟩:=F7.fewer (hy O3 e3)
   exact ⟨likeE ρ ρ3,Hs8,F8.less (likeE_len _ _) fun j d' q => likeE_get q,(s6.trans s7).trans m8,hgo2⟩
  | ct ρ3 =>
   intro σ' H' Hs7 F7 s7
   exact ⟨likeE ρ ρ3,Hs7,F7.less (likeE_len _ _) fun j d' q => likeE_get q,s6.trans s7,hgo2⟩
  | bk ρ3 =>
   intro σ' H' Hs7 F7 s7
   cases hgo2
   exact kk O2 rfl σ' H' Hs7 (F7.less (likeE_len _ _) fun j d' q => likeE_get q) ((mm.trans s6).trans s7)
  | rt d3 =>
   intro v H' Hs7 g7 r7
   cases hgo2
   exact kk v H' Hs7 g7 r7
  | ro d3 =>
   intro v H' Hs7 g7 r7 f7
   cases hgo2
   exact kk v H' Hs7 g7 r7 f7
 ·rintro σ1 H1' ⟨ρ1,Hs',F',s',hgo⟩
  rw [List.drop_length] at hgo
  cases hgo
  exact kk O2 rfl _ _ _ F' (mm.trans s')
noncomputable def GoodS (T : Tx) (cl : Nat→List D→R D) (m : MS) : Prop:=∀ (X : Cx) (sc : Scope) (st : Stmt) (inv O : List Nat) (O' : Ow) (E : Ent) (Es : Hp),(∀ q∈E.pins,q.1 ∉ asgS m)→Cok T cl X→ScRel sc X→PassesOwn (model X.prog X.w) X.A X.env X.xe→okS T X.N sc m st = true→chkS inv m O = some O'→PS X st (tMS X E Es O O' inv (runS cl m))
theorem goodB {T : Tx} {cl : Nat→List D→R D} : ∀ {ms : List MS},(∀ m∈ms,GoodS T cl m)→∀ {X : Cx} {sc : Scope} {sts : List Stmt} {inv O : List Nat} {O' : Ow} {E : Ent} {Es : Hp},(∀ q∈E.pins,q.1 ∉ asgB ms)→Cok T cl X→ScRel sc X→PassesOwn (model X.prog X.w) X.A X.env X.xe→okB T X.N sc ms sts = true→chkB inv ms O = some O'→PSs X sts (tMS X E Es O O' inv (runB cl ms))
 | [],G,X,sc,sts,inv,O,O',E,Es,hq,C,S,hp,h,hc => by
  rw [okB_nil,List.isEmpty_iff] at h
  subst h
  cases hc
  refine pss_imp pss_nil fun D σ H => ?_
  rintro ⟨ρ,Hs,o,F,h,k⟩
  simp only [qp,qO] at h
  cases h
  exact k O rfl σ H Hs F (Same.refl _)
 | m :: ms,G,X,sc,[],inv,O,O',E,Es,hq,C,S,hp,h,hc => by cases h
 | m :: ms,G,X,sc,st :: sts,inv,O,O',E,Es,hq,C,S,hp,h,hc => by
  simp only [okB_cons,Bool.and_eq_true] at h
  rw [chkB_cons] at hc
  cases e1 : chkS inv m O with
  | none => rw [e1] at hc;cases hc
  | some x =>
   rw [e1] at hc
   have h1:=G m List.mem_cons_self X sc st inv O _ E Es (fun q hm z => hq q hm (List.mem_append_left _ z)) C S hp h.1 e1
   cases x with
   | none =>
    have hc' : O' = none:=by
     have : some (none : Ow) = some O':=hc
     cases this;rfl
    subst hc'
    refine pss_imp (pss_cons h1 (pss_never (sts:=sts))) fun D σ H => ?_
    rintro ⟨ρ,Hs,o,F,h,k⟩
    simp only [qp,qO] at h
    obtain ⟨o1,ho1,h2⟩:=bind_ok h
    clear h
    refine ⟨ρ,Hs,o1,F,ho1,?_⟩
    cases o1 with
    | nx ρ' => intro O1 e;cases e
    | rt d => cases h2;exact k
    | ro d => cases h2;exact k
    | bk ρ' => cases h2;exact k
    | ct ρ' => cases h2;exact k
   | some O1 =>
    have h2:=goodB (fun q hq => G q (List.mem_cons_of_mem _ hq)) (E:=E) (Es:=Es) (fun q hm z => hq q hm (List.mem_append_right _ z)) C S hp h.2 (show chkB inv ms O1 = some O' from hc)
    refine pss_imp (pss_cons h1 h2) fun D σ H => ?_
    rintro ⟨ρ,Hs,o,F,h,k⟩
    simp only [qp,qO] at h
    obtain ⟨o1,ho1,h2⟩:=bind_ok h
    clear h
    refine ⟨ρ,Hs,o1,F,ho1,?_⟩
    cases o1 with
    | nx ρ' =>
     intro O2 e σ' H' Hs' F' s'
     cases e
     exact ⟨ρ',Hs',o,F',h2,k.mono s'⟩
    | rt d => cases h2;exact k
    | ro d => cases h2;exact k
    | bk ρ' => cases h2;exact k
    | ct ρ' => cases h2;exact k
theorem goodS {T : Tx} {cl : Nat→List D→R D} : ∀ m : MS,GoodS T cl m
 | .set t e => fun X sc st inv O O' E Es hq C S hp h hc => by
  obtain ⟨tgs,v,p,rfl⟩:=inv_Assign h
  rcases tgs with _ | ⟨tg,_ | ⟨tg2,tgs⟩⟩ <;> try (cases h;done)
  rw [okS_set] at h
  simp only [Bool.and_eq_true,Bool.not_eq_true'] at h
  obtain ⟨⟨⟨h1,h2⟩,h3'⟩,h4⟩:=h
  by_cases hcm : isCompM e = true
  ·cases e <;> try (cases hcm;done)
   cases t with
   | two i j =>
    skip
    cases hc
    exact ss_comp C S hq h1 h2 h4
   | one i =>
    cases hc
    exact ss_comp C S hq h1 h2 h4
  have h3 : noComp v = true:=by
   simp only [Bool.or_eq_true] at h3'
   rcases h3' with z | z
   ·exact z
   ·exact absurd z hcm
  cases t with
  | two i j =>
   skip
   cases hc
   exact ss_set C S hq h1 h2 h3 h4
  | one i =>
   skip
   cases hc
   by_cases hf : freshM e = true
   ·rw [if_pos hf]
    cases e <;> try (cases hf;done)
    ·exact ss_setL C S (fun q hm z => hq q hm (by rw [z];exact List.mem_singleton.mpr rfl)) h1 h2 h3 h4
    ·cases h2
    ·rename_i o a b
     cases o <;> try (cases hf;done)
     cases b <;> try (cases hf;done)
     exact ss_setA C S (fun q hm z => hq q hm (by rw [z];exact List.mem_singleton.mpr rfl)) h1 h2 h3 h4
    ·rename_i b ms
     cases b <;> try (cases hf;done)
     exact ss_setLs C S (fun q hm z => hq q hm (by rw [z];exact List.mem_singleton.mpr rfl)) h1 h2 h4
   ·rw [if_neg hf]
    exact ss_set C S hq h1 h2 h3 h4
 | .app i e => fun X sc st inv O O' E Es hq C S hp h hc => by cases h
 | .ext i e => fun X sc st inv O O' E Es hq C S hp h hc => by
  ·obtain ⟨_,_,_,_,_,_,_,rfl,h9⟩:=methB_ok h
   replace h:=h9
   clear h9
   simp only [Bool.and_eq_true,decide_eq_true_eq] at h
   obtain ⟨⟨⟨⟨⟨⟨h1,h2⟩,h3⟩,h4⟩,h5⟩,h6⟩,h7⟩:=h
   subst h4
   rw [chkS_ext] at hc
   split at hc
   ·rename_i hi
    cases hc
    exact ss_ext C S h1 h2 h3 h5 h6 h7 (by simpa using hi)
   ·cases hc
 | .put i k v => fun X sc st inv O O' E Es hq C S hp h hc => by cases h
 | .putB i k v => fun X sc st inv O O' E Es hq C S hp h hc => by cases h
 | .pop i e => fun X sc st inv O O' E Es hq C S hp h hc => by cases h
 | .retO i => fun X sc st inv O O' E Es hq C S hp h hc => by cases h
 | .setF i f es => fun X sc st inv O O' E Es hq C S hp h hc => by cases h
 | .callm i f e => fun X sc st inv O O' E Es hq C S hp h hc => by cases h
 | .expr e => fun X sc st inv O O' E Es hq C S hp h hc => by cases h
 | .ret e => fun X sc st inv O O' E Es hq C S hp h hc => by
  obtain ⟨v,p,rfl⟩:=inv_Return h
  cases hc
  cases v with
  | none => exact ss_retN h
  | some v => exact ss_ret C S h
 | .ifs c a b => fun X sc st inv O O' E Es hq C S hp h hc => by
  obtain ⟨_,_,_,_,rfl⟩:=inv_If h
  rw [okS_ifs] at h
  simp only [Bool.and_eq_true] at h
  obtain ⟨⟨h1,h2⟩,h3⟩:=h
  rw [chkS_ifs] at hc
  cases e1 : chkB inv a O with
  | none => rw [e1] at hc;cases hc
  | some x =>
   rw [e1] at hc
   cases e2 : chkB inv b O with
   | none => rw [e2] at hc;cases hc
   | some y =>
    rw [e2] at hc
    cases (show some (meetO x y) = some O' from hc)
    exact ss_if C S h1 (goodB (fun m _ => goodS m) (fun q hm z => hq q hm (List.mem_append_left _ z)) C S hp h2 e1) (goodB (fun m _ => goodS m) (fun q hm z => hq q hm (List.mem_append_right _ z)) C S hp h3 e2)
 | .forr t k src b => fun X sc st inv O O' E Es hq C S hp h hc => by
  ·obtain ⟨tg,iter,body,els,p,rfl⟩:=inv_For h
   cases els <;> try (cases h;done)
   replace h : (tgB X.N sc t tg && shapeB sc k tg iter && okEs T X.N src sc (argsOf k iter) && okB T X.N sc b body) = true:=h
   simp only [Bool.and_eq_true] at h
   obtain ⟨⟨⟨h1,h2⟩,h3⟩,h4⟩:=h
   rw [chkS_for] at hc
   dsimp only at hc
   cases e1 : chkB (without (without O (useEs src)) (tgSlots t)) b (without (without O (useEs src)) (tgSlots t)) with
   | none => rw [e1] at hc;cases hc
   | some x =>
    rw [e1] at hc
    simp only [Option.bind_eq_bind,Option.bind_some] at hc
    generalize hO2 : (meetO (some (without (without O (useEs src)) (tgSlots t))) x).getD [] = O2 at hc
    cases e2 : chkB O2 b O2 with
    | none => rw [e2] at hc;cases hc
    | some y =>
     rw [e2] at hc
     simp only [Option.bind_some] at hc
     have hsub : ∀ i∈O2,i∈without (without O (useEs src)) (tgSlots t):=by
      rw [← hO2]
      cases x with
      | none => exact fun i hi => hi
      | some b' => exact fun i hi => (List.mem_filter.mp hi).1
     have hOy : O' = some O2∧∀ O3,y = some O3→∀ i∈O2,i∈O3:=by
      cases y with
      | none => simp only at hc;cases hc;exact ⟨rfl,fun O3 e => by cases e⟩
      | some O3 =>
       simp only at hc
       split at hc
       ·rename_i ha
        cases hc
        refine ⟨rfl,fun O4 e i hi => ?_⟩
        cases e
        have:=List.all_eq_true.mp ha i hi
        simpa using this
       ·cases hc
     obtain ⟨rfl,hy⟩:=hOy
     exact ss_for C S hp (fun q hm z => hq q hm (List.mem_append_left _ z)) h1 h2 h3 hsub hy (goodB (fun m _ => goodS m) (fun q hm z => hq q hm (List.mem_append_right _ z)) C S hp h4 e2)
 | .pass => fun X sc st inv O O' E Es hq C S hp h hc => by
  obtain ⟨_,rfl⟩:=inv_Pass h
  cases hc
  refine ps_imp ps_pass fun D σ H => ?_
  rintro ⟨ρ,Hs,o,F,h,k⟩
  simp only [qq,qr,qu,qv,qS,qx,qy,qz,qT,wA,wB,wC,qU,qV] at h
  cases h
  exact k O rfl σ H Hs F (Same.refl _)
 | .brk => fun X sc st inv O O' E Es hq C S hp h hc => by
  obtain ⟨_,rfl⟩:=inv_Break h
  rw [chkS_brk] at hc
  split at hc
  ·rename_i ha
   cases hc
   refine ps_imp ps_break fun D σ H => ?_
   rintro ⟨ρ,Hs,o,F,h,k⟩
   simp only [qq,qr,qu,qv,qS,qx,qy,qz,qT,wA,wB,wC,qU,qV] at h
   cases h
   obtain ⟨Hs1,F1,m1⟩:=F.fewer (O':=inv) fun i hi => by
    have:=List.all_eq_true.mp ha i hi
    simpa using this
   exact k σ H Hs1 F1 m1
  ·cases hc
 | .cnt => fun X sc st inv O O' E Es hq C S hp h hc => by
  obtain ⟨_,rfl⟩:=inv_Continue h
  rw [chkS_cnt] at hc
  split at hc
  ·rename_i ha
   cases hc
   refine ps_imp ps_continue fun D σ H => ?_
   rintro ⟨ρ,Hs,o,F,h,k⟩
   simp only [qq,qr,qu,qv,qS,qx,qy,qz,qT,wA,wB,wC,qU,qV] at h
   cases h
   obtain ⟨Hs1,F1,m1⟩:=F.fewer (O':=inv) fun i hi => by
    have:=List.all_eq_true.mp ha i hi
    simpa using this
   exact k σ H Hs1 F1 m1
  ·cases hc
 | .chk j e => fun X sc st inv O O' E Es hq C S hp h hc => by cases h
 | .rai => fun X sc st inv O O' E Es hq C S hp h hc => by
  refine ps_imp ps_never fun D σ H => ?_
  rintro ⟨ρ,Hs,o,F,h,k⟩
  simp only [qq,qr,qu,qv,qS,qx,qy,qz,qT,wA,wB,wC,qU,qV] at h
  cases h
 | .setB t e => fun X sc st inv O O' E Es hq C S hp h hc => by cases h
 | .setC t e => fun X sc st inv O O' E Es hq C S hp h hc => by cases h
termination_by m => sizeOf m
decreasing_by
 all_goals simp_wf
 all_goals (have:=List.sizeOf_lt_of_mem ‹_∈_›;omega)
end
end Mi
namespace Mi
open PySem L2
open PyProof.Rows hiding St
noncomputable def scopeB (N ps : List Str) (sc : Scope) : Bool :=
 decide (sc.kind = .function) && !sc.isCoroutine && !sc.isGenerator && decide N.Nodup && decide (N.take ps.length = ps) && (ps.all fun x => ownB sc x) && sc.names.all fun y => decide (y.2≠.free)
theorem scopeB_ok {N ps : List Str} {sc : Scope} (h : scopeB N ps sc = true) : FnScope N ps sc:=by
 unfold scopeB at h
 simp only [Bool.and_eq_true,decide_eq_true_eq,Bool.not_eq_true',List.all_eq_true] at h
 obtain ⟨⟨⟨⟨⟨⟨h1,h2⟩,h3⟩,h4⟩,h5⟩,h6⟩,h7⟩:=h
 exact ⟨h1,h2,h3,h4,h5,fun x hx => ownB_iff (h6 x hx),fun y hy => h7 y hy⟩
noncomputable def defB (T : Tx) (d : Def) (N ps : List Str) (st : Stmt) : Bool :=
 scopeB N ps (defScope st) && decide (d.np = ps.length) && decide (d.nn = N.length) && okB T N (defScope st) d.body (defBody st) && (!d.nrm || (chkB [] d.body []).isSome)
theorem fr_start {g : G} {H Hs : Hp} {ds : List D} {vs : List V} {m k : Nat} (hs : Same Hs H) (r : Rps g Hs ds vs) (e : m = k) : FR g ⟨H,[]⟩ Hs [] (ds.map some++List.replicate m none) (vs.map some++List.replicate k none) H Hs:=by
 subst e
 refine ⟨Grow.refl hs,by simp [r.length],fun i d h _ => ?_,fun i hi => (by cases hi),fun i hi => (by cases hi),fun q hq => by cases hq⟩
 by_cases hi : i < ds.length
 ·rw [List.getElem?_append_left (by simpa using hi),List.getElem?_map] at h
  cases q : ds[i]? with
  | none => rw [q] at h;cases h
  | some d' =>
   rw [q] at h
   cases h
   obtain ⟨v,ev,rv⟩:=r.getD q
   refine ⟨v,?_,rv⟩
   rw [List.getElem?_append_left (by rw [List.length_map,← r.length];exact hi),List.getElem?_map,ev]
   rfl
 ·rw [List.getElem?_append_right (by simpa using hi),List.getElem?_replicate] at h
  split at h <;> cases h
theorem mu_start {g : G} {H Hs : Hp} {d0 d : D} {v0 : V} {a : Addr} {m k : Nat} (hs : Same Hs H) (r : Rp g Hs d0 v0) (hn : Hs a = none) (ow : OwnAt g H Hs a d) (e : m = k) :
  FR g ⟨hole H a,[(1,a)]⟩ Hs [1] ([d0,d].map some++List.replicate m none) ([v0,.ref a].map some++List.replicate k none) H Hs:=by
 subst e
 have rest : ∀ (i : Nat) (x : D),([d0,d].map some++List.replicate m none)[i + 2]?≠some (some x):=fun i x h => by
  rw [List.getElem?_append_right (by simp)] at h
  rw [List.getElem?_replicate] at h
  split at h <;> cases h
 refine ⟨⟨fun b o q => ?_,fun _ _ _ => rfl,hs⟩,by simp,fun i x h hi => ?_,fun i hi x h => ?_,fun i hi j hj hij => ?_,fun q hq => ?_⟩
 ·by_cases hb : b = a
  ·subst hb;have q' : hole H b b = some o:=q;rw [hole_at] at q';cases q'
  ·have q' : hole H a b = some o:=q;rw [hole_ne hb] at q';exact q'
 ·match i,h,hi with
  | 0,h,_ => cases h;exact ⟨v0,rfl,r⟩
  | 1,_,hi => exact absurd (List.mem_singleton.mpr rfl) hi
  | i + 2,h,_ => exact absurd h (rest i x)
 ·have e:=List.mem_singleton.mp hi
  subst e
  cases h
  exact ⟨a,rfl,hole_at,hn,ow⟩
 ·exact absurd ((List.mem_singleton.mp hi).trans (List.mem_singleton.mp hj).symm) hij
 ·rw [List.mem_singleton.mp hq];rfl
section
variable {T : Tx} {tab : List Def} {P : Program} {w : World} {K : PySem.W.Frag} {mg : Str→Option Value} {base : Heap} {n : Nat} {f : Nat} {x : Str} {d : Def} {N ps : List Str} {st : Stmt} {a : Addr} {fd : FuncData}
end
theorem ints_rps {g : G} {H : Hp} : ∀ (ns : List Int),Rps g H (ns.map D.int) (ns.map V.int)
 | [] => Rps.nil
 | n :: ns => Rps.cons (rp_int.mpr rfl) (ints_rps ns)
structure FF (K : PySem.W.Frag) (x : Str) (st : Stmt) : Prop where
 ex : ∃ a fd,PySem.W.nsIn K mainGlobals x = some (some (.ref a))∧Fun K x x st a fd
theorem ff_mk {K : PySem.W.Frag} {x : Str} {st : Stmt} {f : Addr} {oc : Value} {od an : Option Addr} {osl : Array (Option Value)} {kV doc pm cdv ct : Value} (a : PySem.W.nsIn K mainGlobals x = some (some (.ref f)))
  (l : K.lookup f = some ⟨oc,od,.func (PySem.W.fnOf x x (defArgs st) (defBody st) (defScope st) .none kV doc pm an cdv ct),osl⟩) (c : PySem.W.codeIn K cdv x = true) (k : PySem.W.keepIn K (.ref f) = true) : FF K x st :=
 ⟨⟨f,_,a,fun_mk l c k⟩⟩
structure GF (K : PySem.W.Frag) (x : Str) (d : D) : Prop where
 ex : ∃ v,PySem.W.nsIn K mainGlobals x = some (some v)∧GlV d (some v)
theorem gf_mk {K : PySem.W.Frag} {x : Str} {i : Int} {t : Tok} (a : PySem.W.nsIn K mainGlobals x = some (some (.int i t))) : GF K x (.int i):=⟨⟨_,a,t,rfl⟩⟩
theorem gs_mk {K : PySem.W.Frag} {x : Str} {i : Str} {t : Tok} (a : PySem.W.nsIn K mainGlobals x = some (some (.str i t))) : GF K x (.str i):=⟨⟨_,a,t,rfl⟩⟩
theorem us1 {α : Type} {p : List α→Prop} (h : ∀ a,p [a]) : ∀ us : List α,us.length = 1→p us
 | [_],_ => h _
theorem us2 {α : Type} {p : List α→Prop} (h : ∀ a b,p [a,b]) : ∀ us : List α,us.length = 2→p us
 | [_,_],_ => h _ _
theorem us3 {α : Type} {p : List α→Prop} (h : ∀ a b c,p [a,b,c]) : ∀ us : List α,us.length = 3→p us
 | [_,_,_],_ => h _ _ _
theorem us4 {α : Type} {p : List α→Prop} (h : ∀ a b c d,p [a,b,c,d]) : ∀ us : List α,us.length = 4→p us
 | [_,_,_,_],_ => h _ _ _ _
end Mi
namespace Mi
open PySem L2
section
variable {α : Type} {enc : α→D} [DecidableEq α]
end
end Mi
namespace Mi
open PySem L2
theorem wy {α : Type} (enc : α→D) (l : List α) : lenD (.lst (l.map enc)) = .ok (.int l.length):=by simp [lenD]
theorem ix_L {α : Type} {enc : α→D} {l : List α} {i : Nat} {x : α} (h : l[i]? = some x) : ixD (.lst (l.map enc)) (.int (i : Int)) = .ok (enc x):=by
 have hl : i < l.length:=(List.getElem?_eq_some_iff.mp h).1
 simp only [ixD,ixN,List.length_map]
 rw [if_pos (by omega),if_pos (by omega)]
 simp [h]
end Mi
namespace Mi
open PySem L2
theorem qM {α β γ : Type} (x : R α) (f : α→R β) (g : β→R γ) : ((x >>= f) >>= g) = (x >>= fun a => f a >>= g):=by cases x <;> rfl
theorem wz (a b : Int) : cmpD .lt (.int a) (.int b) = .ok (decide (a < b)):=rfl
theorem zA (a b : Int) : cmpD .le (.int a) (.int b) = .ok (decide (a≤b)):=rfl
theorem zB (a b : Int) : cmpD .gt (.int a) (.int b) = .ok (decide (b < a)):=rfl
theorem zC (a b : Int) : cmpD .ge (.int a) (.int b) = .ok (decide (b≤a)):=rfl
theorem zD (a b : D) : cmpD .in_ a b = inD a b:=rfl
theorem qf (a b : D) : cmpD .notin a b = (do let r ← inD a b;.ok (!r)):=rfl
theorem qg (a b : D) : binD .add a b = addD a b:=rfl
theorem wZ (a b : Int) : addD (.int a) (.int b) = .ok (.int (a + b)):=rfl
theorem wo (a b : Int) : binD .sub (.int a) (.int b) = .ok (.int (a - b)):=rfl
theorem mod_I {a b : Int} (h : 0 < b) : binD .mod (.int a) (.int b) = .ok (.int (a % b)):=by
 show (if 0 < b then _ else _) = _
 rw [if_pos h]
theorem qh (d : D) : bltD .len [d] = lenD d:=rfl
theorem qi (a b : Int) : bltD .min2 [.int a,.int b] = .ok (.int (if b < a then b else a)):=rfl
theorem qA (d : D) : bltD .sorted [d] = sortedD d:=rfl
theorem qL (l : List D) : bltD .tuple [.lst l] = .ok (.tup l):=rfl
theorem qj (x : Int) : isinD (.int x) .int = true:=rfl
theorem qk (x : Int) : isinD (.int x) .bool = false:=rfl
theorem ql (x : List D) : isinD (.tup x) .tuple = true:=rfl
theorem qm (x : List D) : isinD (.lst x) .list = true:=rfl
theorem qB (ds : List D) : itemsOf .seq [.lst ds] = .ok ds:=rfl
end Mi
namespace Mi
open PySem L2
end Mi
set_option maxHeartbeats 1000000
namespace L2
open PySem PySem.Spec PyProof.Rows
noncomputable def drop (H : Hp) (c : Addr) : Hp:=fun b => if b = c then none else H b
theorem drop_same {H : Hp} {c : Addr} : drop H c c = none:=if_pos rfl
theorem drop_ne {H : Hp} {b c : Addr} (h : b≠c) : drop H c b = H b:=if_neg h
noncomputable abbrev anyO : HO:=.ext fun _ => True
section
variable {P : Program} {w : World} {H H1 : Hp} {h h1 : Heap} {c : Addr} {o : Obj} {u : HO} {fs : List Addr}
theorem frz_any (e : h.get? c = some o) : ObjOk P w H h c (.frz o anyO):=⟨e,trivial,⟨o,e⟩,fun _ _ _ _ => trivial⟩
theorem HOk.lend (ok : HOk P w H h) (hn : H c = none) (e : h.get? c = some o) : HOk P w (upd H c (.frz o anyO)) h:=fun b u q => by
 by_cases hb : b = c
 ·subst hb;rw [upd_same] at q;cases q;exact frz_any e
 ·rw [upd_ne hb] at q
  exact (ok b u q).stay (fun _ _ _ z => z) (fun d z => by rw [upd_ne (ne_of_none z hn)];exact z) (fun d xs z => by rw [upd_ne (ne_of_none z hn)];exact z) (fun d _ z _ => by rw [upd_ne (ne_of_none z hn)];exact z)
theorem HOk.drop (ok : HOk P w H h) (hf : H c = some (.frz o u)) (hl : ¬ lamO o) : HOk P w (drop H c) h:=fun b v q => by
 have hb : b≠c:=fun z => by subst z;rw [drop_same] at q;cases q
 rw [drop_ne hb] at q
 have ne : ∀ d y,H d = some y→y≠.frz o u→d≠c:=fun d y z n y' => by subst y';rw [hf] at z;cases z;exact n rfl
 exact (ok b v q).stay (fun _ _ _ z => z) (fun d z => by rw [drop_ne (ne d _ z fun y => nomatch y)];exact z) (fun d xs z => by rw [drop_ne (ne d _ z fun y => nomatch y)];exact z) (fun d od z g => by
  rw [drop_ne (ne d _ z fun y => by cases y;exact hl g)];exact z)
theorem un_back (hn : H c = none) (e : h.get? c = some o) (hl : ¬ lamO o) (hfs : c ∉ fs) (x : Un fs [] (upd H c (.frz o anyO)) H1 h h1) (ok : HOk P w H1 h1) : Un fs [] H (drop H1 c) h h1∧HOk P w (drop H1 c) h1:=by
 have f1 : H1 c = some (.frz o anyO):=x.frzs c o anyO upd_same
 have e1 : h1.get? c = some o:=(ok c _ f1).1
 have st : ∀ b u,H b = some u→b≠c:=fun b u q z => by subst z;rw [hn] at q;cases q
 refine ⟨⟨fun b ob q n hb hx => ?_,fun b ob q n hb hx => ?_,fun b ob q n hx => ?_,fun b ob q hx => x.there b ob q hx,fun b xs q => ?_,fun b ob xs q => ?_,fun b ps q => ?_⟩,ok.drop f1 hl⟩
 ·by_cases hbc : b = c
  ·subst hbc;rw [e] at q;cases q;exact e1
  ·exact x.keep b ob q (by rw [upd_ne hbc];exact n) hb hx
 ·have hbc : b≠c:=fun z => hfs (z ▸ hb)
  exact x.slot b ob q (by rw [upd_ne hbc];exact n) hb hx
 ·by_cases hbc : b = c
  ·subst hbc;exact drop_same
  ·rw [drop_ne hbc];exact x.free b ob q (by rw [upd_ne hbc];exact n) hx
 ·rw [drop_ne (st b _ q)];exact x.tups b xs (by rw [upd_ne (st b _ q)];exact q)
 ·rw [drop_ne (st b _ q)];exact x.frzs b ob xs (by rw [upd_ne (st b _ q)];exact q)
 ·rw [drop_ne (st b _ q)];exact x.tbls b ps (by rw [upd_ne (st b _ q)];exact q)
theorem un_forth (hf : H c = some (.frz o anyO)) (e : h.get? c = some o) (hfs : c ∉ fs) (x : Un fs [] (drop H c) H1 h h1) (ok : HOk P w H1 h1) : Un fs [] H (upd H1 c (.frz o anyO)) h h1∧HOk P w (upd H1 c (.frz o anyO)) h1:=by
 have n1 : H1 c = none:=x.free c o e drop_same (by simp)
 have e1 : h1.get? c = some o:=x.keep c o e drop_same hfs (by simp)
 refine ⟨⟨fun b ob q n hb hx => ?_,fun b ob q n hb hx => ?_,fun b ob q n hx => ?_,fun b ob q hx => x.there b ob q hx,fun b xs q => ?_,fun b ob xs q => ?_,fun b ps q => ?_⟩,ok.lend n1 e1⟩
 ·have hbc : b≠c:=fun z => by subst z;rw [hf] at n;cases n
  exact x.keep b ob q (by rw [drop_ne hbc];exact n) hb hx
 ·have hbc : b≠c:=fun z => hfs (z ▸ hb)
  exact x.slot b ob q (by rw [drop_ne hbc];exact n) hb hx
 ·have hbc : b≠c:=fun z => by subst z;rw [hf] at n;cases n
  rw [upd_ne hbc];exact x.free b ob q (by rw [drop_ne hbc];exact n) hx
 ·have hbc : b≠c:=fun z => by subst z;rw [hf] at q;cases q
  rw [upd_ne hbc];exact x.tups b xs (by rw [drop_ne hbc];exact q)
 ·by_cases hbc : b = c
  ·subst hbc;rw [upd_same];rw [hf] at q;exact q
  ·rw [upd_ne hbc];exact x.frzs b ob xs (by rw [drop_ne hbc];exact q)
 ·have hbc : b≠c:=fun z => by subst z;rw [hf] at q;cases q
  obtain ⟨m,z⟩:=x.tbls b ps (by rw [drop_ne hbc];exact q)
  exact ⟨m,by rw [upd_ne hbc];exact z⟩
end
theorem codeAmong_app {p0 p : Pos} {c v : Value} {l : List Value} (h : TriplesOk l) (e : codeAmong p0 (l++[rawInt p.line,rawInt p.col,c]) = some v) : codeAmong p0 l = some v∨v = c:=by
 fun_induction TriplesOk l with
 | case1 =>
  right
  simp only [List.nil_append,rawInt,codeAmong] at e
  split at e
  ·cases e;rfl
  ·cases e
 | case2 a t b u x rest ih =>
  simp only [List.cons_append,codeAmong] at e ⊢
  split at e
  ·rename_i hc
   rw [if_pos hc];exact .inl e
  ·rename_i hc
   rw [if_neg hc];exact ih h e
 | case3 => exact h.elim
section
variable {X : Cx} {pins : List (Addr × Obj)} {σ : St} {H H' : Hp} {s : Shared}
theorem Inv.grew {h2 : Heap} {tk : Nat} {Pt : Addr} {q : Array Value} (I : Inv X pins σ H s) (hP : H Pt = some (.tbl q)) (hx : Heap.ExtBut Pt s.heap h2) (mono : ∀ b o,H b = some o→H' b = some o) (new : ∀ b,H' b≠none→H b = none→s.heap.objs.size≤b) (ok : HOk X.prog X.w H' h2) :
  Inv X pins σ H' { s with heap:=h2,toks:=tk }:=by
 have neP : ∀ b,H b = none→b≠Pt:=fun b n z => by subst z;rw [n] at hP;cases hP
 refine I.step (g':=s.gens) (d':=s.drawn) (ch:=[]) (fun _ z => nomatch z) (fun b o _ _ _ e n => hx b o (neP b n) e) (fun b o _ _ _ e n => ⟨o.slots,hx b o (neP b n) e⟩) (fun b o _ e n => ?_) (fun b o _ e => ?_) (fun b xs e => mono _ _ e) (fun b o u e => mono _ _ e) (fun b ps e => ⟨#[],by rw [mono _ _ e];simp⟩) (fun m hm => hm.extBut hx (neP _ I.free)) ok I.bare
 ·cases z : H' b with
  | none => rfl
  | some u => exact absurd (Nat.lt_of_lt_of_le (Heap.lt_size e) (new b (by rw [z];simp) n)) (Nat.lt_irrefl _)
 ·by_cases hb : b = Pt
  ·subst hb
   obtain ⟨ps,e2,_⟩:=ok b _ (mono _ _ hP)
   exact ⟨_,e2⟩
  ·exact ⟨o,hx b o hb e⟩
theorem lam_eval {params : Arguments} {body : Expr} {scope : Scope} {pos : Pos} {E : Value→Shared→Prop} {Q : Value→Shared→Prop} {cc Pt : Addr} {q : Array Value} {clos : List (Str × Addr)}
  (I : Inv X pins σ H s) (hcl : closureFor scope X.env = pure clos) (hcode : X.env.code = .ref cc) (C : PySem.W.CodeHd s.heap cc Pt) (hP : H Pt = some (.tbl q)) (hdef : defaultsOf params X.env = ([], [])) (hqn : X.env.qual ++ "<lambda>" = lamQ)
  (h : ∀ f c' oc pm ctv h' tk H', Inv X pins σ H' { s with heap:=h', toks:=tk } → (∀ b o, H b = some o → H' b = some o) → (∀ b, H' b ≠ none → H b = none → s.heap.objs.size ≤ b) → H f = none → H' f = some (.frz (PySem.W.kla_obj "<lambda>" lamQ params body scope clos pm c' ctv) anyO) →
   H' c' = some (.frz oc anyO)→lamO oc→(∀ b o,b≠Pt→s.heap.get? b = some o→h'.get? b = some o)→Q (.ref f) { s with heap:=h',toks:=tk }) :
  wpAny (model X.prog X.w) X.A (eval (.Lambda params body scope pos) X.env) Q E s:=by
 obtain ⟨ps,hPs,tr,good⟩:=I.hok Pt _ hP
 obtain ⟨bm,ob,b1,b2,b3,b4,b5,b6,b7⟩:=I.mod.bm
 have hg : s.heap.Ns mainGlobals X.mg:=I.mod.glob.keeps I.bk
 have hgP : mainGlobals≠Pt:=fun z => by
  obtain ⟨o,es,ep,e,_⟩:=I.mod.glob
  have:=(I.bs _ _ e).2
  rw [z,hP] at this;cases this
 have hbP : bm≠Pt:=fun z => by
  have:=(I.bs _ _ b4).2
  rw [z,hP] at this;cases this
 have hB : s.heap.BuiltinsAt X.mg Pt:=⟨bm,ob,b1,b2,b3,hbP,I.bk _ _ b4,b5,b6,b7⟩
 refine PySem.W.kla_eval hdef ?_
 rw [hqn]
 cases hca : codeAmong pos ps.toList with
 | none =>
  refine PySem.W.kla_makeFunction (mg:=X.mg) (ps:=ps) hcl I.ok.glob hg hcode C hPs tr hca hgP hB fun c' ctv h' tk hx hge hlt hrec htb => ?_
  obtain ⟨c₂,oc,vs,t,e2,hoc,hd,hv⟩:=hrec
  cases e2
  have nc : H c' = none:=I.hok.fresh hge
  have szle : s.heap.objs.size≤h'.objs.size:=Nat.le_trans hge (Nat.le_of_lt hlt)
  have nf : H h'.objs.size = none:=I.hok.fresh szle
  have hfc : h'.objs.size≠c':=Nat.ne_of_gt hlt
  have hx2 : Heap.ExtBut Pt s.heap (h'.push (PySem.W.kla_obj "<lambda>" lamQ params body scope clos ((X.mg "__name__").getD .none) c' ctv)):=fun b o hb e => Heap.get?_push_of_some _ (hx b o hb e)
  have mono : ∀ b o, H b = some o → upd (upd H c' (.frz oc anyO)) h'.objs.size (.frz (PySem.W.kla_obj "<lambda>" lamQ params body scope clos ((X.mg "__name__").getD .none) c' ctv) anyO) b = some o:=fun b o e => by
   rw [upd_ne (ne_of_none e nf),upd_ne (ne_of_none e nc)];exact e
  have newb : ∀ b, upd (upd H c' (.frz oc anyO)) h'.objs.size (.frz (PySem.W.kla_obj "<lambda>" lamQ params body scope clos ((X.mg "__name__").getD .none) c' ctv) anyO) b ≠ none → H b = none → s.heap.objs.size ≤ b:=fun b n1 n2 => by
   by_cases z : b = h'.objs.size
   ·rw [z];exact szle
   ·rw [upd_ne z] at n1
    by_cases z2 : b = c'
    ·rw [z2];exact hge
    ·rw [upd_ne z2] at n1;exact absurd n2 n1
  have cH : upd (upd H c' (.frz oc anyO)) h'.objs.size (.frz (PySem.W.kla_obj "<lambda>" lamQ params body scope clos ((X.mg "__name__").getD .none) c' ctv) anyO) c' = some (.frz oc anyO):=by rw [upd_ne (Ne.symm hfc), upd_same]
  have okk : HOk X.prog X.w (upd (upd H c' (.frz oc anyO)) h'.objs.size (.frz (PySem.W.kla_obj "<lambda>" lamQ params body scope clos ((X.mg "__name__").getD .none) c' ctv) anyO)) (h'.push (PySem.W.kla_obj "<lambda>" lamQ params body scope clos ((X.mg "__name__").getD .none) c' ctv)):=fun b u e => by
   by_cases z : b = h'.objs.size
   ·subst z
    rw [upd_same] at e;cases e
    exact frz_any (Heap.get?_push_size _ rfl)
   ·by_cases z2 : b = c'
    ·subst z2
     rw [cH] at e;cases e
     exact frz_any (Heap.get?_push_of_some _ hoc)
    ·have e':=e
     rw [upd_ne z,upd_ne z2] at e'
     by_cases z3 : b = Pt
     ·subst z3
      rw [hP] at e';cases e'
      refine ⟨_,Heap.get?_push_of_some _ htb,?_,fun p0 v hv0 => ?_⟩
      ·rw [Array.toList_append];exact TriplesOk_snoc _ _ _ _ tr
      ·rw [Array.toList_append] at hv0
       rcases codeAmong_app tr hv0 with q1 | q1
       ·obtain ⟨d,od,e1,g1,g2⟩:=good p0 v q1
        exact ⟨d,od,e1,mono _ _ g1,g2⟩
       ·exact ⟨c',oc,q1,cH,vs,t,hd,hv⟩
     ·refine (I.hok b u e').stay (fun b2 o2 hb2 q2 => hx2 b2 o2 ?_ q2) (fun d z => mono _ _ z) (fun d xs z => mono _ _ z) (fun d od z _ => mono _ _ z)
      rcases hb2 with rfl | hb2
      ·exact z3
      ·rintro rfl
       rw [hP] at hb2;cases hb2
  exact h h'.objs.size c' oc _ ctv _ tk _ (I.grew hP hx2 mono newb okk) mono newb nf upd_same cH ⟨vs,t,hd,hv⟩ (fun b o hb e => hx2 b o hb e)
 | some v =>
  obtain ⟨c',oc,rfl,g1,g2⟩:=good pos v hca
  refine PySem.W.kla_makeFunctionHit (mg:=X.mg) (ps:=ps) hcl I.ok.glob hg hcode C hPs tr hca hB fun ctv h' tk hk hsz => ?_
  have nf : H h'.objs.size = none:=I.hok.fresh hsz
  have hk2 : ∀ b o, s.heap.get? b = some o → (h'.push (PySem.W.kla_obj "<lambda>" lamQ params body scope clos ((X.mg "__name__").getD .none) c' ctv)).get? b = some o:=fun b o e => Heap.get?_push_of_some _ (hk b o e)
  have mono : ∀ b o, H b = some o → upd H h'.objs.size (.frz (PySem.W.kla_obj "<lambda>" lamQ params body scope clos ((X.mg "__name__").getD .none) c' ctv) anyO) b = some o:=fun b o e => by rw [upd_ne (ne_of_none e nf)]; exact e
  have newb : ∀ b, upd H h'.objs.size (.frz (PySem.W.kla_obj "<lambda>" lamQ params body scope clos ((X.mg "__name__").getD .none) c' ctv) anyO) b ≠ none → H b = none → s.heap.objs.size ≤ b:=fun b n1 n2 => by
   by_cases z : b = h'.objs.size
   ·rw [z];exact hsz
   ·rw [upd_ne z] at n1;exact absurd n2 n1
  exact h h'.objs.size c' oc _ ctv _ tk _ (I.laid hk2 hsz (frz_any (Heap.get?_push_size _ rfl))) mono newb nf upd_same (mono _ _ g1) g2 (fun b o _ e => hk2 b o e)
end
structure LamScope (scope : Scope) (xb xt : Str) : Prop where
 kind : scope.kind = .function
 co : scope.isCoroutine = false
 gen : scope.isGenerator = false
 nocell : ∀ x∈scope.names,x.2≠.cell
 par : scope.names.lookup xt = some .local
 cap : scope.names.lookup xb = some .free
 only : ∀ y,scope.names.lookup y = some .free→y = xb
 ne : xb≠xt
noncomputable def lamCx (P : Program) (w : World) (K : PySem.W.Frag) (mg : Str→Option Value) (base : Heap) (xb xt : Str) (scope : Scope) (f c : Addr) (cdv : Value) (A : Around) (outer : List Env) (s : Shared) (H : Hp) : Cx where
 prog:=P
 w:=w
 K:=K
 mg:=mg
 base:=base
 A:=A.deeper (PySem.W.envX lamQ scope s.heap.objs.size f cdv [(xb,c)])
 N:=[xb,xt]
 s₀:=s
 H₀:=drop H c
 env:=PySem.W.envX lamQ scope s.heap.objs.size f cdv [(xb,c)]
 outer:=outer
 stack:=PySem.W.envX lamQ scope s.heap.objs.size f cdv [(xb,c)] :: outer
 ex:=[]
 calm:=true
 fn:=fun _ => false
 pn:=[]
 xe:=fun _ _ => False
section
variable {P : Program} {w : World} {K : PySem.W.Frag} {mg : Str→Option Value} {base : Heap} {A : Around} {outer : List Env} {s : Shared} {H : Hp} {f c c' : Addr} {params : Arguments} {body : Expr} {scope : Scope} {pm ctv : Value} {oc ocell : Obj} {xb xt : Str} {ub u : Value} {vb vt : V}
theorem clo_run {Q : VK} {E : XK} {t : TE} (e0 : Env0 P w K mg base A outer s H) (hdp : A.depth < recursionLimit) (hh : A.handled = none) (L : LamScope scope xb xt) (hf : H f = some (.frz (PySem.W.kla_obj "<lambda>" lamQ params body scope [(xb, c)] pm c' ctv) anyO)) (hc' : H c' = some (.frz oc anyO)) (hlo : lamO oc)
  (hc : H c = some (.frz ocell anyO)) (hcell : ocell.data = .cell (some ub)) (hbind : bindArgs (PySem.W.kla_fn "<lambda>" lamQ params body scope [(xb, c)] pm (.ref c') ctv) ⟨[u], []⟩ = pure [(xt, u)]) (rb : RelV vb ub) (rt : RelV vt u)
  (hbody : PE (lamCx P w K mg base xb xt scope f c (.ref c') A outer s H) body t) (ht : t [some vb,some vt] (drop H c) fun v H1 => H1 c = none→Q v (upd H1 c (.frz ocell anyO))) :
  codeAny (model P w) A (.call (.ref f) ⟨[u],[]⟩) (CR CX0 outer P w H s Q E) s:=by
 have ef:=(e0.hok f _ hf).1
 have ec':=(e0.hok c' _ hc').1
 have ec:=(e0.hok c _ hc).1
 have hnl : ¬ lamO ocell:=fun ⟨vs,t,z,_⟩ => by rw [hcell] at z;cases z
 have cfr : c ∉ frs outer:=fun z => by rw [e0.frf c z] at hc;cases hc
 have hcd : s.heap.CodeRec (.ref c') lamQ:=by
  obtain ⟨vs,t,h1,h2⟩:=hlo
  exact ⟨c',oc,vs,t,rfl,ec',h1,h2⟩
 have lim : s.heap.NoLimit:=e0.mod.nolimit.keeps fun b o e => (e0.bs b o e).1
 refine PySem.W.kla_callFunE hdp ef rfl L.co L.gen rfl hcd ?_
 rw [hbind]
 refine wpAny_pure (wpAny_newFunctionEnv L.nocell (fun y hy => by cases List.mem_singleton.mp hy;exact L.par) (fun h₁ hns hsb => ⟨lim.fresh _ hsb,?_⟩) L.kind)
 show codeAny _ _ (.expr body (PySem.W.envX lamQ scope s.heap.objs.size f (.ref c') [(xb,c)])) _ _
 have hk₁ : ∀ b o,s.heap.get? b = some o→h₁.get? b = some o:=fun b o e => hsb.extBut b o (Nat.ne_of_lt (Heap.lt_size e)) (Heap.get?_push_of_some _ e)
 have I : Inv (lamCx P w K mg base xb xt scope f c (.ref c') A outer s H) [] [some vb,some vt] (drop H c) { s with heap:=h₁,toks:=s.toks + 1 }:=by
  have noA : ∀ b : Addr,b ∉ (lamCx P w K mg base xb xt scope f c (.ref c') A outer s H).ex:=fun b z => absurd (show b∈([] : List Addr) from z) (by simp)
  have look : ∀ y d,(lamCx P w K mg base xb xt scope f c (.ref c') A outer s H).env.cells.lookup y = some d→y = xb∧d = c:=fun y d h => by
   have h' : (match y == xb with | true => some c | false => none) = some d:=h
   split at h'
   ·rename_i e
    cases h'
    exact ⟨beq_iff_eq.mp e,rfl⟩
   ·cases h'
  have lookc : (lamCx P w K mg base xb xt scope f c (.ref c') A outer s H).env.cells.lookup xb = some c:=by
   show (match xb == xb with | true => some c | false => none) = some c
   rw [beq_self_eq_true]
  have dn : ∀ b,H b = none→drop H c b = none:=fun b n => by
   by_cases z : b = c
   ·rw [z];exact drop_same
   ·rw [drop_ne z];exact n
  refine ⟨⟨e0.mod,L.kind,rfl,rfl,Nat.le_refl _,fun y z d h1 h2 => (look y d h1).1.trans (look z d h2).1.symm,fun y hy => ?_,fun y d z _ => (by cases z),fun _ => hh,Around.frames_deeper e0.frames,.inr ⟨rfl,rfl⟩,fun b z => absurd z (noA b),fun b o e => ⟨(e0.bs b o e).1,dn b (e0.bs b o e).2⟩,e0.bsz,fun b _ _ => noA b,fun b z => absurd z (noA b),e0.funs,fun b hb => dn b (e0.frf b hb),?_⟩,
   rfl,e0.bare,Un.kept hk₁,⟨_,hns,fun i y v h1 h2 h3 => ?_⟩,fun y d h => ?_,(e0.hok.drop hc hnl).fresh (Nat.le_refl _),fun y d h => ?_,fun p hp => absurd (show p∈([] : List (Addr × Obj)) from hp) (by simp),(e0.hok.drop hc hnl).kept hk₁,rfl⟩
  ·have hy : scope.names.lookup y = some .cell∨scope.names.lookup y = some .free:=hy
   rcases hy with hy | hy
   ·exact absurd rfl (L.nocell _ (PySem.mem_of_lookup hy))
   ·exact ⟨c,by rw [L.only y hy];exact lookc⟩
  ·intro a o fd d oc2 vs p e1 e2 e3 e4 e5 e6 e7
   obtain ⟨q,e⟩:=e0.tab a o fd d oc2 vs p e1 e2 e3 e4 e5 e6 e7
   refine ⟨q,?_⟩
   show drop H c p = _
   rw [drop_ne (fun z => by rw [z,hc] at e;cases e)]
   exact e
  ·match i,h1,h2 with
   | 0,h1,h2 =>
    cases h1
    cases h2
    exact ⟨ub,rb,.inr ⟨.inr L.cap,c,lookc,ocell,hk₁ _ _ ec,hcell⟩⟩
   | 1,h1,h2 =>
    cases h1
    cases h2
    refine ⟨u,rt,.inl ⟨L.par,?_⟩⟩
    show (match xt == xt with | true => some u | false => none) = some u
    rw [beq_self_eq_true]
   | i + 2,h1,h2 => cases h1
  ·obtain ⟨_,rfl⟩:=look y d h
   exact ⟨some ub,ocell,hk₁ _ _ ec,hcell⟩
  ·obtain ⟨_,rfl⟩:=look y d h
   exact drop_same
 refine PySem.W.kla_codeExpr (wpAny_mono (hbody [] _ _ _ _ I ht) (fun v s' hq => ?_) fun _ _ z => False.elim z)
 obtain ⟨v',H1,J,rv,q⟩:=hq
 obtain ⟨un,ok⟩:=un_forth hc ec cfr J.base J.hok
 exact ⟨v',_,J.os,J.bare,un,ok,rv,q (J.base.free c ocell ec drop_same (show c ∉ ([] : List Addr) by simp))⟩
end
structure RunAt (P : Program) (w : World) (K : PySem.W.Frag) (mg : Str→Option Value) (base : Heap) (A : Around) (outer : List Env) (f : Addr) (fd : FuncData) (ps : List Str) (sp : Sp) : Prop where
 len : ∀ vs H Q E,sp vs H Q E→vs.length = ps.length
 run : ∀ (s : Shared) (H : Hp) (args : Args) (us : List Value) (vs : List V) (Q : VK) (E : XK),Env0 P w K mg base A outer s H→BindsTo s fd args (ps.zip us)→Vals vs us→sp vs H Q E→codeAny (model P w) A (.call (.ref f) args) (CR CX0 outer P w H s Q E) s
theorem run_of {P : Program} {w : World} {K : PySem.W.Frag} {mg : Str→Option Value} {base : Heap} {A : Around} {outer : List Env} {f : Addr} {name qual : Str} {params : Arguments} {body : List Stmt} {scope : Scope} {dV kV doc pm cdv ct oc : Value} {an od : Option Addr}
  {osl : Array (Option Value)} {N ps : List Str} {sp : Sp} (lk : K.lookup f = some ⟨oc,od,.func (PySem.W.fnOf name qual params body scope dV kV doc pm an cdv ct),osl⟩) (hcd : PySem.W.codeIn K cdv qual = true) (S : FnScope N ps scope) (hdp : A.depth < recursionLimit) (hh : A.handled = none)
  (len : ∀ vs H Q E,sp vs H Q E→vs.length = ps.length)
  (hbody : ∀ (s : Shared) (H : Hp) (vs : List V) (Q : VK) (E : XK),sp vs H Q E →
   ∃ t,PSs (cxOf CX0 P w K mg base N qual scope f cdv A outer s H E) body t∧t { nx:=fun _ H' => Q .non H',rt:=Q } (start N vs) H) :
  RunAt P w K mg base A outer f (PySem.W.fnOf name qual params body scope dV kV doc pm an cdv ct) ps sp:=by
 refine ⟨len,fun s H args us vs Q E e0 hb r hsp => ?_⟩
 have hl:=len _ _ _ _ hsp
 have KX : K.In s.heap:=e0.mod.kin.keeps fun b o e => (e0.bs b o e).1
 have lim : s.heap.NoLimit:=e0.mod.nolimit.keeps fun b o e => (e0.bs b o e).1
 have hkind : ∀ y∈ps.zip us,scope.names.lookup y.1 = some .local∨(scope.names.lookup y.1 = some .cell∧((cellsFrom (s.heap.objs.size + 1) scope.names []).lookup y.1).isSome = true):=fun ⟨n,v⟩ hy => by
  rcases S.par n (List.of_mem_zip hy).1 with q | q
  ·exact .inl q
  ·exact .inr ⟨q,PySem.W.cellsFrom_some _ _ _ (.inl q)⟩
 refine codeAny_call_function hdp (KX _ _ lk) rfl S.co S.gen rfl (PySem.W.codeRec_of KX hcd) (hb _ _ _ _ ?_)
 refine wpAny_newFunctionEnv_cells S.kind hkind fun env he s1 x => ?_
 subst he
 refine ⟨lim.keeps x.toInCall.keep,codeAny_func ?_⟩
 obtain ⟨t,ht,hq⟩:=hbody s H vs Q E hsp
 have I : Inv (cxOf CX0 P w K mg base N qual scope f cdv A outer s H E) [] (start N vs) H s1:=inv_start S hh e0 hl r x
 refine wpAny_mono (ht [] s1 (start N vs) H _ I hq) (fun fl s' hs => ?_) fun e s' hs => hs
 have fin : ∀ {σ' : St} {H' : Hp} {v : V} {u : Value},Inv (cxOf CX0 P w K mg base N qual scope f cdv A outer s H E) [] σ' H' s'→RelV v u→Q v H'→CE outer P w H s Q u s' :=
  fun {σ' H' v u} J rv q => ⟨v,H',J.os,J.bare,J.base,J.hok,rv,q⟩
 cases fl with
 | ret u =>
  obtain ⟨v,σ',H',J,rv,q⟩:=hs
  exact fin J rv q
 | next =>
  obtain ⟨σ',H',J,q⟩:=hs
  exact fin (v:=V.non) (u:=Value.none) J rfl q
 | brk =>
  obtain ⟨_,_,_,q⟩:=hs
  exact False.elim q
 | cont =>
  obtain ⟨_,_,_,q⟩:=hs
  exact False.elim q
section
variable {X : Cx} {pins : List (Addr × Obj)} {σ : St} {H : Hp} {s : Shared} {k : Nat} {fa c : Addr} {fd : FuncData} {ps : List Str} {sp : Sp} {xb : Str} {ocell : Obj} {ub : Value}
noncomputable def tLam (X : Cx) (xb : Str) (params : Arguments) (body : Expr) (scope : Scope) : TE:=fun σ H Q => ∀ f c' oc pm ctv c H', X.env.cells.lookup xb = some c → (∀ b o, H b = some o → H' b = some o) → H f = none → H c = none → H' c = none → H' f = some (.frz (PySem.W.kla_obj "<lambda>" lamQ params body scope [(xb, c)] pm c' ctv) anyO) →
 H' c' = some (.frz oc anyO)→lamO oc→Q (.ref f) H'
theorem pe_lam {params : Arguments} {body : Expr} {scope : Scope} {pos : Pos} {cc Pt : Addr} (hsc : X.env.scope.names.lookup xb = some .cell) (hclo : ∀ c,X.env.cells.lookup xb = some c→closureFor scope X.env = pure [(xb,c)]) (hcode : X.env.code = .ref cc)
  (C : ∀ h : Heap, X.K.In h → PySem.W.CodeHd h cc Pt) (hPt : ∀ H, TabIn X.K X.mg H → ∃ q, H Pt = some (.tbl q)) (hdef : defaultsOf params X.env = ([], [])) (hqn : X.env.qual ++ "<lambda>" = lamQ) :
  PE X (.Lambda params body scope pos) (tLam X xb params body scope):=by
 intro pins s σ H Q I h
 obtain ⟨c,hc⟩:=I.ok.has xb (.inl hsc)
 obtain ⟨q,hP⟩:=hPt H I.env0.tab
 have hn : H c = none:=I.freeC xb c hc
 refine lam_eval I (hclo c hc) hcode (C _ I.kIn) hP hdef hqn fun f c' oc pm ctv h' tk H' J mono newb nf hf hc' hlo _ => ?_
 exact ⟨.ref f,H',J,rfl,h f c' oc pm ctv c H' hc mono nf hn (J.freeC xb c hc) hf hc' hlo⟩
theorem pe_callv {x : Str} {j : Nat} {e : Expr} {ta : TE} {p pos : Pos} {W : Addr → V → Hp → VK → Prop} (hN : X.N[j]? = some x) (hv : Vis X.env.scope x) (hd1 : (x == ("__debug__" : Str)) = false) (hd2 : (x == ("__classdict__" : Str)) = false) (ha : PE X e ta) (hs : starEach [e] X.env = (false, eval e X.env) :: starEach [] X.env)
  (hW : ∀ f pins s σ H v u Q,Inv X pins σ H s→RelV v u→W f v H Q→PySem.W.FnAt f s.heap∧wpAny (model X.prog X.w) X.A (call (.ref f) [u]) (EP X pins σ Q) X.xe s) (hF : ∀ f s H,HOk X.prog X.w H s→(∃ ob,H f = some (.frz ob anyO)∧∃ oc od fd sl,ob = ⟨oc,od,.func fd,sl⟩)→PySem.W.FnAt f s) :
  PE X (.Call (.Name x p) [e] [] pos) (fun σ H Q => ∃ f,σ[j]? = some (some (.ref f))∧(∃ ob,H f = some (.frz ob anyO)∧∃ oc od fd sl,ob = ⟨oc,od,.func fd,sl⟩)∧ta σ H fun v H1 => W f v H1 Q):=by
 intro pins s σ H Q I h
 obtain ⟨f,ef,hf,ht⟩:=h
 refine wpAny_Call_Name_kw (thn (pe_var (pos:=p) hN hv hd1 hd2 pins s σ H (fun v H1 => v = .ref f∧H1 = H) I ⟨.ref f,ef,rfl,rfl⟩) fun fv s0 ⟨v0,H0,I0,r0,e0,eH⟩ => ?_)
 subst e0 eH
 obtain rfl : fv = Value.ref f:=r0
 refine PySem.W.callWith_F (hF f _ _ I0.hok hf) (thn ((pa_cons ha pa_nil hs) pos pins s0 σ H0 (fun vs H1 => match vs with | [v] => W f v H1 Q | _ => False) I0 ht) fun us s1 ⟨vs,H1,I1,r,hw⟩ => ?_) hs rfl
 rcases vs with _ | ⟨v,_ | ⟨v2,vs⟩⟩
 ·exact hw.elim
 ·obtain ⟨u,rfl,ru⟩:=vals1 r
  exact hW f pins s1 σ H1 v u Q I1 ru hw
 ·exact hw.elim
end
end L2
set_option maxHeartbeats 1000000
namespace Mi
open PySem L2
open PyProof.Rows hiding St
noncomputable def lamArgs (p : Pos) : Arguments:={ posonlyargs:=[], args:=[{ arg:="test", annotation:=none, pos:=p }], vararg:=none, kwonlyargs:=[], kw_defaults:=[], kwarg:=none, defaults:=[] }
noncomputable def lamBody (p1 p2 p3 p4 : Pos) : Expr:=.Call (.Name "is_test" p1) [.Name "book" p2, .Name "test" p3] [] p4
noncomputable def lamScope : Scope:={ kind:=.function, names:=[(Str.ofString "test", .local), (Str.ofString "book", .free), (Str.ofString "is_test", .globalImplicit)], isGenerator:=false, isCoroutine:=false, more:=[] }
theorem lam_scope : LamScope lamScope "book" "test":=by
 refine ⟨rfl,rfl,rfl,by decide +kernel,by decide +kernel,by decide +kernel,fun y h => ?_,by decide +kernel⟩
 have h2:=PySem.mem_of_lookup h
 simp only [lamScope,List.mem_cons,List.not_mem_nil,or_false] at h2
 rcases h2 with h2 | h2 | h2
 ·cases h2
 ·cases h2;rfl
 ·cases h2
noncomputable abbrev lamOb (p0 p1 p2 p3 p4 : Pos) (c : Addr) (pm : Value) (c' : Addr) (ctv : Value) : Obj:=PySem.W.kla_obj "<lambda>" lamQ (lamArgs p0) (lamBody p1 p2 p3 p4) lamScope [("book", c)] pm c' ctv
structure CloAt (g : G) (H Hs : Hp) (f : Addr) (b : D) : Prop where
 ex : ∃ p0 p1 p2 p3 p4 c c' oc ocell ub vb pm ctv,H f = some (.frz (lamOb p0 p1 p2 p3 p4 c pm c' ctv) anyO)∧H c' = some (.frz oc anyO)∧lamO oc∧H c = some (.frz ocell anyO)∧ocell.data = .cell (some ub)∧RelV vb ub∧Hs c = none∧Rp g Hs b vb
theorem CloAt.grow {g : G} {H Hs H' Hs' : Hp} {f : Addr} {b : D} (x : CloAt g H Hs f b) (hs : Same Hs H) (w : Grow H Hs H' Hs') : CloAt g H' Hs' f b:=by
 obtain ⟨p0,p1,p2,p3,p4,c,c',oc,ocell,ub,vb,pm,ctv,h1,h2,h3,h4,h5,h6,h7,h8⟩:=x.ex
 exact ⟨p0,p1,p2,p3,p4,c,c',oc,ocell,ub,vb,pm,ctv,w.keep _ _ h1,w.keep _ _ h2,h3,w.keep _ _ h4,h5,h6,(w.old _ _ h4).trans h7,h8.mono (w.same hs)⟩
structure FnsP (T : Tx) (cl : Nat→List D→R D) (P : Program) (w : World) (K : PySem.W.Frag) (mg : Str→Option Value) (base : Heap) (n : Nat) : Prop where
 blt : ∀ f∈bltNames,mg f = none
 gl : ∀ x d,T.gl.lookup x = some d→GlV d (mg x)
 fns : ∀ f x,T.F[f]? = some x→∃ a fd ps,FnOk P w K mg base CX0 n a fd ps (spD ⟨P,w,K⟩ (cl f) ps.length)∧FnOk P w K mg base CX0 n a fd ps (spMu ⟨P,w,K⟩ (cl (1000 + f)) ps.length)∧mg x = some (.ref a)∧PySem.W.keepIn K (.ref a) = true∧Binds K fd ps []∧(∀ ds d,cl f ds = .ok d→ds.length = ps.length)∧(∀ ds d,cl (1000 + f) ds = .ok d→ps.length = 2)∧FnOk P w K mg base CX0 n a fd ps (spF ⟨P,w,K⟩ (cl (2000 + f)) ps.length)∧∀ ds d,cl (2000 + f) ds = .ok d→ds.length = ps.length
section
variable {T : Tx} {cl : Nat→List D→R D} {P : Program} {w : World} {K : PySem.W.Frag} {mg : Str→Option Value} {base : Heap} {n : Nat}
theorem FnsP.cok {X : Cx} (F : FnsP T cl X.prog X.w X.K X.mg X.base n) (hc : X.calm = true) (hnd : X.N.Nodup) (hr : Room n X.A) : Cok T cl X:=by
 refine ⟨hc,hnd,by have:=hr.un;omega,F.blt,F.gl,fun f x hF => ?_⟩
 obtain ⟨a,fd,ps,q1,q2,q3,q4,q5,q6,q7,q8⟩:=F.fns f x hF
 exact ⟨n,a,fd,ps,q1,q2,hr,q3,q4,q5,q6,q7,q8⟩
variable {A : Around} {outer : List Env} {s : Shared} {H : Hp}
theorem screl_lam {f c : Addr} {cdv : Value} : ScRel lamScope (lamCx P w K mg base "book" "test" lamScope f c cdv A outer s H) :=
 ⟨fun y h => glbB_iff h,fun y h => visB_iff h,fun y h => h,fun y h => by
  have h1:=ownB_iff h
  refine ⟨h1,?_⟩
  rcases h1 with e | e
  ·exact .inr e
  ·exact absurd rfl (lam_scope.nocell _ (PySem.mem_of_lookup e))⟩
theorem clo_call {X : Cx} {g : Nat} {Q : VK} {fa : Addr} {pins : List (Addr × Obj)} {σ : St} {v : V} {u : Value} {Hs : Hp} {b d z : D} (F : FnsP T cl X.prog X.w X.K X.mg X.base n) (hT : T.F[g]? = some (Str.ofString "is_test")) (hr : ∀ env, Room n (X.A.deeper env)) (hdp : X.A.depth < recursionLimit) (hh : X.A.handled = none)
  (I : Inv X pins σ H s) (ru : RelV v u) (hs : Same Hs H) (hc : CloAt (gOf X) H Hs fa b) (rd : Rp (gOf X) Hs d v) (hz : cl g [b,d] = .ok z) (k : XD X H Hs Q z) :
  PySem.W.FnAt fa s.heap∧wpAny (model X.prog X.w) X.A (call (.ref fa) [u]) (EP X pins σ Q) X.xe s:=by
 obtain ⟨p0,p1,p2,p3,p4,c,c',oc,ocell,ub,vb,pm,ctv,h1,h2,h3,h4,h5,h6,h7,h8⟩:=hc.ex
 have ef:=(I.hok fa _ h1).1
 refine ⟨⟨_,_,_,_,ef⟩,?_⟩
 have ok : okE T ["book", "test"] (.call g [.var 0, .var 1]) lamScope (lamBody p1 p2 p3 p4) = true:=by
  show (okName "is_test" && glbB lamScope "is_test" && decide (T.F[g]? = some (Str.ofString "is_test")) && okEs T ["book", "test"] [.var 0, .var 1] lamScope [.Name "book" p2, .Name "test" p3] && [Expr.Name "book" p2, .Name "test" p3].all noStar) = true
  rw [decide_eq_true hT]
  rfl
 have C : Cok T cl (lamCx X.prog X.w X.K X.mg X.base "book" "test" lamScope fa c (.ref c') X.A X.stack s H):=FnsP.cok (X:=lamCx X.prog X.w X.K X.mg X.base "book" "test" lamScope fa c (.ref c') X.A X.stack s H) F rfl (show ([("book" : Str), "test"] : List Str).Nodup by decide +kernel) (hr _)
 have hb:=(good (T:=T) (cl:=cl) (.call g [.var 0,.var 1]) C screl_lam ok).1
 have dropS : Same Hs (drop H c):=fun b o e => by
  rw [drop_ne (fun z => by rw [z,h7] at e;cases e)]
  exact hs b o e
 refine wpAny_call (codeAny_mono (clo_run (E:=E0) (vb:=vb) (vt:=v) (Q:=Q) I.env0 hdp hh lam_scope h1 h2 h3 h4 h5 ?_ h6 ru hb ?_) fun r s' hq => ?_)
 ·rfl
 ·refine ⟨[some b,some d],Hs,z,dropS,⟨rfl,fun i hi e he => ?_⟩,?_,fun v' H' Hs' g' r' n' => ?_⟩
  ·match i,he with
   | 0,he => cases he;exact ⟨vb,rfl,h8⟩
   | 1,he => cases he;exact ⟨v,rfl,rd⟩
   | i + 2,he => cases he
  ·show (do let ds ← evEs cl [.var 0,.var 1] [some b,some d];cl g ds) = _
   exact hz
  ·have hs'c : Hs' c = none:=g'.sub.free n'
   refine k v' _ Hs' ⟨fun a o e => ?_,fun a o e => ?_,fun a o e => ?_⟩ r'
   ·by_cases za : a = c
    ·subst za;rw [upd_same];rw [h4] at e;exact e
    ·rw [upd_ne za];exact g'.keep a o (by rw [drop_ne za];exact e)
   ·by_cases za : a = c
    ·subst za;rw [hs'c,h7]
    ·exact g'.old a o (by rw [drop_ne za];exact e)
   ·rw [upd_ne (fun za => by rw [za,hs'c] at e;cases e)]
    exact g'.sub a o e
 ·cases r with
  | error e => exact False.elim hq
  | ok fl =>
   cases fl with
   | ret u => exact I.after hq
   | next => exact False.elim hq
   | brk => exact False.elim hq
   | cont => exact False.elim hq
noncomputable def clN : List Str:=["things", "is_right", "place", "thing"]
noncomputable def clScope : Scope:={ kind:=.function, names:=[(Str.ofString "things", .local), (Str.ofString "is_right", .local), (Str.ofString "place", .local), (Str.ofString "thing", .local), (Str.ofString "isinstance", .globalImplicit), (Str.ofString "list", .globalImplicit), (Str.ofString "BadTests", .globalImplicit), (Str.ofString "enumerate", .globalImplicit)], isGenerator:=false, isCoroutine:=false, more:=[] }
noncomputable def clTest (p1 p2 p3 p4 p5 : Pos) (r : List Stmt) : Stmt:=.If (.UnaryOp .Not (.Call (.Name "is_right" p1) [.Name "thing" p2] [] p3) p4) r [] p5
noncomputable def clBody (p1 p2 p3 p4 p5 p6 : Pos) (e1 c1 : Option Expr) (q1 q2 q3 q4 q5 q6 q7 q8 q9 q10 q11 q12 q13 : Pos) (j : Nat) (r2 : List Stmt) : List Stmt :=
 [.If (.UnaryOp .Not (.Call (.Name "isinstance" p1) [.Name "things" p2, .Name "list" p3] [] p4) p5) [.Raise e1 c1 q13] [] p6,
  .For (.Tuple [.Name "place" q1, .Name "thing" q2] j q3) (.Call (.Name "enumerate" q4) [.Name "things" q5] [] q6) [clTest q7 q8 q9 q10 q11 r2] [] q12]
noncomputable def clB (cl : Nat→List D→R D) (g : Nat) (b : D) : Nat→List D→R D:=fun k ds => if k = 5000 then (match ds with | [t] => cl g [b,t] | _ => .stuck) else cl k ds
section
variable {cl : Nat→List D→R D} {X : Cx} {n g : Nat} {T : Tx} {b : D} {E : Ent} {Es : Hp} {fa : Addr} {O inv : List Nat}
end
theorem fns0 {cl' : Nat→List D→R D} (F : FnsP T cl P w K mg base n) : FnsP ⟨[],[]⟩ cl' P w K mg base n:=⟨F.blt,fun x d h => (by cases h),fun f x h => (by simp at h)⟩
theorem room3 {A : Around} (r : Room (n + 1) A) (e1 e2 e3 : Env) : Room n (((A.deeper e1).deeper e2).deeper e3) :=
 ⟨r.hd,by have:=r.dp;show A.depth + 1 + 1 + 1 + 3 * n + 5 < _;omega,by have:=r.un;show A.units + 3 + 3 + 3 + 16 * n + 200 < _;omega⟩
theorem room2 {A : Around} (r : Room (n + 1) A) (e1 e2 : Env) : Room n ((A.deeper e1).deeper e2) :=
 ⟨r.hd,by have:=r.dp;show A.depth + 1 + 1 + 3 * n + 5 < _;omega,by have:=r.un;show A.units + 3 + 3 + 16 * n + 200 < _;omega⟩
noncomputable def ctN : List Str:=["book", "tests"]
noncomputable def ctScope : Scope:={ kind:=.function, names:=[(Str.ofString "book", .cell), (Str.ofString "tests", .local), (Str.ofString "check_list", .globalImplicit)], isGenerator:=false, isCoroutine:=false, more:=[] }
noncomputable def ctBody (p1 p2 p3 p4 p5 p6 p7 p8 p9 p10 : Pos) : List Stmt:=[.Expr (.Call (.Name "check_list" p1) [.Name "tests" p2, .Lambda (lamArgs p3) (lamBody p4 p5 p6 p7) lamScope p8] [] p9) p10]
theorem clo_for {env : Env} {c : Addr} (h : env.cells.lookup (Str.ofString "book") = some c) : closureFor lamScope env = pure [(Str.ofString "book", c)]:=by
 unfold closureFor
 simp [lamScope,cellOf,h]
end
end Mi
namespace L2
open PySem PySem.Spec PyProof.Rows
theorem ObjOk.there {P : Program} {w : World} {H : Hp} {h : Heap} {a : Addr} {o : HO} (x : ObjOk P w H h a o) : ∃ u,h.get? a = some u:=by
 cases o with
 | lst xs => obtain ⟨_,_,_,_,e⟩:=x;exact ⟨_,e⟩
 | tup xs => obtain ⟨_,_,_,_,e,_⟩:=x;exact ⟨_,e⟩
 | dK kvs => obtain ⟨_,_,_,_,o,_,_,e,_⟩:=x;exact ⟨_,e⟩
 | dT kvs => obtain ⟨_,_,_,_,o,_,_,e,_⟩:=x;exact ⟨_,e⟩
 | set S n => obtain ⟨o,_,_,_,e,_⟩:=x;exact ⟨_,e⟩
 | ins C dx fs => obtain ⟨_,_,_,e,_⟩:=x;exact ⟨_,e⟩
 | own y => obtain ⟨_,e⟩:=x;exact ⟨_,e⟩
 | xd fs => obtain ⟨_,⟨_,_,_,e,_⟩,_⟩:=x;exact ⟨_,e⟩
 | rng lo hi => obtain ⟨_,_,_,e⟩:=x;exact ⟨_,e⟩
 | frz ob u => obtain ⟨e,_⟩:=x;exact ⟨_,e⟩
 | tbl ps => obtain ⟨_,e,_⟩:=x;exact ⟨_,e⟩
 | met f y => exact ⟨_,(show h.get? a = some _ from x)⟩
 | ext φ => obtain ⟨_,⟨_,e⟩,_⟩:=x;exact ⟨_,e⟩
noncomputable def StB (fs : List Addr) (h : Heap) (H' : Hp) (h1 B : Heap) : Prop:=∀ b o,h1.get? b = some o→((∃ u,h.get? b = some u)∨H' b≠none)→b ∉ fs→B.get? b = some o
theorem un_more {P : Program} {w : World} {fs : List Addr} {H H' : Hp} {h h1 h2 B : Heap} (u : Un fs [] H H' h h1) (hok : HOk P w H' h1) (ffr : ∀ b∈fs,H' b = none) (ff : ∀ b∈fs,∀ o,h1.get? b = some o→∀ vs,o.data≠.fields vs)
  (hB : StB fs h H' h1 B) (st : B.StaysIn h2) (up : h1.UpToSlots h2) : Un fs [] H H' h h2∧HOk P w H' h2∧StB fs h H' h2 B:=by
 have trk : ∀ b o,h1.get? b = some o→H' b≠none→B.get? b = some o:=fun b o e n => hB b o e (.inr n) fun z => n (ffr b z)
 refine ⟨⟨fun b o e n hb hx => st b o (hB b o (u.keep b o e n hb hx) (.inl ⟨o,e⟩) hb),fun b o e n hb hx => ?_,u.free,fun b o e hx => ?_,u.tups,u.frzs,u.tbls⟩,fun a o e => ?_,fun b o e hh hb => ?_⟩
 ·obtain ⟨sl,e1⟩:=u.slot b o e n hb hx
  obtain ⟨sl',e2⟩:=up b _ e1 (ff b hb _ e1)
  exact ⟨sl',e2⟩
 ·obtain ⟨o',e1⟩:=u.there b o e hx
  by_cases hb : b∈fs
  ·obtain ⟨sl,e2⟩:=up b o' e1 (ff b hb o' e1)
   exact ⟨_,e2⟩
  ·exact ⟨o',st b o' (hB b o' e1 (.inl ⟨o,e⟩) hb)⟩
 ·refine (hok a o e).stay (fun b v hc q => st b v (trk b v q ?_)) (fun _ q => q) fun _ _ q => q
  rcases hc with rfl | hc
  ·rw [e];exact fun z => nomatch z
  ·rw [hc];exact fun z => nomatch z
 ·obtain ⟨o',e'⟩ : ∃ o',h1.get? b = some o':=by
   rcases hh with ⟨v,e0⟩ | n
   ·exact u.there b v e0 (by simp)
   ·cases q : H' b with
    | none => exact absurd q n
    | some ob => exact (hok b ob q).there
  have e2:=hB b o' e' hh hb
  have e3:=st b o' e2
  rw [e] at e3
  cases e3
  exact e2
noncomputable def CX1 (P : Program) (w : World) : CXT:=fun outer H s E ev s' => ∃ (e C : Addr) (a0 : Value) (H' : Hp) (B : Heap),ev = .ref e∧s'.os = s.os∧AllBare s'.gens∧Un (frs outer) [] H H' s.heap s'.heap∧HOk P w H' s'.heap ∧
 Heap.FlyingW B outer e (.ref C) a0 s'.heap∧StB (frs outer) s.heap H' s'.heap B∧E (.ref C) none H'
section
variable {X : Cx} {pins : List (Addr × Obj)} {σ : St} {H H' : Hp} {s s' : Shared} {E : XK} {e C : Addr} {h'' : Heap} {args : List Value} {E2 : Value→Shared→Prop}
theorem frs_stack (hst : X.stack = X.env :: X.outer) (hf : X.env.frame = some X.env.locals) : frs X.stack = X.env.locals :: X.fs:=by
 rw [hst];unfold frs;rw [List.filterMap_cons,hf];rfl
theorem Inv.notLoc (I : Inv X pins σ H' s') {b : Addr} (h : (∃ u,X.s₀.heap.get? b = some u)∨H' b≠none) : b≠X.env.locals:=by
 rcases h with ⟨u,e⟩ | n
 ·exact Nat.ne_of_lt (Nat.lt_of_lt_of_le (Heap.lt_size e) I.ok.above)
 ·rintro rfl;exact n I.free
theorem Inv.fsData (I : Inv X pins σ H' s') : ∀ b∈X.fs,∀ o,s'.heap.get? b = some o→∀ vs,o.data≠.fields vs:=fun b hb o e vs => by
 obtain ⟨_,o',e',d⟩:=I.funs.mem hb
 rw [e] at e';cases e'
 exact d vs
theorem Inv.fsFree (I : Inv X pins σ H' s') : ∀ b∈X.fs,H' b = none:=fun b hb => by
 obtain ⟨_,o,ho,_⟩:=I.ok.funs.mem hb
 exact I.base.free b o ho (I.ok.frf b hb) fun z => I.ok.exfs b z hb
theorem rz_gen (hex : X.ex = []) (hst : X.stack = X.env :: X.outer) (hf : X.env.frame = some X.env.locals) (I : Inv X pins σ H' s') (hx : Heap.MadeExcOf s'.heap h'' e (.ref C) args) (hE : E (.ref C) none H') :
  wpAny (model X.prog X.w) X.A (leaving X.env (.ref e)) (fun _ s'' => CX1 X.prog X.w X.outer X.H₀ X.s₀ E (.ref e) s'') E2 { s' with heap:=h'' }:=by
 have I2 : Inv X pins σ H' { s' with heap:=h'' }:=I.kept (t':=s'.toks) hx.keeps
 have fr:=I.stack
 have hin : ∀ env∈X.stack,∀ b,env.frame = some b→b∈frs X.stack:=fun env he b hb => List.mem_filterMap.mpr ⟨env,he,hb⟩
 have fh:=PySem.W.funFrames_hide (h:=s'.heap) fr hin
 rw [hst] at fh
 refine wpAny_leaves_madeW (base:=PySem.W.hideAll s'.heap (frs (X.env :: X.outer))) (h:=s'.heap) (L:=X.env.locals) (by rw [I.ok.frames,hst]) hf (fun b o q => PySem.W.of_hideAll _ q) fh hx fun h4 t fl _ _ up => ?_
 have hB : StB X.fs X.s₀.heap H' h'' (PySem.W.hideAll s'.heap (frs (X.env :: X.outer))):=fun b o eb hh hb => by
  obtain ⟨o',e'⟩ : ∃ o',s'.heap.get? b = some o':=by
   rcases hh with ⟨v,e0⟩ | n
   ·exact I.base.there b v e0 (by rw [hex];simp)
   ·cases q : H' b with
    | none => exact absurd q n
    | some ob => exact (I.hok b ob q).there
  have e2:=hx.keeps b o' e'
  rw [eb] at e2
  cases e2
  refine PySem.W.hideAll_get _ e' ?_
  rw [← hst,frs_stack hst hf]
  intro z
  rcases List.mem_cons.mp z with z | z
  ·exact I.notLoc hh z
  ·exact hb z
 have u:=I2.base
 rw [hex] at u
 obtain ⟨u1,u2,u3⟩:=un_more u I2.hok I2.fsFree I2.fsData hB fl.1 up
 exact ⟨e,C,_,H',_,rfl,I.os,I.bare,u1,u2,fl,u3,hE⟩
theorem pass_gen (hex : X.ex = []) (hst : X.stack = X.env :: X.outer) (hf : X.env.frame = some X.env.locals) {ev : Value} (I : Inv X pins σ H s) (hc : CX1 X.prog X.w X.stack H s E ev s') :
  wpAny (model X.prog X.w) X.A (leaving X.env ev) (fun _ s'' => CX1 X.prog X.w X.outer X.H₀ X.s₀ E ev s'') E2 s':=by
 obtain ⟨e,C,a0,H',B,rfl,ho,hg,u,hok,fl,hB,hE⟩:=hc
 have I' : Inv X pins σ H' s':=I.call' (ch:=[]) ho u hok hg fun b hb => nomatch hb
 rw [hst] at fl
 refine wpAny_leaves_onW (L:=X.env.locals) (by rw [I.ok.frames,hst]) hf fl fun h4 fl4 up => ?_
 have hB' : StB X.fs X.s₀.heap H' s'.heap B:=fun b o eb hh hb => by
  refine hB b o eb ?_ ?_
  ·rcases hh with ⟨v,e0⟩ | n
   ·exact .inl (I.base.there b v e0 (by rw [hex];simp))
   ·exact .inr n
  ·rw [frs_stack hst hf]
   intro z
   rcases List.mem_cons.mp z with z | z
   ·exact I'.notLoc hh z
   ·exact hb z
 have u':=I'.base
 rw [hex] at u'
 obtain ⟨u1,u2,u3⟩:=un_more u' I'.hok I'.fsFree I'.fsData hB' fl4.1 up
 exact ⟨e,C,a0,H',B,rfl,I'.os,I'.bare,u1,u2,fl4,u3,hE⟩
end
structure XOk (X : Cx) (E : XK) : Prop where
 rz : ∀ (pins : List (Addr × Obj)) (σ : St) (H' : Hp) (s' : Shared) (e C : Addr) (h'' : Heap) (args : List Value),Inv X pins σ H' s'→Heap.MadeExcOf s'.heap h'' e (.ref C) args→E (.ref C) none H'→X.xe (.ref e) { s' with heap:=h'' }
 pass : Passes (CX1 X.prog X.w) X E
theorem xok_cx {P : Program} {w : World} {K : PySem.W.Frag} {mg : Str→Option Value} {base : Heap} {N : List Str} {qual : Str} {scope : Scope} {f : Addr} {cd : Value} {A : Around} {outer : List Env} {s : Shared} {H : Hp} {E : XK} :
  XOk (cxOf (CX1 P w) P w K mg base N qual scope f cd A outer s H E) E :=
 ⟨fun pins σ H' s' e C h'' args I hx hE => rz_gen (X:=cxOf (CX1 P w) P w K mg base N qual scope f cd A outer s H E) rfl rfl rfl I hx hE,fun pins σ H1 s1 ev s' I hc => pass_gen (X:=cxOf (CX1 P w) P w K mg base N qual scope f cd A outer s H E) rfl rfl rfl I hc⟩
section
variable {P : Program} {w : World} {K : PySem.W.Frag} {mg : Str→Option Value} {base : Heap} {k : Nat} {f : Addr} {fd : FuncData} {ps : List Str} {sp spx : Sp}
theorem FnOk.calmed (F : FnOk P w K mg base (CX1 P w) k f fd ps spx) (h : ∀ vs H Q E,sp vs H Q E→spx vs H Q E0) : FnOk P w K mg base CX0 k f fd ps sp :=
 ⟨fun vs H Q E q => F.len _ _ _ _ (h vs H Q E q),fun A outer s H args us vs Q E hr he hb hv hs => codeAny_mono (F.run A outer s H args us vs Q E0 hr he hb hv (h vs H Q E hs)) fun r s' hq => by
  cases r with
  | error e => obtain ⟨_,_,_,_,_,_,_,_,_,_,_,_,z⟩:=hq;exact z.elim
  | ok fl => cases fl <;> exact hq⟩
theorem FnOk.lifted (F : FnOk P w K mg base CX0 k f fd ps sp) : FnOk P w K mg base (CX1 P w) k f fd ps sp :=
 ⟨F.len,fun A outer s H args us vs Q E hr he hb hv hs => codeAny_mono (F.run A outer s H args us vs Q E hr he hb hv hs) fun r s' hq => by
  cases r with
  | error e => exact False.elim hq
  | ok fl => cases fl <;> exact hq⟩
end
noncomputable abbrev mroVE : List Value:=[.type "ValueError", .type "Exception", .type "BaseException", .type "object"]
section
variable {X : Cx} {E : XK} {x : Str} {C : Addr} {np cpos pos tp : Pos} {tx : Str} {k : Nat}
theorem ps_raise (XO : XOk X E) (hc : X.calm = true) (hg : Gl X x) (hm : X.mg x = some (.ref C)) (hq : PySem.W.excIn X.K C mroVE "ValueError.__new__" = true) (hd : (x == ("__debug__" : Str)) = false) :
  PS X (.Raise (some (.Call (.Name x np) [.Constant (.str tx) k tp] [] cpos)) none pos) (fun _ _ H => E (.ref C) none H):=by
 intro pins s σ H D I hE
 unfold PySem.W.excIn at hq
 split at hq
 ·rename_i dd cd sl ho
  split at hq
  ·rename_i C' bm k0 k1 k2 k3 n k5 hm' hs
   simp only [Bool.and_eq_true,beq_iff_eq,Bool.not_eq_true'] at hq
   obtain ⟨⟨⟨⟨⟨rfl,rfl⟩,hdel⟩,ht⟩,hok⟩,hni⟩:=hq
   obtain ⟨nm,bs,mro,ns,qn,hdc,sn,sub,ab,col,del⟩:=cd
   dsimp only at hm' hdel hok hni
   subst hm' hdel
   have hsl : sl = #[k0, k1, k2, k3, some (.builtin "ValueError.__new__"), k5]:=by
    obtain ⟨l⟩:=sl
    simp only at hs
    rw [hs]
   subst hsl
   have T0:=PySem.W.tail_of_in (bmB:=mroVE) I.kIn ht
   refine wpAny_Raise_call_subT (C:=C') (nm:=nm) (q:=qn) (N:=ns) (bs:=bs) (bm:=bm) (hdct:=hdc) (sn:=sn) (sub:=sub) (ab:=ab) (col:=col) (dd:=dd) (k0:=k0) (k1:=k1) (k2:=k2) (k3:=k3) (k5:=k5) (mN:=X.base.nsMap ns) PySem.F.excBase_ValueError (T0.hasType PySem.F.excBase_ValueError.hasBase) (I.ok.hd hc) rfl (PySem.W.nsMap_none_of_in I.mod.kin hok hni) (ld_glob I hg hm ⟨rfl,?_⟩ hd)
   have hpa:=(pa_cons (pe_str (X:=X)) pa_nil : PA X [.Constant (.str tx) k tp] _) cpos pins s σ H (fun vs H1 => H1 = H∧vs.length = 1) I ⟨rfl,rfl⟩
   refine Calls.evalArgs_plain (thn hpa fun us s1 ⟨vs,H1,I1,r1,e1,e2⟩ => ?_)
   subst e1
   refine ⟨rfl,by rw [← r1.length,e2];decide,I1.kIn _ _ ho,(Heap.Ns.of_isNs (PySem.W.isNs_of_in I.mod.kin hok)).keeps I1.bk,PySem.W.tail_of_in I1.kIn ht,fun h' e hmd => ?_⟩
   exact XO.rz pins σ H1 s1 e _ h' _ I1 hmd hE
  ·cases hq
 ·cases hq
end
end L2
namespace PySem.W
open PySem PySem.Spec PySem.Calls PyProof.Rows Builtin Builtin.Getset_descriptor
open Builtin.ObjectAttr in
section
variable {prog : Program} {w : World} {A : Around} {E : Value→Shared→Prop} {s : Shared} {K : Frag} {x C : Addr}
structure XcK (K : Frag) (C : Addr) : Prop where
 cls : (clsIn K C).isSome = true
 get : findIn K (.ref C) "__class__" = some (some (.builtin "object.__class__"))
 spec : specialIn K (.builtin "object.__class__") "__get__" = some (some (.builtin "getset_descriptor.__get__"))
 take : takesIn K (.builtin "object.__class__") = some true
 obj : mroIn K C (.type "object") = some true
 ga : findIn K (.ref C) "__getattribute__" = some (some (.builtin "BaseException.__getattribute__"))
 no : findIn K (.ref C) "__getattr__" = some none
 sub : subIn K (.ref C) (.type "BaseException") = some true
noncomputable def ExAt (x C : Addr) (h : Heap) : Prop:=∃ o,h.get? x = some o∧o.cls = .ref C
theorem ExAt.ty {M : Model} {h : Heap} (I : ExAt x C h) : Looks M h (typeOf (.ref x)) (.ref C):=by
 obtain ⟨o,h1,h2⟩:=I
 exact h2 ▸ (Looks.ld h1).andThen .now
variable (Z : XcK K C)
include Z
theorem xc_find {M : Model} {h : Heap} (X : K.In h) : Looks M h (find (.ref x) (.ref C) "__class__") (.bind (.builtin "getset_descriptor.__get__") (.builtin "object.__class__")) :=
 (looks_findIn (M:=M) X Z.get).andThen ((show Looks M h (getOf (some (.builtin "object.__class__"))) _ from looks_specialIn X Z.spec).andThen
  ((show Looks M h (dataDescriptor? (some (.builtin "object.__class__")) (some (.builtin "getset_descriptor.__get__"))) (some (.builtin "getset_descriptor.__get__", .builtin "object.__class__")) from (looks_takesIn (M:=M) X Z.take).andThen .now).andThen (Looks.tag .now)))
theorem xc_get {tp : Value} {R : Result → Shared → Prop} (X : K.In s.heap) (I : ExAt x C s.heap) (hR : R (.ok (.ret (.ref C))) s) : codeAny (model prog w) A (.call (.builtin "getset_descriptor.__get__") ⟨[.builtin "object.__class__", .ref x, tp], []⟩) R s:=by
 obtain ⟨hh,g,dr,t,os⟩:=s
 have L0:=I.ty (M:=model prog w);have L1:=looks_mroIn (M:=model prog w) X Z.obj
 refine codeAny_call_builtin KF.slot_gs.plain KF.entry_gs (KF.slot_gs.check _ _ _ _ _ _ _ _ KF.type_class (KF.args_gs _ _ _) (show wpAny _ _ (Builtin.«getset_descriptor.__get__» _) _ _ _ from ?_))
 unfold Builtin.«getset_descriptor.__get__» descrGet;rw [dga_obj]
 refine wpAny_bind (wpAny_pure ?_);unfold descrGetter descrCheckInstance descrNameAndClass isInstance;simp only [KF.owner_class]
 repeat lk
 refine ⟨Code.quiet_builtin _ (by decide +kernel),codeAny_builtin KF.entry_class (show wpAny _ _ (Builtin.«object.__class__» _) _ _ _ from ?_)⟩
 unfold Builtin.«object.__class__» shownTypeOf;repeat lk
 exact hR
theorem xc_entry {tk : Tok} {Q : Fin→Shared→Prop} (X : K.In s.heap) (I : ExAt x C s.heap) (hq : Q (.done (.ret (.ref C))) s) :
  wpAny (model prog w) A (Builtin.«object.__getattribute__» ⟨[.ref x, .str "__class__" tk], []⟩) Q E s:=by
 obtain ⟨hh,gg,d,t,os⟩:=s
 have L0:=I.ty (M:=model prog w)
 have L1:=xc_find (x:=x) (M:=model prog w) Z X
 unfold Builtin.«object.__getattribute__»
 repeat (first | refine wpAny_call (xc_get Z X I ?_) | lk)
 exact hq
theorem xc_check {M : Model} {nameV : Value} {Q : Unit → Shared → Prop} (X : K.In s.heap) (I : ExAt x C s.heap) (hq : Q () s) : wpAny M A (checkBuiltinCall "BaseException.__getattribute__" ⟨[.ref x, nameV], []⟩) Q E s:=by
 obtain ⟨hh,gg,d,t,os⟩:=s
 have L0:=I.ty (M:=M)
 have L1:=looks_subIn (M:=M) X Z.sub
 have ek : builtinKind "BaseException.__getattribute__" = some .slot:=by decide +kernel
 have es : splitId "BaseException.__getattribute__" = some ("BaseException", "__getattribute__"):=by decide +kernel
 have ea:=F.args_bexc_ga (.ref x) nameV
 simp only [checkBuiltinCall,ek,es]
 unfold isInstance
 repeat (first | assumption | lk | wp_step)
theorem xc_attr {Q : Option Value → Shared → Prop} (X : K.In s.heap) (I : ExAt x C s.heap) (hq : Q (some (.ref C)) { s with toks:=s.toks + 1 }) : wpAny (model prog w) A (getAttr? (.ref x) "__class__") Q E s:=by
 obtain ⟨hh,g,d,t,os⟩:=s
 have L0:=I.ty (M:=model prog w)
 have L1:=looks_findIn (M:=model prog w) X Z.ga
 have L2:=looks_findIn (M:=model prog w) X Z.no
 have f3:=F.attr_ValueError.ga.bind (.ref x)
 have y2 : (Value.builtin "BaseException.__getattribute__" == Value.builtin "object.__getattribute__") = false:=by decide +kernel
 have y1 : (onTheHeap (Value.ref C) && Value.builtin "BaseException.__getattribute__" == Value.builtin "object.__getattribute__") = false:=by rw [y2]; rfl
 unfold getAttr? getAttrBy? getAttrBy
 refine wpAny_bind (wpAny_mkText (wpAny_bind (wpAny_attempt (wpAny_holding (wpAny_bind (L0.at (wpAny_bind (L1.at (show wpAny _ _ _ _ _ _ from ?_)))))))))
 dsimp only
 rw [y1,if_neg Bool.false_ne_true]
 show wpAny _ _ (getAttrByItsOwn _ _ _ _ _ _) _ _ _
 repeat (any_goals (first | assumption | with_reducible refine L2.at ?_ | wp_step))
 refine codeAny_call_builtin F.attr_ValueError.ga.plain F.entry_bexc_ga (xc_check Z X I (xc_entry Z X I ?_))
 repeat (any_goals (first | assumption | wp_step))
theorem kitx_exc : KitX K (.ref x) (.ref C) (ExAt x C) where
 ty:=fun _ _ _ I => I.ty
 it:=fun _ _ X _ => by
  obtain ⟨cz,hz⟩:=Option.isSome_iff_exists.mp Z.cls
  unfold clsIn at hz;split at hz
  ·rename_i c1 d1 cd1 sl1 h1
   intro A2 Q2 E2 s2 k2 q2;unfold isType loadHead
   exact wpAny_bind (wpAny_loadPart (k2 _ _ (X _ _ h1)) (wpAny_pure q2))
  ·cases hz
 ne:=fun h tp dd its n sl X htp => by
  obtain ⟨cz,hz⟩:=Option.isSome_iff_exists.mp Z.cls
  refine Bool.eq_false_iff.mpr fun q => ?_
  cases Value.ref.inj (beq_iff_eq.mp q)
  unfold clsIn at hz;split at hz
  ·rename_i c1 d1 cd1 sl1 h1;exact absurd ((X _ _ h1).symm.trans htp) (fun z => by cases z)
  ·cases hz
 ca:=fun X I k => xc_attr Z X I k
end
end PySem.W
namespace L2
open PySem PySem.Spec PyProof.Rows
noncomputable def clsV : Value→V
 | .ref a => .ref a
 | .type n => .ty n
 | _ => .non
noncomputable def ClsN (X : Cx) (k : Str) (c : Value) : Prop:=(∃ a, c = .ref a ∧ X.mg k = some (.ref a)) ∨ (∃ n, c = .type n ∧ X.mg k = none ∧ bootBuiltins k = some (.type n) ∧ k ≠ "__name__")
section
variable {X : Cx} {e C : Addr} {oe : Obj} {n k : Str} {c : Value} {p1 p2 p3 p4 : Pos} {i : Nat}
theorem pe_cls (hg : Gl X k) (h : ClsN X k c) (hd : (k == ("__debug__" : Str)) = false) : PE X (.Name k p1) (tC (clsV c)):=by
 rcases h with ⟨a,rfl,hm⟩ | ⟨n,rfl,hm,hb,hn⟩
 ·exact pe_glob hg hm rfl hd
 ·exact pe_bltn hg hm hb rfl hn hd
theorem clsV_inj (h : ClsN X k c) {u : Value} (r : RelV (clsV c) u) : u = c:=by
 rcases h with ⟨a,rfl,_⟩ | ⟨n,rfl,_⟩ <;> exact r
noncomputable def rIsx (X : Cx) (e C : Addr) : List V→Hp→VK→Prop:=fun xs H Q => ∃ k c b,ClsN X k c∧xs = [.ref e,clsV c]∧PySem.W.kitOne X.K (.ref C) c = some b∧Q (.bl b) H
theorem call_isx (hpn : (e, oe) ∈ X.pn) (hc : oe.cls = .ref C) (Z : PySem.W.XcK X.K C) : CallR X (.builtin "isinstance") (rIsx X e C):=by
 intro pins s σ H xs us Q I r h
 obtain ⟨k,c,b,hk,rfl,hkit,q⟩:=h
 obtain ⟨u,w',rfl,ru,rw'⟩:=vals2 r
 cases ru
 have hw:=clsV_inj hk rw'
 subst hw
 have hp:=I.pin (e,oe) (List.mem_append_left _ hpn)
 refine PySem.W.kia_one (PySem.W.kitx_exc Z) I.kIn ⟨oe,hp.1,hc⟩ hkit (fun z => nomatch z) fun tk => ⟨.bl b,H,I.tok _,rfl,q⟩
inductive IsxAll (X : Cx) (n : Str) (C : Addr) : List Expr→List Bool→Prop
 | nil : IsxAll X n C [] []
 | cons {p1 p2 p3 p4 : Pos} {k : Str} {c : Value} {b : Bool} {es : List Expr} {bs : List Bool} : Gl X k → (k == ("__debug__" : Str)) = false → ClsN X k c → PySem.W.kitOne X.K (.ref C) c = some b → IsxAll X n C es bs →
   IsxAll X n C (.Call (.Name "isinstance" p1) [.Name n p2, .Name k p3] [] p4 :: es) (b :: bs)
theorem boot_isi : bootBuiltins "isinstance" = some (.builtin "isinstance"):=boot_isinstance
theorem pa_isx (hpn : (e, oe) ∈ X.pn) (hc : oe.cls = .ref C) (Z : PySem.W.XcK X.K C) (hi : X.N[i]? = some n) (hv : Vis X.env.scope n) (hd1 : (n == ("__debug__" : Str)) = false) (hd2 : (n == ("__classdict__" : Str)) = false)
  (hg : Gl X "isinstance") (hm : X.mg "isinstance" = none) : ∀ {es : List Expr} {bs : List Bool}, IsxAll X n C es bs → PA X es (fun σ H Q => σ[i]? = some (some (.ref e)) ∧ Q (bs.map V.bl) H)
 | _,_,.nil => fun pos pins s σ H Q I h => pa_nil pos pins s σ H Q I h.2
 | _,_,.cons hgk hdk hk hkit t => fun pos pins s σ H Q I h => by
  have ih:=pa_isx hpn hc Z hi hv hd1 hd2 hg hm t
  refine pa_cons (pe_callB (call_isx hpn hc Z) hg hm boot_isi (pa_cons (pe_var hi hv hd1 hd2) (pa_cons (pe_cls hgk hk hdk) pa_nil)) (by decide) (by decide)) ih rfl pos pins s σ H Q I ?_
  exact ⟨.ref e,h.1,_,_,_,hk,rfl,hkit,h.1,h.2⟩
end
end L2
namespace L2
open PySem PySem.Spec PyProof.Rows
section
variable {X : Cx} {pins pins' : List (Addr × Obj)} {σ : St} {H H' : Hp} {s s' : Shared} {h' : Heap} {D : Ends}
theorem Inv.lost {m' : Str→Option Value} {t : Nat} (I : Inv X pins σ H s) (hn : h'.Ns X.env.locals m') (hs : Heap.SameBut X.env.locals s.heap h') : Inv X pins (List.replicate X.N.length none) H { s with heap:=h',toks:=t }:=by
 have ne : ∀ b o,X.s₀.heap.get? b = some o→b≠X.env.locals:=fun b o e => Nat.ne_of_lt (Nat.lt_of_lt_of_le (Heap.lt_size e) I.ok.above)
 refine ⟨I.ok,I.os,I.bare,⟨fun b o e n hb hx => (hs.2 b (ne b o e)).trans (I.base.keep b o e n hb hx),fun b o e n hb hx => ?_,I.base.free,fun b o e hx => ?_,I.base.tups,I.base.frzs,I.base.tbls⟩,⟨m',hn,fun i x v e1 e2 => ?_⟩,fun y c e => ?_,I.free,I.freeC,fun p hp => ?_,fun b ob e => ?_,by simp⟩
 ·obtain ⟨sl,e1⟩:=I.base.slot b o e n hb hx
  exact ⟨sl,(hs.2 b (ne b o e)).trans e1⟩
 ·obtain ⟨o',e1⟩:=I.base.there b o e hx
  exact ⟨o',(hs.2 b (ne b o e)).trans e1⟩
 ·rw [List.getElem?_replicate] at e2
  split at e2 <;> cases e2
 ·obtain ⟨w',z⟩:=I.cell y c e
  exact ⟨w',z.sameBut hs (I.cne y c e)⟩
 ·obtain ⟨e,n,ne',nf,d⟩:=I.pin p hp
  exact ⟨(hs.2 p.1 ne').trans e,n,ne',nf,d⟩
 ·refine (I.hok b ob e).stay (fun c v hc q => (hs.2 c ?_).trans q) (fun _ q => q) fun _ _ q => q
  rintro rfl
  rcases hc with rfl | hc
  ·rw [I.free] at e;cases e
  ·rw [I.free] at hc;cases hc
noncomputable def tryXe (X : Cx) (pins : List (Addr × Obj)) (D : Ends) (hs : List ExceptHandler) : Value→Shared→Prop:=fun ev s1 => wpAny (model X.prog X.w) X.A (noteFrame ev X.env) (fun _ s2 => wpAny (model X.prog X.w) X.A (setFlight ev none) (fun _ s3 => wpAny (model X.prog X.w) X.A (handleBy ev X.env hs) (SP X pins D) X.xe s3) X.xe s2) X.xe s1
noncomputable abbrev tryCx (X : Cx) (pins : List (Addr × Obj)) (D : Ends) (hs : List ExceptHandler) : Cx:={ X with pn:=X.pn++pins,xe:=tryXe X pins D hs }
theorem Cx.Ok.re (ok : X.Ok) (pn : List (Addr × Obj)) (E : Value→Shared→Prop) : ({ X with pn:=pn,xe:=E } : Cx).Ok :=
 ⟨ok.mod,ok.kind,ok.glob,ok.blt,ok.above,ok.inj,ok.has,ok.cab,ok.hd,ok.frames,ok.stk,ok.exf,ok.bs,ok.bsz,ok.noex,ok.exfs,ok.funs,ok.frf,ok.tab⟩
theorem Cx.Ok.unre {pn : List (Addr × Obj)} {E : Value→Shared→Prop} (ok : ({ X with pn:=pn,xe:=E } : Cx).Ok) : X.Ok :=
 ⟨ok.mod,ok.kind,ok.glob,ok.blt,ok.above,ok.inj,ok.has,ok.cab,ok.hd,ok.frames,ok.stk,ok.exf,ok.bs,ok.bsz,ok.noex,ok.exfs,ok.funs,ok.frf,ok.tab⟩
theorem Inv.toTry {hs : List ExceptHandler} (I : Inv X pins σ H s) : Inv (tryCx X pins D hs) [] σ H s :=
 ⟨I.ok.re _ _,I.os,I.bare,I.base,I.loc,I.cell,I.free,I.freeC,fun p hp => I.pin p (by rw [List.append_nil] at hp;exact hp),I.hok,I.len⟩
theorem Inv.ofTry {hs : List ExceptHandler} (I : Inv (tryCx X pins D hs) pins' σ H s) : Inv X pins σ H s :=
 ⟨I.ok.unre,I.os,I.bare,I.base,I.loc,I.cell,I.free,I.freeC,fun p hp => I.pin p (List.mem_append_left _ hp),I.hok,I.len⟩
theorem SP.ofTry {hs : List ExceptHandler} {f : Flow} (h : SP (tryCx X pins D hs) pins' D f s) : SP X pins D f s:=by
 cases f with
 | next => obtain ⟨σ',H',I,q⟩:=h;exact ⟨σ',H',I.ofTry,q⟩
 | brk => obtain ⟨σ',H',I,q⟩:=h;exact ⟨σ',H',I.ofTry,q⟩
 | cont => obtain ⟨σ',H',I,q⟩:=h;exact ⟨σ',H',I.ofTry,q⟩
 | ret u => obtain ⟨v,σ',H',I,r,q⟩:=h;exact ⟨v,σ',H',I.ofTry,r,q⟩
theorem try_run {body : List Stmt} {h₀ : ExceptHandler} {pos : Pos} {tb : TS} (I : Inv X pins σ H s) (hb : PSs (tryCx X pins D [h₀]) body tb) (ht : tb D σ H) :
  wpAny (model X.prog X.w) X.A (exec (.Try body [h₀] [] [] pos) X.env) (SP X pins D) X.xe s:=by
 refine wpAny_Try_except (wpAny_mono (hb [] s σ H D I.toTry ht) (fun f s1 q => ?_) fun e s1 q => q)
 have q':=SP.ofTry q
 cases f with
 | next => exact wpAny_pure q'
 | brk => exact q'
 | cont => exact q'
 | ret u => exact q'
noncomputable abbrev hCx (X : Cx) (pn : List (Addr × Obj)) (e : Addr) : Cx:={ X with A:=X.A.mark (some (.ref e)),calm:=false,pn:=pn,xe:=fun _ _ => False }
theorem Cx.Ok.toH (ok : X.Ok) (pn : List (Addr × Obj)) (e : Addr) : (hCx X pn e).Ok :=
 ⟨ok.mod,ok.kind,ok.glob,ok.blt,ok.above,ok.inj,ok.has,ok.cab,(fun z => nomatch z),ok.frames,ok.stk,ok.exf,ok.bs,ok.bsz,ok.noex,ok.exfs,ok.funs,ok.frf,ok.tab⟩
theorem Inv.toH (I : Inv X pins σ H s) (e : Addr) {oe : Obj} (h1 : s.heap.get? e = some oe) (h2 : H e = none) (h3 : e≠X.env.locals) (h4 : e ∉ X.fs) (h5 : ∀ v,oe.data≠.cell v) : Inv (hCx X ((e,oe) :: (X.pn++pins)) e) [] σ H s :=
 ⟨I.ok.toH _ _,I.os,I.bare,I.base,I.loc,I.cell,I.free,I.freeC,fun p hp => by
  rw [List.append_nil] at hp
  rcases List.mem_cons.mp hp with rfl | hp
  ·exact ⟨h1,h2,h3,h4,h5⟩
  ·exact I.pin p hp,I.hok,I.len⟩
theorem Inv.ofH {e : Addr} {oe : Obj} (ok : X.Ok) (I : Inv (hCx X ((e,oe) :: (X.pn++pins)) e) pins' σ H s) : Inv X pins σ H s :=
 ⟨ok,I.os,I.bare,I.base,I.loc,I.cell,I.free,I.freeC,fun p hp => I.pin p (List.mem_append_left _ (List.mem_cons_of_mem _ hp)),I.hok,I.len⟩
noncomputable def HSu (X : Cx) (i : Nat) (C : Addr) (body : List Stmt) (H' : Hp) (D : Ends) : Prop:=∃ t : TS,(∀ pn e oe,(e,oe)∈pn→oe.cls = .ref C→PSs (hCx X pn e) body (fun D σ H => σ[i]? = some (some (.ref e))∧t D σ H))∧∀ σ,σ.length = X.N.length→t { nx:=fun σ' H'' => D.nx (σ'.set i none) H'',rt:=D.rt } σ H'
theorem Inv.gone {m : Str→Option Value} {v : Option Value} {t i : Nat} {n : Str} (I : Inv X pins σ H s) (hN : X.N.Nodup) (hi : X.N[i]? = some n) (hn0 : ∀ (i : Nat) (x : Str) (v : V),X.N[i]? = some x→σ[i]? = some (some v)→Vis X.env.scope x→∃ u,RelV v u∧Look X.env s.heap m x u)
  (hn : h'.Ns X.env.locals (fun x => if x = n then v else m x)) (hs : Heap.SameBut X.env.locals s.heap h') : Inv X pins (σ.set i none) H { s with heap:=h',toks:=t }:=by
 have I1:=I.lost (t:=t) hn hs
 refine ⟨I1.ok,I1.os,I1.bare,I1.base,⟨_,hn,fun j x w e1 e2 e3 => ?_⟩,I1.cell,I1.free,I1.freeC,I1.pin,I1.hok,by rw [List.length_set];exact I.len⟩
 have hji : j≠i:=fun z => by
  subst z
  by_cases hl : j < σ.length
  ·rw [List.getElem?_set_self hl] at e2;cases e2
  ·rw [List.getElem?_eq_none (by rw [List.length_set];omega)] at e2;cases e2
 rw [List.getElem?_set_ne (Ne.symm hji)] at e2
 have hxn : x≠n:=fun z => hji (by
  subst z
  obtain ⟨a1,a2⟩:=List.getElem?_eq_some_iff.mp e1
  obtain ⟨b1,b2⟩:=List.getElem?_eq_some_iff.mp hi
  exact (List.getElem_inj hN).mp (a2.trans b2.symm))
 obtain ⟨u,r,lk⟩:=hn0 j x w e1 e2 e3
 refine ⟨u,r,?_⟩
 rcases lk with ⟨a,b⟩ | ⟨a,c,b,d⟩
 ·exact .inl ⟨a,by show (if x = n then v else m x) = some u;rw [if_neg hxn];exact b⟩
 ·exact .inr ⟨a,c,b,d.sameBut hs (I.cne x c b)⟩
noncomputable def tryE (X : Cx) (D : Ends) (i : Nat) (Ch : Addr) (body : List Stmt) : XK:=fun c _ H' => ∃ C,c = .ref C∧PySem.W.XcK X.K C∧PySem.W.exmOne X.K (.ref C) (.ref Ch) = some true∧HSu X i C body H' D
theorem IsxAll.toH {n : Str} {C e : Addr} {pn : List (Addr × Obj)} : ∀ {es : List Expr} {bs : List Bool},IsxAll X n C es bs→IsxAll (hCx X pn e) n C es bs
 | _,_,.nil => .nil
 | _,_,.cons a b c d t => .cons a b c d (IsxAll.toH t)
section
variable {i : Nat} {n : Str} {C : Addr} {H₁ : Hp} {Q : VK} (Z : PySem.W.XcK X.K C) (hi : X.N[i]? = some n) (hloc : X.env.scope.names.lookup n = some .local) (hd1 : (n == ("__debug__" : Str)) = false) (hd2 : (n == ("__classdict__" : Str)) = false) (hgi : Gl X "isinstance") (hmi : X.mg "isinstance" = none)
include Z hi hloc hd1 hd2 hgi hmi
end
theorem caught {i : Nat} {hx n : Str} {st : Stmt} {body : List Stmt} {np hp : Pos} {Ch : Addr} {ev : Value} (hst : X.stack = X.env :: X.outer) (hf : X.env.frame = some X.env.locals) (hN : X.N.Nodup) (hi : X.N[i]? = some n) (hloc : X.env.scope.names.lookup n = some .local)
  (hgx : Gl X hx) (hmx : X.mg hx = some (.ref Ch)) (hdx : (hx == ("__debug__" : Str)) = false)
  (I : Inv X pins σ H s) (hc : CX1 X.prog X.w X.stack H s (tryE X D i Ch (st :: body)) ev s') :
  tryXe X pins D [.ExceptHandler (some (.Name hx np)) (some n) (st :: body) hp] ev s':=by
 obtain ⟨e,C,a0,H',B,rfl,ho,hg,u,hok,fl,hB,hE⟩:=hc
 have I' : Inv X pins σ H' s':=I.call' (ch:=[]) ho u hok hg fun b hb => nomatch hb
 have ffr:=I'.stkFree
 have ffd : ∀ b∈frs X.stack,∀ o,s'.heap.get? b = some o→∀ vs,o.data≠.fields vs:=fun b hb o e vs => by
  obtain ⟨_,o',e',d⟩:=I'.stack.mem hb
  rw [e] at e';cases e'
  exact d vs
 obtain ⟨C',hCe,Z,hmatch,tr,hpe,htr⟩:=hE
 cases hCe
 show wpAny _ _ (noteFrame (.ref e) X.env) _ _ _
 have fl0:=fl
 rw [hst] at fl0
 refine wpAny_looks_onW (L:=X.env.locals) (by rw [I.ok.frames,hst]) hf fl0 fun h4 hd4 up4 => ?_
 refine wpAny_landsW hd4 fun h5 fl5 up5 => ?_
 obtain ⟨u5,hok5,hB5⟩:=un_more u hok ffr ffd hB fl5.1 (up4.trans up5)
 have I5 : Inv X pins σ H' { s' with heap:=h5 }:=I.call' (s':={ s' with heap:=h5 }) (ch:=[]) ho u5 hok5 hg fun b hb => nomatch hb
 have own : ∀ {h : Heap} {σ0 : St},Heap.FlyingW B (X.env :: X.outer) e (.ref C) a0 h→StB (frs X.stack) s.heap H' h B→Inv X pins σ0 H' { s' with heap:=h }→∃ oe,h.get? e = some oe∧oe.cls = .ref C∧H' e = none∧e≠X.env.locals∧e ∉ X.fs∧(∀ v,oe.data≠.cell v):=fun {h σ0} fy hb J => by
  obtain ⟨oe,vs,he,hcl,hdt,_⟩:=fy.first
  have hne : e ∉ frs X.stack:=fun z => by
   obtain ⟨_,o',e',d⟩:=J.stack.mem z
   have e'' : h.get? e = some o':=e'
   rw [he] at e'';cases e''
   exact d vs hdt
  have hne2:=hne
  rw [frs_stack hst hf] at hne2
  refine ⟨oe,he,hcl,?_,fun z => hne2 (by rw [z];exact List.mem_cons_self),fun z => hne2 (List.mem_cons_of_mem _ z),fun v z => by rw [hdt] at z;cases z⟩
  cases q : H' e with
  | none => rfl
  | some ob =>
   have:=hB
   have z:=hb e oe he (.inr (by rw [q];exact fun z => nomatch z)) hne
   rw [fy.2.1] at z
   cases z
 obtain ⟨oe,he,hcl,hHe,hel,hefs,hcell⟩:=own fl5 hB5 I5
 have J5:=I5.toH e he hHe hel hefs hcell
 refine wpAny_handleBy_cons (codeAny_handlers_test ?_) (by intro q;cases q)
 refine ld_glob (X:=hCx X ((e,oe) :: (X.pn++pins)) e) J5 hgx hmx ?_ hdx
 have LT : PySem.W.Looks (model X.prog X.w) h5 (typeOf (.ref e)) (.ref C):=hcl ▸ (PySem.W.Looks.ld he).andThen .now
 refine (PySem.W.exm_one (M:=model X.prog X.w) (h:=h5) I5.kIn LT hmatch).here ?_
 show codeAny _ _ _ _ _
 refine codeAny_handlers_suite_as ?_
 refine lands_againW fl5 fun h6 fl6 up6 => ?_
 obtain ⟨u6,hok6,hB6⟩:=un_more u hok ffr ffd hB fl6.1 ((up4.trans up5).trans up6)
 have I6 : Inv X pins σ H' { s' with heap:=h6 }:=I.call' (s':={ s' with heap:=h6 }) (ch:=[]) ho u6 hok6 hg fun b hb => nomatch hb
 obtain ⟨oe6,he6,hcl6,hHe6,hel6,hefs6,hcell6⟩:=own fl6 hB6 I6
 have J6:=I6.toH e he6 hHe6 hel6 hefs6 hcell6
 have hset : (σ.set i (some (V.ref e)))[i]? = some (some (.ref e)):=by
  rw [List.getElem?_set_self]
  have:=I.len
  rw [this]
  exact (List.getElem?_eq_some_iff.mp hi).1
 refine store_ok (X:=hCx X ((e,oe6) :: (X.pn++pins)) e) J6 hN hi (.inl hloc) (show RelV (.ref e) (.ref e) from rfl) (fun s7 J7 => ?_) (.inr hloc)
 refine wpAny_mono (hpe _ _ _ List.mem_cons_self hcl6 [] s7 _ H' { nx:=fun σ' H'' => D.nx (σ'.set i none) H'',rt:=D.rt } J7 ⟨hset,htr _ (by rw [List.length_set];exact I.len)⟩) (fun f s8 q => ?_) fun _ _ z => z.elim
 cases f with
 | next =>
  obtain ⟨σ8,H8,J8,q8⟩:=q
  obtain ⟨m8,hn8,hl8⟩:=J8.loc
  have I8 : Inv X pins σ8 _ s8:=J8.ofH I.ok
  refine wpAny_nameGoes_keeps hloc hn8 (by rw [I.ok.kind];rfl) fun h9 v9 hn9 hs9 => ?_
  exact ⟨_,_,I8.gone hN hi hl8 hn9 hs9,q8⟩
 | brk => obtain ⟨_,_,_,z⟩:=q;exact z.elim
 | cont => obtain ⟨_,_,_,z⟩:=q;exact z.elim
 | ret uu =>
  obtain ⟨v,σ8,H8,J8,rv,q8⟩:=q
  obtain ⟨m8,hn8,_⟩:=J8.loc
  have I8 : Inv X pins σ8 _ s8:=J8.ofH I.ok
  refine wpAny_nameGoes hloc hn8 (by rw [I.ok.kind];rfl) fun h9 m9 hn9 hs9 => ?_
  exact ⟨v,_,_,I8.lost hn9 hs9,rv,q8⟩
end
end L2
namespace Mi
open PySem L2
open PyProof.Rows hiding St
noncomputable def thenD (k : D→R Out) : R D→R Out
 | .ok d => k d
 | .exc x => .exc x
 | .stuck => .stuck
theorem td_ok (k : D→R Out) (d : D) : thenD k (.ok d) = k d:=rfl
theorem td_exc (k : D→R Out) (x : Xc) : thenD k (.exc x) = .exc x:=rfl
noncomputable def calB (T : Tx) (N : List Str) (sc : Scope) (f : Nat) (es : List M) (e : Expr) : Bool:=callB e fun x as => okName x && glbB sc x && decide (T.F[f]? = some x) && okEs T N es sc as && as.all noStar && !as.isEmpty
noncomputable def XEnd (g : G) (E : Ent) (Es Hs : Hp) (O' : Ow) (D : Ends) (Ez : Str→Hp→Prop) : R Out→Prop
 | .ok o => EndOk g E Es Hs O' [] D o
 | .exc x => ∀ H' Hs',Grow E.hp Es H' Hs'→Ez x.cls H'
 | .stuck => False
theorem XEnd.mono {g : G} {E : Ent} {Es Hs Hs1 : Hp} {O' : Ow} {D : Ends} {Ez : Str→Hp→Prop} {r : R Out} (h : XEnd g E Es Hs O' D Ez r) (m : Same Hs Hs1) : XEnd g E Es Hs1 O' D Ez r:=by
 cases r with
 | ok o => exact EndOk.mono h m
 | exc x => exact h
 | stuck => exact h
noncomputable def tMX (X : Cx) (E : Ent) (Es : Hp) (O : List Nat) (O' : Ow) (Ez : Str→Hp→Prop) (run : En→R Out) : TS:=fun D σ H => ∃ ρ Hs,FR (gOf X) E Es O ρ σ H Hs∧XEnd (gOf X) E Es Hs O' D Ez (run ρ)
noncomputable def spXR (g : G) (mg : Str→Option Value) (H Hs : Hp) (Q : VK) (E : XK) : R D→Prop
 | .ok d => ∀ v H' Hs',Grow H Hs H' Hs'→Rp g Hs' d v→Q v H'
 | .exc x => ∀ H' Hs' C,mg x.cls = some (.ref C)→Grow H Hs H' Hs'→E (.ref C) none H'
 | .stuck => False
noncomputable def spX (g : G) (mg : Str→Option Value) (c : List D→R D) (np : Nat) : Sp:=fun vs H Q E => ∃ ds Hs,vs.length = np∧Same Hs H∧Rps g Hs ds vs∧spXR g mg H Hs Q E (c ds)
section
variable {T : Tx} {sc : Scope}
theorem calB_ok {N : List Str} {f : Nat} {es : List M} {e : Expr} (h : calB T N sc f es e = true) : ∃ x p y ys q,e = .Call (.Name x p) (y :: ys) [] q∧okName x = true∧glbB sc x = true∧T.F[f]? = some x∧okEs T N es sc (y :: ys) = true∧(y :: ys).all noStar = true:=by
 obtain ⟨x,p,as,q,rfl,h2⟩:=callB_ok h
 simp only [Bool.and_eq_true,decide_eq_true_eq,Bool.not_eq_true'] at h2
 obtain ⟨⟨⟨⟨⟨h1,h3⟩,h4⟩,h5⟩,h6⟩,h7⟩:=h2
 rcases as with _ | ⟨y,ys⟩
 ·cases h7
 exact ⟨x,p,y,ys,q,rfl,h1,h3,h4,h5,h6⟩
end
end Mi
namespace L2
open PySem PySem.Spec PyProof.Rows
section
variable {M : Model} {A : Around} {E : Value→Shared→Prop} {s : Shared}
end
section
variable {X : Cx} {E : XK} {pins : List (Addr × Obj)} {σ : St} {H3 : Hp} {s3 : Shared} {fp : List Addr} {scope : Scope} {use : Option (Value→Sem Unit)} {Qv : Value→Shared→Prop} {acc : Value}
end
end L2
namespace Mi
open PySem L2
open PyProof.Rows hiding St
section
variable {X : Cx} {U : List Nat} {Ek : XK} {r : En→R D}
noncomputable def tIx (X : Cx) (Ek : XK) (U : List Nat) (r : En→R D) : TI:=fun σ H R => ∃ ρ Hs,Same Hs H∧Vs (gOf X) ρ σ Hs U∧match r ρ with
 | .ok (.lst ds) => ∀ J H' Hs',Grow H Hs H' Hs'→Src (gOf X) J Hs' ds→R J H'
 | .exc x => ∀ H' Hs' C,X.mg x.cls = some (.ref C)→Grow H Hs H' Hs'→Ek (.ref C) none H'
 | _ => False
noncomputable def mapX (f : D→R D) : List D→R (List D)
 | [] => .ok []
 | d :: ds => do
  let y ← f d
  let ys ← mapX f ds
  .ok (y :: ys)
noncomputable def lstOf : D→R (List D)
 | .lst ds => if ds.length≤lim then .ok ds else .stuck
 | _ => .stuck
noncomputable def finX' (rr : R (List D)) : R D:=do
 let ys ← rr
 if ys.length≤lim then .ok (.lst ys) else .stuck
end
inductive XE where
 | m (e : M)
 | call (f : Nat) (es : List M)
 | comp (elt : XE) (tg : Tg) (src : XE) (cap : List Bool)
 | tupl (e : XE)
noncomputable def noX : R D→R D
 | .ok d => .ok d
 | _ => .stuck
noncomputable def argsX (cl : List D→R D) : R (List D)→R D
 | .ok ds => cl ds
 | _ => .stuck
noncomputable def tupOf : D→R D
 | .lst ds => .ok (.tup ds)
 | _ => .stuck
noncomputable def evXE (cl : Nat→List D→R D) : XE→En→R D
 | .m e,ρ => noX (evE cl e ρ)
 | .call f es,ρ => argsX (cl f) (evEs cl es ρ)
 | .comp elt t src cap,ρ => do
  let s ← evXE cl src ρ
  let ds ← lstOf s
  finX' (mapX (fun d => do let ρ' ← bindT t d (maskV cap ρ);evXE cl elt ρ') ds)
 | .tupl e,ρ => do
  let d ← evXE cl e ρ
  tupOf d
noncomputable def useXE : XE→List Nat
 | .m e => useE e
 | .call _ es => useEs es
 | .comp elt _ src _ => useXE src++useXE elt
 | .tupl e => useXE e
section
variable {T : Tx} {cl : Nat→List D→R D} {Ek : XK}
end
end Mi
namespace Mi
open PySem L2
open PyProof.Rows hiding St
section
variable {T : Tx} {cl : Nat→List D→R D} {Ek : XK}
variable {X : Cx} {sc : Scope} {E : Ent} {Es : Hp} {O : List Nat} {pos : Pos} {Ez : Str→Hp→Prop}
end
end Mi
namespace Mi
open PySem L2
open PyProof.Rows hiding St
noncomputable def subN (x k : Str) : Bool:=decide (x = k) || decide (k = ("TestError" : Str)) || decide (k = ("ValueError" : Str))
inductive HR where
 | one (i : Nat) (k : Str) | con (b : Bool)
inductive XS where
 | n (m : MS) | rai (c : Str) | ce (f : Nat) (es : List M) | cr (f : Nat) (es : List M) | cs (i f : Nat) (es : List M)
 | cn (i f g : Nat) (es : List M)
 | xr (e : XE) | xs (i : Nat) (e : XE)
 | ifs (c : M) (a b : List XS) | tr (b : List XS) (i : Nat) (hc : Str) (ks xs : List Str) | tc (b : List XS) (hc : Str) (h : HR) (xs : List Str) | any | lam (g : Nat)
 | ts (b : List XS) (i v : Nat) (hc : Str) (kss : List (List Str)) (xs : List Str)
noncomputable def liftO : R Out→R Out
 | .ok o => .ok o
 | _ => .stuck
noncomputable def callXr (cl : Nat→List D→R D) (f : Nat) (k : D→R Out) : R (List D)→R Out
 | .ok ds => thenD k (cl f ds)
 | _ => .stuck
noncomputable def caughtD (hc : Str) (ks xs : List Str) : R Out→R Out
 | .exc x => if xs.contains x.cls && subN x.cls hc && decide (ks.length≤lim) then .ok (.rt (.lst (ks.map fun k => .bl (subN x.cls k)))) else .stuck
 | r => r
noncomputable def hrD (x : Str) : HR→Bool
 | .one _ k => subN x k
 | .con b => b
noncomputable def caughtC (hc : Str) (h : HR) (xs : List Str) : R Out→R Out
 | .exc x => if xs.contains x.cls && subN x.cls hc then .ok (.rt (.bl (hrD x.cls h))) else .stuck
 | r => r
noncomputable def nestD : R D→R Out
 | .exc x => .exc x
 | _ => .stuck
noncomputable def nestR (cl : Nat→List D→R D) (g : Nat) : R (List D)→R Out
 | .ok ds => nestD (cl g ds)
 | _ => .stuck
noncomputable def pickD (a b : R Out) : R D→R Out
 | .ok (.bl true) => a
 | .ok (.bl false) => b
 | _ => .stuck
noncomputable def badTx : Str:="no test of the book at place "
noncomputable def smallK (k : Nat) : Bool:=decide ((k : Int).natAbs.log2 < 1920) && decide ((Str.empty++badTx++Str.ofString (toString (k : Int))).length≤sizeLine)
noncomputable def badX (k : Nat) : R D:=if smallK k = true then .exc ⟨"BadTests", .int k⟩ else .stuck
noncomputable def lamGo (f : D→R D) : Nat→List D→R D
 | _,[] => .ok .non
 | k,t :: ts => match f t with
  | .ok (.bl true) => lamGo f (k + 1) ts
  | .ok (.bl false) => badX k
  | _ => .stuck
noncomputable def lamRes (f : D→R D) : D→R D
 | .lst ts => lamGo f 0 ts
 | _ => badX 0
noncomputable def lamR (cl : Nat→List D→R D) (g : Nat) (ρ : En) : R Out:=match getE ρ 0,getE ρ 1 with
 | .ok b,.ok d => thenD (fun _ => .ok (.nx ρ)) (lamRes (fun t => cl g [b,t]) d)
 | _,_ => .stuck
noncomputable def caughtS (n v : Nat) (hc : Str) (ks xs : List Str) : R Out→R Out
 | .exc x => if xs.contains x.cls && subN x.cls hc && decide (ks.length≤lim) then .ok (.nx ((List.replicate n none).set v (some (.lst (ks.map fun k => .bl (subN x.cls k)))))) else .stuck
 | r => r
mutual
noncomputable def runX (cl : Nat→List D→R D) : XS→En→R Out
 | .n m,ρ => liftO (runS cl m ρ)
 | .rai c,_ => .exc ⟨c,.non⟩
 | .ce f es,ρ => callXr cl f (fun _ => .ok (.nx ρ)) (evEs cl es ρ)
 | .cr f es,ρ => callXr cl f (fun d => .ok (.rt d)) (evEs cl es ρ)
 | .cs i f es,ρ => callXr cl f (fun d => .ok (.nx (ρ.set i (some d)))) (evEs cl es ρ)
 | .cn _ _ g es,ρ => nestR cl g (evEs cl es ρ)
 | .xr e,ρ => thenD (fun d => .ok (.rt d)) (evXE cl e ρ)
 | .xs i e,ρ => thenD (fun d => .ok (.nx (ρ.set i (some d)))) (evXE cl e ρ)
 | .ifs c a b,ρ => pickD (runXB cl a ρ) (runXB cl b ρ) (evE cl c ρ)
 | .tr b _ hc ks xs,ρ => caughtD hc ks xs (runXB cl b ρ)
 | .tc b hc h xs,ρ => caughtC hc h xs (runXB cl b ρ)
 | .any,_ => .stuck
 | .lam g,ρ => lamR cl g ρ
 | .ts b _ v hc kss xs,ρ => caughtS ρ.length v hc kss.flatten xs (runXB cl b ρ)
noncomputable def runXB (cl : Nat→List D→R D) : List XS→En→R Out
 | [],ρ => .ok (.nx ρ)
 | m :: ms,ρ => (match runX cl m ρ with
   | .ok (.nx ρ') => runXB cl ms ρ'
   | r => r)
end
section
variable (cl : Nat→List D→R D) (ρ : En)
theorem rx_n (m : MS) : runX cl (.n m) ρ = liftO (runS cl m ρ):=rfl
theorem rx_rai (c : Str) : runX cl (.rai c) ρ = .exc ⟨c,.non⟩:=rfl
theorem rx_ce (f : Nat) (es : List M) : runX cl (.ce f es) ρ = callXr cl f (fun _ => .ok (.nx ρ)) (evEs cl es ρ):=rfl
theorem rx_cr (f : Nat) (es : List M) : runX cl (.cr f es) ρ = callXr cl f (fun d => .ok (.rt d)) (evEs cl es ρ):=rfl
theorem rx_cs (i f : Nat) (es : List M) : runX cl (.cs i f es) ρ = callXr cl f (fun d => .ok (.nx (ρ.set i (some d)))) (evEs cl es ρ):=rfl
theorem rx_xr (e : XE) : runX cl (.xr e) ρ = thenD (fun d => .ok (.rt d)) (evXE cl e ρ):=rfl
theorem rx_xs (i : Nat) (e : XE) : runX cl (.xs i e) ρ = thenD (fun d => .ok (.nx (ρ.set i (some d)))) (evXE cl e ρ):=rfl
theorem rx_ifs (c : M) (a b : List XS) : runX cl (.ifs c a b) ρ = pickD (runXB cl a ρ) (runXB cl b ρ) (evE cl c ρ):=rfl
theorem rx_tr (b : List XS) (i : Nat) (hc : Str) (ks xs : List Str) : runX cl (.tr b i hc ks xs) ρ = caughtD hc ks xs (runXB cl b ρ):=rfl
theorem rx_tc (b : List XS) (hc : Str) (h : HR) (xs : List Str) : runX cl (.tc b hc h xs) ρ = caughtC hc h xs (runXB cl b ρ):=rfl
theorem cc_ok (hc : Str) (h : HR) (xs : List Str) (o : Out) : caughtC hc h xs (.ok o) = .ok o:=rfl
theorem rx_ts (b : List XS) (i v : Nat) (hc : Str) (kss : List (List Str)) (xs : List Str) : runX cl (.ts b i v hc kss xs) ρ = caughtS ρ.length v hc kss.flatten xs (runXB cl b ρ):=rfl
theorem cs_ok (n v : Nat) (hc : Str) (ks xs : List Str) (o : Out) : caughtS n v hc ks xs (.ok o) = .ok o:=rfl
theorem rx_any : runX cl .any ρ = .stuck:=rfl
noncomputable def thenX (ms : List XS) : R Out→R Out
 | .ok (.nx ρ') => runXB cl ms ρ'
 | r => r
theorem rxb_nil : runXB cl [] ρ = .ok (.nx ρ):=rfl
theorem rxb_cons (m : XS) (ms : List XS) : runXB cl (m :: ms) ρ = thenX cl ms (runX cl m ρ):=rfl
theorem tx_nx (ms : List XS) : thenX cl ms (.ok (.nx ρ)) = runXB cl ms ρ:=rfl
theorem tx_rt (ms : List XS) (d : D) : thenX cl ms (.ok (.rt d)) = .ok (.rt d):=rfl
theorem tx_exc (ms : List XS) (x : Xc) : thenX cl ms (.exc x) = .exc x:=rfl
theorem lift_ok (o : Out) : liftO (.ok o) = .ok o:=rfl
theorem cx_ok (f : Nat) (k : D→R Out) (ds : List D) : callXr cl f k (.ok ds) = thenD k (cl f ds):=rfl
theorem pk_t (a b : R Out) : pickD a b (.ok (.bl true)) = a:=rfl
theorem pk_f (a b : R Out) : pickD a b (.ok (.bl false)) = b:=rfl
theorem ct_ok (hc : Str) (ks xs : List Str) (o : Out) : caughtD hc ks xs (.ok o) = .ok o:=rfl
end
structure XT where
 xs : List Str
 hs : List Str
 kx : List Str
noncomputable def raiB (sc : Scope) (st : Stmt) (c : Str) : Bool:=isS 16 st && match st with
 | .Raise (some e) none _ => callB e fun x es => (match es with
  | [a] => isK 19 a && (match a with | .Constant (.str _) _ _ => decide (x = c) && okName x && glbB sc x | _ => false)
  | _ => false)
 | _ => false
theorem inv_Raise {s : Stmt} {b : Bool} (h : (isS 16 s && b) = true) : ∃ x y p,s = .Raise x y p:=Stmt.Raise.elim s (isS_ok h) fun _ _ _ => ⟨_,_,_,rfl⟩
theorem inv_Try {s : Stmt} {b : Bool} (h : (isS 17 s && b) = true) : ∃ x y z w p,s = .Try x y z w p:=Stmt.Try.elim s (isS_ok h) fun _ _ _ _ _ => ⟨_,_,_,_,_,rfl⟩
theorem inv_Constant {e : Expr} {b : Bool} (h : (isK 19 e && b) = true) : ∃ x y p,e = .Constant x y p:=Expr.Constant.elim (motive_1:=fun e => ∃ x y p,e = .Constant x y p) e (isK_ok h) fun _ _ _ => ⟨_,_,_,rfl⟩
theorem raiB_ok {sc : Scope} {st : Stmt} {c : Str} (h : raiB sc st c = true) : ∃ np tx k tp cp pos,st = .Raise (some (.Call (.Name c np) [.Constant (.str tx) k tp] [] cp)) none pos∧okName c = true∧glbB sc c = true:=by
 obtain ⟨x,y,p,rfl⟩:=inv_Raise h
 cases x with
 | none => cases h
 | some e =>
  cases y with
  | some _ => cases h
  | none =>
   obtain ⟨x,np,es,q,rfl,h2⟩:=callB_ok (show callB e _ = true from h)
   rcases es with _ | ⟨a,_ | ⟨a2,es⟩⟩ <;> try (cases h2;done)
   obtain ⟨c',k,tp,rfl⟩:=inv_Constant (show (isK 19 a && _) = true from h2)
   cases c' <;> try (cases h2;done)
   replace h2 : (decide (x = c) && okName x && glbB sc x) = true:=h2
   simp only [Bool.and_eq_true,decide_eq_true_eq] at h2
   obtain ⟨⟨rfl,h3⟩,h4⟩:=h2
   exact ⟨np,_,k,tp,q,p,rfl,h3,h4⟩
noncomputable def isxB (sc : Scope) (n : Str) : List Expr→List Str→Bool
 | [],[] => true
 | e :: es,k :: ks => (callB e fun x as => match as with
  | [a, b] => isK 23 a && (isK 23 b && (match a, b with | .Name y _, .Name z _ => decide (x = "isinstance") && decide (y = n) && decide (z = k) && glbB sc z && okName z | _, _ => false))
  | _ => false) && isxB sc n es ks
 | _,_ => false
noncomputable def locB (sc : Scope) (x : Str) : Bool:=match sc.names.lookup x with
 | some .local => true | _ => false
noncomputable def hanB (xt : XT) (N : List Str) (sc : Scope) (i : Nat) (hc : Str) (ks xs : List Str) : List ExceptHandler→Bool
 | [.ExceptHandler (some h) (some n) [r] _] => isK 23 h && (isS 3 r && (match h,r with
  | .Name x _,.Return (some l) _ => isK 24 l && (match l with
   | .List es _ => decide (x = hc) && glbB sc x && okName x && decide (N[i]? = some n) && locB sc n && okName n && glbB sc "isinstance" && isxB sc n es ks && xt.hs.contains hc && (ks.all fun k => xt.kx.contains k) && (xs.all fun x => xt.xs.contains x)
   | _ => false)
  | _,_ => false))
 | _ => false
noncomputable def hsB (sc : Scope) (n v : Str) : Bool→List Stmt→List (List Str)→Bool
 | _,[],[] => true
 | fst,st :: sts,ks :: kss => isS 5 st && (match st with
  | .Assign [tg] e _ => isK 23 tg && (match tg with
   | .Name y _ => decide (y = v) && (if fst then isK 24 e && (match e with | .List es _ => isxB sc n es ks | _ => false)
    else isK 2 e && (match e with | .BinOp a .Add b _ => isK 23 a && (isK 24 b && (match a,b with | .Name z _,.List es _ => decide (z = v) && isxB sc n es ks | _,_ => false)) | _ => false))
   | _ => false)
  | _ => false) && hsB sc n v false sts kss
 | _,_,_ => false
noncomputable def hasB (xt : XT) (N : List Str) (sc : Scope) (i v : Nat) (hc : Str) (kss : List (List Str)) (xs : List Str) : List ExceptHandler→Bool
 | [.ExceptHandler (some h) (some n) (s0 :: sts) _] => isK 23 h && (match h with
  | .Name x _ => decide (x = hc) && glbB sc x && okName x && decide (N[i]? = some n) && locB sc n && okName n && glbB sc "isinstance" && (match N[v]? with | some y => okName y && locB sc y && hsB sc n y true (s0 :: sts) kss | none => false) && decide (i ≠ v) && xt.hs.contains hc && (kss.flatten.all fun k => xt.kx.contains k) && (xs.all fun x => xt.xs.contains x)
  | _ => false)
 | _ => false
mutual
noncomputable def okX (T : Tx) (xt : XT) (N : List Str) (sc : Scope) (ra : Bool) : XS→Stmt→Bool
 | .n m,st => okS T N sc m st
 | .rai c, st => ra && xt.xs.contains c && raiB sc st c && decide (c ≠ "BadTests")
 | .ce f es,st => isS 24 st && match st with | .Expr v _ => calB T N sc f es v | _ => false
 | .cr f es,st => isS 3 st && match st with | .Return (some v) _ => calB T N sc f es v | _ => false
 | .cs i f es,st => isS 5 st && match st with | .Assign [tg] v _ => tgB N sc (.one i) tg && calB T N sc f es v | _ => false
 | .cn _ _ _ _,_ => false
 | .xr _,_ => false
 | .xs _ _,_ => false
 | .ifs c a b,st => isS 12 st && match st with | .If c' a' b' _ => okE T N c sc c' && okXB T xt N sc ra a a' && okXB T xt N sc ra b b' | _ => false
 | .tr _ _ _ _ _,_ => false
 | .tc _ _ _ _,_ => false
 | .any,_ => true
 | .lam _,_ => false
 | .ts b i v hc kss xs,st => isS 17 st && match st with | .Try body hs [] [] _ => okXB T xt N sc false b body && hasB xt N sc i v hc kss xs hs | _ => false
noncomputable def okXB (T : Tx) (xt : XT) (N : List Str) (sc : Scope) (ra : Bool) : List XS→List Stmt→Bool
 | [],sts => sts.isEmpty
 | m :: ms,sts => match sts with | st :: sts => okX T xt N sc ra m st && okXB T xt N sc ra ms sts | [] => false
end
mutual
noncomputable def chkX : XS→List Nat→Option Ow
 | .n m,O => chkS [] m O
 | .rai _,O => some none
 | .ce _ es,O => some (some (without O (useEs es)))
 | .cr _ es,O => some none
 | .cs i _ es,O => some (some (without (without O (useEs es)) [i]))
 | .cn _ _ _ _,O => some none
 | .xr _,O => some none
 | .xs i e,O => some (some (without (without O (useXE e)) [i]))
 | .ifs c a b,O => do
  let x ← chkXB a O
  let y ← chkXB b O
  some (meetO x y)
 | .tr b _ _ _ _,O => chkXB b O
 | .tc b _ _ _,O => chkXB b O
 | .any,O => some none
 | .lam _,O => some (some O)
 | .ts b _ _ _ _ _,O => do
  let _ ← chkXB b []
  some (some [])
noncomputable def chkXB : List XS→List Nat→Option Ow
 | [],O => some (some O)
 | m :: ms,O => do
  let x ← chkX m O
  match x with
  | none => some none
  | some O1 => chkXB ms O1
end
structure XF (xt : XT) (K : PySem.W.Frag) (mg : Str→Option Value) : Prop where
 cls : ∀ x ∈ xt.xs, ∃ C, mg x = some (.ref C) ∧ PySem.W.XcK K C ∧ (x ≠ "BadTests" → PySem.W.excIn K C L2.mroVE "ValueError.__new__" = true)
 mat : ∀ x∈xt.xs,∀ h∈xt.hs,∃ C Ch,mg x = some (.ref C)∧mg h = some (.ref Ch)∧PySem.W.exmOne K (.ref C) (.ref Ch) = some (subN x h)
 kit : ∀ x ∈ xt.xs, ∀ k ∈ xt.kx, ∃ C c, mg x = some (.ref C) ∧ ((∃ a, c = .ref a ∧ mg k = some (.ref a)) ∨ (∃ n, c = .type n ∧ mg k = none ∧ bootBuiltins k = some (.type n) ∧ k ≠ "__name__")) ∧ PySem.W.kitOne K (.ref C) c = some (subN x k)
structure XCok (T : Tx) (xt : XT) (cl : Nat→List D→R D) (X : Cx) (Ek : XK) (Ez : Str→Hp→Prop) (ra : Bool) : Prop where
 pass : Passes (CX1 X.prog X.w) X Ek
 rz : ra = true→XOk X Ek
 ez : ∀ x C H',X.mg x = some (.ref C)→Ez x H'→Ek (.ref C) none H'
 facts : XF xt X.K X.mg
 fns : ∀ f x,T.F[f]? = some x→∃ k a fd ps,FnOk X.prog X.w X.K X.mg X.base (CX1 X.prog X.w) k a fd ps (spX (gOf X) X.mg (cl f) ps.length)∧Room k X.A∧X.mg x = some (.ref a)∧PySem.W.keepIn X.K (.ref a) = true∧Binds X.K fd ps []∧(∀ ds,cl f ds≠.stuck→ds.length = ps.length)
 hst : X.stack = X.env :: X.outer
 hfr : X.env.frame = some X.env.locals
section
variable {T : Tx} {xt : XT} {cl : Nat→List D→R D} {X : Cx} {sc : Scope} {E : Ent} {Es : Hp} {O : List Nat} {pos : Pos} {Ek : XK} {Ez : Str→Hp→Prop} {ra : Bool}
theorem xcall {f : Nat} {ms : List M} {e : Expr} (C : Cok T cl X) (S : ScRel sc X) (XC : XCok T xt cl X Ek Ez ra) (h : calB T X.N sc f ms e = true) :
  PE X e (fun σ H Q => ∃ ρ Hs ds,Same Hs H∧Vs (gOf X) ρ σ Hs (useEs ms)∧evEs cl ms ρ = .ok ds∧spXR (gOf X) X.mg H Hs Q Ek (cl f ds)):=by
 obtain ⟨x,p,y,ys,q,rfl,ho,hg,hF,h2,hn⟩:=calB_ok h
 unfold okName at ho
 simp only [Bool.and_eq_true,Bool.not_eq_true'] at ho
 obtain ⟨k,a,fd,ps,FX,hr,hm,hk,hb,hlen⟩:=XC.fns f x hF
 have pa:=pa_all C S (fun m _ => good m) h2 hn
 simp only [List.all_cons,Bool.and_eq_true] at hn
 refine pe_imp (pe_call FX hr (S.glb _ hg) hm hk hb .nil XC.pass pa ho.1.1 (star_cons hn.1) (star_any hn.2)) fun σ H Q => ?_
 rintro ⟨ρ,Hs,ds,hs,hv,hev,hk⟩
 refine ⟨ρ,Hs,ds,hs,hv,hev,fun vs H1 Hs1 g1 r1 => ?_⟩
 show spX (gOf X) X.mg (cl f) ps.length (vs++[]) H1 Q Ek
 rw [List.append_nil]
 have hne : cl f ds≠.stuck:=fun z => by rw [z] at hk;exact hk
 refine ⟨ds,Hs1,by rw [← r1.length];exact hlen ds hne,g1.sub,r1,?_⟩
 cases hcl : cl f ds with
 | ok d => rw [hcl] at hk;exact fun v H' Hs' g r => hk v H' Hs' (g1.trans g) r
 | exc x => rw [hcl] at hk;exact fun H' Hs' C hC g => hk H' Hs' C hC (g1.trans g)
 | stuck => exact absurd hcl hne
theorem callXr_end {f : Nat} {k : D→R Out} {re : R (List D)} {g : G} {Hs : Hp} {O' : Ow} {D : Ends} (h : XEnd g E Es Hs O' D Ez (callXr cl f k re)) : ∃ ds,re = .ok ds∧XEnd g E Es Hs O' D Ez (thenD k (cl f ds)):=by
 cases re with
 | ok ds => exact ⟨ds,rfl,h⟩
 | exc x => exact h.elim
 | stuck => exact h.elim
theorem sx_ce {f : Nat} {ms : List M} {e : Expr} (C : Cok T cl X) (S : ScRel sc X) (XC : XCok T xt cl X Ek Ez ra) (h : calB T X.N sc f ms e = true) : PS X (.Expr e pos) (tMX X E Es O (some (without O (useEs ms))) Ez (runX cl (.ce f ms))):=by
 have hnc : noComp e = true:=by obtain ⟨x,p,y,ys,q,rfl,_⟩:=calB_ok h;rfl
 refine ps_imp (ps_expr (xcall C S XC h) (swaps_no hnc)) fun D σ H => ?_
 rintro ⟨ρ,Hs,F,k⟩
 obtain ⟨ds,hds,k⟩:=callXr_end k
 obtain ⟨Hs1,F1,m1,vs⟩:=F.pubU (useEs ms)
 refine ⟨ρ,Hs1,ds,F1.sub,vs,hds,?_⟩
 cases hcl : cl f ds with
 | ok d => rw [hcl] at k;exact fun v H' Hs' g r => k _ rfl _ _ _ (F1.grown g) (m1.trans (g.same F1.sub))
 | exc x => rw [hcl] at k;exact fun H' Hs' C' hC g => XC.ez _ _ _ hC (k H' Hs' (F1.grow.trans g))
 | stuck => rw [hcl] at k;exact k
theorem sx_cr {f : Nat} {ms : List M} {e : Expr} (C : Cok T cl X) (S : ScRel sc X) (XC : XCok T xt cl X Ek Ez ra) (h : calB T X.N sc f ms e = true) : PS X (.Return (some e) pos) (tMX X E Es O none Ez (runX cl (.cr f ms))):=by
 refine ps_imp (ps_ret (xcall C S XC h)) fun D σ H => ?_
 rintro ⟨ρ,Hs,F,k⟩
 obtain ⟨ds,hds,k⟩:=callXr_end k
 obtain ⟨Hs1,F1,m1,vs⟩:=F.pubU (useEs ms)
 refine ⟨ρ,Hs1,ds,F1.sub,vs,hds,?_⟩
 cases hcl : cl f ds with
 | ok d => rw [hcl] at k;exact fun v H' Hs' g r => k v H' Hs' (F1.grow.trans g) r
 | exc x => rw [hcl] at k;exact fun H' Hs' C' hC g => XC.ez _ _ _ hC (k H' Hs' (F1.grow.trans g))
 | stuck => rw [hcl] at k;exact k
theorem sx_cs {i f : Nat} {ms : List M} {e tg : Expr} (C : Cok T cl X) (S : ScRel sc X) (XC : XCok T xt cl X Ek Ez ra) (hq : ∀ q∈E.pins,q.1 ∉ tgSlots (.one i)) (h1 : tgB X.N sc (.one i) tg = true) (h : calB T X.N sc f ms e = true) :
  PS X (.Assign [tg] e pos) (tMX X E Es O (some (without (without O (useEs ms)) [i])) Ez (runX cl (.cs i f ms))):=by
 have hnc : noComp e = true∧tupOk (.one i) e = true:=by obtain ⟨x,p,y,ys,q,rfl,_⟩:=calB_ok h;exact ⟨rfl,rfl⟩
 refine ps_imp (ps_asg (xcall C S XC h) (pg_tg C S h1) (swaps_no (t:=some tg) (l:=pos.line) (env:=X.env) hnc.1) (stores_no hnc.2 h1) (assign1 h1)) fun D σ H => ?_
 rintro ⟨ρ,Hs,F,k⟩
 obtain ⟨ds,hds,k⟩:=callXr_end k
 obtain ⟨Hs1,F1,m1,vs⟩:=F.pubU (useEs ms)
 refine ⟨ρ,Hs1,ds,F1.sub,vs,hds,?_⟩
 cases hcl : cl f ds with
 | ok d =>
  rw [hcl] at k
  intro v H' Hs' g r
  have F2:=F1.grown g
  refine tg_read (X:=X) (t:=.one i) (ρ:=ρ) g.sub rfl r fun l hl hrl eρ => ?_
  have F3:=F2.putL (by rw [hl];exact hq) hrl
  rw [hl,← eρ] at F3
  exact k _ rfl _ _ _ F3 (m1.trans (g.same F1.sub))
 | exc x => rw [hcl] at k;exact fun H' Hs' C' hC g => XC.ez _ _ _ hC (k H' Hs' (F1.grow.trans g))
 | stuck => rw [hcl] at k;exact k
theorem XEnd.meetL {g : G} {Hs : Hp} {x y : Ow} {D : Ends} {r : R Out} (h : XEnd g E Es Hs (meetO x y) D Ez r) : XEnd g E Es Hs x D Ez r:=by
 cases r with
 | ok o => exact EndOk.meetL h
 | exc x => exact h
 | stuck => exact h
theorem XEnd.meetR {g : G} {Hs : Hp} {x y : Ow} {D : Ends} {r : R Out} (h : XEnd g E Es Hs (meetO x y) D Ez r) : XEnd g E Es Hs y D Ez r:=by
 cases r with
 | ok o => exact EndOk.meetR h
 | exc x => exact h
 | stuck => exact h
theorem sx_if {c : M} {a b : List XS} {c' : Expr} {a' b' : List Stmt} {x y : Ow} (C : Cok T cl X) (S : ScRel sc X) (h1 : okE T X.N c sc c' = true) (ha : PSs X a' (tMX X E Es O x Ez (runXB cl a))) (hb : PSs X b' (tMX X E Es O y Ez (runXB cl b))) :
  PS X (.If c' a' b' pos) (tMX X E Es O (meetO x y) Ez (runX cl (.ifs c a b))):=by
 refine ps_imp (ps_if (good c C S h1).2 ha hb) fun D σ H => ?_
 rintro ⟨ρ,Hs,F,k⟩
 replace k : XEnd (gOf X) E Es Hs (meetO x y) D Ez (pickD (runXB cl a ρ) (runXB cl b ρ) (evE cl c ρ)):=k
 obtain ⟨Hs1,F1,m1,vs,w1⟩:=F.pubW (useE c)
 cases hc : evE cl c ρ with
 | exc z => rw [hc] at k;exact k.elim
 | stuck => rw [hc] at k;exact k.elim
 | ok d =>
  rw [hc] at k
  cases d <;> try (exact k.elim)
  rename_i t
  refine ⟨ρ,Hs1,t,F1.sub,vs,hc,fun H1 Hs2 g2 => ?_⟩
  obtain ⟨Hs3,g3,_,_⟩:=unpub F.sub w1 g2
  have m2:=g3.same F.sub
  cases t with
  | true => (try dsimp only);rw [if_pos rfl];exact ⟨ρ,Hs3,F.grown g3,(XEnd.meetL k).mono m2⟩
  | false => (try dsimp only);rw [if_neg (by decide)];exact ⟨ρ,Hs3,F.grown g3,(XEnd.meetR k).mono m2⟩
end
end Mi
namespace Mi
open PySem L2
open PyProof.Rows hiding St
section
variable {T : Tx} {xt : XT} {cl : Nat→List D→R D} {X : Cx} {sc : Scope} {E : Ent} {Es : Hp} {O : List Nat} {pos : Pos} {Ek : XK} {Ez : Str→Hp→Prop} {ra : Bool}
theorem isx_all {n x : Str} {C : Addr} (S : ScRel sc X) : ∀ {es : List Expr} {ks : List Str},isxB sc n es ks = true→(∀ k∈ks,∃ c,ClsN X k c∧PySem.W.kitOne X.K (.ref C) c = some (subN x k))→IsxAll X n C es (ks.map fun k => subN x k)
 | [],[],_,_ => .nil
 | [],_ :: _,h,_ => by cases h
 | _ :: _,[],h,_ => by cases h
 | e :: es,k :: ks,h,hk => by
  replace h : (callB e _ && isxB sc n es ks) = true:=h
  rw [Bool.and_eq_true] at h
  obtain ⟨h1,h2⟩:=h
  obtain ⟨f,p,as,q,rfl,h3⟩:=callB_ok h1
  rcases as with _ | ⟨a,_ | ⟨b,_ | ⟨c,as⟩⟩⟩ <;> try (cases h3;done)
  obtain ⟨y,p2,rfl⟩:=inv_Name (show (isK 23 a && _) = true from h3)
  obtain ⟨z,p3,rfl⟩:=inv_Name (show (isK 23 b && _) = true from h3)
  replace h3 : (decide (f = "isinstance") && decide (y = n) && decide (z = k) && glbB sc z && okName z) = true:=h3
  simp only [Bool.and_eq_true,decide_eq_true_eq] at h3
  obtain ⟨⟨⟨⟨rfl,rfl⟩,rfl⟩,hg⟩,ho⟩:=h3
  unfold okName at ho
  simp only [Bool.and_eq_true,Bool.not_eq_true'] at ho
  obtain ⟨c,hc,hkit⟩:=hk z List.mem_cons_self
  exact .cons (S.glb _ hg) ho.1.1 hc hkit (isx_all S h2 fun k hk' => hk k (List.mem_cons_of_mem _ hk'))
theorem cok_try {pins : List (Addr × Obj)} {D : Ends} {hs : List ExceptHandler} (C : Cok T cl X) : Cok T cl (tryCx X pins D hs):=⟨C.calm,C.nd,C.un,C.blt,C.gl,C.fns⟩
theorem scr_try {pins : List (Addr × Obj)} {D : Ends} {hs : List ExceptHandler} (S : ScRel sc X) : ScRel sc (tryCx X pins D hs):=⟨S.glb,S.vis,S.cf,S.own⟩
structure Clause (xt : XT) (X : Cx) (D : Ends) (hc : Str) (hs : List ExceptHandler) (Ek : Addr→XK) (Ez : Str→Hp→Prop) : Prop where
 mem : hc∈xt.hs
 mine : ∀ x H',Ez x H'→x∈xt.xs∧subN x hc = true
 pass : ∀ Ch (pins pins' : List (Addr × Obj)) σ H s ev s',X.mg hc = some (.ref Ch)→Inv X pins σ H s→CX1 X.prog X.w X.stack H s (Ek Ch) ev s'→tryXe X pins D hs ev s'
 ez : ∀ Ch C x H',X.mg x = some (.ref C)→PySem.W.XcK X.K C→PySem.W.exmOne X.K (.ref C) (.ref Ch) = some true→Ez x H'→Ek Ch (.ref C) none H'
theorem xcok_clause {pins : List (Addr × Obj)} {D : Ends} {hc : Str} {hs : List ExceptHandler} {Ek1 : Addr→XK} {Ez1 : Str→Hp→Prop} (XC : XCok T xt cl X Ek Ez ra) (hh : Clause xt X D hc hs Ek1 Ez1) :
  ∃ Ek',XCok T xt cl (tryCx X pins D hs) Ek' Ez1 false:=by
 have ⟨Ch,hCh⟩ : ∃ Ch,(∀ x∈xt.xs,∃ C,X.mg x = some (.ref C)∧PySem.W.exmOne X.K (.ref C) (.ref Ch) = some (subN x hc))∧(X.mg hc = some (.ref Ch)∨xt.xs = []):=by
  cases hxs : xt.xs with
  | nil => exact ⟨0,⟨fun x hx' => (by cases hx'),.inr rfl⟩⟩
  | cons x0 xs0 =>
   obtain ⟨C0,Ch,_,e2,_⟩:=XC.facts.mat x0 (by rw [hxs];exact List.mem_cons_self) hc hh.mem
   refine ⟨Ch,⟨fun x hx' => ?_,.inl e2⟩⟩
   obtain ⟨C1,Ch1,e3,e4,e5⟩:=XC.facts.mat x (by rw [hxs];exact hx') hc hh.mem
   rw [e2] at e4
   cases e4
   exact ⟨C1,e3,e5⟩
 rcases hCh.2 with hmx | hnil
 ·refine ⟨Ek1 Ch,⟨fun pins' σ H s ev s' I hcx => hh.pass Ch _ pins' σ H s ev s' hmx I.ofTry hcx,fun z => (by cases z),fun x C' H' hC k => ?_,XC.facts,XC.fns,XC.hst,XC.hfr⟩⟩
  have e1' : X.mg x = some (.ref C'):=hC
  obtain ⟨hxm,hsub⟩:=hh.mine x H' k
  obtain ⟨C1,e1,e2⟩:=hCh.1 x hxm
  rw [e1'] at e1
  cases e1
  obtain ⟨C2,e3,Z,_⟩:=XC.facts.cls x hxm
  rw [e1'] at e3
  cases e3
  exact hh.ez Ch C' x H' e1' Z (by rw [e2,hsub]) k
 ·refine ⟨fun _ _ _ => False,⟨fun pins' σ H s ev s' I hcx => ?_,fun z => (by cases z),fun x C' H' hC k => ?_,XC.facts,XC.fns,XC.hst,XC.hfr⟩⟩
  ·obtain ⟨_,_,_,_,_,_,_,_,_,_,_,_,z⟩:=hcx
   exact z.elim
  ·have hxm:=(hh.mine x H' k).1
   rw [hnil] at hxm
   cases hxm
theorem locB_ok {n : Str} (h : locB sc n = true) : sc.names.lookup n = some .local:=by
 unfold locB at h
 split at h
 ·assumption
 ·cases h
theorem rps_bools {g : G} {H : Hp} {x : Str} : ∀ ks : List Str,Rps g H (ks.map fun k => D.bl (subN x k)) (ks.map fun k => V.bl (subN x k))
 | [] => Rps.nil
 | k :: ks => Rps.cons (rp_bl.mpr rfl) (rps_bools ks)
structure HasOk (xt : XT) (N : List Str) (sc : Scope) (i v : Nat) (hc : Str) (kss : List (List Str)) (xs : List Str) (hs : List ExceptHandler) : Prop where
 ex : ∃ np n y s0 sts hp, hs = [.ExceptHandler (some (.Name hc np)) (some n) (s0 :: sts) hp] ∧ glbB sc hc = true ∧ okName hc = true ∧ N[i]? = some n ∧ sc.names.lookup n = some .local ∧ okName n = true ∧ glbB sc "isinstance" = true ∧ N[v]? = some y ∧ okName y = true ∧ sc.names.lookup y = some .local ∧
  hsB sc n y true (s0 :: sts) kss = true∧i≠v∧hc∈xt.hs∧(∀ k∈kss.flatten,k∈xt.kx)∧(∀ x∈xs,x∈xt.xs)
theorem hasB_ok {N : List Str} {i v : Nat} {hc : Str} {kss : List (List Str)} {xs : List Str} {hs : List ExceptHandler} (h : hasB xt N sc i v hc kss xs hs = true) : HasOk xt N sc i v hc kss xs hs:=by
 rcases hs with _ | ⟨⟨t,nm,body,hp⟩,_ | ⟨h2,hs⟩⟩
 ·cases h
 ·cases t with
  | none => cases h
  | some t =>
   cases nm with
   | none => cases h
   | some n =>
    rcases body with _ | ⟨s0,sts⟩
    ·cases h
    ·obtain ⟨x,np,rfl⟩:=inv_Name (show (isK 23 t && _) = true from h)
     replace h : (decide (x = hc) && glbB sc x && okName x && decide (N[i]? = some n) && locB sc n && okName n && glbB sc "isinstance" && (match N[v]? with | some y => okName y && locB sc y && hsB sc n y true (s0 :: sts) kss | none => false) && decide (i ≠ v) && xt.hs.contains hc && (kss.flatten.all fun k => xt.kx.contains k) && (xs.all fun x => xt.xs.contains x)) = true:=h
     simp only [Bool.and_eq_true,decide_eq_true_eq,List.all_eq_true] at h
     obtain ⟨⟨⟨⟨⟨⟨⟨⟨⟨⟨⟨rfl,a2⟩,a3⟩,a4⟩,a5⟩,a6⟩,a7⟩,a8⟩,a9⟩,b1⟩,b2⟩,b3⟩:=h
     cases hv : N[v]? with
     | none => rw [hv] at a8;cases a8
     | some y =>
      rw [hv] at a8
      simp only [Bool.and_eq_true] at a8
      exact ⟨np,n,y,s0,sts,hp,rfl,a2,a3,a4,locB_ok a5,a6,a7,hv,a8.1.1,locB_ok a8.1.2,a8.2,a9,by simpa using b1,fun k hk => by simpa using b2 k hk,fun y hy => by simpa using b3 y hy⟩
 ·cases t <;> cases nm <;> rcases body with _ | ⟨s0,sts⟩ <;> cases h
noncomputable def Ezs (D : Ends) (n i v : Nat) (hc : Str) (ks xs : List Str) : Str→Hp→Prop:=fun x H' => (xs.contains x && subN x hc && decide (ks.length≤lim)) = true∧∀ p σ' H'',Same H' H''→H' p = none→H'' p = some (.lst (ks.map fun k => V.bl (subN x k)))→σ'.length = n→σ'[v]? = some (some (.ref p))→D.nx σ' H''
noncomputable def tSu (v : Nat) (x : Str) : Bool→List (List Str)→TS
 | _,[] => fun D σ H => D.nx σ H
 | true,ks :: kss => fun D σ H => ks.length≤sizeLine∧∀ p,H p = none→tSu v x false kss D (σ.set v (some (.ref p))) (upd H p (.lst (ks.map fun k => V.bl (subN x k))))
 | false,ks :: kss => fun D σ H => ∃ p0 pre,σ[v]? = some (some (.ref p0))∧H p0 = some (.lst pre)∧ks.length≤sizeLine∧pre.length + ks.length≤sizeLine∧∀ p1,H p1 = none→∀ p2,upd H p1 (.lst (ks.map fun k => V.bl (subN x k))) p2 = none →
   tSu v x false kss D (σ.set v (some (.ref p2))) (upd (upd H p1 (.lst (ks.map fun k => V.bl (subN x k)))) p2 (.lst (pre++ks.map fun k => V.bl (subN x k))))
theorem tSu_run {v : Nat} {x : Str} {D : Ends} {H0 : Hp} {n : Nat} {all : List V} : ∀ (kss : List (List Str)) (σ : St) (H : Hp) (pre : List V) (p0 : Addr),σ.length = n→v < n→Same H0 H→H0 p0 = none→σ[v]? = some (some (.ref p0))→H p0 = some (.lst pre)→pre.length + kss.flatten.length≤sizeLine→(pre++kss.flatten.map fun k => V.bl (subN x k)) = all →
  (∀ p σ' H',Same H0 H'→H0 p = none→H' p = some (.lst all)→σ'.length = n→σ'[v]? = some (some (.ref p))→D.nx σ' H')→tSu v x false kss D σ H
 | [],σ,H,pre,p0,hl,hv,hs,h0,e1,e2,hz,ha,k => k p0 σ H hs h0 (by rw [e2,← ha];simp) hl e1
 | ks :: kss,σ,H,pre,p0,hl,hv,hs,h0,e1,e2,hz,ha,k => by
  rw [List.flatten_cons,List.length_append] at hz
  refine ⟨p0,pre,e1,e2,by omega,by omega,fun p1 h1 p2 h2 => ?_⟩
  have n1 : ∀ b o,H0 b = some o→upd (upd H p1 (.lst (ks.map fun k => V.bl (subN x k)))) p2 (.lst (pre++ks.map fun k => V.bl (subN x k))) b = some o:=fun b o q => by
   have q1:=hs b o q
   rw [upd_ne (ne_of_none (by rw [upd_ne (ne_of_none q1 h1)];exact q1) h2),upd_ne (ne_of_none q1 h1)];exact q1
  have n2 : H0 p2 = none:=by
   cases z : H0 p2 with
   | none => rfl
   | some o =>
    have q1:=hs p2 o z
    rw [upd_ne (ne_of_none q1 h1),q1] at h2;cases h2
  refine tSu_run kss _ _ _ p2 (by rw [List.length_set];exact hl) hv n1 n2 (List.getElem?_set_self (by omega)) upd_same (by rw [List.length_append,List.length_map];omega) ?_ k
  rw [← ha,List.flatten_cons,List.map_append,List.append_assoc]
theorem suite_ok {n y x : Str} {C' : Addr} {i v : Nat} (hsc : sc = X.env.scope) (C : Cok T cl X) (S : ScRel sc X) (Z : PySem.W.XcK X.K C') (hi : X.N[i]? = some n) (hloc : X.env.scope.names.lookup n = some .local) (hv : X.N[v]? = some y) (hlv : X.env.scope.names.lookup y = some .local) (hiv : i ≠ v) (o2 : okName n = true) (o3 : okName y = true) (hgi : Gl X "isinstance") (hmi : X.mg "isinstance" = none) (pn : List (Addr × Obj)) (e : Addr) (oe : Obj) (hm : (e, oe) ∈ pn) (hcl : oe.cls = .ref C') :
  ∀ {sts : List Stmt} {kss : List (List Str)} {fst : Bool},hsB sc n y fst sts kss = true→(∀ k∈kss.flatten,∃ c,ClsN X k c∧PySem.W.kitOne X.K (.ref C') c = some (subN x k))→PSs (hCx X pn e) sts (fun D σ H => σ[i]? = some (some (.ref e))∧tSu v x fst kss D σ H)
 | [],[],fst,h,hk => pss_imp pss_nil fun D σ H q => by cases fst <;> exact q.2
 | [],_ :: _,fst,h,hk => by cases fst <;> cases h
 | _ :: _,[],fst,h,hk => by cases fst <;> cases h
 | st :: sts,ks :: kss,fst,h,hk => by
  have ih:=fun h2 => suite_ok hsc C S Z hi hloc hv hlv hiv o2 o3 hgi hmi pn e oe hm hcl (sts:=sts) (kss:=kss) (fst:=false) h2 fun k hk' => hk k (by rw [List.flatten_cons];exact List.mem_append_right _ hk')
  unfold okName at o2 o3
  simp only [Bool.and_eq_true,Bool.not_eq_true'] at o2 o3
  have set_i : ∀ {σ : St} {w : V},σ[i]? = some (some (.ref e))→(σ.set v (some w))[i]? = some (some (.ref e)):=fun h => by rw [List.getElem?_set_ne (Ne.symm hiv)];exact h
  have hk1 : ∀ k∈ks,∃ c,ClsN X k c∧PySem.W.kitOne X.K (.ref C') c = some (subN x k):=fun k hk' => hk k (by rw [List.flatten_cons];exact List.mem_append_left _ hk')
  have lst : ∀ {es : List Expr} {lp : Pos},isxB sc n es ks = true→PE (hCx X pn e) (.List es lp) (fun σ H Q => σ[i]? = some (some (.ref e))∧ks.length≤sizeLine∧∀ p,H p = none→Q (.ref p) (upd H p (.lst (ks.map fun k => V.bl (subN x k))))):=fun {es lp} hx => by
   intro pins s σ H Q I h
   refine pe_lst (pa_isx (X:=hCx X pn e) (i:=i) hm hcl Z hi (.inl hloc) o2.1.1 o2.1.2 hgi hmi (isx_all (X:=X) (C:=C') (x:=x) S hx hk1).toH) pins s σ H Q I ?_
   refine ⟨h.1,by rw [List.length_map,List.length_map];exact h.2.1,fun p hp => ?_⟩
   rw [List.map_map]
   exact h.2.2 p hp
  have pg : ∀ {p : Pos},PG (hCx X pn e) (.Name y p) (gName v):=fun {p} => pg_name (X:=hCx X pn e) C.nd hv (.inl hlv) (.inr hlv)
  cases fst with
  | true =>
   replace h : ((isS 5 st && _) && hsB sc n y false sts kss) = true:=h
   rw [Bool.and_eq_true] at h
   obtain ⟨h1,h2⟩:=h
   obtain ⟨tgs,ev,p,rfl⟩:=inv_Assign h1
   rcases tgs with _ | ⟨tg,_ | ⟨tg2,tgs⟩⟩ <;> try (cases h1;done)
   obtain ⟨y',p2,rfl⟩:=inv_Name (show (isK 23 tg && _) = true from h1)
   replace h1 : (decide (y' = y) && (isK 24 ev && _)) = true:=h1
   rw [Bool.and_eq_true,decide_eq_true_eq] at h1
   obtain ⟨rfl,h3⟩:=h1
   obtain ⟨es,lp,rfl⟩:=inv_List h3
   refine pss_imp (pss_cons (ps_asg (lst (show isxB sc n es ks = true from h3)) pg) (ih h2)) fun D σ H q => ?_
   exact ⟨q.1,q.2.1,fun p hp => ⟨set_i q.1,q.2.2 p hp⟩⟩
  | false =>
   replace h : ((isS 5 st && _) && hsB sc n y false sts kss) = true:=h
   rw [Bool.and_eq_true] at h
   obtain ⟨h1,h2⟩:=h
   obtain ⟨tgs,ev,p,rfl⟩:=inv_Assign h1
   rcases tgs with _ | ⟨tg,_ | ⟨tg2,tgs⟩⟩ <;> try (cases h1;done)
   obtain ⟨y',p2,rfl⟩:=inv_Name (show (isK 23 tg && _) = true from h1)
   replace h1 : (decide (y' = y) && (isK 2 ev && _)) = true:=h1
   rw [Bool.and_eq_true,decide_eq_true_eq] at h1
   obtain ⟨rfl,h3⟩:=h1
   obtain ⟨a,o,b,bp,rfl⟩:=inv_BinOp h3
   cases o <;> try (cases h3;done)
   obtain ⟨z,p3,rfl⟩:=inv_Name (show (isK 23 a && _) = true from h3)
   obtain ⟨es,lp,rfl⟩:=inv_List (show (isK 24 b && _) = true from h3)
   replace h3 : (decide (z = y') && isxB sc n es ks) = true:=h3
   rw [Bool.and_eq_true,decide_eq_true_eq] at h3
   obtain ⟨rfl,h3⟩:=h3
   refine pss_imp (pss_cons (ps_asg (pe_op op_cat (pe_var (X:=hCx X pn e) hv (.inl hlv) o3.1.1 o3.1.2) (lst h3)) pg) (ih h2)) fun D σ H q => ?_
   obtain ⟨q1,p0,pre,q2,q3,q4,q5,q6⟩:=q
   refine ⟨.ref p0,q2,q1,q4,fun p1 hp1 => ⟨p0,p1,pre,_,rfl,rfl,by rw [upd_ne (ne_of_none q3 hp1)];exact q3,upd_same,by rw [List.length_map];exact q5,fun p2 hp2 => ⟨set_i q1,q6 p1 hp1 p2 hp2⟩⟩⟩
theorem clause_set {D : Ends} {i v : Nat} {hc : Str} {kss : List (List Str)} {xs : List Str} {hs : List ExceptHandler} (hsc : sc = X.env.scope) (C : Cok T cl X) (S : ScRel sc X) (F : XF xt X.K X.mg) (hst : X.stack = X.env :: X.outer) (hfr : X.env.frame = some X.env.locals) (hh : HasOk xt X.N sc i v hc kss xs hs) :
  ∃ Ek',Clause xt X D hc hs Ek' (Ezs D X.N.length i v hc kss.flatten xs):=by
 obtain ⟨np,n,y,s0,sts,hp,rfl,g1,o1,hi,hloc,o2,g2,hv,o3,hlv,hset,hiv,m1,m2,m3⟩:=hh.ex
 have o1':=o1
 unfold okName at o1'
 simp only [Bool.and_eq_true,Bool.not_eq_true'] at o1'
 have hmi : X.mg "isinstance" = none:=C.blt _ (by decide +kernel)
 have hvl : v < X.N.length:=(List.getElem?_eq_some_iff.mp hv).1
 refine ⟨fun Ch => tryE X D i Ch (s0 :: sts),m1,fun x H' k => ?_,fun Ch pins pins' σ H s ev s' hm I hcx => caught hst hfr C.nd hi (by rw [← hsc];exact hloc) (S.glb _ g1) hm o1'.1.1 I hcx,fun Ch C' x H' e1 Z em k => ?_⟩
 ·have k1:=k.1
  simp only [Bool.and_eq_true,decide_eq_true_eq] at k1
  exact ⟨m3 x (by simpa using k1.1.1),k1.1.2⟩
 ·obtain ⟨k1,k2⟩:=k
  simp only [Bool.and_eq_true,decide_eq_true_eq] at k1
  refine ⟨C',rfl,Z,em,tSu v x true kss,fun pn e oe hm hcl => suite_ok hsc C S Z hi (by rw [← hsc];exact hloc) hv (by rw [← hsc];exact hlv) hiv o2 o3 (S.glb _ g2) hmi pn e oe hm hcl hset fun k hk => ?_,fun σ hl => ?_⟩
  ·obtain ⟨C3,c,e4,e5,e6⟩:=F.kit x (m3 x (by simpa using k1.1.1)) k (m2 k hk)
   rw [e1] at e4
   cases e4
   exact ⟨c,e5,e6⟩
  ·cases kss with
   | nil => cases hset
   | cons ks kss =>
    have hz:=Nat.le_trans k1.2 lim_le
    rw [List.flatten_cons,List.length_append] at hz
    refine ⟨by omega,fun p hp => tSu_run kss _ _ (ks.map fun k => V.bl (subN x k)) p (n:=X.N.length) (H0:=H') (by rw [List.length_set];exact hl) hvl (fun b o q => by rw [upd_ne (ne_of_none q hp)];exact q) hp (List.getElem?_set_self (by omega)) upd_same (by rw [List.length_map];omega) rfl fun p' σ' H'' s' f' e' l' v' => ?_⟩
    refine k2 p' _ H'' s' f' (by rw [e',List.flatten_cons,List.map_append]) (by rw [List.length_set];exact l') (by rw [List.getElem?_set_ne hiv];exact v')
theorem sx_ts {b : List XS} {i v : Nat} {hc : Str} {kss : List (List Str)} {xs : List Str} {body : List Stmt} {hs : List ExceptHandler} {Ob : Ow} (hq : E.pins = []) (hh : HasOk xt X.N sc i v hc kss xs hs)
  (hb : ∀ (pins : List (Addr × Obj)) (D : Ends) (E' : Ent) (Es' : Hp),E'.pins = []→PSs (tryCx X pins D hs) body (tMX (tryCx X pins D hs) E' Es' [] Ob (Ezs D X.N.length i v hc kss.flatten xs) (runXB cl b))) :
  PS X (.Try body hs [] [] pos) (tMX X E Es O (some []) Ez (runX cl (.ts b i v hc kss xs))):=by
 obtain ⟨np,n,y,s0,sts,hp,rfl,_⟩:=hh.ex
 intro pins s σ H D I ht
 obtain ⟨ρ,Hs,F,k⟩:=ht
 obtain ⟨Hs0,F0,m0⟩:=F.fewer (O':=[]) fun i hi => (by cases hi)
 have F1 : FR (gOf X) ⟨H,[]⟩ Hs0 [] ρ σ H Hs0:=⟨Grow.refl F0.sub,F0.len,F0.val,fun i hi => (by cases hi),fun i hi => (by cases hi),fun q hq => (by cases hq)⟩
 have back : ∀ {O1 : List Nat} {ρ' : En} {σ' : St} {H' Hs' : Hp},FR (gOf X) ⟨H,[]⟩ Hs0 O1 ρ' σ' H' Hs'→∃ Hs'',FR (gOf X) E Es [] ρ' σ' H' Hs''∧Same Hs Hs'':=fun {O1 ρ' σ' H' Hs'} Fb => by
  obtain ⟨Hs2,F2,m2⟩:=Fb.fewer (O':=[]) fun i hi => (by cases hi)
  have g0 : Grow H Hs0 H' Hs2:=F2.grow
  exact ⟨Hs2,⟨F0.grow.trans g0,F2.len,F2.val,fun i hi => (by cases hi),fun i hi => (by cases hi),fun q hm => (by rw [hq] at hm;cases hm)⟩,m0.trans (g0.same F0.sub)⟩
 refine try_run I (hb pins D ⟨H,[]⟩ Hs0 rfl) ⟨ρ,Hs0,F1,?_⟩
 replace k : XEnd (gOf X) E Es Hs (some []) D Ez (caughtS ρ.length v hc kss.flatten xs (runXB cl b ρ)):=k
 cases hr : runXB cl b ρ with
 | stuck => rw [hr] at k;exact k
 | ok o =>
  rw [hr] at k
  cases o with
  | nx ρ' =>
   intro O1 e σ' H' Hs' Fb sb
   obtain ⟨Hs2,F2,m2⟩:=back Fb
   exact k [] rfl σ' H' Hs2 F2 m2
  | rt d => exact fun w H' Hs' g' r' => k w H' Hs' (F0.grow.trans g') r'
  | ro d =>
   intro w H' Hs' g' r' hn
   refine k w H' Hs' (F0.grow.trans g') r' fun a ea => ?_
   cases z : E.hp a with
   | none => rfl
   | some o =>
    have:=F0.grow.keep a o z
    rw [show H a = none from hn a ea] at this;cases this
  | bk ρ' =>
   intro σ' H' Hs' Fb sb
   obtain ⟨Hs2,F2,m2⟩:=back Fb
   exact k σ' H' Hs2 F2 m2
  | ct ρ' =>
   intro σ' H' Hs' Fb sb
   obtain ⟨Hs2,F2,m2⟩:=back Fb
   exact k σ' H' Hs2 F2 m2
 | exc x =>
  rw [hr] at k
  replace k : XEnd (gOf X) E Es Hs (some []) D Ez (if (xs.contains x.cls && subN x.cls hc && decide (kss.flatten.length≤lim)) = true then .ok (.nx ((List.replicate ρ.length none).set v (some (.lst (kss.flatten.map fun k => .bl (subN x.cls k)))))) else .stuck):=k
  intro H' Hs' gr
  by_cases hcond : (xs.contains x.cls && subN x.cls hc && decide (kss.flatten.length≤lim)) = true
  ·rw [if_pos hcond] at k
   refine ⟨hcond,fun p σ' H'' s' hp e1 l' v' => ?_⟩
   have gr2 : Grow H' Hs' H'' (upd Hs' p (.lst (kss.flatten.map fun k => V.bl (subN x.cls k)))):=by
    refine ⟨s',fun a o q => by rw [upd_ne (ne_of_none q hp)],fun a o q => ?_⟩
    by_cases za : a = p
    ·subst za;rw [upd_same] at q;cases q;exact e1
    ·rw [upd_ne za] at q;exact s' _ _ (gr.sub a o q)
   have rl : ρ.length = X.N.length:=F.len.trans I.len
   refine k [] rfl σ' H'' _ ⟨F0.grow.trans ((show Grow H Hs0 H' Hs' from gr).trans gr2),by rw [List.length_set,List.length_replicate,rl,l'],fun j d q _ => ?_,fun i hi => (by cases hi),fun i hi => (by cases hi),fun q hm => (by rw [hq] at hm;cases hm)⟩ (m0.trans (((show Grow H Hs0 H' Hs' from gr).same F0.sub).trans (gr2.same gr.sub)))
   have hj : j = v:=by
    by_cases z : j = v
    ·exact z
    ·rw [List.getElem?_set_ne (Ne.symm z),List.getElem?_replicate] at q
     split at q <;> cases q
   subst hj
   have hlt : j < ρ.length:=by
    by_cases z : j < ρ.length
    ·exact z
    ·rw [List.getElem?_eq_none (by rw [List.length_set,List.length_replicate];omega)] at q;cases q
   rw [List.getElem?_set_self (by rw [List.length_replicate];exact hlt)] at q
   cases q
   exact ⟨.ref p,v',rp_lst.mpr ⟨p,_,rfl,SqL.of upd_same,rps_bools _⟩⟩
  ·rw [if_neg hcond] at k
   exact k.elim
end
noncomputable def GoodX (T : Tx) (xt : XT) (cl : Nat→List D→R D) (m : XS) : Prop:=∀ (X : Cx) (sc : Scope) (st : Stmt) (O : List Nat) (O' : Ow) (E : Ent) (Es : Hp) (Ek : XK) (Ez : Str→Hp→Prop) (ra : Bool),E.pins = []→sc = X.env.scope→Cok T cl X→ScRel sc X→PassesOwn (model X.prog X.w) X.A X.env X.xe→XCok T xt cl X Ek Ez ra →
 okX T xt X.N sc ra m st = true→chkX m O = some O'→PS X st (tMX X E Es O O' Ez (runX cl m))
theorem goodXB {T : Tx} {xt : XT} {cl : Nat→List D→R D} : ∀ {ms : List XS},(∀ m∈ms,GoodX T xt cl m)→∀ {X : Cx} {sc : Scope} {sts : List Stmt} {O : List Nat} {O' : Ow} {E : Ent} {Es : Hp} {Ek : XK} {Ez : Str→Hp→Prop} {ra : Bool},E.pins = []→sc = X.env.scope→Cok T cl X→ScRel sc X→PassesOwn (model X.prog X.w) X.A X.env X.xe→XCok T xt cl X Ek Ez ra →
  okXB T xt X.N sc ra ms sts = true→chkXB ms O = some O'→PSs X sts (tMX X E Es O O' Ez (runXB cl ms))
 | [],G,X,sc,sts,O,O',E,Es,Ek,Ez,ra,hq,hsc,C,S,hp,XC,h,hc => by
  replace h : sts.isEmpty = true:=h
  rw [List.isEmpty_iff] at h
  subst h
  cases hc
  refine pss_imp pss_nil fun D σ H => ?_
  rintro ⟨ρ,Hs,F,k⟩
  exact k O rfl σ H Hs F (Same.refl _)
 | m :: ms,G,X,sc,[],O,O',E,Es,Ek,Ez,ra,hq,hsc,C,S,hp,XC,h,hc => by cases h
 | m :: ms,G,X,sc,st :: sts,O,O',E,Es,Ek,Ez,ra,hq,hsc,C,S,hp,XC,h,hc => by
  replace h : (okX T xt X.N sc ra m st && okXB T xt X.N sc ra ms sts) = true:=h
  rw [Bool.and_eq_true] at h
  replace hc : (chkX m O).bind (fun x => match x with | none => some none | some O1 => chkXB ms O1) = some O':=hc
  cases e1 : chkX m O with
  | none => rw [e1] at hc;cases hc
  | some x =>
   rw [e1] at hc
   have h1:=G m List.mem_cons_self X sc st O _ E Es Ek Ez ra hq hsc C S hp XC h.1 e1
   cases x with
   | none =>
    have hc' : O' = none:=by
     have : some (none : Ow) = some O':=hc
     cases this;rfl
    subst hc'
    refine pss_imp (pss_cons h1 (pss_never (sts:=sts))) fun D σ H => ?_
    rintro ⟨ρ,Hs,F,k⟩
    rw [rxb_cons] at k
    refine ⟨ρ,Hs,F,?_⟩
    cases hr : runX cl m ρ with
    | exc x => rw [hr] at k;exact k
    | stuck => rw [hr] at k;exact k
    | ok o =>
     rw [hr] at k
     cases o with
     | nx ρ' => intro O1 e;cases e
     | rt d => exact k
     | ro d => exact k
     | bk ρ' => exact k
     | ct ρ' => exact k
   | some O1 =>
    have h2:=goodXB (fun q hq => G q (List.mem_cons_of_mem _ hq)) (E:=E) (Es:=Es) hq hsc C S hp XC h.2 (show chkXB ms O1 = some O' from hc)
    refine pss_imp (pss_cons h1 h2) fun D σ H => ?_
    rintro ⟨ρ,Hs,F,k⟩
    rw [rxb_cons] at k
    refine ⟨ρ,Hs,F,?_⟩
    cases hr : runX cl m ρ with
    | exc x => rw [hr] at k;exact k
    | stuck => rw [hr] at k;exact k
    | ok o =>
     rw [hr] at k
     cases o with
     | nx ρ' =>
      intro O2 e σ' H' Hs' F' s'
      cases e
      exact ⟨ρ',Hs',F',XEnd.mono k s'⟩
     | rt d => exact k
     | ro d => exact k
     | bk ρ' => exact k
     | ct ρ' => exact k
theorem goodX {T : Tx} {xt : XT} {cl : Nat→List D→R D} : ∀ m : XS,GoodX T xt cl m
 | .n m => fun X sc st O O' E Es Ek Ez ra hq hsc C S hp XC h hc => by
  refine ps_imp (goodS m X sc st [] O O' E Es (fun q hm => by rw [hq] at hm;cases hm) C S hp h hc) fun D σ H => ?_
  rintro ⟨ρ,Hs,F,k⟩
  rw [rx_n] at k
  cases hr : runS cl m ρ with
  | exc x => rw [hr] at k;exact k.elim
  | stuck => rw [hr] at k;exact k.elim
  | ok o => rw [hr] at k;exact ⟨ρ,Hs,o,F,hr,k⟩
 | .rai c => fun X sc st O O' E Es Ek Ez ra hq hsc C S hp XC h hc => by
  replace h : (ra && xt.xs.contains c && raiB sc st c && decide (c ≠ "BadTests")) = true:=h
  rw [Bool.and_eq_true,Bool.and_eq_true,Bool.and_eq_true,decide_eq_true_eq] at h
  obtain ⟨⟨⟨h1,h2⟩,h3⟩,h4⟩:=h
  obtain ⟨np,tx,k,tp,cp,pos,rfl,ho,hg⟩:=raiB_ok h3
  obtain ⟨Cc,hm,Z,Ze⟩:=XC.facts.cls c (by simpa using h2)
  unfold okName at ho
  simp only [Bool.and_eq_true,Bool.not_eq_true'] at ho
  refine ps_imp (ps_raise (XC.rz h1) C.calm (S.glb _ hg) hm (Ze h4) ho.1.1) fun D σ H => ?_
  rintro ⟨ρ,Hs,F,k⟩
  exact XC.ez c Cc H hm (k H Hs F.grow)
 | .ce f es => fun X sc st O O' E Es Ek Ez ra hq hsc C S hp XC h hc => by
  obtain ⟨v,p,rfl⟩:=inv_Expr h
  cases hc
  exact sx_ce C S XC h
 | .cr f es => fun X sc st O O' E Es Ek Ez ra hq hsc C S hp XC h hc => by
  obtain ⟨v,p,rfl⟩:=inv_Return h
  cases v with
  | none => cases h
  | some v =>
   cases hc
   exact sx_cr C S XC h
 | .cs i f es => fun X sc st O O' E Es Ek Ez ra hq hsc C S hp XC h hc => by
  obtain ⟨tgs,v,p,rfl⟩:=inv_Assign h
  rcases tgs with _ | ⟨tg,_ | ⟨tg2,tgs⟩⟩ <;> try (cases h;done)
  replace h : (tgB X.N sc (.one i) tg && calB T X.N sc f es v) = true:=h
  rw [Bool.and_eq_true] at h
  cases hc
  exact sx_cs C S XC (fun q hm => by rw [hq] at hm;cases hm) h.1 h.2
 | .cn i f g es => fun X sc st O O' E Es Ek Ez ra hq hsc C S hp XC h hc => by cases h
 | .xr e => fun X sc st O O' E Es Ek Ez ra hq hsc C S hp XC h hc => by cases h
 | .xs i e => fun X sc st O O' E Es Ek Ez ra hq hsc C S hp XC h hc => by cases h
 | .ifs c a b => fun X sc st O O' E Es Ek Ez ra hq hsc C S hp XC h hc => by
  obtain ⟨_,_,_,_,rfl⟩:=inv_If h
  rename_i c' a' b' p
  replace h : (okE T X.N c sc c' && okXB T xt X.N sc ra a a' && okXB T xt X.N sc ra b b') = true:=h
  simp only [Bool.and_eq_true] at h
  obtain ⟨⟨h1,h2⟩,h3⟩:=h
  replace hc : (chkXB a O).bind (fun x => (chkXB b O).bind fun y => some (meetO x y)) = some O':=hc
  cases e1 : chkXB a O with
  | none => rw [e1] at hc;cases hc
  | some x =>
   rw [e1] at hc
   cases e2 : chkXB b O with
   | none => rw [e2] at hc;cases hc
   | some y =>
    rw [e2] at hc
    cases (show some (meetO x y) = some O' from hc)
    exact sx_if C S h1 (goodXB (fun m _ => goodX m) hq hsc C S hp XC h2 e1) (goodXB (fun m _ => goodX m) hq hsc C S hp XC h3 e2)
 | .tr b i hcl ks xs => fun X sc st O O' E Es Ek Ez ra hq hsc C S hp XC h hc => by cases h
 | .tc b hcl hr xs => fun X sc st O O' E Es Ek Ez ra hq hsc C S hp XC h hc => by cases h
 | .lam g => fun X sc st O O' E Es Ek Ez ra hq hsc C S hp XC h hc => by cases h
 | .ts b i v hcl kss xs => fun X sc st O O' E Es Ek Ez ra hq hsc C S hp XC h hc => by
  obtain ⟨body,hs,els,fin,p,rfl⟩:=inv_Try h
  cases els <;> cases fin <;> try (cases h;done)
  replace h : (okXB T xt X.N sc false b body && hasB xt X.N sc i v hcl kss xs hs) = true:=h
  rw [Bool.and_eq_true] at h
  have hh:=hasB_ok h.2
  replace hc : (chkXB b []).bind (fun _ => some (some [])) = some O':=hc
  cases e1 : chkXB b [] with
  | none => rw [e1] at hc;cases hc
  | some Ob =>
   rw [e1] at hc
   cases (show some (some ([] : List Nat)) = some O' from hc)
   refine sx_ts (Ob:=Ob) hq hh fun pins D E' Es' hq' => ?_
   obtain ⟨_,cla⟩:=clause_set (D:=D) hsc C S XC.facts XC.hst XC.hfr hh
   obtain ⟨Ek',XC'⟩:=xcok_clause (pins:=pins) XC cla
   exact goodXB (fun m _ => goodX m) (X:=tryCx X pins D hs) hq' hsc (cok_try C) (scr_try S) PassesOwn.looking XC' h.1 e1
 | .any => fun X sc st O O' E Es Ek Ez ra hq hsc C S hp XC h hc => by
  refine ps_imp ps_never fun D σ H => ?_
  rintro ⟨ρ,Hs,F,k⟩
  exact k
termination_by m => sizeOf m
decreasing_by
 all_goals simp_wf
 all_goals (have:=List.sizeOf_lt_of_mem ‹_∈_›;omega)
end Mi
namespace PySem
section
variable {prog : Program} {w : World} {A : Around} {E : Value→Shared→Prop} {h : Heap} {g : Array GenState} {d : Drawn} {t : Nat} {os : OsState}
variable {nm q : Str} {C N : Addr} {bs bm bmB : List Value} {hdct : Bool} {sn : List Str} {sub : List Value} {ab : Bool} {col : Option Bool} {dd : Option Addr} {k0 k1 k2 k3 k5 : Option Value} {B newId initId : String}
noncomputable abbrev excNew (C t : Addr) : Obj:={ cls:=.ref C,data:=.fields #[.ref t,.none,.none,.none,.bool false,.none] }
noncomputable abbrev excD (C t : Addr) (dx : Option Addr) : Obj:={ cls:=.ref C,dict:=dx,data:=.fields #[.ref t,.none,.none,.none,.bool false,.none] }
theorem xi_type_call (F : ExcBaseFacts B newId initId bmB) (T : OwnTail h bmB bm) {mN : Str→Option Value} {rest : List Value} {fI : Addr} {oI : Obj} {Q : Fin→Shared→Prop}
  (hC : h.get? C = some (excClassObj nm q C N bs bm hdct sn sub ab col dd k0 k1 k2 k3 k5 newId)) (hn : h.Ns N mN) (hi : mN "__init__" = some (.ref fI)) (hfI : h.get? fI = some oI) (hfc : oI.cls = .type "function") (hrest : rest.length ≤ sizeLine)
  (hq : wpAny (model prog w) A (call (.ref fI) (.ref (h.objs.size + 1) :: rest)) (fun r s' => r = .none ∧ Q (.done (.ret (.ref (h.objs.size + 1)))) s') E ⟨(h.push { cls:=.type "tuple", data:=.seq rest.toArray }).push (excNew C h.objs.size), g, d, t, os⟩) :
  wpAny (model prog w) A (Builtin.«type.__call__» ⟨.ref C :: rest,[]⟩) Q E ⟨h,g,d,t,os⟩:=by
 repeat (first | with_reducible refine wpAny_loadPart_at hC ?_ | with_reducible refine wpAny_madeBy_exc hC ?_ | wp_step)
 refine codeAny_call_builtin_code (Code.quiet_builtin _ F.quiet) (wpAny_check_new_subT F T hC ?_)
 refine codeAny_exc_new_subT F T hC ?_ hrest
 show wpAny _ _ _ _ _ _
 have push : ∀ b o, h.get? b = some o → ((h.push { cls:=.type "tuple", data:=.seq rest.toArray }).push (excNew C h.objs.size)).get? b = some o:=fun b o e => Heap.get?_push_of_some _ (Heap.get?_push_of_some _ e)
 have hC₁:=push _ _ hC
 have hfI₁:=push _ _ hfI
 have hn₁:=hn.keeps push
 have T₁:=T.keeps push
 have hget : ((h.push { cls:=.type "tuple", data:=.seq rest.toArray }).push (excNew C h.objs.size)).get? (h.objs.size + 1) = some (excNew C h.objs.size):=by heap_get
 have hcC : (Value.ref C :: bm).contains (.ref C) = true:=by simp
 unfold isInstance
 repeat (first | with_reducible refine wpAny_loadPart_at hget ?_ | (with_reducible refine wpAny_isSubtype_exc hC₁ ?_;rw [hcC]) | wp_step)
 show wpAny _ _ (typeLookup (.ref C) _) _ _ _
 refine wpAny_typeLookup_tail hC₁ hn₁ T₁ F.mroIs F.init.lookup ?_
 rw [hi]
 refine wpAny_holding (wpAny_bind ?_)
 unfold bindSpecial
 refine wpAny_bind (wpAny_typeOf (T:="function") ⟨_, hfI₁, hfc⟩ ?_)
 rw [if_pos (by decide)]
 refine wpAny_pure (wpAny_bind (wpAny_mono hq (fun r s' hr => ?_) fun _ _ x => x))
 obtain ⟨rfl,hQ⟩:=hr
 wp_walk
 exact hQ
theorem xi_call (F : ExcBaseFacts B newId initId bmB) (T : OwnTail h bmB bm) {mN : Str→Option Value} {rest : List Value} {fI : Addr} {oI : Obj} {Q : Value→Shared→Prop}
  (hC : h.get? C = some (excClassObj nm q C N bs bm hdct sn sub ab col dd k0 k1 k2 k3 k5 newId)) (hn : h.Ns N mN) (hi : mN "__init__" = some (.ref fI)) (hfI : h.get? fI = some oI) (hfc : oI.cls = .type "function") (hrest : rest.length ≤ sizeLine)
  (hq : wpAny (model prog w) (A.under (.builtin "type.__call__" ⟨.ref C :: rest, []⟩)) (call (.ref fI) (.ref (h.objs.size + 1) :: rest)) (fun r s' => r = .none ∧ Q (.ref (h.objs.size + 1)) s') E ⟨(h.push { cls:=.type "tuple", data:=.seq rest.toArray }).push (excNew C h.objs.size), g, d, t, os⟩) :
  wpAny (model prog w) A (call (.ref C) rest) Q E ⟨h,g,d,t,os⟩:=by
 have f1:=tc_lookup
 have f2:=tc_bind (.ref C)
 have hT : (⟨h, g, d, t, os⟩ : Shared).TypeIs (.ref C) "type":=⟨_, hC, rfl⟩
 refine wpAny_call (codeAny_of_tree ?_)
 show wpAny _ _ (callAny (.ref C) _) _ _ _
 repeat (any_goals (first | assumption | with_reducible refine wpAny_loadPart_at hC ?_ | wp_step))
 refine ⟨rfl,?_⟩
 refine codeAny_call_builtin_at (Code.quiet_builtin _ (by decide +kernel)) entry_typeCall (wpAny_check_type_call_sub hC (xi_type_call F T hC hn hi hfI hfc hrest ?_))
 exact hq
end
section
variable {M : Model} {A : Around} {E : Value→Shared→Prop} {env : Env}
variable {nm q : Str} {C N : Addr} {bs bm : List Value} {hdct : Bool} {sn : List Str} {sub : List Value} {ab : Bool} {col : Option Bool} {dd : Option Addr} {k0 k1 k2 k3 k5 : Option Value} {newId : String}
theorem xi_raiseStmt {s : Shared} {x : Sem Value} {Q : Flow → Shared → Prop} (hbase : bm.contains (.type "BaseException") = true) (hh : A.handled = none)
  (h : wpAny M A x (fun v s₁ => ∃ e t dx,v = .ref e∧s₁.heap.get? C = some (excClassObj nm q C N bs bm hdct sn sub ab col dd k0 k1 k2 k3 k5 newId)∧s₁.heap.get? e = some (excD C t dx)∧E (.ref e) s₁) E s) :
  wpAny M A (raiseStmt env (some x) none) Q E s:=by
 have hcB : (Value.ref C :: bm).contains (.type "BaseException") = true:=by rw [List.contains_cons, hbase, Bool.or_true]
 unfold raiseStmt
 refine wpAny_bind (wpAny_mono h (fun v s₁ h₁ => ?_) fun _ _ x => x)
 obtain ⟨e,t,dx,rfl,hC,he,hE⟩:=h₁
 obtain ⟨hp,g,d,tk,os⟩:=s₁
 repeat (first | with_reducible refine wpAny_loadPart_at he ?_ | with_reducible refine wpAny_loadPart_at hC ?_ | (with_reducible refine wpAny_isSubtype_exc hC ?_;rw [hcB]) | wp_step)
 exact wpAny_raiseNew_none hh hE
end
section
variable {prog : Program} {w : World} {A : Around} {E : Value→Shared→Prop} {s : Shared} {env : Env}
variable {nm q : Str} {C N : Addr} {bs bm bmB : List Value} {hdct : Bool} {sn : List Str} {sub : List Value} {ab : Bool} {col : Option Bool} {dd : Option Addr} {k0 k1 k2 k3 k5 : Option Value} {B newId initId : String}
theorem xi_Raise (F : ExcBaseFacts B newId initId bmB) {mN : Str→Option Value} {x : Str} {np cpos pos : Pos} {args : List Expr} {Q : Flow→Shared→Prop} {fI : Addr} {oI : Obj}
  (hbase : bm.contains (.type "BaseException") = true) (hh : A.handled = none) (hplain : (backTo cpos (starEach args env)).any (·.1) = false) (hi : mN "__init__" = some (.ref fI)) (hfc : oI.cls = .type "function")
  (h : wpAny (model prog w) A (eval (.Name x np) env) (fun f s₁ => f = .ref C∧wpAny (model prog w) A (evalArgs (.ref C) true (backTo cpos (starEach args env)) [])
   (fun a s₂ => a.kw = []∧a.pos.length≤sizeLine∧s₂.heap.get? C = some (excClassObj nm q C N bs bm hdct sn sub ab col dd k0 k1 k2 k3 k5 newId)∧s₂.heap.Ns N mN∧OwnTail s₂.heap bmB bm∧s₂.heap.get? fI = some oI ∧
    wpAny (model prog w) (A.under (.builtin "type.__call__" ⟨.ref C :: a.pos, []⟩)) (call (.ref fI) (.ref (s₂.heap.objs.size + 1) :: a.pos)) (fun r s' => r = .none ∧ s'.heap.get? C = some (excClassObj nm q C N bs bm hdct sn sub ab col dd k0 k1 k2 k3 k5 newId) ∧ (∃ t dx, s'.heap.get? (s₂.heap.objs.size + 1) = some (excD C t dx)) ∧ E (.ref (s₂.heap.objs.size + 1)) s') E { s₂ with heap:=(s₂.heap.push { cls:=.type "tuple", data:=.seq a.pos.toArray }).push (excNew C s₂.heap.objs.size) }) E s₁) E s) :
  wpAny (model prog w) A (exec (.Raise (some (.Call (.Name x np) args [] cpos)) none pos) env) Q E s:=by
 rw [arm_exec_Raise]
 first
  | refine wpAny_bind (wpAny_standAt (xi_raiseStmt (C:=C) (nm:=nm) (q:=q) (N:=N) (bs:=bs) (bm:=bm) (hdct:=hdct) (sn:=sn) (sub:=sub) (ab:=ab) (col:=col) (dd:=dd) (k0:=k0) (k1:=k1) (k2:=k2) (k3:=k3) (k5:=k5) (newId:=newId) hbase hh (wpAny_bind (wpAny_mono (wpAny_Call_ofName (wpAny_mono h (fun f s₁ h₁ => ?_) fun _ _ x => x)) (fun v s₃ h₃ => wpAny_bind (wpAny_standAt (wpAny_pure h₃))) fun _ _ x => x))))
  | (simp only [evalOpt,Option.map];refine wpAny_bind (wpAny_standAt (xi_raiseStmt (C:=C) (nm:=nm) (q:=q) (N:=N) (bs:=bs) (bm:=bm) (hdct:=hdct) (sn:=sn) (sub:=sub) (ab:=ab) (col:=col) (dd:=dd) (k0:=k0) (k1:=k1) (k2:=k2) (k3:=k3) (k5:=k5) (newId:=newId) hbase hh (wpAny_bind (wpAny_mono (wpAny_Call_ofName (wpAny_mono h (fun f s₁ h₁ => ?_) fun _ _ x => x)) (fun v s₃ h₃ => wpAny_bind (wpAny_standAt (wpAny_pure h₃))) fun _ _ x => x)))))
 obtain ⟨rfl,h₁⟩:=h₁
 unfold callWith
 refine wpAny_bind (wpAny_holding (wpAny_mono h₁ (fun a s₂ h₂ => wpAny_bind (wpAny_standAt ?_)) fun _ _ x => x))
 obtain ⟨apos,akw⟩:=a
 obtain ⟨hkw,hlen,hC,hn,T,hfI,h₂⟩:=h₂
 obtain rfl : akw = []:=hkw
 obtain ⟨hp,g,d,tk,os⟩:=s₂
 simp only [hplain]
 refine wpAny_bind (wpAny_keeperOf_exc hC ?_)
 refine wpAny_bind (xi_call F T hC hn hi hfI hfc hlen (wpAny_mono h₂ (fun r s' hr => ?_) fun _ _ x => x))
 obtain ⟨e1,c1,⟨t,dx,e2⟩,e4⟩:=hr
 exact ⟨e1,wpAny_bind (wpAny_holding (wpAny_point (wpAny_pure ⟨_,t,dx,rfl,c1,e2,e4⟩)))⟩
end
end PySem
namespace PySem.W
open PySem PySem.Calls PyProof.Rows Builtin Builtin.ObjectAttr
theorem refuse_tail {h : Heap} {bmB bm : List Value} {self : Value} {what : Str} (T : OwnTail h bmB bm) (hp : refuseLoop self what bmB = pure ()) : refuseLoop self what bm = pure ():=by
 induction T with
 | base => exact hp
 | own _ _ _ _ ih => rw [refuseLoop_ref];exact ih
section
variable {prog : Program} {w : World} {A : Around} {E : Value→Shared→Prop} {s : Shared} {K : Frag}
variable {nm q : Str} {C N : Addr} {bs bm : List Value} {sn : List Str} {sub : List Value} {ab : Bool} {col : Option Bool} {dd : Option Addr} {k0 k1 k2 k3 k5 : Option Value} {newId : String}
theorem xi_dict {M : Model} {x t : Addr} {h : Heap} {g : Array GenState} {d : Drawn} {tk : Nat} {os : OsState} {Q : Option Addr→Shared→Prop} (hC : h.get? C = some (excClassObj nm q C N bs bm true sn sub ab col dd k0 k1 k2 k3 k5 newId)) (hx : h.get? x = some (excD C t none))
  (hq : Q (some h.objs.size) ⟨(h.push { cls:=.type "dict", data:=.dict #[] }).update x fun o => { cls:=o.cls, dict:=some h.objs.size, data:=o.data, slots:=o.slots }, g, d, tk, os⟩) : wpAny M A (ownDictForStores (.ref x)) Q E ⟨h, g, d, tk, os⟩:=by
 unfold ownDictForStores instanceDict
 repeat (first | with_reducible refine wpAny_loadPart_at hx ?_ | with_reducible refine wpAny_loadPart_at hC ?_ | wp_step)
 exact hq
theorem xi_set {x t : Addr} {v : Value} {name : Str} {Q : Unit→Shared→Prop} (X : K.In s.heap) (T : OwnTail s.heap L2.mroVE bm) (hC : s.heap.get? C = some (excClassObj nm q C N bs bm true sn sub ab col dd k0 k1 k2 k3 k5 newId))
  (hs : findIn K (.ref C) "__setattr__" = some (some (.builtin "object.__setattr__"))) (ho : mroIn K C (.type "object") = some true) (ha : findIn K (.ref C) name = some none) (hx : s.heap.get? x = some (excD C t none))
  (hq : ∀ h' tk',h'.get? x = some (excD C t (some s.heap.objs.size))→h'.Ns1 s.heap.objs.size (fun y => if y = name then some v else none)→(∀ b o,b≠x→s.heap.get? b = some o→h'.get? b = some o)→Q () { s with heap:=h',toks:=tk' }) :
  wpAny (model prog w) A (setAttr (.ref x) name v) Q E s:=by
 obtain ⟨h,g,d,tk,os⟩:=s
 dsimp only at X T hC hx hq
 have I : InstAt h x (excD C t none) C none:=⟨hx,rfl,rfl,trivial⟩
 have SF:=PySem.F.store_object
 have SV:=PySem.F.store_ValueError
 refine set_plain X I hs ?_
 have sub' : Looks (model prog w) h (isInstance (.ref x) (.type "object")) true:=I.type.andThen (looks_mroIn X ho)
 refine codeAny_call_builtin SF.slot.plain SF.entry (@check_slot (model prog w) _ _ ⟨h, g, d, tk + 1, os⟩ "object.__setattr__" "object" "__setattr__" (.ref x) [.str name tk, v] [] _ SF.kind SF.split sub' (SF.args (.ref x) (.str name tk) v) ?_)
 have hm : Looks (model prog w) h (mroOf (.ref C)) (.ref C :: bm):=((Looks.ld (part:=none) hC).andThen .now).andThen .now
 have L0:=I.type (M:=model prog w)
 have L1:=looks_findIn (M:=model prog w) X ha
 rw [osa_eq,refuse_eq]
 refine wpAny_bind (wpAny_bind (L0.at (wpAny_bind (hm.at ?_))))
 rw [refuseLoop_ref,refuse_tail T (SV.passes (.ref x))]
 refine wpAny_pure (wpAny_bind (L0.at (wpAny_bind (L1.at (wpAny_bind (wpAny_pure (a:=none) ?_))))))
 show wpAny _ _ (storeInOwnDict (.ref x) (.ref C) (.str name tk) name v false) _ _ _
 refine wpAny_bind (wpAny_pure (wpAny_bind (xi_dict hC hx ?_)))
 have hx₁ : (h.push { cls:=.type "dict", data:=.dict #[] }).get? x = some (excD C t none):=Heap.get?_push_of_some _ hx
 have hxs : x≠h.objs.size:=Nat.ne_of_lt (Heap.lt_size hx)
 have hgd : ((h.push { cls:=.type "dict", data:=.dict #[] }).update x fun o => { cls:=o.cls, dict:=some h.objs.size, data:=o.data, slots:=o.slots }).get? h.objs.size = some { cls:=.type "dict", data:=.dict #[] } :=
  (Heap.get?_update_ne _ _ _ _ hxs.symm).trans (Heap.get?_push_at rfl rfl)
 have hnd : ((h.push { cls:=.type "dict", data:=.dict #[] }).update x fun o => { cls:=o.cls, dict:=some h.objs.size, data:=o.data, slots:=o.slots }).Ns h.objs.size (fun _ => none) :=
  ⟨_,#[],_,hgd,rfl,fun e he => absurd he (by simp),fun _ => rfl⟩
 show wpAny _ _ (storeInDict h.objs.size (.str name tk) name v) _ _ _
 unfold storeInDict newKeyGuard
 refine wpAny_bind (wpAny_pure (wpAny_bind (wpAny_nsSet1 (Heap.Ns1.of_empty hnd) fun h' hn' hs' => ?_)))
 obtain ⟨oD,esD,epD,hoD,hdD,hcD⟩:=hn'.count (Within.cons name v Within.nil)
 refine wpAny_bind (wpAny_lookBehind hoD (by rw [hdD];exact pastItsLine_dict (Nat.le_trans hcD (by rw [List.length_cons,List.length_nil,sizeLine_eq];omega))) ?_)
 refine wpAny_pure (hq h' _ ?_ hn' fun b o hb e => ?_)
 ·exact (hs'.2 x hxs).trans (Heap.get?_update_self _ hx₁ rfl)
 ·exact (hs'.2 b (Nat.ne_of_lt (Heap.lt_size e))).trans ((Heap.get?_update_ne _ _ _ _ hb).trans (Heap.get?_push_of_some _ e))
end
end PySem.W
namespace L2
open PySem PySem.Spec PyProof.Rows
noncomputable def fi0 (C e : Addr) : Heap→Prop:=fun h => ∃ t,h.get? e = some (excD C t none)
noncomputable def fi1 (C e dd : Addr) : Heap→Prop:=fun h => ∃ t,h.get? e = some (excD C t (some dd))
theorem ok_fi0 {P : Program} {w : World} {H : Hp} {h : Heap} {C e : Addr} (x : fi0 C e h) : ObjOk P w H h e (.ext (fi0 C e)) :=
 ⟨x,let ⟨_,q⟩:=x;⟨_,q⟩,fun _ _ ⟨t,q⟩ k => ⟨t,k _ q⟩⟩
theorem ok_fi1 {P : Program} {w : World} {H : Hp} {h : Heap} {C e dd : Addr} (x : fi1 C e dd h) : ObjOk P w H h e (.ext (fi1 C e dd)) :=
 ⟨x,let ⟨_,q⟩:=x;⟨_,q⟩,fun _ _ ⟨t,q⟩ k => ⟨t,k _ q⟩⟩
theorem upd_self {H : Hp} {e : Addr} {o : HO} (h : H e = some o) : upd H e o = H:=by
 funext b
 by_cases hb : b = e
 ·subst hb;rw [upd_same,h]
 ·rw [upd_ne hb]
theorem ne_of_none' {H : Hp} {b e : Addr} {o : HO} (h : H e = some o) (n : H b = none) : b≠e:=fun z => by rw [z,h] at n;cases n
structure InitK (K : PySem.W.Frag) (C Tb fI : Addr) : Prop where
 cls : ∃ nm q N bs bm sn sub ab col dd k0 k1 k2 k3 k5, K.lookup C = some (excClassObj nm q C N bs bm true sn sub ab col dd k0 k1 k2 k3 k5 "ValueError.__new__") ∧ PySem.W.tailIn K mroVE bm = true ∧ PySem.W.nsOkIn K N = true ∧ PySem.W.nsIn K N "__init__" = some (some (.ref fI))
 read : PySem.W.readsIn K Tb (.type "type") = true
 find : PySem.W.findCls K (.ref Tb) (.type "type") "__init__" = some (.val (.builtin "ValueError.__init__"))
 ga : PySem.W.specialIn K (.ref Tb) "__getattribute__" = some (some (.builtin "type.__getattribute__"))
 sa : PySem.W.findIn K (.ref C) "__setattr__" = some (some (.builtin "object.__setattr__"))
 obj : PySem.W.mroIn K C (.type "object") = some true
 noat : PySem.W.findIn K (.ref C) "at" = some none
section
variable {X : Cx} {C Tb fI : Addr} {a1 a2 : Expr} {p1 p2 p4 : Pos} {x : Str} {ta : TA}
theorem pe_binit {pl : Sem Bool} (Z : InitK X.K C Tb fI) (hg : Gl X x) (hm : X.mg x = some (.ref Tb)) (ha : PA X [a1, a2] ta) (hd : (x == ("__debug__" : Str)) = false:=by decide)
  (hst : starEach [a1,a2] X.env = (false,eval a1 X.env) :: starEach [a2] X.env:=by rfl) (hpl : (backTo p4 (starEach [a2] X.env)).any (·.1) = false:=by rfl)
  (ht : eval (.Call (.Attribute (.Name x p1) "__init__" p2) [a1, a2] [] p4) X.env = (do
   let ov ← eval (.Name x p1) X.env
   standAt p2.atName
   let (f, first) ← holding [ov] (getMethod ov "__init__" pl)
   callWith p4 f first (backTo p4 (starEach [a1,a2] X.env)) (backToKw p4 (keywordEach [] X.env))):=by rfl) :
  PE X (.Call (.Attribute (.Name x p1) "__init__" p2) [a1, a2] [] p4) (fun σ H Q => ta σ H fun vs H1 => ∃ e v, vs = [.ref e, v] ∧ H1 e = some (.ext (fi0 C e)) ∧ Q .non H1):=by
 intro pins s σ H Q I h
 refine PySem.W.methodCall_KW (pl:=pl) (ld_glob I hg hm ?_ hd) ht
 refine PySem.W.method_cls I.kIn Z.ga (PySem.W.cls_value I.kIn Z.read Z.find (by decide +kernel) ?_)
 refine PyProof.Rows.callWith_builtin1 (thn (ha p4 pins _ σ H _ (I.tok _) h) fun us s1 ⟨vs,H1,I1,r1,e,v,ev,he,q⟩ => ?_) hst hpl
 subst ev
 obtain ⟨u0,u,rfl,r0,r1⟩:=vals2 r1
 cases r0
 obtain ⟨⟨t,he'⟩,_⟩:=I1.hok e _ he
 obtain ⟨nm,q',N,bs,bm,sn,sub,ab,col,dd,k0,k1,k2,k3,k5,lk,tl,_,_⟩:=Z.cls
 have hC:=I1.kIn _ _ lk
 have T:=PySem.W.tail_of_in I1.kIn tl
 have F:=PySem.F.excBase_ValueError
 have I1':=I1
 obtain ⟨hh,g,d,tk,os⟩:=s1
 refine wpAny_call (codeAny_call_builtin F.init.plain F.initEntry (wpAny_check_init_subT F T hC he' rfl ?_))
 wp_walk
 have h2 : ((hh.push { cls:=.type "tuple", data:=.seq #[u] }).update e (Obj.mapFields fun x => x.setIfInBounds 0 (Value.ref hh.objs.size))).get? e = some (excD C hh.objs.size none):=by
  rw [Heap.get?_update_self _ (Heap.get?_push_of_some _ he') rfl]
  rfl
 have I2:=I1.write (x:=e) (e:=e) (o:=.ext (fi0 C e)) (h':=(hh.push { cls:=.type "tuple", data:=.seq #[u] }).update e (Obj.mapFields fun x => x.setIfInBounds 0 (Value.ref hh.objs.size))) (t':=tk) (by rw [he]; trivial) (.inl rfl)
  (fun b o hb z => (Heap.get?_update_other _ _ (Ne.symm hb)).trans (Heap.get?_push_of_some _ z)) ⟨_,h2⟩ (ok_fi0 ⟨_,h2⟩)
 rw [upd_self he] at I2
 exact ⟨.non,H1,I2,rfl,q⟩
theorem Inv.put2 {pins : List (Addr × Obj)} {σ : St} {H : Hp} {s : Shared} {e dd : Addr} {h' : Heap} {t' : Nat} {f : Heap→Prop} {o1 o2 : HO} (I : Inv X pins σ H s) (he : H e = some (.ext f)) (hdd : s.heap.objs.size≤dd) (k : ∀ b o,b≠e→s.heap.get? b = some o→h'.get? b = some o)
  (n1 : ObjOk X.prog X.w (upd (upd H dd o2) e o1) h' e o1) (n2 : ObjOk X.prog X.w (upd (upd H dd o2) e o1) h' dd o2) : Inv X pins σ (upd (upd H dd o2) e o1) { s with heap:=h',toks:=t' }:=by
 have nd : H dd = none:=I.hok.fresh hdd
 have ned : dd≠e:=fun z => by rw [z,he] at nd;cases nd
 have oth : ∀ b u,H b = some u→b≠e→upd (upd H dd o2) e o1 b = some u:=fun b u q hb => by rw [upd_ne hb,upd_ne (ne_of_none q nd)];exact q
 refine I.un ⟨fun b o q n hb hx => k b o (ne_of_none' he n) q,fun b o q n hb hx => ⟨o.slots,k b o (ne_of_none' he n) q⟩,fun b o q n hx => ?_,fun b o q hx => ?_,fun b xs q => oth b _ q fun z => ?_,fun b o u q => oth b _ q fun z => ?_,fun b ps q => ⟨#[],by rw [oth b _ q fun z => by rw [z,he] at q;cases q];simp⟩⟩ fun b u q => ?_
 ·have hbe : b≠e:=ne_of_none' he n
  have hbd : b≠dd:=fun z => absurd (Nat.lt_of_lt_of_le (Heap.lt_size q) (z ▸ hdd)) (Nat.lt_irrefl _)
  rw [upd_ne hbe,upd_ne hbd];exact n
 ·by_cases hb : b = e
  ·subst hb;exact n1.there
  ·exact ⟨o,k b o hb q⟩
 ·rw [z,he] at q;cases q
 ·rw [z,he] at q;cases q
 ·by_cases hb : b = e
  ·subst hb;rw [upd_same] at q;cases q;exact n1
  ·by_cases hbd : b = dd
   ·subst hbd;rw [upd_ne hb,upd_same] at q;cases q;exact n2
   ·rw [upd_ne hb,upd_ne hbd] at q
    refine (I.hok b u q).stay (fun c v hc r => k c v ?_ r) (fun c r => oth c _ r fun z => ?_) (fun c xs r => oth c _ r fun z => ?_) (fun c ob r _ => oth c _ r fun z => ?_)
    ·rcases hc with rfl | hc
     ·exact hb
     ·intro z;rw [z,he] at hc;cases hc
    ·rw [z,he] at r;cases r
    ·rw [z,he] at r;cases r
    ·rw [z,he] at r;cases r
theorem ps_at {o value : Expr} {to tv : TE} {pos pos' : Pos} (Z : InitK X.K C Tb fI) (ha : PE X o to) (hv : PE X value tv) (hs : swapsWith value (some (.Attribute o "at" pos')) pos.line X.env = pure false) :
  PS X (.Assign [.Attribute o "at" pos'] value pos) (fun D σ H => tv σ H fun y H1 => to σ H1 fun z H2 => ∃ e, z = .ref e ∧ H2 e = some (.ext (fi0 C e)) ∧ ∀ dd, H2 dd = none → dd ≠ e → D.nx σ (upd (upd H2 dd (.xd [("at", y)])) e (.ext (fi1 C e dd)))):=by
 intro pins s σ H D I h
 refine plainObj_wpAny_Assign_Attribute (thn (hv pins s σ H _ I h) fun u s1 ⟨y,H1,I1,ry,q⟩ => thn (ha pins s1 σ H1 _ I1 q) fun ov s2 ⟨z,H2,I2,rz,e,ez,he,q2⟩ => ?_) hs
 subst ez
 obtain rfl : ov = Value.ref e:=rz
 obtain ⟨⟨t,he'⟩,_⟩:=I2.hok e _ he
 obtain ⟨nm,q',N,bs,bm,sn,sub,ab,col,dd,k0,k1,k2,k3,k5,lk,tl,_,_⟩:=Z.cls
 refine PySem.W.xi_set I2.kIn (PySem.W.tail_of_in I2.kIn tl) (I2.kIn _ _ lk) Z.sa Z.obj Z.noat he' fun h' tk' e1 e2 e3 => ?_
 have nd : H2 s2.heap.objs.size = none:=I2.hok.fresh (Nat.le_refl _)
 have ned : s2.heap.objs.size≠e:=fun z => by rw [z,he] at nd;cases nd
 refine ⟨σ, _, I2.put2 (o2:=.xd [("at", y)]) he (Nat.le_refl _) e3 (ok_fi1 ⟨t, e1⟩) ⟨_, e2, fun f => ?_⟩, q2 _ nd ned⟩
 by_cases hf : f = "at"
 ·subst hf
  exact ry
 ·have hb : (f == ("at" : Str)) = false:=by simpa using hf
  rw [if_neg hf]
  show RelO (List.lookup f [(("at" : Str), y)]) none
  rw [List.lookup_cons,hb]
  trivial
end
noncomputable def inN : List Str:=["self", "at"]
noncomputable def inScope : Scope:={ kind:=.function, names:=[(Str.ofString "self", .local), (Str.ofString "at", .local), (Str.ofString "TestError", .globalImplicit)], isGenerator:=false, isCoroutine:=false, more:=[] }
noncomputable def inBody (p1 p2 p3 p4 p5 p6 p7 p8 p9 q1 q2 q3 q4 : Pos) (j : Nat) (tx : Str) : List Stmt :=
 [.Expr (.Call (.Attribute (.Name "TestError" p1) "__init__" p2) [.Name "self" p3, .JoinedStr [.Constant (.str tx) j p4, .FormattedValue (.Name "at" p5) (-1) none p6] p7] [] p8) p9, .Assign [.Attribute (.Name "self" q1) "at" q2] (.Name "at" q3) q4]
noncomputable def tFmt1 (sep : Str) (ta : TE) : TE:=fun σ H Q => ta σ H fun x H1 => ∃ i : Int,x = .int i∧i.natAbs.log2 < 1920∧(Str.empty++sep).length≤sizeLine∧(Str.empty++sep++Str.ofString (toString i)).length≤sizeLine∧Q (.str (Str.empty++sep++Str.ofString (toString i))) H1
theorem pe_fmt1 {X : Cx} {a : Expr} {ta : TE} {sep : Str} {j : Nat} {p1 p2 pos : Pos} (ha : PE X a ta) (hl : (Str.empty++sep).length≤sizeLine) : PE X (.JoinedStr [.Constant (.str sep) j p1,.FormattedValue a (-1) none p2] pos) (tFmt1 sep ta):=by
 intro pins s σ H Q I h
 refine wpAny_JoinedStr ?_
 show wpAny _ _ (eval (.Constant (.str sep) j p1) X.env) _ _ _
 refine Calls.Constant_str ⟨_,_,rfl,hl,?_⟩
 show wpAny _ _ (eval (.FormattedValue a (-1) none p2) X.env) _ _ _
 refine wpAny_FormattedValue_plain (thn (ha pins _ σ H _ (I.tok _) h) fun v s1 ⟨x,H1,I1,r1,i,e,hi,l1,l2,q1⟩ => ?_)
 subst e
 obtain ⟨t,rfl⟩:=r1
 refine wpAny_formatField_int hi ⟨_,_,rfl,l2,l2,?_⟩
 exact ⟨.str _,H1,(I1.tok _).tok _,⟨_,rfl⟩,q1⟩
noncomputable def InTree (p1 p2 p3 p4 p5 p6 p7 p8 : Pos) (j : Nat) (tx : Str) : Prop:=∀ env : Env, ∃ pl : Sem Bool, eval (.Call (.Attribute (.Name "TestError" p1) "__init__" p2) [.Name "self" p3, .JoinedStr [.Constant (.str tx) j p4, .FormattedValue (.Name "at" p5) (-1) none p6] p7] [] p8) env = (do
   let ov ← eval (.Name "TestError" p1) env
   standAt p2.atName
   let (f, first) ← holding [ov] (getMethod ov "__init__" pl)
   callWith p8 f first (backTo p8 (starEach [.Name "self" p3, .JoinedStr [.Constant (.str tx) j p4, .FormattedValue (.Name "at" p5) (-1) none p6] p7] env)) (backToKw p8 (keywordEach [] env)))
noncomputable def spInit (C : Addr) (tx : Str) : Sp:=fun vs H Q _ => ∃ e, ∃ n : Int, vs = [.ref e, .int n] ∧ n.natAbs.log2 < 1920 ∧ (Str.empty ++ tx ++ Str.ofString (toString n)).length ≤ sizeLine ∧ H e = some (.ext (fi0 C e)) ∧ ∀ dd, H dd = none → dd ≠ e → Q .non (upd (upd H dd (.xd [("at", .int n)])) e (.ext (fi1 C e dd)))
theorem init_run {P : Program} {w : World} {K : PySem.W.Frag} {mg : Str→Option Value} {base : Heap} {C Tb fI : Addr} {params : Arguments} {dV kV doc pm cdv ct oc : Value} {an od : Option Addr} {osl : Array (Option Value)} {p1 p2 p3 p4 p5 p6 p7 p8 p9 q1 q2 q3 q4 : Pos} {j : Nat} {tx : Str} {A : Around} {outer : List Env}
  (Z : InitK K C Tb fI) (ht : InTree p1 p2 p3 p4 p5 p6 p7 p8 j tx) (hm : mg (Str.ofString "TestError") = some (.ref Tb)) (hl : (Str.empty ++ tx).length ≤ sizeLine) (hdp : A.depth < recursionLimit) (hh : A.handled = none)
  (lk : K.lookup fI = some ⟨oc, od, .func (PySem.W.fnOf "__init__" "BadTests.__init__" params (inBody p1 p2 p3 p4 p5 p6 p7 p8 p9 q1 q2 q3 q4 j tx) inScope dV kV doc pm an cdv ct), osl⟩) (hcd : PySem.W.codeIn K cdv "BadTests.__init__" = true) :
  RunAt P w K mg base A outer fI (PySem.W.fnOf "__init__" "BadTests.__init__" params (inBody p1 p2 p3 p4 p5 p6 p7 p8 p9 q1 q2 q3 q4 j tx) inScope dV kV doc pm an cdv ct) ["self", "at"] (spInit C tx):=by
 have S : FnScope inN ["self", "at"] inScope:=Mi.scopeB_ok (by decide +kernel)
 refine run_of lk hcd S hdp hh (fun vs H Q E h => ?_) fun s H vs Q E h => ?_
 ·obtain ⟨e,n,rfl,_⟩:=h;rfl
 ·obtain ⟨e,n,rfl,hn,hl2,he,k⟩:=h
  have vis : ∀ x∈inN,Vis inScope x:=fun x hx => .inl ((show ∀ x∈inN,inScope.names.lookup x = some .local by decide +kernel) x hx)
  have p0 : ∀ {p}, PE (cxOf CX0 P w K mg base inN "BadTests.__init__" inScope fI cdv A outer s H E) (.Name "self" p) (tVar 0):=pe_var rfl (vis _ (by decide +kernel)) (by decide +kernel) (by decide +kernel)
  have p1' : ∀ {p}, PE (cxOf CX0 P w K mg base inN "BadTests.__init__" inScope fI cdv A outer s H E) (.Name "at" p) (tVar 1):=pe_var rfl (vis _ (by decide +kernel)) (by decide +kernel) (by decide +kernel)
  obtain ⟨pl, ht'⟩:=ht (cxOf CX0 P w K mg base inN "BadTests.__init__" inScope fI cdv A outer s H E).env
  have b1:=pe_binit (pl:=pl) (X:=cxOf CX0 P w K mg base inN "BadTests.__init__" inScope fI cdv A outer s H E) (x:="TestError") (p1:=p1) (p2:=p2) (p4:=p8) Z (show inScope.names.lookup (Str.ofString "TestError") = some .globalImplicit by decide +kernel) hm (pa_cons (p0 (p:=p3)) (pa_cons (pe_fmt1 (j:=j) (p1:=p4) (p2:=p6) (pos:=p7) (p1' (p:=p5)) hl) pa_nil)) (by decide +kernel) rfl rfl ht'
  have b2:=ps_at (X:=cxOf CX0 P w K mg base inN "BadTests.__init__" inScope fI cdv A outer s H E) (pos:=q4) (pos':=q2) Z (p0 (p:=q1)) (p1' (p:=q3)) rfl
  refine ⟨_,pss_cons (ps_expr b1 (Mi.swaps_no rfl)) (pss_one b2),?_⟩
  exact ⟨.ref e,rfl,.int n,rfl,n,rfl,hn,hl,hl2,e,_,rfl,he,.int n,rfl,.ref e,rfl,e,rfl,he,k⟩
end L2
namespace L2
open PySem PySem.Spec PyProof.Rows
theorem ns_some_of {K : PySem.W.Frag} {h : Heap} {N : Addr} {mg : Str→Option Value} {n : Str} {v : Value} (X : K.In h) (G : h.Ns N mg) (e : PySem.W.nsIn K N n = some (some v)) : mg n = some v:=by
 obtain ⟨o,es,ep,ho,hd,_,hf⟩:=G
 unfold PySem.W.nsIn at e
 split at e
 ·rename_i c d es' n' sl q
  have:=X _ _ q
  rw [ho] at this
  cases this
  cases hd
  split at e
  ·rename_i en he
   cases e
   rw [← hf]
   unfold nsFind findBy
   rw [← Array.find?_toList,he]
   rfl
  ·split at e <;> cases e
 ·cases e
section
variable {X : Cx} {pins : List (Addr × Obj)} {σ : St} {H H' : Hp} {s s' : Shared} {E : XK} {e C Tb fI t : Addr} {dx : Option Addr} {E2 : Value→Shared→Prop}
theorem Inv.dropX {f : Heap→Prop} (I : Inv X pins σ H s) (he : H e = some (.ext f)) (h0 : X.s₀.heap.get? e = none) : Inv X pins σ (drop H e) s:=by
 have oth : ∀ b u,H b = some u→(∀ g,u≠.ext g)→drop H e b = some u:=fun b u q n => by
  rw [drop_ne (fun z => by rw [z,he] at q;cases q;exact n f rfl)];exact q
 refine ⟨I.ok,I.os,I.bare,⟨I.base.keep,I.base.slot,fun b o q n hx => ?_,I.base.there,fun b xs q => oth b _ (I.base.tups b xs q) (fun _ z => nomatch z),fun b o u q => oth b _ (I.base.frzs b o u q) (fun _ z => nomatch z),fun b ps q => ?_⟩,I.loc,I.cell,?_,fun x c q => ?_,fun p hp => ?_,fun b u q => ?_,I.len⟩
 ·rw [drop_ne (fun z => by rw [z,h0] at q;cases q)];exact I.base.free b o q n hx
 ·obtain ⟨m,z⟩:=I.base.tbls b ps q
  exact ⟨m,oth b _ z (fun _ z => nomatch z)⟩
 ·by_cases hb : X.env.locals = e
  ·rw [hb];exact drop_same
  ·rw [drop_ne hb];exact I.free
 ·by_cases hb : c = e
  ·rw [hb];exact drop_same
  ·rw [drop_ne hb];exact I.freeC x c q
 ·obtain ⟨a1,a2,a3⟩:=I.pin p hp
  refine ⟨a1,?_,a3⟩
  by_cases hb : p.1 = e
  ·rw [hb];exact drop_same
  ·rw [drop_ne hb];exact a2
 ·have hb : b≠e:=fun z => by subst z;rw [drop_same] at q;cases q
  rw [drop_ne hb] at q
  exact (I.hok b u q).stay (fun _ _ _ z => z) (fun c r => oth c _ r fun _ z => nomatch z) (fun c xs r => oth c _ r fun _ z => nomatch z) (fun c ob r _ => oth c _ r fun _ z => nomatch z)
theorem rzD_gen (hex : X.ex = []) (hst : X.stack = X.env :: X.outer) (hf : X.env.frame = some X.env.locals) (I : Inv X pins σ H' s') (he : s'.heap.get? e = some (excD C t dx)) (h0 : X.s₀.heap.get? e = none) (hn : H' e = none) (hE : E (.ref C) none H') :
  wpAny (model X.prog X.w) X.A (leaving X.env (.ref e)) (fun _ s'' => CX1 X.prog X.w X.outer X.H₀ X.s₀ E (.ref e) s'') E2 s':=by
 have fr:=I.stack
 have hin : ∀ env∈X.stack,∀ b,env.frame = some b→b∈e :: frs X.stack:=fun env he b hb => List.mem_cons_of_mem _ (List.mem_filterMap.mpr ⟨env,he,hb⟩)
 have fh:=PySem.W.funFrames_hide (h:=s'.heap) fr hin
 rw [hst] at fh
 have hen : (PySem.W.hideAll s'.heap (e :: frs (X.env :: X.outer))).get? e = none:=PySem.W.hideAll_none _ List.mem_cons_self
 refine wpAny_leaving_firstW (base:=PySem.W.hideAll s'.heap (e :: frs (X.env :: X.outer))) (L:=X.env.locals) (a0:=.ref t) (by rw [I.ok.frames,hst]) fh hf he (fun b o q => PySem.W.of_hideAll _ q) hen rfl rfl rfl fun h4 hL => ?_
 obtain ⟨k1,⟨_,_,k2⟩,k3,up⟩:=hL
 have hB : StB X.fs X.s₀.heap H' s'.heap (PySem.W.hideAll s'.heap (e :: frs (X.env :: X.outer))):=fun b o eb hh hb => by
  refine PySem.W.hideAll_get _ eb fun z => ?_
  rcases List.mem_cons.mp z with z | z
  ·subst z
   rcases hh with ⟨u,q⟩ | q
   ·rw [h0] at q;cases q
   ·exact q hn
  ·rw [← hst,frs_stack hst hf] at z
   rcases List.mem_cons.mp z with z | z
   ·exact I.notLoc hh z
   ·exact hb z
 have u:=I.base
 rw [hex] at u
 obtain ⟨u1,u2,u3⟩:=un_more u I.hok I.fsFree I.fsData hB k1 up
 exact ⟨e,C,_,H',_,rfl,I.os,I.bare,u1,u2,⟨k1,hen,k2,k3⟩,u3,hE⟩
noncomputable def RzD (X : Cx) (E : XK) : Prop:=∀ (pins : List (Addr × Obj)) (σ : St) (H' : Hp) (s' : Shared) (e C t : Addr) (dx : Option Addr),Inv X pins σ H' s'→s'.heap.get? e = some (excD C t dx)→X.s₀.heap.get? e = none→H' e = none→E (.ref C) none H'→X.xe (.ref e) s'
theorem rzD_cx {P : Program} {w : World} {K : PySem.W.Frag} {mg : Str→Option Value} {base : Heap} {N : List Str} {qual : Str} {scope : Scope} {f : Addr} {cd : Value} {A : Around} {outer : List Env} {s : Shared} {H : Hp} {E : XK} :
  RzD (cxOf (CX1 P w) P w K mg base N qual scope f cd A outer s H E) E:=fun pins σ H' s' e C t dx I he h0 hn hE => rzD_gen (X:=cxOf (CX1 P w) P w K mg base N qual scope f cd A outer s H E) rfl rfl rfl I he h0 hn hE
theorem ps_raiseI {x : Str} {np cpos pos : Pos} {a : Expr} {ta : TE} {fd : FuncData} {tx : Str} {oI : Obj} (Z : InitK X.K C Tb fI) (rz : RzD X E) (hc : X.calm = true) (hfI : X.K.lookup fI = some oI) (hfc : oI.cls = .type "function")
  (RA : ∀ us, RunAt X.prog X.w X.K X.mg X.base (X.A.under (.builtin "type.__call__" ⟨.ref C :: us, []⟩)) X.stack fI fd ["self", "at"] (spInit C tx)) (hb : Binds X.K fd ["self", "at"] [])
  (hg : Gl X x) (hm : X.mg x = some (.ref C)) (ha : PE X a ta) (hd : (x == ("__debug__" : Str)) = false) (hpl : (backTo cpos (starEach [a] X.env)).any (·.1) = false) (hsa : starEach [a] X.env = (false, eval a X.env) :: starEach [] X.env:=by rfl) :
  PS X (.Raise (some (.Call (.Name x np) [a] [] cpos)) none pos) (fun _ σ H => tCons ta tNil σ H fun vs H1 => ∃ n : Int, vs = [.int n] ∧ n.natAbs.log2 < 1920 ∧ (Str.empty ++ tx ++ Str.ofString (toString n)).length ≤ sizeLine ∧ ∀ dd, H1 dd = none → E (.ref C) none (upd H1 dd (.xd [("at", .int n)]))):=by
 intro pins s σ H D I h
 obtain ⟨nm,q',N,bs,bm,sn,sub,ab,col,dd,k0,k1,k2,k3,k5,lk,tl,hok,hni⟩:=Z.cls
 have T0:=PySem.W.tail_of_in (bmB:=mroVE) I.kIn tl
 refine xi_Raise (C:=C) (nm:=nm) (q:=q') (N:=N) (bs:=bs) (bm:=bm) (hdct:=true) (sn:=sn) (sub:=sub) (ab:=ab) (col:=col) (dd:=dd) (k0:=k0) (k1:=k1) (k2:=k2) (k3:=k3) (k5:=k5) (mN:=X.base.nsMap N) (fI:=fI) (oI:=oI) PySem.F.excBase_ValueError (T0.hasType PySem.F.excBase_ValueError.hasBase) (I.ok.hd hc) hpl (ns_some_of I.mod.kin (.of_isNs (PySem.W.isNs_of_in I.mod.kin hok)) hni) hfc (ld_glob I hg hm ⟨rfl,?_⟩ hd)
 rw [hsa]
 have hpa:=(pa_cons ha pa_nil hsa) cpos pins s σ H _ I h
 rw [hsa] at hpa
 refine Calls.evalArgs_plain (thn hpa fun us s1 ⟨vs,H1,I1,r1,n,ev,hn1,hn2,hE⟩ => ?_)
 subst ev
 obtain ⟨u,rfl,ru⟩ : ∃ u,us = [u]∧RelV (.int n) u:=by
  cases r1 with
  | cons a b => cases b;exact ⟨_,rfl,a⟩
 have n0 : ∀ b,s1.heap.objs.size≤b→X.s₀.heap.get? b = none:=fun b hb => by
  cases z : X.s₀.heap.get? b with
  | none => rfl
  | some o => exact absurd (Nat.lt_of_lt_of_le (Heap.lt_size z) (Nat.le_trans I1.sz hb)) (Nat.lt_irrefl _)
 have hget : ((s1.heap.push { cls:=.type "tuple", data:=.seq [u].toArray }).push (excNew C s1.heap.objs.size)).get? (s1.heap.objs.size + 1) = some (excNew C s1.heap.objs.size):=Heap.get?_push_at (by rw [Heap.size_push]) rfl
 have I2:=I1.laid (a:=s1.heap.objs.size + 1) (o:=.ext (fi0 C (s1.heap.objs.size + 1))) (h':=(s1.heap.push { cls:=.type "tuple", data:=.seq [u].toArray }).push (excNew C s1.heap.objs.size)) (t':=s1.toks) (fun b o q => Heap.get?_push_of_some _ (Heap.get?_push_of_some _ q)) (Nat.le_succ _) (ok_fi0 ⟨_, hget⟩)
 have ne : H1 (s1.heap.objs.size + 1) = none:=I1.hok.fresh (Nat.le_succ _)
 refine ⟨rfl,by show 1≤sizeLine;decide,I1.kIn _ _ lk,(Heap.Ns.of_isNs (PySem.W.isNs_of_in I.mod.kin hok)).keeps I1.bk,PySem.W.tail_of_in I1.kIn tl,I1.kIn _ _ hfI,?_⟩
 refine wpAny_call (codeAny_mono ((RA [u]).run { s1 with heap:=(s1.heap.push { cls:=.type "tuple", data:=.seq [u].toArray }).push (excNew C s1.heap.objs.size) } (upd H1 (s1.heap.objs.size + 1) (.ext (fi0 C (s1.heap.objs.size + 1)))) ⟨[.ref (s1.heap.objs.size + 1), u], []⟩ [.ref (s1.heap.objs.size + 1), u] [.ref (s1.heap.objs.size + 1), .int n]
  (fun v H' => v = .non ∧ ∃ dd, H1 dd = none ∧ dd ≠ s1.heap.objs.size + 1 ∧ H' = upd (upd (upd H1 (s1.heap.objs.size + 1) (.ext (fi0 C (s1.heap.objs.size + 1)))) dd (.xd [("at", .int n)])) (s1.heap.objs.size + 1) (.ext (fi1 C (s1.heap.objs.size + 1) dd))) E0 (I2.env0.make C [u] []) (hb _ [_, u] I2.kIn rfl) (.cons rfl (.cons ru .nil))
  ⟨s1.heap.objs.size + 1,n,rfl,hn1,hn2,upd_same,fun dd hdd hne => ⟨rfl,dd,by rw [upd_ne hne] at hdd;exact hdd,hne,rfl⟩⟩) fun r s' hq => ?_)
 cases r with
 | error ex => exact False.elim hq
 | ok fl =>
  cases fl with
  | next => exact False.elim hq
  | brk => exact False.elim hq
  | cont => exact False.elim hq
  | ret w' =>
   obtain ⟨v,H',I3,rv,ev,dd,hdd,hne,eH⟩:=I2.after hq
   subst ev
   subst eH
   obtain ⟨⟨t',he'⟩,_⟩:=I3.hok (s1.heap.objs.size + 1) _ upd_same
   have I4:=I3.dropX (e:=s1.heap.objs.size + 1) upd_same (n0 _ (Nat.le_succ _))
   have eq : drop (upd (upd (upd H1 (s1.heap.objs.size + 1) (.ext (fi0 C (s1.heap.objs.size + 1)))) dd (.xd [("at", .int n)])) (s1.heap.objs.size + 1) (.ext (fi1 C (s1.heap.objs.size + 1) dd))) (s1.heap.objs.size + 1) = upd H1 dd (.xd [("at", .int n)]):=by
    funext b
    by_cases hb : b = s1.heap.objs.size + 1
    ·subst hb
     rw [drop_same,upd_ne (Ne.symm hne),ne]
    ·rw [drop_ne hb,upd_ne hb]
     by_cases hbd : b = dd
     ·subst hbd;rw [upd_same,upd_same]
     ·rw [upd_ne hbd,upd_ne hbd,upd_ne hb]
   rw [eq] at I4
   exact ⟨rv,I3.kIn _ _ lk,⟨t',some dd,he'⟩,rz pins σ _ s' _ C t' (some dd) I4 he' (n0 _ (Nat.le_succ _)) (by rw [upd_ne (Ne.symm hne)];exact ne) (hE dd hdd)⟩
end
end L2
set_option maxHeartbeats 1000000
namespace L2
open PySem PySem.Spec PyProof.Rows
structure RunX (P : Program) (w : World) (K : PySem.W.Frag) (mg : Str→Option Value) (base : Heap) (A : Around) (outer : List Env) (f : Addr) (fd : FuncData) (ps : List Str) (sp : Sp) : Prop where
 len : ∀ vs H Q E,sp vs H Q E→vs.length = ps.length
 run : ∀ (s : Shared) (H : Hp) (args : Args) (us : List Value) (vs : List V) (Q : VK) (E : XK),Env0 P w K mg base A outer s H→BindsTo s fd args (ps.zip us)→Vals vs us→sp vs H Q E→codeAny (model P w) A (.call (.ref f) args) (CR (CX1 P w) outer P w H s Q E) s
theorem runX_of {P : Program} {w : World} {K : PySem.W.Frag} {mg : Str→Option Value} {base : Heap} {A : Around} {outer : List Env} {f : Addr} {name qual : Str} {params : Arguments} {body : List Stmt} {scope : Scope} {dV kV doc pm cdv ct oc : Value} {an od : Option Addr}
  {osl : Array (Option Value)} {N ps : List Str} {sp : Sp} (lk : K.lookup f = some ⟨oc,od,.func (PySem.W.fnOf name qual params body scope dV kV doc pm an cdv ct),osl⟩) (hcd : PySem.W.codeIn K cdv qual = true) (S : FnScope N ps scope) (hdp : A.depth < recursionLimit) (hh : A.handled = none)
  (len : ∀ vs H Q E,sp vs H Q E→vs.length = ps.length)
  (hbody : ∀ (s : Shared) (H : Hp) (vs : List V) (Q : VK) (E : XK),sp vs H Q E →
   ∃ t,PSs (cxOf (CX1 P w) P w K mg base N qual scope f cdv A outer s H E) body t∧t { nx:=fun _ H' => Q .non H',rt:=Q } (start N vs) H) :
  RunX P w K mg base A outer f (PySem.W.fnOf name qual params body scope dV kV doc pm an cdv ct) ps sp:=by
 refine ⟨len,fun s H args us vs Q E e0 hb r hsp => ?_⟩
 have hl:=len _ _ _ _ hsp
 have KX : K.In s.heap:=e0.mod.kin.keeps fun b o e => (e0.bs b o e).1
 have lim : s.heap.NoLimit:=e0.mod.nolimit.keeps fun b o e => (e0.bs b o e).1
 have hkind : ∀ y∈ps.zip us,scope.names.lookup y.1 = some .local∨(scope.names.lookup y.1 = some .cell∧((cellsFrom (s.heap.objs.size + 1) scope.names []).lookup y.1).isSome = true):=fun ⟨n,v⟩ hy => by
  rcases S.par n (List.of_mem_zip hy).1 with q | q
  ·exact .inl q
  ·exact .inr ⟨q,PySem.W.cellsFrom_some _ _ _ (.inl q)⟩
 refine codeAny_call_function hdp (KX _ _ lk) rfl S.co S.gen rfl (PySem.W.codeRec_of KX hcd) (hb _ _ _ _ ?_)
 refine wpAny_newFunctionEnv_cells S.kind hkind fun env he s1 x => ?_
 subst he
 refine ⟨lim.keeps x.toInCall.keep,codeAny_func ?_⟩
 obtain ⟨t,ht,hq⟩:=hbody s H vs Q E hsp
 have I : Inv (cxOf (CX1 P w) P w K mg base N qual scope f cdv A outer s H E) [] (start N vs) H s1:=inv_start S hh e0 hl r x
 refine wpAny_mono (ht [] s1 (start N vs) H _ I hq) (fun fl s' hs => ?_) fun e s' hs => hs
 have fin : ∀ {σ' : St} {H' : Hp} {v : V} {u : Value},Inv (cxOf (CX1 P w) P w K mg base N qual scope f cdv A outer s H E) [] σ' H' s'→RelV v u→Q v H'→CE outer P w H s Q u s' :=
  fun {σ' H' v u} J rv q => ⟨v,H',J.os,J.bare,J.base,J.hok,rv,q⟩
 cases fl with
 | ret u =>
  obtain ⟨v,σ',H',J,rv,q⟩:=hs
  exact fin J rv q
 | next =>
  obtain ⟨σ',H',J,q⟩:=hs
  exact fin (v:=V.non) (u:=Value.none) J rfl q
 | brk =>
  obtain ⟨_,_,_,q⟩:=hs
  exact False.elim q
 | cont =>
  obtain ⟨_,_,_,q⟩:=hs
  exact False.elim q
section
variable {X : Cx} {pins : List (Addr × Obj)} {σ : St} {H : Hp} {s : Shared} {k : Nat} {fa c : Addr} {fd : FuncData} {ps : List Str} {sp : Sp} {xb : Str} {ocell : Obj} {ub : Value} {E : XK}
theorem run_lendX {Q : VK} {vs : List V} {us : List Value} (F : RunX X.prog X.w X.K X.mg X.base X.A X.stack fa fd ps sp) (hx : Passes (CX1 X.prog X.w) X E) (hb : Binds X.K fd ps []) (I : Inv X pins σ H s) (hcl : X.env.cells.lookup xb = some c) (hfn : X.fn xb = true)
  (ec : s.heap.get? c = some ocell) (hcell : ocell.data = .cell (some ub)) (r : Vals vs us) (h : sp vs (upd H c (.frz ocell anyO)) (fun v H1 => Q v (drop H1 c)) (fun C d H1 => E C d (drop H1 c))) : wpAny (model X.prog X.w) X.A (call (.ref fa) us) (EP X pins σ Q) X.xe s:=by
 have hn : H c = none:=I.freeC xb c hcl
 have hnl : ¬ lamO ocell:=fun ⟨vs,t,z,_⟩ => by rw [hcell] at z;cases z
 have c0 : X.s₀.heap.objs.size≤c:=I.ok.cab xb c hfn hcl
 have old : ∀ b o,X.s₀.heap.get? b = some o→b≠c:=fun b o e z => absurd (Nat.lt_of_lt_of_le (Heap.lt_size e) (z ▸ c0)) (Nat.lt_irrefl _)
 have cfr : c ∉ frs X.stack:=fun z => by
  rcases List.mem_cons.mp (I.stkSub c z) with e | e
  ·exact I.cne xb c hcl e
  ·obtain ⟨_,o,ho,_⟩:=I.ok.funs.mem e
   exact old c o ho rfl
 have e0:=I.env0
 have e1 : Env0 X.prog X.w X.K X.mg X.base X.A X.stack s (upd H c (.frz ocell anyO)):=⟨e0.frames,e0.mod,fun b o e => ⟨(e0.bs b o e).1,by rw [upd_ne (old b o (I.ok.bs b o e).1)];exact (e0.bs b o e).2⟩,e0.bsz,e0.funs,fun b hb => by rw [upd_ne (fun z : b = c => cfr (by rw [← z];exact hb))];exact e0.frf b hb,e0.hok.lend hn ec,e0.bare,fun a o fd d oc vs p e1 e2 e3 e4 e5 e6 e7 => by
  obtain ⟨q,e⟩:=e0.tab a o fd d oc vs p e1 e2 e3 e4 e5 e6 e7
  exact ⟨q,by rw [upd_ne (ne_of_none e hn)];exact e⟩⟩
 have hl : (us++[]).length = ps.length:=by rw [List.append_nil,← r.length];exact F.len _ _ _ _ h
 have hb':=hb s us I.kIn hl
 rw [List.append_nil] at hb'
 refine wpAny_call (codeAny_mono (F.run s _ ⟨us,[]⟩ us vs _ _ e1 hb' r h) fun r s' hq => ?_)
 cases r with
 | error ev =>
  obtain ⟨e,C,a0,H',B,rfl,os,bare,un,ok,fly,stb,hE⟩:=hq
  obtain ⟨un2,ok2⟩:=un_back hn ec hnl cfr un ok
  refine hx pins σ H s _ s' I ⟨e,C,a0,drop H' c,B,rfl,os,bare,un2,ok2,fly,fun b o eb hh hb => stb b o eb (hh.imp id fun q z => q ?_) hb,hE⟩
  by_cases hbc : b = c
  ·rw [hbc];exact drop_same
  ·rw [drop_ne hbc];exact z
 | ok fl =>
  cases fl with
  | ret u =>
   obtain ⟨v,H',os,bare,un,ok,rv,q⟩:=hq
   obtain ⟨un2,ok2⟩:=un_back hn ec hnl cfr un ok
   exact I.after ⟨v,drop H' c,os,bare,un2,ok2,rv,q⟩
  | next => exact False.elim hq
  | brk => exact False.elim hq
  | cont => exact False.elim hq
theorem pe_clamX {params : Arguments} {body : Expr} {scope : Scope} {lpos p p2 pos : Pos} {cc Pt : Addr} {xc y : Str} {i0 i1 : Nat} (F : RunX X.prog X.w X.K X.mg X.base X.A X.stack fa fd ps sp) (hx : Passes (CX1 X.prog X.w) X E) (hb : Binds X.K fd ps []) (hg : Gl X xc) (hm : X.mg xc = some (.ref fa)) (hk : PySem.W.keepIn X.K (.ref fa) = true)
  (h0 : X.N[i0]? = some xb) (hsc : X.env.scope.names.lookup xb = some .cell) (hfn : X.fn xb = true) (h1 : X.N[i1]? = some y) (hv1 : Vis X.env.scope y) (hd1 : (y == ("__debug__" : Str)) = false) (hd2 : (y == ("__classdict__" : Str)) = false) (hdb : (xc == ("__debug__" : Str)) = false)
  (hclo : ∀ c, X.env.cells.lookup xb = some c → closureFor scope X.env = pure [(xb, c)]) (hcode : X.env.code = .ref cc) (C : ∀ h : Heap, X.K.In h → PySem.W.CodeHd h cc Pt) (hPt : ∀ H, TabIn X.K X.mg H → ∃ q, H Pt = some (.tbl q)) (hdef : defaultsOf params X.env = ([], [])) (hqn : X.env.qual ++ "<lambda>" = lamQ) :
  PE X (.Call (.Name xc p) [.Name y p2,.Lambda params body scope lpos] [] pos) (fun σ H Q => ∃ vb vt,σ[i0]? = some (some vb)∧σ[i1]? = some (some vt)∧∀ f c' oc pm ctv c ocell ub H',(∀ b o,H b = some o→H' b = some o)→H c = none→H' c = none →
   H' f = some (.frz (PySem.W.kla_obj "<lambda>" lamQ params body scope [(xb, c)] pm c' ctv) anyO) → H' c' = some (.frz oc anyO) → lamO oc → ocell.data = .cell (some ub) → RelV vb ub → sp [vt, .ref f] (upd H' c (.frz ocell anyO)) (fun v H1 => Q v (drop H1 c)) (fun C d H1 => E C d (drop H1 c))):=by
 intro pins s σ H Q I h
 obtain ⟨vb,vt,e0,e1,h⟩:=h
 refine wpAny_Call_Name_kw (ld_glob I hg hm ?_ hdb)
 have pa:=pa_cons (pe_var (pos:=p2) h1 hv1 hd1 hd2) (pa_cons (pe_lam (X:=X) (pos:=lpos) (params:=params) (body:=body) hsc hclo hcode C hPt hdef hqn) pa_nil)
 refine PySem.W.callWith_K (h₀:=X.base) I.ok.mod.kin hk (thn (pa pos pins s σ H (fun vs H1 => ∃ f c' oc pm ctv c, vs = [vt, .ref f] ∧ X.env.cells.lookup xb = some c ∧ (∀ b o, H b = some o → H1 b = some o) ∧ H c = none ∧ H1 f = some (.frz (PySem.W.kla_obj "<lambda>" lamQ params body scope [(xb, c)] pm c' ctv) anyO) ∧ H1 c' = some (.frz oc anyO) ∧ lamO oc) I ?_) fun us s1 ⟨vs, H1, I1, r, f, c', oc, pm, ctv, c, ev, hc, mono, hn, hf, hc', hlo⟩ => ⟨I1.kIn, ?_⟩)
 ·exact ⟨vt,e1,fun f c' oc pm ctv c H' hc mono nf hn hn' hf hc' hlo => ⟨f,c',oc,pm,ctv,c,rfl,hc,mono,hn,hf,hc',hlo⟩⟩
 ·subst ev
  obtain ⟨m,hns,hl⟩:=I1.loc
  obtain ⟨ub,rb,lk⟩:=hl i0 xb vb h0 e0 (.inr (.inl hsc))
  rcases lk with ⟨hk',_⟩ | ⟨_,c2,hc2,ocell,hoc,hcell⟩
  ·have : X.env.scope.names.lookup xb = some .local:=hk'
   rw [hsc] at this;cases this
  ·rw [hc] at hc2;cases hc2
   exact run_lendX F hx hb I1 hc hfn hoc hcell r (h f c' oc pm ctv c ocell ub H1 mono hn (I1.freeC xb c hc) hf hc' hlo hcell rb)
end
end L2
set_option maxHeartbeats 1000000
namespace Mi
open PySem L2
open PyProof.Rows hiding St
theorem lamGo_exc {f : D → R D} : ∀ {ts : List D} {k : Nat} {x : Xc}, lamGo f k ts = .exc x → x.cls = "BadTests"
 | [],_,_,h => by cases h
 | t :: ts,k,x,h => by
  replace h : (match f t with | .ok (.bl true) => lamGo f (k + 1) ts | .ok (.bl false) => badX k | _ => .stuck) = .exc x:=h
  split at h
  ·exact lamGo_exc h
  ·unfold badX at h
   split at h
   ·cases h;rfl
   ·cases h
  ·cases h
theorem lamGo_ok {f : D→R D} : ∀ {ts : List D} {k : Nat} {z : D},lamGo f k ts = .ok z→z = .non
 | [],_,_,h => by cases h;rfl
 | t :: ts,k,z,h => by
  replace h : (match f t with | .ok (.bl true) => lamGo f (k + 1) ts | .ok (.bl false) => badX k | _ => .stuck) = .ok z:=h
  split at h
  ·exact lamGo_ok h
  ·unfold badX at h
   split at h <;> cases h
  ·cases h
theorem lamRes_ok {f : D→R D} {d z : D} (h : lamRes f d = .ok z) : z = .non:=by
 have no : badX 0 = .ok z→False:=fun h => by unfold badX at h;split at h <;> cases h
 cases d <;> first | exact lamGo_ok h | exact (no h).elim
theorem badX_exc {k : Nat} (h : badX k ≠ .stuck) : smallK k = true ∧ badX k = .exc ⟨"BadTests", .int k⟩:=by
 unfold badX at h ⊢
 by_cases q : smallK k = true
 ·rw [if_pos q];exact ⟨q,rfl⟩
 ·rw [if_neg q] at h;exact absurd rfl h
structure InK (K : PySem.W.Frag) (mg : Str→Option Value) (C : Addr) : Prop where
 ex : ∃ Tb fI params dV kV doc pm cdv ct an od osl p1 p2 p3 p4 p5 p6 p7 p8 p9 q1 q2 q3 q4 j, InitK K C Tb fI ∧ InTree p1 p2 p3 p4 p5 p6 p7 p8 j badTx ∧ mg (Str.ofString "TestError") = some (.ref Tb) ∧
  K.lookup fI = some ⟨.type "function", od, .func (PySem.W.fnOf "__init__" "BadTests.__init__" params (inBody p1 p2 p3 p4 p5 p6 p7 p8 p9 q1 q2 q3 q4 j badTx) inScope dV kV doc pm an cdv ct), osl⟩ ∧ PySem.W.codeIn K cdv "BadTests.__init__" = true ∧
  Binds K (PySem.W.fnOf "__init__" "BadTests.__init__" params (inBody p1 p2 p3 p4 p5 p6 p7 p8 p9 q1 q2 q3 q4 j badTx) inScope dV kV doc pm an cdv ct) ["self", "at"] []
 me : mg (Str.ofString "BadTests") = some (.ref C)
section
variable {X : Cx} {C : Addr} {Ek : XK} {a : Expr} {ta : TE} {np cpos pos : Pos}
theorem ps_bad (Z : InK X.K X.mg C) (rz : RzD X Ek) (hc : X.calm = true) (hg : Gl X (Str.ofString "BadTests")) (hdp : X.A.depth + 2 < recursionLimit) (hh : X.A.handled = none) (ha : PE X a ta) (hpl : (backTo cpos (starEach [a] X.env)).any (·.1) = false) (hsa : starEach [a] X.env = (false, eval a X.env) :: starEach [] X.env) :
  PS X (.Raise (some (.Call (.Name "BadTests" np) [a] [] cpos)) none pos) (fun _ σ H => tCons ta tNil σ H fun vs H1 => ∃ n : Int, vs = [.int n] ∧ n.natAbs.log2 < 1920 ∧ (Str.empty ++ badTx ++ Str.ofString (toString n)).length ≤ sizeLine ∧ ∀ dd, H1 dd = none → Ek (.ref C) none (upd H1 dd (.xd [("at", .int n)]))):=by
 obtain ⟨Tb,fI,params,dV,kV,doc,pm,cdv,ct,an,od,osl,p1,p2,p3,p4,p5,p6,p7,p8,p9,q1,q2,q3,q4,j,z,tr,mT,lk,hcd,hb⟩:=Z.ex
 have hl : (Str.empty++badTx).length≤sizeLine:=by decide +kernel
 exact ps_raiseI (X:=X) (E:=Ek) (x:="BadTests") (np:=np) (cpos:=cpos) (pos:=pos) (a:=a) (ta:=ta) z rz hc lk rfl (fun us => init_run (A:=X.A.under (.builtin "type.__call__" ⟨.ref C :: us, []⟩)) (outer:=X.stack) z tr mT hl (by rw [make_depth]; omega) hh lk hcd) hb hg Z.me ha (by decide +kernel) hpl hsa
end
theorem small_ok {k : Nat} (h : smallK k = true) : ((k : Int).natAbs.log2 < 1920)∧(Str.empty++badTx++Str.ofString (toString (k : Int))).length≤sizeLine:=by
 unfold smallK at h
 simp only [Bool.and_eq_true,decide_eq_true_eq] at h
 exact h
section
variable {cl : Nat→List D→R D} {X : Cx} {n g : Nat} {T : Tx} {b : D} {E : Ent} {Es : Hp} {fa : Addr} {C : Addr} {Ek : XK} {Ez : Str→Hp→Prop}
noncomputable def tChk (X : Cx) (E : Ent) (Es : Hp) (Ez : Str→Hp→Prop) (cl : Nat→List D→R D) (g : Nat) (b : D) : TS:=fun En' σ H => ∃ ρ Hs,FR (gOf X) E Es [] ρ σ H Hs∧∃ d k bb,ρ[3]? = some (some d)∧ρ[2]? = some (some (.int (k : Nat)))∧cl g [b,d] = .ok (.bl bb) ∧
   (if bb = true then (∀ σ' H' Hs', FR (gOf X) E Es [] ρ σ' H' Hs' → Same Hs Hs' → En'.nx σ' H') else (smallK k = true ∧ ∀ H' Hs', Grow E.hp Es H' Hs' → Ez "BadTests" H'))
noncomputable def badStm (x : Expr) (r1 r2 r3 : Pos) : Stmt:=.Raise (some (.Call (.Name "BadTests" r1) [x] [] r2)) none r3
theorem sx_chk {p1 p2 p3 p4 p5 r1 r2 r3 r4 : Pos} (F : FnsP T cl X.prog X.w X.K X.mg X.base n) (hT : T.F[g]? = some (Str.ofString "is_test")) (hr : ∀ env, Room n (X.A.deeper env)) (hdp : X.A.depth + 2 < recursionLimit) (hh : X.A.handled = none) (hN : X.N = clN) (hsc : X.env.scope = clScope) (hca : X.calm = true)
  (Z : InK X.K X.mg C) (rz : RzD X Ek) (hez : ∀ H', Ez "BadTests" H' → Ek (.ref C) none H') (hp : E.pins = [(1, fa)]) (hs : Same Es E.hp) (hc : CloAt (gOf X) E.hp Es fa b) :
  PS X (clTest p1 p2 p3 p4 p5 [badStm (.Name "place" r1) r2 r3 r4]) (tChk X E Es Ez cl g b):=by
 have vis : ∀ x∈clN,Vis X.env.scope x:=fun x hx => by
  rw [hsc]
  refine .inl ?_
  have : ∀ x∈clN,clScope.names.lookup x = some .local:=by decide +kernel
  exact this x hx
 have hpe : PE X (.Name "thing" p2) (tVar 3):=pe_var (by rw [hN]; rfl) (vis _ (by decide +kernel)) (by decide +kernel) (by decide +kernel)
 have hpl : PE X (.Name "place" r1) (tVar 2):=pe_var (by rw [hN]; rfl) (vis _ (by decide +kernel)) (by decide +kernel) (by decide +kernel)
 have hcall:=pe_callv (X:=X) (p:=p1) (pos:=p3) (W:=fun f v H Q => ∃ Hs d z, Same Hs H ∧ CloAt (gOf X) H Hs f b ∧ Rp (gOf X) Hs d v ∧ cl g [b, d] = .ok z ∧ XD X H Hs Q z) (j:=1) (x:="is_right") (by rw [hN]; rfl) (vis _ (by decide +kernel)) (by decide +kernel) (by decide +kernel) hpe rfl
  (fun f pins s σ H v u Q I ru ⟨Hs,d,z,h1,h2,h3,h4,h5⟩ => clo_call F hT hr (by omega) hh I ru h1 h2 h3 h4 h5)
  (fun f s H ok ⟨ob,h1,oc,od,fd,sl,h2⟩ => by subst h2;exact ⟨oc,od,fd,sl,(ok f _ h1).1⟩)
 have hpt:=pt_not (pos:=p4) (pt_val hcall (isTrue_plainT rfl))
 have hra:=ps_bad (X:=X) (Ek:=Ek) (np:=r2) (cpos:=r3) (pos:=r4) Z rz hca (by show X.env.scope.names.lookup _ = _;rw [hsc];decide +kernel) hdp hh hpl rfl rfl
 refine ps_imp (ps_if hpt (pss_one hra) pss_nil) fun D σ H => ?_
 rintro ⟨ρ,Hs,Fr,d,k,bb,hd3,hd2,hz,kk⟩
 have Fr' : FR (gOf X) E Es [] ρ σ H Hs:=Fr
 obtain ⟨v,ev,rv⟩:=Fr.val 3 d hd3 (by simp)
 obtain ⟨w,ew,rw'⟩:=Fr.val 2 _ hd2 (by simp)
 cases rp_int.mp rw'
 have ep:=Fr.pin (1,fa) (by rw [hp];exact List.mem_singleton.mpr rfl)
 have cg:=hc.grow hs Fr.grow
 refine ⟨fa,ep,?_,v,ev,Hs,d,.bl bb,Fr.grow.sub,cg,rv,hz,fun v' H' Hs' g' r' => ⟨bb,rp_bl.mp r',?_⟩⟩
 ·obtain ⟨p0,p1,p2,p3,p4,c,c',oc,ocell,ub,vb,pm,ctv,h1,_⟩:=cg.ex
  exact ⟨_,h1,_,_,_,_,rfl⟩
 ·cases bb with
  | true =>
   rw [if_pos rfl] at kk
   show (if (!true) = true then _ else _)
   exact kk σ H' Hs' (Fr.grown g') (g'.same Fr.grow.sub)
  | false =>
   rw [if_neg Bool.false_ne_true] at kk
   refine iteT (show tCons (tVar 2) tNil σ H' _ from ?_)
   refine ⟨_,ew,k,rfl,(small_ok kk.1).1,(small_ok kk.1).2,fun dd hdd => hez _ (kk.2 _ Hs' ((Fr.grown g').grow.trans (Grow.own (g'.sub) hdd)))⟩
noncomputable def loopD (ρ : En) : R D→R Out
 | .ok _ => .ok (.nx ρ)
 | .exc x => .exc x
 | .stuck => .stuck
theorem enumK_get : ∀ (ts : List D) (k i : Nat) (d : D),(enumFrom' k ts)[i]? = some d→∃ t,ts[i]? = some t∧d = .tup [.int (k + i : Nat),t]
 | [],_,_,_,h => by cases h
 | t :: ts,k,0,d,h => by cases h;exact ⟨t,rfl,rfl⟩
 | t :: ts,k,i + 1,d,h => by
  obtain ⟨t',e1,e2⟩:=enumK_get ts (k + 1) i d h
  exact ⟨t',e1,by rw [e2,show k + 1 + i = k + (i + 1) by omega]⟩
theorem enumK_len : ∀ (ts : List D) (k : Nat),(enumFrom' k ts).length = ts.length
 | [],_ => rfl
 | t :: ts,k => by show (enumFrom' (k + 1) ts).length + 1 = _;rw [enumK_len];rfl
theorem sx_loop {q1 q2 q3 q4 q5 q6 q12 : Pos} {j : Nat} {body : List Stmt} (hp : PassesOwn (model X.prog X.w) X.A X.env X.xe) (hN : X.N = clN) (Cc : Cok ⟨[],[]⟩ (clB cl g b) X) (SR : ScRel clScope X) (hpin : E.pins = [(1,fa)])
  (hb : PSs X body (tChk X E Es Ez cl g b)) :
  PS X (.For (.Tuple [.Name "place" q1, .Name "thing" q2] j q3) (.Call (.Name "enumerate" q4) [.Name "things" q5] [] q6) body [] q12)
   (fun D σ H => ∃ ts Hs,FR (gOf X) E Es [] [some (.lst ts),none,none,none] σ H Hs∧XEnd (gOf X) E Es Hs (some []) D Ez (loopD [some (.lst ts),none,none,none] (lamGo (fun t => cl g [b,t]) 0 ts))):=by
 have h1 : tgB X.N clScope (.two 2 3) (.Tuple [.Name "place" q1, .Name "thing" q2] j q3) = true:=by rw [hN]; rfl
 have h2 : shapeB clScope .enum (.Tuple [.Name "place" q1, .Name "thing" q2] j q3) (.Call (.Name "enumerate" q4) [.Name "things" q5] [] q6) = true:=rfl
 have h3 : okEs ⟨[], []⟩ X.N [.var 0] clScope (argsOf .enum (.Call (.Name "enumerate" q4) [.Name "things" q5] [] q6)) = true:=by rw [hN]; rfl
 refine ps_imp (ps_for hp Cc.calm (src_all Cc SR (fun m _ => good m) h2 h3) (pg_tg Cc SR h1) hb (fold_no (shape_no h2))) fun D σ H => ?_
 rintro ⟨ts,Hs,F,kk⟩
 generalize hR : lamGo (fun t => cl g [b,t]) 0 ts = rr at kk
 obtain ⟨Hs1,F1,m1,vs⟩:=F.pubU (useEs [M.var 0])
 refine ⟨[some (.lst ts),none,none,none],Hs1,enumFrom' 0 ts,F1.sub,vs,rfl,fun J H1 Hs2 g2 sr => ?_⟩
 have F2:=F1.grown g2
 obtain ⟨Hs3,F3,m3⟩:=F2.fewer (O':=[]) fun i hi => by cases hi
 have mm : Same Hs Hs3:=(m1.trans (g2.same F1.sub)).trans m3
 refine for_src sr (fun i σ H => ∃ Hs',FR (gOf X) E Es [] [some (.lst ts),none,none,none] σ H Hs'∧Same Hs3 Hs'∧lamGo (fun t => cl g [b,t]) i (ts.drop i) = rr) ⟨Hs3,F3,Same.refl _,hR⟩ (fun i σ H ⟨Hs',F',s',_⟩ => (m3.trans s').trans F'.sub) ?_ ?_
 ·rintro i d x σ1 H1' H2' hdi ⟨Hs',F',s',hgo⟩ hy'
  obtain ⟨t,hti,rfl⟩:=enumK_get ts 0 i d hdi
  rw [Nat.zero_add] at *
  obtain ⟨hlt,ed⟩:=List.getElem?_eq_some_iff.mp hti
  rw [List.drop_eq_getElem_cons hlt,ed] at hgo
  obtain ⟨Hs4,g4,rx⟩:=sr.yld i H1' x H2' Hs' _ (m3.trans s') F'.sub hdi hy'
  have F4:=F'.grown g4
  have s4 : Same Hs3 Hs4:=s'.trans (g4.same F'.sub)
  have hρ2 : bindT (.two 2 3) (.tup [.int (i : Nat),t]) [some (.lst ts),none,none,none] = .ok [some (.lst ts),none,some (.int (i : Nat)),some t]:=rfl
  refine tg_read (X:=X) g4.sub hρ2 rx fun l hl hrl eρ => ?_
  have F5:=F4.putL (by rw [hl,hpin];intro q hq;rw [List.mem_singleton.mp hq];show (1 : Nat) ∉ [2,3];decide) hrl
  rw [← eρ] at F5
  obtain ⟨Hs6,F6,m6⟩:=F5.fewer (O':=[]) fun j hj => by cases hj
  have back : ∀ {σ' H' Hs'},FR (gOf X) E Es [] [some (.lst ts),none,some (.int (i : Nat)),some t] σ' H' Hs'→FR (gOf X) E Es [] [some (.lst ts),none,none,none] σ' H' Hs':=fun F => F.less rfl fun j d q => by
   match j,q with
   | 0,q => exact q
   | 1,q => cases q
   | 2,q => cases q
   | 3,q => cases q
   | j + 4,q => cases q
  replace hgo : (match cl g [b,t] with | .ok (.bl true) => lamGo (fun t => cl g [b,t]) (i + 1) (ts.drop (i + 1)) | .ok (.bl false) => badX i | _ => .stuck) = rr:=hgo
  cases hz : cl g [b,t] with
  | stuck => rw [hz] at hgo;rw [← hgo] at kk;exact kk.elim
  | exc y => rw [hz] at hgo;rw [← hgo] at kk;exact kk.elim
  | ok z =>
   rw [hz] at hgo
   cases z with
   | bl bb =>
    cases bb with
    | true => exact ⟨_,Hs6,F6,t,i,true,rfl,rfl,hz,iteT fun σ' H' Hs7 F7 s7 => ⟨Hs7,back F7,(s4.trans m6).trans s7,hgo⟩⟩
    | false =>
     replace hgo : badX i = rr:=hgo
     rw [← hgo] at kk
     have hne : badX i≠.stuck:=fun z => by rw [z] at kk;exact kk
     obtain ⟨sm,e⟩:=badX_exc hne
     rw [e] at kk
     exact ⟨_,Hs6,F6,t,i,false,rfl,rfl,hz,iteF ⟨sm,fun H' Hs' g' => kk H' Hs' g'⟩⟩
   | _ => rw [← hgo] at kk;exact kk.elim
 ·rintro σ1 H1' ⟨Hs',F',s',hgo⟩
  rw [enumK_len,List.drop_length] at hgo
  replace hgo : R.ok Mi.D.non = rr:=hgo
  rw [← hgo] at kk
  exact kk [] rfl _ _ _ F' (mm.trans s')
end
section
variable {T : Tx} {cl : Nat→List D→R D} {P : Program} {w : World} {K : PySem.W.Frag} {mg : Str→Option Value} {base : Heap} {n : Nat}
noncomputable def spCLX (g : G) (mg : Str→Option Value) (cl : Nat→List D→R D) (q : Nat) : Sp:=fun vs H Q E => ∃ vt fa b d Hs,vs = [vt,.ref fa]∧Same Hs H∧CloAt g H Hs fa b∧Rp g Hs d vt∧spXR g mg H Hs Q E (lamRes (fun t => cl q [b,t]) d)
theorem isin_lst {d : D} (h : isinD d .list = true) : ∃ ts,d = .lst ts:=by
 cases d <;> first | exact ⟨_,rfl⟩ | cases h
theorem lamRes_no {f : D→R D} {d : D} (h : isinD d .list = false) : lamRes f d = badX 0:=by
 cases d <;> first | rfl | cases h
theorem clX_run {q : Nat} {f C : Addr} {params : Arguments} {dV kV doc pm cdv ct oc : Value} {an od : Option Addr} {osl : Array (Option Value)} {p1 p2 p3 p4 p5 p6 : Pos} {q1 q2 q3 q4 q5 q6 q7 q8 q9 q10 q11 q12 q13 r1 r2 r3 s1 s2 s3 s4 : Pos} {j j0 : Nat} {A : Around} {outer : List Env} {e1 : Env}
  (F : FnsP T cl P w K mg base n) (hT : T.F[q]? = some (Str.ofString "is_test")) (hr : Room (n + 1) A) (Z : InK K mg C)
  (lk : K.lookup f = some ⟨oc, od, .func (PySem.W.fnOf "check_list" "check_list" params (clBody p1 p2 p3 p4 p5 p6 (some (.Call (.Name "BadTests" r1) [.Constant (.int 0) j0 r2] [] r3)) none q1 q2 q3 q4 q5 q6 q7 q8 q9 q10 q11 q12 q13 j [badStm (.Name "place" s1) s2 s3 s4]) clScope dV kV doc pm an cdv ct), osl⟩) (hcd : PySem.W.codeIn K cdv "check_list" = true) :
  RunX P w K mg base (A.deeper e1) outer f (PySem.W.fnOf "check_list" "check_list" params (clBody p1 p2 p3 p4 p5 p6 (some (.Call (.Name "BadTests" r1) [.Constant (.int 0) j0 r2] [] r3)) none q1 q2 q3 q4 q5 q6 q7 q8 q9 q10 q11 q12 q13 j [badStm (.Name "place" s1) s2 s3 s4]) clScope dV kV doc pm an cdv ct) ["things", "is_right"] (spCLX ⟨P, w, K⟩ mg cl q):=by
 have S : FnScope clN ["things", "is_right"] clScope:=scopeB_ok (by decide +kernel)
 have hdp0:=hr.dp
 refine runX_of lk hcd S (by show A.depth + 1 < _;omega) hr.hd (fun vs H Q E h => ?_) fun s H vs Q E h => ?_
 ·obtain ⟨vt,fa,b,d,Hs,rfl,_⟩:=h
  rfl
 ·obtain ⟨vt,fa,b,d,Hs,rfl,hs,hc,rt,k⟩:=h
  have hr2:=room2 hr e1 (envOfC "check_list" clScope s.heap.objs.size f cdv)
  have hdp : (cxOf (CX1 P w) P w K mg base clN "check_list" clScope f cdv (A.deeper e1) outer s H E).A.depth + 2 < recursionLimit:=by show A.depth + 1 + 1 + 2 < recursionLimit; have:=hr.dp; omega
  have Cc : Cok ⟨[], []⟩ (clB cl q b) (cxOf (CX1 P w) P w K mg base clN "check_list" clScope f cdv (A.deeper e1) outer s H E):=FnsP.cok (X:=cxOf (CX1 P w) P w K mg base clN "check_list" clScope f cdv (A.deeper e1) outer s H E) (fns0 F) rfl S.nd hr2
  have SR : ScRel clScope (cxOf (CX1 P w) P w K mg base clN "check_list" clScope f cdv (A.deeper e1) outer s H E):=⟨fun y h => glbB_iff h, fun y h => visB_iff h, fun y h => h, fun y h => ⟨ownB_iff h, .inl rfl⟩⟩
  have rz : RzD (cxOf (CX1 P w) P w K mg base clN "check_list" clScope f cdv (A.deeper e1) outer s H E) E:=rzD_cx
  have hra:=ps_bad (X:=cxOf (CX1 P w) P w K mg base clN "check_list" clScope f cdv (A.deeper e1) outer s H E) (Ek:=E) (np:=r1) (cpos:=r3) (pos:=q13) Z rz rfl (show clScope.names.lookup (Str.ofString "BadTests") = some .globalImplicit by decide +kernel) hdp hr.hd (pe_int (i:=0) (j:=j0) (pos:=r2)) rfl rfl
  have h1:=sx_if (T:=⟨[], []⟩) (cl:=clB cl q b) (X:=cxOf (CX1 P w) P w K mg base clN "check_list" clScope f cdv (A.deeper e1) outer s H E) (sc:=clScope) (E:=⟨H, [(1, fa)]⟩) (Es:=Hs) (O:=[]) (pos:=p6) (Ez:=fun _ H' => E (.ref C) none H') (c:=.not (.isin (.var 0) .list)) (a:=[.rai "BadTests"]) (b:=[]) (x:=none) (y:=some []) (c':=.UnaryOp .Not (.Call (.Name "isinstance" p1) [.Name "things" p2, .Name "list" p3] [] p4) p5) (a':=[.Raise (some (.Call (.Name "BadTests" r1) [.Constant (.int 0) j0 r2] [] r3)) none q13]) (b':=[]) Cc SR rfl
   (pss_one (ps_imp hra fun D σ H' => ?_)) (pss_imp pss_nil fun D σ H' => ?_)
  ·have h2:=sx_chk (cl:=cl) (g:=q) (X:=cxOf (CX1 P w) P w K mg base clN "check_list" clScope f cdv (A.deeper e1) outer s H E) (T:=T) (b:=b) (E:=⟨H, [(1, fa)]⟩) (Es:=Hs) (fa:=fa) (Ek:=E) (Ez:=fun _ H' => E (.ref C) none H') (p1:=q7) (p2:=q8) (p3:=q9) (p4:=q10) (p5:=q11) (r1:=s1) (r2:=s2) (r3:=s3) (r4:=s4) F hT (fun env => room3 hr e1 _ env) hdp hr.hd rfl rfl rfl Z rz (fun H' h => h) rfl hs hc
   have h3:=sx_loop (cl:=cl) (g:=q) (X:=cxOf (CX1 P w) P w K mg base clN "check_list" clScope f cdv (A.deeper e1) outer s H E) (b:=b) (E:=⟨H, [(1, fa)]⟩) (Es:=Hs) (fa:=fa) (Ez:=fun _ H' => E (.ref C) none H') (q1:=q1) (q2:=q2) (q3:=q3) (q4:=q4) (q5:=q5) (q6:=q6) (q12:=q12) (j:=j) PassesOwn.leaving rfl Cc SR rfl (pss_one h2)
   refine ⟨_,pss_cons h1 (pss_one h3),?_⟩
   have FR0 : FR ⟨P,w,K⟩ ⟨H,[(1,fa)]⟩ Hs [] [some d,none,none,none] [some vt,some (.ref fa),none,none] H Hs:=by
    refine ⟨Grow.refl hs,rfl,fun i d h _ => ?_,fun i hi => (by cases hi),fun i hi => (by cases hi),fun z hz => by rw [List.mem_singleton.mp hz];rfl⟩
    match i,h with
    | 0,h => cases h;exact ⟨vt,rfl,rt⟩
    | 1,h => cases h
    | 2,h => cases h
    | 3,h => cases h
    | i + 4,h => cases h
   have exc0 : ∀ {k : Nat},spXR ⟨P,w,K⟩ mg H Hs Q E (badX k)→∀ H' Hs',Grow H Hs H' Hs'→E (.ref C) none H':=fun {k} hk => by
    have hne : badX k≠.stuck:=fun z => by rw [z] at hk;exact hk
    rw [(badX_exc hne).2] at hk
    exact fun H' Hs' g' => hk H' Hs' C Z.me g'
   refine ⟨[some d,none,none,none],Hs,FR0,?_⟩
   show XEnd _ _ _ _ _ _ _ (pickD (runXB (clB cl q b) [.rai "BadTests"] [some d, none, none, none]) (runXB (clB cl q b) [] [some d, none, none, none]) (.ok (.bl (!isinD d .list))))
   cases hd : isinD d .list with
   | false =>
    rw [lamRes_no hd] at k
    exact fun H' Hs' g' => exc0 k H' Hs' g'
   | true =>
    obtain ⟨ts,rfl⟩:=isin_lst hd
    refine fun O1 e σ' H' Hs' F' s' => ?_
    cases e
    refine ⟨ts,Hs',F',?_⟩
    replace k : spXR ⟨P,w,K⟩ mg H Hs Q E (lamGo (fun t => cl q [b,t]) 0 ts):=k
    cases hg : lamGo (fun t => cl q [b,t]) 0 ts with
    | stuck => rw [hg] at k;exact k
    | exc x =>
     rw [hg] at k
     have hx:=lamGo_exc hg
     intro H2 Hs2 g2
     exact k H2 Hs2 C (by rw [hx];exact Z.me) g2
    | ok z =>
     rw [hg] at k
     have hz:=lamGo_ok hg
     subst hz
     intro O1 e σ2 H2 Hs2 F2 s2
     exact k .non H2 Hs2 F2.grow (rp_non.mpr rfl)
  ·rintro ⟨ρ,Hs1,F',k'⟩
   replace k' : ∀ H' Hs',Grow H Hs H' Hs'→E (.ref C) none H':=k'
   have sm : smallK 0 = true:=by decide +kernel
   exact ⟨0,rfl,(small_ok sm).1,(small_ok sm).2,fun dd hdd => k' _ Hs1 (F'.grow.trans (Grow.own F'.sub hdd))⟩
  ·rintro ⟨ρ,Hs1,F',k'⟩
   exact k' [] rfl σ H' Hs1 F' (Same.refl _)
structure LamKX (K : PySem.W.Frag) (mg : Str→Option Value) (act : Addr) (cdv : Value) : Prop where
 cl : ∃ f params dV kV doc pm cv ct oc an od osl p1 p2 p3 p4 p5 p6 q1 q2 q3 q4 q5 q6 q7 q8 q9 q10 q11 q12 q13 r1 r2 r3 s1 s2 s3 s4 j j0, K.lookup f = some ⟨oc, od, .func (PySem.W.fnOf "check_list" "check_list" params (clBody p1 p2 p3 p4 p5 p6 (some (.Call (.Name "BadTests" r1) [.Constant (.int 0) j0 r2] [] r3)) none q1 q2 q3 q4 q5 q6 q7 q8 q9 q10 q11 q12 q13 j [badStm (.Name "place" s1) s2 s3 s4]) clScope dV kV doc pm an cv ct), osl⟩ ∧ PySem.W.codeIn K cv "check_list" = true ∧
  mg (Str.ofString "check_list") = some (.ref f) ∧ PySem.W.keepIn K (.ref f) = true ∧ Binds K (PySem.W.fnOf "check_list" "check_list" params (clBody p1 p2 p3 p4 p5 p6 (some (.Call (.Name "BadTests" r1) [.Constant (.int 0) j0 r2] [] r3)) none q1 q2 q3 q4 q5 q6 q7 q8 q9 q10 q11 q12 q13 j [badStm (.Name "place" s1) s2 s3 s4]) clScope dV kV doc pm an cv ct) ["things", "is_right"] []
 code : ∃ cc Pt oc vs file tf flags tg inF text tt, cdv = .ref cc ∧ K.lookup cc = some oc ∧ oc.cls = .type "code" ∧ oc.data = .fields vs ∧ vs[11]? = some (.ref Pt) ∧ vs.getD 11 .none = .ref Pt ∧ vs.getD 18 .none = .str file tf ∧ vs.getD 7 .none = .int flags tg ∧ vs.getD 9 .none = .bool inF ∧ vs.getD 10 .none = .int text tt ∧ cc ≠ Pt
 me : mg "check_tests" = some (.ref act)
 bad : ∃ C,InK K mg C
theorem ctestX_ok {q : Nat} {act : Addr} {params : Arguments} {dV kV doc pm cdv ct oc : Value} {an od : Option Addr} {osl : Array (Option Value)} {p1 p2 p3 p4 p5 p6 p7 p8 p9 p10 : Pos} {c : List D→R D}
  (F : FnsP T cl P w K mg base n) (hT : T.F[q]? = some (Str.ofString "is_test")) (hc : ∀ ds, c ds ≠ .stuck → ∃ b d, ds = [b, d] ∧ c ds = lamRes (fun t => cl q [b, t]) d)
  (lk : K.lookup act = some ⟨oc, od, .func (PySem.W.fnOf "check_tests" "check_tests" params (ctBody p1 p2 p3 p4 p5 p6 p7 p8 p9 p10) ctScope dV kV doc pm an cdv ct), osl⟩) (hcd : PySem.W.codeIn K cdv "check_tests" = true) (L : LamKX K mg act cdv) :
  FnOk P w K mg base (CX1 P w) (n + 1) act (PySem.W.fnOf "check_tests" "check_tests" params (ctBody p1 p2 p3 p4 p5 p6 p7 p8 p9 p10) ctScope dV kV doc pm an cdv ct) ["book", "tests"] (spX ⟨P, w, K⟩ mg c 2):=by
 have S : FnScope ctN ["book", "tests"] ctScope:=scopeB_ok (by decide +kernel)
 have len : ∀ (vs : List V) (H : Hp) (Q : VK) (E : XK), spX ⟨P, w, K⟩ mg c 2 vs H Q E → vs.length = ([("book" : Str), "tests"] : List Str).length:=fun vs H Q E h => by
  obtain ⟨ds,Hs,h,_⟩:=h;exact h
 refine ⟨len,fun A outer s H args us vs Q E hr e0 hb r hsp => (runX_of (N:=ctN) lk hcd S (by have:=hr.dp;omega) hr.hd len fun s H vs Q E h => ?_).run s H args us vs Q E e0 hb r hsp⟩
 obtain ⟨ds,Hs,hlen,hs,rs,k⟩:=h
 have hne : c ds≠.stuck:=fun z => by rw [z] at k;exact k
 obtain ⟨b,d,rfl,ec⟩:=hc _ hne
 rw [ec] at k
 obtain ⟨vb,ws,rfl,rb,rs2⟩:=rs.cons_inv
 obtain ⟨vt,ws,rfl,rt,rs3⟩:=rs2.cons_inv
 cases rs3.nil_inv
 obtain ⟨fc,params',dV',kV',doc',pm',cv',ct',oc',an',od',osl',a1,a2,a3,a4,a5,a6,b1,b2,b3,b4,b5,b6,b7,b8,b9,b10,b11,b12,b13,r1,r2,r3,s1,s2,s3,s4,j,j0,g1,g2,g3,g4,g5⟩:=L.cl
 obtain ⟨cc,Pt,ocd,vsd,file,tf,flags,tg,inF,text,tt,d1,d2,d3,d4,d5,d6,d7,d8,d9,d10,d11⟩:=L.code
 obtain ⟨C,Z⟩:=L.bad
 have RA:=clX_run (e1:=envOfC "check_tests" ctScope s.heap.objs.size act cdv) (outer:=envOfC "check_tests" ctScope s.heap.objs.size act cdv :: outer) F hT hr Z g1 g2
 have hpe:=pe_clamX (X:=cxOf (CX1 P w) P w K mg base ctN "check_tests" ctScope act cdv A outer s H E) (E:=E) (xb:="book") (y:="tests") (xc:="check_list") (i0:=0) (i1:=1) (params:=lamArgs p3) (body:=lamBody p4 p5 p6 p7) (scope:=lamScope) (lpos:=p8) (p:=p1) (p2:=p2) (pos:=p9) (cc:=cc) (Pt:=Pt)
  RA xok_cx.pass g5 (show ctScope.names.lookup (Str.ofString "check_list") = some .globalImplicit by decide +kernel) g3 g4 rfl (show ctScope.names.lookup (Str.ofString "book") = some .cell by decide +kernel) rfl rfl (.inl (show ctScope.names.lookup (Str.ofString "tests") = some .local by decide +kernel)) (by decide +kernel) (by decide +kernel) (by decide +kernel)
  (fun c h => clo_for h) d1 (fun h X => ⟨ocd, vsd, file, tf, flags, tg, inF, text, tt, X _ _ d2, d3, d4, d5, d6, d7, d8, d9, d10, d11⟩) (fun H' tab => tab act _ _ cc ocd vsd Pt L.me lk rfl d1 d2 d4 d5) rfl (show ("check_tests" : Str) ++ ".<locals>." ++ "<lambda>" = lamQ by decide +kernel)
 refine ⟨_,pss_one (ps_expr hpe (swaps_no rfl)),?_⟩
 refine ⟨vb,vt,rfl,rfl,fun f c' oc pm ctv cx ocell ub H' mono hn hn' hf hc' hlo hcell rub => ?_⟩
 have nf : f≠cx:=fun z => by rw [z,hn'] at hf;cases hf
 have nc : c'≠cx:=fun z => by rw [z,hn'] at hc';cases hc'
 have hsc : Hs cx = none:=hs.free hn
 have back : ∀ {H1 Hs1 : Hp},Grow (upd H' cx (.frz ocell anyO)) Hs H1 Hs1→Grow H Hs (drop H1 cx) Hs1:=fun {H1 Hs1} w1 => by
  have o1 : Hs1 cx = none:=(w1.old cx _ upd_same).trans hsc
  refine ⟨fun a o e => ?_,fun a o e => ?_,fun a o e => ?_⟩
  ·have na : a≠cx:=fun z => by rw [z,hn] at e;cases e
   rw [drop_ne na]
   exact w1.keep a o (by rw [upd_ne na];exact mono _ _ e)
  ·have na : a≠cx:=fun z => by rw [z,hn] at e;cases e
   exact w1.old a o (by rw [upd_ne na];exact mono _ _ e)
  ·rw [drop_ne (fun z => by rw [z,o1] at e;cases e)]
   exact w1.sub a o e
 refine ⟨vt,f,b,d,Hs,rfl,fun a o e => ?_,⟨p3,p4,p5,p6,p7,cx,c',oc,ocell,ub,vb,pm,ctv,by rw [upd_ne nf];exact hf,by rw [upd_ne nc];exact hc',hlo,upd_same,hcell,rub,hsc,rb⟩,rt,?_⟩
 ·rw [upd_ne (fun z => by rw [z,hsc] at e;cases e)]
  exact mono _ _ (hs a o e)
 ·cases hl : lamRes (fun t => cl q [b,t]) d with
  | stuck => rw [hl] at k;exact k
  | exc x => rw [hl] at k;exact fun H1 Hs1 C hC w1 => k _ Hs1 C hC (back w1)
  | ok z =>
   rw [hl] at k
   have hz:=lamRes_ok hl
   subst hz
   exact fun v H1 Hs1 w1 r1 => k .non _ Hs1 (back w1) (rp_non.mpr rfl)
end
end Mi
namespace Mi
open PySem L2
open PyProof.Rows hiding St
noncomputable def finS : R Out→R D
 | .ok (.rt d) => .ok d
 | .ok (.nx _) => .ok .non
 | .ok (.ro d) => .ok d
 | _ => .stuck
noncomputable def finSO : R Out→R D
 | .ok (.ro d) => .ok d
 | _ => .stuck
noncomputable def finSM : R Out→R D
 | .ok (.nx ρ) => getE ρ 1
 | _ => .stuck
noncomputable def finX : R Out→R D
 | .ok (.rt d) => .ok d
 | .ok (.nx _) => .ok .non
 | .exc x => .exc x
 | _ => .stuck
noncomputable def st0 (d : Def) (args : List D) : En:=args.map some++List.replicate (d.nn - d.np) none
noncomputable def stepN (cl : Nat→List D→R D) (tab : List Def) (f : Nat) (args : List D) : R D:=match tab[f]? with
 | some d => if args.length = d.np∧d.nrm = true then finS (runB cl d.body (st0 d args)) else .stuck
 | none => if 2000≤f then (match tab[f - 2000]? with
   | none => .stuck
   | some d => if args.length = d.np∧d.nrm = true then finSO (runB cl d.body (st0 d args)) else .stuck)
  else (match tab[f - 1000]? with
   | none => .stuck
   | some d => if args.length = 2∧mutB d = true then finSM (runB cl d.body (st0 d args)) else .stuck)
noncomputable def stepX (cl : Nat→List D→R D) (b : List XS) (args : List D) : Option Def→R D
 | none => .stuck
 | some d => if args.length = d.np then finX (runXB cl b (st0 d args)) else .stuck
noncomputable abbrev XTab:=List (Nat × List XS)
noncomputable def callX (tab : List Def) (xt : XTab) : Nat→Nat→List D→R D
 | 0,_,_ => .stuck
 | n + 1,f,args => match xt.lookup f with
  | some b => stepX (callX tab xt n) b args tab[f]?
  | none => stepN (callX tab xt n) tab f args
section
variable {tab : List Def} {xt : XTab} {n f : Nat} {d : Def} {args : List D} {z : D} {b : List XS}
theorem callX_eq (hx : xt.lookup f = none) (ht : tab[f]? = some d) (hl : args.length = d.np) (hn : d.nrm = true) : callX tab xt (n + 1) f args = finS (runB (callX tab xt n) d.body (st0 d args)):=by
 show (match xt.lookup f with | some b => _ | none => _) = _
 rw [hx]
 show stepN _ _ _ _ = _
 unfold stepN
 rw [ht]
 exact if_pos ⟨hl,hn⟩
theorem finS_rt (d : D) : finS (.ok (.rt d)) = .ok d:=rfl
theorem finS_ro (d : D) : finS (.ok (.ro d)) = .ok d:=rfl
theorem finS_nx (ρ : En) : finS (.ok (.nx ρ)) = .ok .non:=rfl
theorem finX_rt (d : D) : finX (.ok (.rt d)) = .ok d:=rfl
theorem finX_nx (ρ : En) : finX (.ok (.nx ρ)) = .ok .non:=rfl
theorem finX_exc (x : Xc) : finX (.exc x) = .exc x:=rfl
theorem callX_ok (hx : xt.lookup f = none) (ht : tab[f]? = some d) (h : callX tab xt (n + 1) f args = .ok z) : ∃ o,args.length = d.np∧d.nrm = true∧runB (callX tab xt n) d.body (st0 d args) = .ok o∧(o = .rt z∨o = .ro z∨(z = .non∧∃ ρ,o = .nx ρ)):=by
 replace h : (match xt.lookup f with | some b => stepX (callX tab xt n) b args tab[f]? | none => stepN (callX tab xt n) tab f args) = .ok z:=h
 rw [hx] at h
 unfold stepN at h
 rw [ht] at h
 obtain ⟨hl,h1⟩:=if_ok h
 cases hr : runB (callX tab xt n) d.body (st0 d args) with
 | exc x => rw [hr] at h1;cases h1
 | stuck => rw [hr] at h1;cases h1
 | ok o =>
  rw [hr] at h1
  refine ⟨o,hl.1,hl.2,rfl,?_⟩
  cases o with
  | rt d' => cases h1;exact .inl rfl
  | ro d' => cases h1;exact .inr (.inl rfl)
  | nx ρ => cases h1;exact .inr (.inr ⟨rfl,ρ,rfl⟩)
  | bk ρ => cases h1
  | ct ρ => cases h1
theorem callX_noexc (hx : xt.lookup f = none) {x : Xc} (h : callX tab xt (n + 1) f args = .exc x) : False:=by
 replace h : (match xt.lookup f with | some b => stepX (callX tab xt n) b args tab[f]? | none => stepN (callX tab xt n) tab f args) = .exc x:=h
 rw [hx] at h
 replace h : stepN (callX tab xt n) tab f args = .exc x:=h
 have e1 : ∀ r,finS r≠.exc x:=fun r => by
  cases r with
  | ok o => cases o <;> exact fun z => nomatch z
  | exc _ => exact fun z => nomatch z
  | stuck => exact fun z => nomatch z
 have e2 : ∀ r,finSO r≠.exc x:=fun r => by
  cases r with
  | ok o => cases o <;> exact fun z => nomatch z
  | exc _ => exact fun z => nomatch z
  | stuck => exact fun z => nomatch z
 have e3 : ∀ r,finSM r≠.exc x:=fun r => by
  cases r with
  | ok o =>
   cases o with
   | nx ρ =>
    intro z
    replace z : getE ρ 1 = .exc x:=z
    unfold getE at z
    split at z <;> cases z
   | rt _ => intro z;cases z
   | ro _ => intro z;cases z
   | bk _ => intro z;cases z
   | ct _ => intro z;cases z
  | exc _ => exact fun z => nomatch z
  | stuck => exact fun z => nomatch z
 unfold stepN at h
 split at h
 ·split at h
  ·exact e1 _ h
  ·cases h
 ·split at h
  ·split at h
   ·cases h
   ·split at h
    ·exact e2 _ h
    ·cases h
  ·split at h
   ·cases h
   ·split at h
    ·exact e3 _ h
    ·cases h
theorem callXM_ok (hf : f < 1000) (hx : xt.lookup (1000 + f) = none) (hn : tab[1000 + f]? = none) (ht : tab[f]? = some d) (h : callX tab xt (n + 1) (1000 + f) args = .ok z) : ∃ ρ,args.length = 2∧mutB d = true∧runB (callX tab xt n) d.body (st0 d args) = .ok (.nx ρ)∧getE ρ 1 = .ok z:=by
 replace h : (match xt.lookup (1000 + f) with | some b => stepX (callX tab xt n) b args tab[1000 + f]? | none => stepN (callX tab xt n) tab (1000 + f) args) = .ok z:=h
 rw [hx] at h
 unfold stepN at h
 rw [hn,show 1000 + f - 1000 = f by omega] at h
 simp only [ht,if_neg (show ¬ 2000≤1000 + f by omega)] at h
 obtain ⟨hl,h1⟩:=if_ok h
 cases hr : runB (callX tab xt n) d.body (st0 d args) with
 | exc x => rw [hr] at h1;cases h1
 | stuck => rw [hr] at h1;cases h1
 | ok o =>
  rw [hr] at h1
  cases o with
  | rt d' => cases h1
  | ro d' => cases h1
  | nx ρ => exact ⟨ρ,hl.1,hl.2,rfl,h1⟩
  | bk ρ => cases h1
  | ct ρ => cases h1
theorem callXF_ok (hx : xt.lookup (2000 + f) = none) (hn : tab[2000 + f]? = none) (ht : tab[f]? = some d) (h : callX tab xt (n + 1) (2000 + f) args = .ok z) : args.length = d.np∧d.nrm = true∧runB (callX tab xt n) d.body (st0 d args) = .ok (.ro z):=by
 replace h : (match xt.lookup (2000 + f) with | some b => stepX (callX tab xt n) b args tab[2000 + f]? | none => stepN (callX tab xt n) tab (2000 + f) args) = .ok z:=h
 rw [hx] at h
 unfold stepN at h
 rw [hn,show 2000 + f - 2000 = f by omega] at h
 simp only [ht,if_pos (show 2000≤2000 + f by omega)] at h
 obtain ⟨hl,h1⟩:=if_ok h
 cases hr : runB (callX tab xt n) d.body (st0 d args) with
 | exc x => rw [hr] at h1;cases h1
 | stuck => rw [hr] at h1;cases h1
 | ok o =>
  rw [hr] at h1
  cases o with
  | rt d' => cases h1
  | ro d' => cases h1;exact ⟨hl.1,hl.2,rfl⟩
  | nx ρ => cases h1
  | bk ρ => cases h1
  | ct ρ => cases h1
end
noncomputable def defX (T : Tx) (xtt : XT) (d : Def) (b : List XS) (N ps : List Str) (st : Stmt) : Bool :=
 scopeB N ps (defScope st) && decide (d.np = ps.length) && decide (d.nn = N.length) && okXB T xtt N (defScope st) true b (defBody st) && (chkXB b []).isSome && !mutB d && !d.nrm
structure LamD (T : Tx) (K : PySem.W.Frag) (mg : Str→Option Value) (x : Str) (b : List XS) (d : Def) (ps : List Str) (st : Stmt) (a : Addr) (fd : FuncData) : Prop where
 ex : ∃ q p1 p2 p3 p4 p5 p6 p7 p8 p9 p10, b = [.lam q] ∧ T.F[q]? = some (Str.ofString "is_test") ∧ defBody st = ctBody p1 p2 p3 p4 p5 p6 p7 p8 p9 p10
 sc : defScope st = ctScope
 nm : x = Str.ofString "check_tests"
 par : ps = [("book" : Str), "tests"]
 np : d.np = 2
 nn : d.nn = 2
 nomut : mutB d = false
 nonrm : d.nrm = false
 lam : LamKX K mg a fd.code
structure PrX (T : Tx) (xtt : XT) (tab : List Def) (xt : XTab) (K : PySem.W.Frag) (mg : Str→Option Value) : Prop where
 len : tab.length≤1000
 xlen : ∀ f b,xt.lookup f = some b→f < 1000
 blt : ∀ f∈bltNames,mg f = none
 gl : ∀ x d,T.gl.lookup x = some d→GlV d (mg x)
 facts : XF xtt K mg
 fn : ∀ (f : Nat) (x : Str),T.F[f]? = some x→∃ d N ps st a fd,tab[f]? = some d∧Fun K x x st a fd∧mg x = some (.ref a)∧Binds K fd ps []∧(match xt.lookup f with | none => defB T d N ps st = true | some b => defX T xtt d b N ps st = true∨LamD T K mg x b d ps st a fd)
noncomputable def FnsX (T : Tx) (tab : List Def) (xt : XTab) (P : Program) (w : World) (K : PySem.W.Frag) (mg : Str→Option Value) (base : Heap) (n : Nat) : Prop:=∀ (f : Nat) (x : Str),T.F[f]? = some x →
  ∃ a fd ps,FnOk P w K mg base CX0 n a fd ps (spD ⟨P,w,K⟩ (callX tab xt n f) ps.length)∧FnOk P w K mg base CX0 n a fd ps (spMu ⟨P,w,K⟩ (callX tab xt n (1000 + f)) ps.length)∧mg x = some (.ref a)∧PySem.W.keepIn K (.ref a) = true∧Binds K fd ps []∧(∀ ds d,callX tab xt n f ds = .ok d→ds.length = ps.length)∧(∀ ds d,callX tab xt n (1000 + f) ds = .ok d→ps.length = 2)∧FnOk P w K mg base CX0 n a fd ps (spF ⟨P,w,K⟩ (callX tab xt n (2000 + f)) ps.length)∧(∀ ds d,callX tab xt n (2000 + f) ds = .ok d→ds.length = ps.length) ∧
   FnOk P w K mg base (CX1 P w) n a fd ps (spX ⟨P,w,K⟩ mg (callX tab xt n f) ps.length)∧∀ ds,callX tab xt n f ds≠.stuck→ds.length = ps.length
section
variable {T : Tx} {xtt : XT} {tab : List Def} {xt : XTab} {P : Program} {w : World} {K : PySem.W.Frag} {mg : Str→Option Value} {base : Heap} {n : Nat} {f : Nat} {x : Str} {d : Def} {N ps : List Str} {st : Stmt} {a : Addr} {fd : FuncData} {b : List XS}
theorem PrX.no1 (Pr : PrX T xtt tab xt K mg) : xt.lookup (1000 + f) = none:=by
 cases q : xt.lookup (1000 + f) with
 | none => rfl
 | some b => have:=Pr.xlen _ b q;omega
theorem PrX.no2 (Pr : PrX T xtt tab xt K mg) : xt.lookup (2000 + f) = none:=by
 cases q : xt.lookup (2000 + f) with
 | none => rfl
 | some b => have:=Pr.xlen _ b q;omega
theorem cokX_of (Pr : PrX T xtt tab xt K mg) (IH : FnsX T tab xt P w K mg base n) {CX : CXT} {cdv : Value} {A : Around} {outer : List Env} {s : Shared} {H : Hp} {E : XK} {q : Str} (S : FnScope N ps (defScope st)) (hr : Room n (A.deeper (envOfC q (defScope st) s.heap.objs.size a cdv))) {xe : Value→Shared→Prop} :
  Cok T (callX tab xt n) ((cxOf CX P w K mg base N q (defScope st) a cdv A outer s H E).wish xe):=by
 refine ⟨rfl,S.nd,?_,Pr.blt,Pr.gl,fun f' x' hF' => ?_⟩
 ·have:=hr.un
  show (A.deeper _).units + 100 < cLine
  omega
 ·obtain ⟨a',fd',ps',q1,q1m,q2,q3,q4,q5,q6,q7,q8,_⟩:=IH f' x' hF'
  exact ⟨n,a',fd',ps',q1,q1m,hr,q2,q3,q4,q5,q6,q7,q8⟩
theorem screlX_of {CX : CXT} {cdv : Value} {A : Around} {outer : List Env} {s : Shared} {H : Hp} {E : XK} {q : Str} {xe : Value→Shared→Prop} : ScRel (defScope st) ((cxOf CX P w K mg base N q (defScope st) a cdv A outer s H E).wish xe) :=
 ⟨fun y h => glbB_iff h,fun y h => visB_iff h,fun y h => h,fun y h => ⟨ownB_iff h,.inl rfl⟩⟩
theorem fnX_step (Pr : PrX T xtt tab xt K mg) (IH : FnsX T tab xt P w K mg base n) (hx : xt.lookup f = none) (ht : tab[f]? = some d) (F : Fun K x x st a fd) (hd : defB T d N ps st = true) :
  FnOk P w K mg base CX0 (n + 1) a fd ps (spD ⟨P,w,K⟩ (callX tab xt (n + 1) f) ps.length)∧∀ ds z,callX tab xt (n + 1) f ds = .ok z→ds.length = ps.length:=by
 unfold defB at hd
 simp only [Bool.and_eq_true,decide_eq_true_eq] at hd
 obtain ⟨⟨⟨⟨h1,h2⟩,h3⟩,h4⟩,h5⟩:=hd
 have S:=scopeB_ok h1
 refine ⟨F.ok S (fun vs H Q E h => ?_) (fun cdv A outer s H vs Q E hr h => ?_),fun ds z h => ?_⟩
 ·obtain ⟨ds,Hs,z,h,_⟩:=h;exact h
 ·obtain ⟨ds,Hs,z,hlen,hs,r,hc,k⟩:=h
  obtain ⟨o,hnp,hnr,hrun,ho⟩:=callX_ok hx ht hc
  rw [hnr] at h5
  obtain ⟨O',hO⟩:=Option.isSome_iff_exists.mp (show (chkB [] d.body []).isSome = true from h5)
  have C:=cokX_of (CX:=CX0) (outer:=outer) (H:=H) (E:=E) (xe:=fun _ _ => False) Pr IH S hr
  have SR:=screlX_of (CX:=CX0) (P:=P) (w:=w) (K:=K) (mg:=mg) (base:=base) (N:=N) (st:=st) (a:=a) (cdv:=cdv) (A:=A) (outer:=outer) (s:=s) (H:=H) (E:=E) (q:=x) (xe:=fun _ _ => False)
  refine ⟨_,goodB (E:=⟨H,[]⟩) (Es:=Hs) (fun m _ => goodS m) (fun q hm => by cases hm) C SR PassesOwn.never h4 hO,?_⟩
  refine ⟨_,Hs,o,?_,hrun,?_⟩
  ·have hl:=r.length
   exact fr_start hs r (by rw [h3,h2];omega)
  ·rcases ho with rfl | rfl | ⟨rfl,ρ',rfl⟩
   ·exact fun v H' Hs' g' r' => k v H' Hs' g' r'
   ·exact fun v H' Hs' g' r' _ => k v H' Hs' g' r'
   ·exact fun O1 _ σ' H' Hs' F' _ => k .non H' Hs' F'.grow (rp_non.mpr rfl)
 ·obtain ⟨o,hnp,_⟩:=callX_ok hx ht h
  rw [hnp,h2]
theorem fnX_mut (Pr : PrX T xtt tab xt K mg) (IH : FnsX T tab xt P w K mg base n) (ht : tab[f]? = some d) (F : Fun K x x st a fd) (hd : defB T d N ps st = true) :
  FnOk P w K mg base CX0 (n + 1) a fd ps (spMu ⟨P,w,K⟩ (callX tab xt (n + 1) (1000 + f)) ps.length)∧∀ ds z,callX tab xt (n + 1) (1000 + f) ds = .ok z→ps.length = 2:=by
 unfold defB at hd
 simp only [Bool.and_eq_true,decide_eq_true_eq] at hd
 obtain ⟨⟨⟨⟨h1,h2⟩,h3⟩,h4⟩,h5⟩:=hd
 have S:=scopeB_ok h1
 have hn : tab[1000 + f]? = none:=List.getElem?_eq_none (by have:=Pr.len;omega)
 have hf : f < 1000:=by
  have:=Pr.len
  have:=(List.getElem?_eq_some_iff.mp ht).1
  omega
 refine ⟨F.ok S (fun vs H Q E h => ?_) (fun cdv A outer s H vs Q E hr h => ?_),fun ds z h => ?_⟩
 ·obtain ⟨d0,d1,d',v0,b,Hs,_,h,_⟩:=h;exact h
 ·obtain ⟨d0,d1,d',v0,b,Hs,rfl,hlen,hs,r0,hb,ow,hc,k⟩:=h
  obtain ⟨ρ,hl2,hm,hrun,hg⟩:=callXM_ok hf Pr.no1 hn ht hc
  unfold mutB at hm
  simp only [Bool.and_eq_true,decide_eq_true_eq,Bool.not_eq_true'] at hm
  obtain ⟨⟨m1,m2⟩,m3⟩:=hm
  cases hO : chkB [] d.body [1] with
  | none => rw [hO] at m3;cases m3
  | some O' =>
   cases O' with
   | none => rw [hO] at m3;cases m3
   | some O1 =>
    rw [hO] at m3
    replace m3 : 1∈O1:=by simpa using m3
    have m2' : (1 : Nat) ∉ asgB d.body:=by simpa using m2
    have C:=cokX_of (CX:=CX0) (outer:=outer) (H:=H) (E:=E) (xe:=fun _ _ => False) Pr IH S hr
    have SR:=screlX_of (CX:=CX0) (P:=P) (w:=w) (K:=K) (mg:=mg) (base:=base) (N:=N) (st:=st) (a:=a) (cdv:=cdv) (A:=A) (outer:=outer) (s:=s) (H:=H) (E:=E) (q:=x) (xe:=fun _ _ => False)
    refine ⟨_,goodB (E:=⟨hole H b,[(1,b)]⟩) (Es:=Hs) (fun m _ => goodS m) (fun q hm => by rw [List.mem_singleton.mp hm];exact m2') C SR PassesOwn.never h4 hO,?_⟩
    refine ⟨_,Hs,.nx ρ,mu_start hs r0 hb ow (by rw [h3,h2,hlen]),hrun,?_⟩
    intro O2 e2 σ' H' Hs' F' _
    cases e2
    obtain ⟨c,ec,_,c1,oc⟩:=F'.own 1 m3 d' (getE_ok hg)
    have ep:=F'.pin (1,b) (List.mem_singleton.mpr rfl)
    rw [ec] at ep
    cases ep
    exact k H' Hs' F'.grow c1 oc
 ·obtain ⟨ρ,hl2,hm,_⟩:=callXM_ok hf Pr.no1 hn ht h
  unfold mutB at hm
  simp only [Bool.and_eq_true,decide_eq_true_eq] at hm
  rw [← h2];exact hm.1.1
theorem fnX_new (Pr : PrX T xtt tab xt K mg) (IH : FnsX T tab xt P w K mg base n) (ht : tab[f]? = some d) (F : Fun K x x st a fd) (hd : defB T d N ps st = true) :
  FnOk P w K mg base CX0 (n + 1) a fd ps (spF ⟨P,w,K⟩ (callX tab xt (n + 1) (2000 + f)) ps.length)∧∀ ds z,callX tab xt (n + 1) (2000 + f) ds = .ok z→ds.length = ps.length:=by
 unfold defB at hd
 simp only [Bool.and_eq_true,decide_eq_true_eq] at hd
 obtain ⟨⟨⟨⟨h1,h2⟩,h3⟩,h4⟩,h5⟩:=hd
 have S:=scopeB_ok h1
 have hn : tab[2000 + f]? = none:=List.getElem?_eq_none (by have:=Pr.len;omega)
 refine ⟨F.ok S (fun vs H Q E h => ?_) (fun cdv A outer s H vs Q E hr h => ?_),fun ds z h => ?_⟩
 ·obtain ⟨ds,Hs,z,h,_⟩:=h;exact h
 ·obtain ⟨ds,Hs,z,hlen,hs,r,hc,k⟩:=h
  obtain ⟨hnp,hnr,hrun⟩:=callXF_ok Pr.no2 hn ht hc
  rw [hnr] at h5
  obtain ⟨O',hO⟩:=Option.isSome_iff_exists.mp (show (chkB [] d.body []).isSome = true from h5)
  have C:=cokX_of (CX:=CX0) (outer:=outer) (H:=H) (E:=E) (xe:=fun _ _ => False) Pr IH S hr
  have SR:=screlX_of (CX:=CX0) (P:=P) (w:=w) (K:=K) (mg:=mg) (base:=base) (N:=N) (st:=st) (a:=a) (cdv:=cdv) (A:=A) (outer:=outer) (s:=s) (H:=H) (E:=E) (q:=x) (xe:=fun _ _ => False)
  refine ⟨_,goodB (E:=⟨H,[]⟩) (Es:=Hs) (fun m _ => goodS m) (fun q hm => by cases hm) C SR PassesOwn.never h4 hO,?_⟩
  refine ⟨_,Hs,.ro z,?_,hrun,fun v H' Hs' g' r' f' => k v H' Hs' g' r' f'⟩
  have hl:=r.length
  exact fr_start hs r (by rw [h3,h2];omega)
 ·obtain ⟨hnp,_⟩:=callXF_ok Pr.no2 hn ht h
  rw [hnp,h2]
theorem fnX_exc (Pr : PrX T xtt tab xt K mg) (IH : FnsX T tab xt P w K mg base n) (hx : xt.lookup f = some b) (ht : tab[f]? = some d) (F : Fun K x x st a fd) (hd : defX T xtt d b N ps st = true) :
  FnOk P w K mg base (CX1 P w) (n + 1) a fd ps (spX ⟨P,w,K⟩ mg (callX tab xt (n + 1) f) ps.length)∧∀ ds,callX tab xt (n + 1) f ds≠.stuck→ds.length = ps.length:=by
 unfold defX at hd
 simp only [Bool.and_eq_true,decide_eq_true_eq] at hd
 obtain ⟨⟨⟨⟨⟨⟨h1,h2⟩,h3⟩,h4⟩,h5⟩,h6⟩,h7⟩:=hd
 have S:=scopeB_ok h1
 obtain ⟨O',hO⟩:=Option.isSome_iff_exists.mp h5
 have ce : ∀ ds,callX tab xt (n + 1) f ds = if ds.length = d.np then finX (runXB (callX tab xt n) b (st0 d ds)) else .stuck:=fun ds => by
  show (match xt.lookup f with | some b => _ | none => _) = _
  rw [hx]
  show stepX _ _ _ _ = _
  rw [ht]
  rfl
 refine ⟨?_,fun ds h => ?_⟩
 ·obtain ⟨oc,od,kV,doc,pm,an,cdv,ct,osl,rfl,lk,hcd⟩:=F.ex
  refine fn_of lk hcd S (fun vs H Q E h => ?_) fun A outer s H vs Q E hr h => ?_
  ·obtain ⟨ds,Hs,h,_⟩:=h;exact h
  ·obtain ⟨ds,Hs,hlen,hs,r,k⟩:=h
   rw [ce] at k
   have hl:=r.length
   have hdl : ds.length = d.np:=by omega
   rw [if_pos hdl] at k
   have C:=cokX_of (CX:=CX1 P w) (outer:=outer) (H:=H) (E:=E) (xe:=(cxOf (CX1 P w) P w K mg base N x (defScope st) a cdv A outer s H E).xe) Pr IH S hr
   have SR:=screlX_of (CX:=CX1 P w) (P:=P) (w:=w) (K:=K) (mg:=mg) (base:=base) (N:=N) (st:=st) (a:=a) (cdv:=cdv) (A:=A) (outer:=outer) (s:=s) (H:=H) (E:=E) (q:=x) (xe:=(cxOf (CX1 P w) P w K mg base N x (defScope st) a cdv A outer s H E).xe)
   have XC : XCok T xtt (callX tab xt n) (cxOf (CX1 P w) P w K mg base N x (defScope st) a cdv A outer s H E) E (fun y H' => ∀ C,mg y = some (.ref C)→E (.ref C) none H') true :=
    ⟨xok_cx.pass,fun _ => xok_cx,fun y C H' hC k => k C hC,Pr.facts,fun f' x' hF' => by
     obtain ⟨a',fd',ps',q1,q1m,q2,q3,q4,q5,q6,q7,q8,q9,q10⟩:=IH f' x' hF'
     exact ⟨n,a',fd',ps',q9,hr,q2,q3,q4,q10⟩,rfl,rfl⟩
   refine ⟨_,goodXB (E:=⟨H,[]⟩) (Es:=Hs) (O:=[]) (fun m _ => goodX m) rfl rfl C SR PassesOwn.leaving XC h4 hO,?_⟩
   refine ⟨st0 d ds,Hs,fr_start hs r (by rw [h3,h2];omega),?_⟩
   cases hr2 : runXB (callX tab xt n) b (st0 d ds) with
   | stuck => rw [hr2] at k;exact k
   | exc y => rw [hr2] at k;exact fun H' Hs' g C hC => k H' Hs' C hC g
   | ok o =>
    rw [hr2] at k
    cases o with
    | rt z => exact fun v H' Hs' g' r' => k v H' Hs' g' r'
    | nx ρ' => exact fun O1 _ σ' H' Hs' F' _ => k .non H' Hs' F'.grow (rp_non.mpr rfl)
    | ro z => exact k.elim
    | bk ρ => exact k.elim
    | ct ρ => exact k.elim
 ·rw [ce] at h
  by_cases hl : ds.length = d.np
  ·rw [hl,h2]
  ·rw [if_neg hl] at h
   exact absurd rfl h
theorem fnX_lam (Pr : PrX T xtt tab xt K mg) (IH : FnsX T tab xt P w K mg base n) (hx : xt.lookup f = some b) (ht : tab[f]? = some d) (F : Fun K x x st a fd) (hd : LamD T K mg x b d ps st a fd) :
  FnOk P w K mg base (CX1 P w) (n + 1) a fd ps (spX ⟨P,w,K⟩ mg (callX tab xt (n + 1) f) ps.length)∧∀ ds,callX tab xt (n + 1) f ds≠.stuck→ds.length = ps.length:=by
 obtain ⟨q,p1,p2,p3,p4,p5,p6,p7,p8,p9,p10,rfl,hT,hbd⟩:=hd.ex
 have ce : ∀ ds,callX tab xt (n + 1) f ds = if ds.length = d.np then finX (runXB (callX tab xt n) [.lam q] (st0 d ds)) else .stuck:=fun ds => by
  show (match xt.lookup f with | some b => _ | none => _) = _
  rw [hx]
  show stepX _ _ _ _ = _
  rw [ht]
  rfl
 have two : ∀ ds : List D,ds.length = d.np→∃ u v,ds = [u,v]∧st0 d ds = [some u,some v]:=fun ds hl => by
  rw [hd.np] at hl
  match ds,hl with
  | [u,v],_ =>
   refine ⟨u,v,rfl,?_⟩
   unfold st0
   rw [hd.nn,hd.np]
   rfl
 have lam : ∀ u v,finX (runXB (callX tab xt n) [.lam q] [some u,some v]) = lamRes (fun t => callX tab xt n q [u,t]) v:=fun u v => by
  show finX (thenX _ [] (thenD (fun _ => .ok (.nx [some u,some v])) (lamRes (fun t => callX tab xt n q [u,t]) v))) = _
  cases hl : lamRes (fun t => callX tab xt n q [u,t]) v with
  | ok z => rw [lamRes_ok hl];rfl
  | exc x => rfl
  | stuck => rfl
 have hc : ∀ ds,callX tab xt (n + 1) f ds≠.stuck→∃ u v,ds = [u,v]∧callX tab xt (n + 1) f ds = lamRes (fun t => callX tab xt n q [u,t]) v:=fun ds h => by
  rw [ce] at h ⊢
  by_cases hl : ds.length = d.np
  ·rw [if_pos hl]
   obtain ⟨u,v,rfl,e⟩:=two ds hl
   rw [e,lam]
   exact ⟨u,v,rfl,rfl⟩
  ·rw [if_neg hl] at h
   exact absurd rfl h
 refine ⟨?_,fun ds h => ?_⟩
 ·have FP : FnsP T (callX tab xt n) P w K mg base n:=⟨Pr.blt,Pr.gl,fun f' x' hF' => by
   obtain ⟨a',fd',ps',q1,q1m,q2,q3,q4,q5,q6,q7,q8,_⟩:=IH f' x' hF'
   exact ⟨a',fd',ps',q1,q1m,q2,q3,q4,q5,q6,q7,q8⟩⟩
  have hlam:=hd.lam
  have hnm:=hd.nm
  have hpar:=hd.par
  subst hnm hpar
  obtain ⟨oc,od,kV,doc,pm,an,cdv,ct,osl,rfl,lk,hcd⟩:=F.ex
  rw [hbd,hd.sc] at lk ⊢
  exact ctestX_ok FP hT hc lk hcd hlam
 ·obtain ⟨u,v,rfl,_⟩:=hc ds h
  rw [hd.par];rfl
theorem spX_of_spD (c : List D→R D) (np : Nat) (hne : ∀ ds x,c ds = .exc x→False) (vs : List V) (H : Hp) (Q : VK) (E : XK) (h : spX ⟨P,w,K⟩ mg c np vs H Q E) : spD ⟨P,w,K⟩ c np vs H Q E:=by
 obtain ⟨ds,Hs,h1,h2,h3,k⟩:=h
 cases hc : c ds with
 | ok d => rw [hc] at k;exact ⟨ds,Hs,d,h1,h2,h3,hc,k⟩
 | exc x => exact (hne ds x hc).elim
 | stuck => rw [hc] at k;exact k.elim
theorem spD_to_spX (c : List D→R D) (np : Nat) (vs : List V) (H : Hp) (Q : VK) (E : XK) (h : spD ⟨P,w,K⟩ c np vs H Q E) : spX ⟨P,w,K⟩ mg c np vs H Q E0:=by
 obtain ⟨ds,Hs,d,h1,h2,h3,hc,k⟩:=h
 refine ⟨ds,Hs,h1,h2,h3,?_⟩
 rw [hc]
 exact k
end
theorem fnsX_ok {T : Tx} {xtt : XT} {tab : List Def} {xt : XTab} {P : Program} {w : World} {K : PySem.W.Frag} {mg : Str→Option Value} (Pr : PrX T xtt tab xt K mg) (base : Heap) : ∀ (n : Nat),FnsX T tab xt P w K mg base n
 | 0,f,x,hF => by
  obtain ⟨d,N,ps,st,a,fd,ht,F,hm,hb,hd⟩:=Pr.fn f x hF
  refine ⟨a,fd,ps,⟨fun vs H Q E h => ?_,fun A outer s H args us vs Q E hr he hbt hv h => ?_⟩,⟨fun vs H Q E h => ?_,fun A outer s H args us vs Q E hr he hbt hv h => ?_⟩,hm,F.kp,hb,fun ds d h => ?_,fun ds d h => ?_,⟨fun vs H Q E h => ?_,fun A outer s H args us vs Q E hr he hbt hv h => ?_⟩,fun ds d h => ?_,⟨fun vs H Q E h => ?_,fun A outer s H args us vs Q E hr he hbt hv h => ?_⟩,fun ds h => ?_⟩
  ·obtain ⟨ds,Hs,d,_,_,_,h,_⟩:=h;cases h
  ·obtain ⟨ds,Hs,d,_,_,_,h,_⟩:=h;cases h
  ·obtain ⟨_,_,_,_,_,_,_,_,_,_,_,_,h,_⟩:=h;cases h
  ·obtain ⟨_,_,_,_,_,_,_,_,_,_,_,_,h,_⟩:=h;cases h
  ·cases h
  ·cases h
  ·obtain ⟨ds,Hs,d,_,_,_,h,_⟩:=h;cases h
  ·obtain ⟨ds,Hs,d,_,_,_,h,_⟩:=h;cases h
  ·cases h
  ·obtain ⟨ds,Hs,_,_,_,h⟩:=h;exact h.elim
  ·obtain ⟨ds,Hs,_,_,_,h⟩:=h;exact h.elim
  ·exact absurd rfl h
 | n + 1,f,x,hF => by
  obtain ⟨d,N,ps,st,a,fd,ht,F,hm,hb,hd⟩:=Pr.fn f x hF
  cases hx : xt.lookup f with
  | none =>
   rw [hx] at hd
   obtain ⟨q1,q2⟩:=fnX_step Pr (fnsX_ok Pr base n) hx ht F hd
   obtain ⟨q3,q4⟩:=fnX_mut Pr (fnsX_ok Pr base n) ht F hd
   obtain ⟨q5,q6⟩:=fnX_new Pr (fnsX_ok Pr base n) ht F hd
   refine ⟨a,fd,ps,q1,q3,hm,F.kp,hb,q2,q4,q5,q6,q1.lifted.imp (spX_of_spD _ _ fun ds y h => callX_noexc hx h),fun ds h => ?_⟩
   cases hc : callX tab xt (n + 1) f ds with
   | ok z => exact q2 ds z hc
   | exc y => exact (callX_noexc hx hc).elim
   | stuck => exact absurd hc h
  | some b =>
   rw [hx] at hd
   have hm6 : mutB d = false:=by
    rcases hd with hd | hd
    ·unfold defX at hd
     simp only [Bool.and_eq_true,decide_eq_true_eq,Bool.not_eq_true'] at hd
     exact hd.1.2
    ·exact hd.nomut
   have hn7 : d.nrm = false:=by
    rcases hd with hd | hd
    ·unfold defX at hd
     simp only [Bool.and_eq_true,decide_eq_true_eq,Bool.not_eq_true'] at hd
     exact hd.2
    ·exact hd.nonrm
   have both : FnOk P w K mg base CX0 (n + 1) a fd ps (spD ⟨P,w,K⟩ (callX tab xt (n + 1) f) ps.length)∧FnOk P w K mg base (CX1 P w) (n + 1) a fd ps (spX ⟨P,w,K⟩ mg (callX tab xt (n + 1) f) ps.length)∧∀ ds,callX tab xt (n + 1) f ds≠.stuck→ds.length = ps.length:=by
    rcases hd with hd | hd
    ·obtain ⟨q1,q2⟩:=fnX_exc Pr (fnsX_ok Pr base n) hx ht F hd
     exact ⟨q1.calmed (spD_to_spX _ _),q1,q2⟩
    ·obtain ⟨q1,q2⟩:=fnX_lam Pr (fnsX_ok Pr base n) hx ht F hd
     exact ⟨q1.calmed (spD_to_spX _ _),q1,q2⟩
   obtain ⟨q0,q1,q2⟩:=both
   have hn1 : tab[1000 + f]? = none:=List.getElem?_eq_none (by have:=Pr.len;omega)
   have hn2 : tab[2000 + f]? = none:=List.getElem?_eq_none (by have:=Pr.len;omega)
   have hf : f < 1000:=Pr.xlen f b hx
   have no1 : ∀ ds z,callX tab xt (n + 1) (1000 + f) ds = .ok z→False:=fun ds z h => by
    obtain ⟨_,_,hmm,_⟩:=callXM_ok hf Pr.no1 hn1 ht h
    rw [hm6] at hmm
    cases hmm
   have no2 : ∀ ds z,callX tab xt (n + 1) (2000 + f) ds = .ok z→False:=fun ds z h => by
    obtain ⟨_,hmm,_⟩:=callXF_ok Pr.no2 hn2 ht h
    rw [hn7] at hmm
    cases hmm
   refine ⟨a,fd,ps,q0,⟨fun vs H Q E h => ?_,fun A outer s H args us vs Q E hr he hbt hv h => ?_⟩,hm,F.kp,hb,fun ds z h => q2 ds (by rw [h];exact fun z => nomatch z),fun ds z h => (no1 ds z h).elim,⟨fun vs H Q E h => ?_,fun A outer s H args us vs Q E hr he hbt hv h => ?_⟩,fun ds z h => (no2 ds z h).elim,q1,q2⟩
   ·obtain ⟨_,_,_,_,_,_,_,_,_,_,_,_,h,_⟩:=h;exact (no1 _ _ h).elim
   ·obtain ⟨_,_,_,_,_,_,_,_,_,_,_,_,h,_⟩:=h;exact (no1 _ _ h).elim
   ·obtain ⟨ds,Hs,d,_,_,_,h,_⟩:=h;exact (no2 _ _ h).elim
   ·obtain ⟨ds,Hs,d,_,_,_,h,_⟩:=h;exact (no2 _ _ h).elim
theorem walkX {l : PySem.W.OpenLaw} {q : Program} {loose : List Str} {XP : (Str→Option Value)→Heap→Prop} {YP : World→Heap→Prop} {dr : DefRec} {K : Params→PySem.W.Frag} {T : Tx} {xtt : XT} {tab : List Def} {xt : XTab} {n fl : Nat} {par : Str} {N : List Str} {st : Stmt} {d : Def}
  (hn : l.most = some 63) (hdf : dr.params.defaults = []) (hr : Room (n + 1) callerA) (ht : tab[fl]? = some d) (hx : xt.lookup fl = none) (hd : defB T d N [par] st = true)
  (hY : ∀ (w : World) (h : Heap),YP w h→(K w.params).In h) (hKc : ∀ (p : Params) (b : Addr) (o : Obj),(K p).lookup b = some o→NoTb o) (hT : ∀ (w : World) (s₀ : Shared) (mg mb : Str→Option Value) (h : Heap),PySem.W.Ground q loose [] XP w s₀ mg mb h→YP w h→∃ tP,HasTab mg h tP)
  (F : ∀ (w : World) (mg : Str→Option Value) (h : Heap),(K w.params).In h→h.Ns mainGlobals mg→PrX T xtt tab xt (K w.params) mg)
  (FL : ∀ (w : World),FF (K w.params) dr.name st)
  (hb : ∀ (kV doc pm : Value) (an : Option Addr) (cdv ct u : Value),bindArgs (PySem.W.fnOf dr.name dr.name (defArgs st) (defBody st) (defScope st) .none kV doc pm an cdv ct) ⟨[u],[]⟩ = pure [(par,u)])
  (law : ∀ ns : List Int,ns.length≤63→callX tab xt (n + 1) fl [.lst (ns.map D.int)] = .ok (.bl true)) :
  PySem.W.WalkO q loose XP YP l.row.toRowW dr [] (fun f vs => PySem.call f vs):=by
 refine L2.walk_of (n:=63) (k:=n + 1) (x:=par) (CX:=fun _ => CX0) (sp:=fun w => spD ⟨l.prog,w,K w.params⟩ (callX tab xt (n + 1) fl) 1) hn (by decide) hdf hr hY hKc hT (fun w mg fa h KX G hmg => ?_) (fun w H a ns hl hO hS => ?_) (fun _ _ _ _ _ z => z)
 ·obtain ⟨a,fd,ha,FF⟩:=(FL w).ex
  have e:=hmg.symm.trans (PySem.W.mg_of KX G ha)
  cases e
  refine ⟨fd,fun s u => ?_,fun base kb nb => (fnX_step (F w mg h KX G) (fnsX_ok (F w mg h KX G) base n) hx ht FF hd).1⟩
  obtain ⟨oc,od,kV,doc,pm,an,cdv,ct,osl,rfl,lk,hcd⟩:=FF.ex
  exact .of_eq (hb kV doc pm an cdv ct u)
 ·exact ⟨[.lst (ns.map D.int)],H,.bl true,rfl,Same.refl _,Rps.one (rp_lst.mpr ⟨a,_,rfl,hS,ints_rps ns⟩),law ns hl,fun v H' Hs' g' r => rp_bl.mp r⟩
end Mi
namespace Mi
open PySem L2
open PyProof.Rows hiding St
open PySem.W (Frag nsIn excIn clsIn findIn findObj specialIn takesIn mroIn subIn exmOne kitOne XcK)
theorem mem_lk : ∀ {l : XTab} {f : Nat} {b : List XS},l.lookup f = some b→(f,b)∈l
 | [],_,_,h => by cases h
 | (k,v) :: l,f,b,h => by
  rw [List.lookup_cons] at h
  split at h
  ·rename_i e
   cases h
   rw [beq_iff_eq.mp e]
   exact List.mem_cons_self
  ·exact List.mem_cons_of_mem _ (mem_lk h)
noncomputable def xcB (K : Frag) (C : Addr) : Bool:=(clsIn K C).isSome && (findIn K (.ref C) "__class__" == some (some (.builtin "object.__class__"))) && (specialIn K (.builtin "object.__class__") "__get__" == some (some (.builtin "getset_descriptor.__get__"))) &&
 (takesIn K (.builtin "object.__class__") == some true) && (mroIn K C (.type "object") == some true) && (findIn K (.ref C) "__getattribute__" == some (some (.builtin "BaseException.__getattribute__"))) && (findIn K (.ref C) "__getattr__" == some none) && (subIn K (.ref C) (.type "BaseException") == some true)
theorem xcB_ok {K : Frag} {C : Addr} (h : xcB K C = true) : XcK K C:=by
 unfold xcB at h
 simp only [Bool.and_eq_true,beq_iff_eq] at h
 obtain ⟨⟨⟨⟨⟨⟨⟨b,c⟩,d⟩,e⟩,f⟩,g⟩,i⟩,j⟩:=h
 exact ⟨b,c,d,e,f,g,i,j⟩
noncomputable def kxB (K : Frag) (p : Str × Value) : Bool:=match p.2 with
 | .ref a => nsIn K mainGlobals p.1 == some (some (.ref a))
 | .type n => (nsIn K mainGlobals p.1 == some none) && (bootBuiltins p.1 == some (.type n)) && !(p.1 == ("__name__" : Str))
 | _ => false
noncomputable def xfB (K : Frag) (cs hs : List (Str × Addr)) (ks : List (Str × Value)) : Bool :=
 (cs.all fun p => (nsIn K mainGlobals p.1 == some (some (.ref p.2))) && xcB K p.2 && (decide (p.1 = "BadTests") || excIn K p.2 mroVE "ValueError.__new__")) && (hs.all fun p => nsIn K mainGlobals p.1 == some (some (.ref p.2))) && (ks.all fun p => kxB K p) &&
 (cs.all fun p => (hs.all fun q => exmOne K (.ref p.2) (.ref q.2) == some (subN p.1 q.1)) && (ks.all fun q => kitOne K (.ref p.2) q.2 == some (subN p.1 q.1)))
theorem xf_of {K : Frag} {h : Heap} {mg : Str→Option Value} {cs hs : List (Str × Addr)} {ks : List (Str × Value)} (X : K.In h) (G : h.Ns mainGlobals mg) (hb : xfB K cs hs ks = true) : XF ⟨cs.map (·.1),hs.map (·.1),ks.map (·.1)⟩ K mg:=by
 unfold xfB at hb
 simp only [Bool.and_eq_true,Bool.or_eq_true,decide_eq_true_eq,List.all_eq_true,beq_iff_eq] at hb
 obtain ⟨⟨⟨h1,h2⟩,h3⟩,h4⟩:=hb
 refine ⟨fun x hx => ?_,fun x hx k hk => ?_,fun x hx k hk => ?_⟩
 ·obtain ⟨p,hp,rfl⟩:=List.mem_map.mp hx
  exact ⟨p.2,PySem.W.mg_of X G (h1 p hp).1.1,xcB_ok (h1 p hp).1.2,fun n => (h1 p hp).2.resolve_left n⟩
 ·obtain ⟨p,hp,rfl⟩:=List.mem_map.mp hx
  obtain ⟨q,hq,rfl⟩:=List.mem_map.mp hk
  exact ⟨p.2,q.2,PySem.W.mg_of X G (h1 p hp).1.1,PySem.W.mg_of X G (h2 q hq),(h4 p hp).1 q hq⟩
 ·obtain ⟨p,hp,rfl⟩:=List.mem_map.mp hx
  obtain ⟨q,hq,rfl⟩:=List.mem_map.mp hk
  refine ⟨p.2,q.2,PySem.W.mg_of X G (h1 p hp).1.1,?_,(h4 p hp).2 q hq⟩
  have h5:=h3 q hq
  obtain ⟨nm,v⟩:=q
  cases v <;> try (cases h5;done)
  ·rename_i n
   replace h5 : ((nsIn K mainGlobals nm == some none) && (bootBuiltins nm == some (.type n)) && !(nm == ("__name__" : Str))) = true:=h5
   simp only [Bool.and_eq_true,beq_iff_eq,Bool.not_eq_true',beq_eq_false_iff_ne] at h5
   exact .inr ⟨n,rfl,PySem.W.mg_none_of X G h5.1.1,h5.1.2,h5.2⟩
  ·rename_i a
   replace h5 : (nsIn K mainGlobals nm == some (some (.ref a))) = true:=h5
   exact .inl ⟨a,rfl,PySem.W.mg_of X G (beq_iff_eq.mp h5)⟩
end Mi
set_option maxHeartbeats 1000000
namespace Mi
open PySem L2
open PyProof.Rows hiding St
noncomputable def codeOkB (K : PySem.W.Frag) : Value→Bool
 | .ref cc => (match K.lookup cc with
  | some ⟨.type t, _, .fields vs, _⟩ => decide (t = "code") && (match (vs[11]? : Option Value) with
   | some (.ref p) => (match vs.getD 18 .none with
    | .str _ _ => (match vs.getD 7 .none with
     | .int _ _ => (match vs.getD 9 .none with
      | .bool _ => (match vs.getD 10 .none with
       | .int _ _ => decide (cc≠p)
       | _ => false)
      | _ => false)
     | _ => false)
    | _ => false)
   | _ => false)
  | _ => false)
 | _ => false
theorem codeOkB_ok {K : PySem.W.Frag} {v : Value} (h : codeOkB K v = true) : ∃ cc Pt oc vs file tf flags tg inF text tt, v = .ref cc ∧ K.lookup cc = some oc ∧ oc.cls = .type "code" ∧ oc.data = .fields vs ∧ vs[11]? = some (.ref Pt) ∧ vs.getD 11 .none = .ref Pt ∧ vs.getD 18 .none = .str file tf ∧ vs.getD 7 .none = .int flags tg ∧ vs.getD 9 .none = .bool inF ∧ vs.getD 10 .none = .int text tt ∧ cc ≠ Pt:=by
 unfold codeOkB at h
 split at h <;> try (cases h;done)
 rename_i cc
 split at h <;> try (cases h;done)
 rename_i t dd vs sl e
 rw [Bool.and_eq_true] at h
 obtain ⟨h0,h⟩:=h
 cases of_decide_eq_true h0
 split at h <;> try (cases h;done)
 rename_i p e11
 split at h <;> try (cases h;done)
 rename_i f18 t18 e18
 split at h <;> try (cases h;done)
 rename_i f7 t7 e7
 split at h <;> try (cases h;done)
 rename_i f9 e9
 split at h <;> try (cases h;done)
 rename_i f10 t10 e10
 refine ⟨cc,p,_,vs,f18,t18,f7,t7,f9,f10,t10,rfl,e,rfl,rfl,e11,?_,e18,e7,e9,e10,of_decide_eq_true h⟩
 simp [Array.getD_eq_getD_getElem?,e11]
structure FL (K : PySem.W.Frag) (x : Str) (st : Stmt) : Prop where
 ex : ∃ a fd,PySem.W.nsIn K mainGlobals x = some (some (.ref a))∧Fun K x x st a fd∧codeOkB K fd.code = true
theorem fl_mk {K : PySem.W.Frag} {x : Str} {st : Stmt} {f : Addr} {oc : Value} {od an : Option Addr} {osl : Array (Option Value)} {kV doc pm cdv ct : Value} (a : PySem.W.nsIn K mainGlobals x = some (some (.ref f)))
  (l : K.lookup f = some ⟨oc,od,.func (PySem.W.fnOf x x (defArgs st) (defBody st) (defScope st) .none kV doc pm an cdv ct),osl⟩) (c : PySem.W.codeIn K cdv x = true) (k : PySem.W.keepIn K (.ref f) = true) (h : codeOkB K cdv = true) : FL K x st :=
 ⟨⟨f,_,a,fun_mk l c k,h⟩⟩
open PySem.W (Frag nsIn nsOkIn tailIn findIn specialIn mroIn readsIn findCls)
noncomputable def initB (K : Frag) (C Tb fI : Addr) : Bool:=(match K.lookup C with
 | some ⟨.type t, _, .cls cd, sl⟩ => t == "type" && (match cd.mro, sl.toList with
  | .ref C' :: bm, [_, _, _, _, some (.builtin n), _] => C' == C && n == "ValueError.__new__" && !cd.hasDel && cd.hasDict && tailIn K mroVE bm && nsOkIn K cd.ns && nsIn K cd.ns "__init__" == some (some (.ref fI))
  | _,_ => false)
 | _ => false) && readsIn K Tb (.type "type") && (match findCls K (.ref Tb) (.type "type") "__init__" with | some (.val (.builtin n)) => n == "ValueError.__init__" | _ => false) && specialIn K (.ref Tb) "__getattribute__" == some (some (.builtin "type.__getattribute__")) &&
 findIn K (.ref C) "__setattr__" == some (some (.builtin "object.__setattr__")) && mroIn K C (.type "object") == some true && findIn K (.ref C) "at" == some none
theorem initB_ok {K : Frag} {C Tb fI : Addr} (h : initB K C Tb fI = true) : InitK K C Tb fI:=by
 unfold initB at h
 simp only [Bool.and_eq_true,beq_iff_eq] at h
 obtain ⟨⟨⟨⟨⟨⟨h1,h2⟩,h3⟩,h4⟩,h5⟩,h6⟩,h7⟩:=h
 refine ⟨?_,h2,?_,h4,h5,h6,h7⟩
 ·split at h1 <;> try (cases h1;done)
  rename_i t dd cd sl ho
  simp only [Bool.and_eq_true,beq_iff_eq] at h1
  obtain ⟨rfl,h1⟩:=h1
  split at h1 <;> try (cases h1;done)
  rename_i C' bm k0 k1 k2 k3 n k5 hm hs
  simp only [Bool.and_eq_true,beq_iff_eq,Bool.not_eq_true'] at h1
  obtain ⟨⟨⟨⟨⟨⟨rfl,rfl⟩,a3⟩,a4⟩,a5⟩,a6⟩,a7⟩:=h1
  obtain ⟨nm,bs,mro,ns,qn,hdc,sn,sub,ab,col,del⟩:=cd
  dsimp only at hm a3 a4 a5 a6 a7
  subst hm a3 a4
  obtain ⟨l⟩:=sl
  simp only at hs
  subst hs
  exact ⟨nm,qn,ns,bs,bm,sn,sub,ab,col,dd,k0,k1,k2,k3,k5,ho,a5,a6,a7⟩
 ·split at h3 <;> try (cases h3;done)
  rename_i n e
  rw [e,beq_iff_eq.mp h3]
structure FI (K : Frag) (C Tb fI : Addr) (st : Stmt) : Prop where
 init : initB K C Tb fI = true
 fn : ∃ od kV doc pm an cdv ct osl, K.lookup fI = some ⟨.type "function", od, .func (PySem.W.fnOf "__init__" "BadTests.__init__" (defArgs st) (defBody st) (defScope st) .none kV doc pm an cdv ct), osl⟩ ∧ PySem.W.codeIn K cdv "BadTests.__init__" = true
 n1 : nsIn K mainGlobals "TestError" = some (some (.ref Tb))
 n2 : nsIn K mainGlobals "BadTests" = some (some (.ref C))
theorem fi_mk {K : Frag} {C Tb fI : Addr} {st : Stmt} {od an : Option Addr} {osl : Array (Option Value)} {kV doc pm cdv ct : Value} (i : initB K C Tb fI = true) (l : K.lookup fI = some ⟨.type "function", od, .func (PySem.W.fnOf "__init__" "BadTests.__init__" (defArgs st) (defBody st) (defScope st) .none kV doc pm an cdv ct), osl⟩) (c : PySem.W.codeIn K cdv "BadTests.__init__" = true) (a : nsIn K mainGlobals "TestError" = some (some (.ref Tb))) (b : nsIn K mainGlobals "BadTests" = some (some (.ref C))) : FI K C Tb fI st :=
 ⟨i,⟨od,kV,doc,pm,an,cdv,ct,osl,l,c⟩,a,b⟩
theorem ink_of {K : Frag} {h : Heap} {mg : Str→Option Value} {C Tb fI : Addr} {st : Stmt} {p1 p2 p3 p4 p5 p6 p7 p8 p9 q1 q2 q3 q4 : Pos} {j : Nat} (X : K.In h) (G : h.Ns mainGlobals mg) (fi : FI K C Tb fI st) (hb : defBody st = inBody p1 p2 p3 p4 p5 p6 p7 p8 p9 q1 q2 q3 q4 j badTx) (hs : defScope st = inScope) (tr : InTree p1 p2 p3 p4 p5 p6 p7 p8 j badTx)
  (hbi : ∀ (kV doc pm : Value) (an : Option Addr) (cdv ct : Value) (us : List Value), us.length = ([("self" : Str), "at"] : List Str).length → bindArgs (PySem.W.fnOf (Str.ofString "__init__") (Str.ofString "BadTests.__init__") (defArgs st) (defBody st) (defScope st) .none kV doc pm an cdv ct) ⟨us, []⟩ = pure (([("self" : Str), "at"] : List Str).zip us)) : InK K mg C:=by
 obtain ⟨od,kV,doc,pm,an,cdv,ct,osl,lk,hcd⟩:=fi.fn
 have b:=hbi kV doc pm an cdv ct
 rw [hb,hs] at lk b
 exact ⟨⟨Tb,fI,defArgs st,.none,kV,doc,pm,cdv,ct,an,od,osl,p1,p2,p3,p4,p5,p6,p7,p8,p9,q1,q2,q3,q4,j,initB_ok fi.init,tr,PySem.W.mg_of X G fi.n1,lk,hcd,.all b⟩,PySem.W.mg_of X G fi.n2⟩
theorem fn_lam {T : Tx} {xtt : XT} {tab : List Def} {xt : XTab} {K : PySem.W.Frag} {h : Heap} {mg : Str→Option Value} {st stc : Stmt} {d : Def} {i q : Nat} {p1 p2 p3 p4 p5 p6 p7 p8 p9 p10 : Pos} {a1 a2 a3 a4 a5 a6 : Pos} {b1 b2 b3 b4 b5 b6 b7 b8 b9 b10 b11 b12 b13 r1 r2 r3 s1 s2 s3 s4 : Pos} {j j0 : Nat} {C : Addr}
  (X : K.In h) (G : h.Ns mainGlobals mg) (fl : FL K (Str.ofString "check_tests") st) (fc : FF K (Str.ofString "check_list") stc) (hx : xt.lookup i = some [.lam q]) (ht : tab[i]? = some d) (hq : T.F[q]? = some (Str.ofString "is_test"))
  (hb : defBody st = ctBody p1 p2 p3 p4 p5 p6 p7 p8 p9 p10) (hs : defScope st = ctScope) (ik : InK K mg C) (hbc : defBody stc = clBody a1 a2 a3 a4 a5 a6 (some (.Call (.Name "BadTests" r1) [.Constant (.int 0) j0 r2] [] r3)) none b1 b2 b3 b4 b5 b6 b7 b8 b9 b10 b11 b12 b13 j [badStm (.Name "place" s1) s2 s3 s4]) (hsc : defScope stc = clScope) (hnp : d.np = 2) (hnn : d.nn = 2) (hmu : mutB d = false) (hnr : d.nrm = false)
  (hb1 : ∀ (kV doc pm : Value) (an : Option Addr) (cdv ct : Value) (us : List Value), us.length = ([("book" : Str), "tests"] : List Str).length → bindArgs (PySem.W.fnOf (Str.ofString "check_tests") (Str.ofString "check_tests") (defArgs st) (defBody st) (defScope st) .none kV doc pm an cdv ct) ⟨us, []⟩ = pure (([("book" : Str), "tests"] : List Str).zip us))
  (hb2 : ∀ (kV doc pm : Value) (an : Option Addr) (cdv ct : Value) (us : List Value), us.length = ([("things" : Str), "is_right"] : List Str).length → bindArgs (PySem.W.fnOf (Str.ofString "check_list") (Str.ofString "check_list") (defArgs stc) (defBody stc) (defScope stc) .none kV doc pm an cdv ct) ⟨us, []⟩ = pure (([("things" : Str), "is_right"] : List Str).zip us)) :
  ∃ d N ps st a fd, tab[i]? = some d ∧ Fun K (Str.ofString "check_tests") (Str.ofString "check_tests") st a fd ∧ mg (Str.ofString "check_tests") = some (.ref a) ∧ L2.Binds K fd ps [] ∧ (match xt.lookup i with | none => defB T d N ps st = true | some b => defX T xtt d b N ps st = true ∨ LamD T K mg (Str.ofString "check_tests") b d ps st a fd):=by
 obtain ⟨a,fd,e,F,hco⟩:=fl.ex
 obtain ⟨ac,fdc,ec,FC⟩:=fc.ex
 have me:=PySem.W.mg_of X G e
 refine ⟨d, [], [("book" : Str), "tests"], st, a, fd, ht, F, me, F.binds hb1, ?_⟩
 rw [hx]
 refine .inr ⟨⟨q,p1,p2,p3,p4,p5,p6,p7,p8,p9,p10,rfl,hq,hb⟩,hs,rfl,rfl,hnp,hnn,hmu,hnr,?_,codeOkB_ok hco,me,C,ik⟩
 have bc:=FC.binds hb2
 have kp:=FC.kp
 obtain ⟨oc,od,kV,doc,pm,an,cdv,ct,osl,rfl,lk,hcd⟩:=FC.ex
 rw [hbc,hsc] at lk bc
 exact ⟨ac,defArgs stc,.none,kV,doc,pm,cdv,ct,oc,an,od,osl,a1,a2,a3,a4,a5,a6,b1,b2,b3,b4,b5,b6,b7,b8,b9,b10,b11,b12,b13,r1,r2,r3,s1,s2,s3,s4,j,j0,lk,hcd,PySem.W.mg_of X G ec,kp,bc⟩
theorem mem_lkK : ∀ {l : List (Addr × Obj)} {f : Addr} {b : Obj},l.lookup f = some b→(f,b)∈l
 | [],_,_,h => by cases h
 | (k,v) :: l,f,b,h => by
  rw [List.lookup_cons] at h
  split at h
  ·rename_i e
   cases h
   rw [beq_iff_eq.mp e]
   exact List.mem_cons_self
  ·exact List.mem_cons_of_mem _ (mem_lkK h)
noncomputable def clsB (o : Obj) : Bool:=match o.data,o.cls with
 | .fields _,.none => false
 | _,_ => true
theorem kc_of {K : PySem.W.Frag} (h : (K.all fun p => clsB p.2) = true) (b : Addr) (o : Obj) (e : K.lookup b = some o) : NoTb o:=fun vs z1 z2 => by
 have:=List.all_eq_true.mp h (b,o) (mem_lkK e)
 unfold clsB at this
 rw [z1,z2] at this
 cases this
theorem tab_of {q : Program} {loose : List Str} {XP : (Str → Option Value) → Heap → Prop} {w : World} {s₀ : Shared} {mg mb : Str → Option Value} {h : Heap} (hr : ((recsOf q).any fun d => decide (d.name = Str.ofString "check_tests")) = true) (G : PySem.W.Ground q loose [] XP w s₀ mg mb h) : ∃ tP, HasTab mg h tP:=by
 obtain ⟨d,hd,e⟩:=List.any_eq_true.mp hr
 obtain ⟨a,o,fd,c,P,t1,t2,t3,t4,_,t6⟩:=G.T.tab d hd
 rw [of_decide_eq_true e] at t1
 exact ⟨some P,a,o,fd,c,t1,t2,t3,t4,t6⟩
end Mi
namespace E20
open PySem L2 Mi
noncomputable def T : Tx:=⟨[("is_whole" : Str), ("is_tuple" : Str), ("are_levels" : Str), ("is_setting" : Str), ("is_meeting" : Str), ("is_book" : Str), ("checked" : Str), ("meets" : Str), ("meets_any" : Str), ("all_rows" : Str), ("all_tests" : Str), ("is_row" : Str), ("is_test" : Str), ("check_tests" : Str), ("most_strength" : Str), ("check_book_and_strength" : Str), ("possible" : Str), ("check_all" : Str), ("missing" : Str), ("are_results" : Str), ("suspects" : Str), ("small_tests" : Str), ("fewest" : Str), ("with_setting" : Str), ("read" : Str), ("_law_cell" : Str), ("_law_deed" : Str), ("_law_kinds_of" : Str), ("law" : Str)], [("MOST_THINGS", .int 6), ("MOST_SETTINGS", .int 4), ("MOST_ROWS", .int 400), ("MOST_BANS", .int 12), ("MOST_IN_MEETING", .int 3), ("MOST_TESTS", .int 24), ("FIGURES", .str "0123456789")]⟩
noncomputable abbrev i_is_whole : Nat:=0
noncomputable abbrev i_is_tuple : Nat:=1
noncomputable abbrev i_are_levels : Nat:=2
noncomputable abbrev i_is_setting : Nat:=3
noncomputable abbrev i_is_meeting : Nat:=4
noncomputable abbrev i_is_book : Nat:=5
noncomputable abbrev i_checked : Nat:=6
noncomputable abbrev i_meets : Nat:=7
noncomputable abbrev i_meets_any : Nat:=8
noncomputable abbrev i_all_rows : Nat:=9
noncomputable abbrev i_all_tests : Nat:=10
noncomputable abbrev i_is_row : Nat:=11
noncomputable abbrev i_is_test : Nat:=12
noncomputable abbrev i_check_tests : Nat:=13
noncomputable abbrev i_most_strength : Nat:=14
noncomputable abbrev i_check_book_and_strength : Nat:=15
noncomputable abbrev i_possible : Nat:=16
noncomputable abbrev i_check_all : Nat:=17
noncomputable abbrev i_missing : Nat:=18
noncomputable abbrev i_are_results : Nat:=19
noncomputable abbrev i_suspects : Nat:=20
noncomputable abbrev i_small_tests : Nat:=21
noncomputable abbrev i_fewest : Nat:=22
noncomputable abbrev i_with_setting : Nat:=23
noncomputable abbrev i_read : Nat:=24
noncomputable abbrev i__law_cell : Nat:=25
noncomputable abbrev i__law_deed : Nat:=26
noncomputable abbrev i__law_kinds_of : Nat:=27
noncomputable abbrev i_law : Nat:=28
noncomputable def d_is_whole : Def:=⟨3,3,[.ret (.and [(.isin (.var 0) .int),(.not (.isin (.var 0) .bool)),(.chain .le .le (.var 1) (.var 0) (.var 2))])],true⟩
noncomputable def d_is_tuple : Def:=⟨3,3,[.ret (.and [(.isin (.var 0) .tuple),(.chain .le .le (.var 1) (.blt .len [(.var 0)]) (.var 2))])],true⟩
noncomputable def d_are_levels : Def:=⟨1,3,[.ifs (.not (.call i_is_tuple [(.var 0),(.con (.int 1)),(.con (.int 6))])) [.ret (.con (.bl false))] [],.set (.one 1) (.con (.int 1)),.forr (.one 2) .seq [(.var 0)] [.ifs (.not (.call i_is_whole [(.var 2),(.con (.int 1)),(.con (.int 4))])) [.ret (.con (.bl false))] [],.set (.one 1) (.bin .mul (.var 1) (.var 2))],.ret (.cmp .le (.var 1) (.con (.int 400)))],true⟩
noncomputable def d_is_setting : Def:=⟨2,2,[.ifs (.or [(.not (.call i_is_tuple [(.var 1),(.con (.int 2)),(.con (.int 2))])),(.not (.call i_is_whole [(.ix (.var 1) (.con (.int 0))),(.con (.int 0)),(.bin .sub (.blt .len [(.var 0)]) (.con (.int 1)))]))]) [.ret (.con (.bl false))] [],.ret (.call i_is_whole [(.ix (.var 1) (.con (.int 1))),(.con (.int 0)),(.bin .sub (.ix (.var 0) (.ix (.var 1) (.con (.int 0)))) (.con (.int 1)))])],true⟩
noncomputable def d_is_meeting : Def:=⟨2,4,[.ifs (.not (.call i_is_tuple [(.var 1),(.con (.int 1)),(.con (.int 3))])) [.ret (.con (.bl false))] [],.set (.one 2) (.con (.int 0)),.forr (.one 3) .seq [(.var 1)] [.ifs (.or [(.not (.call i_is_setting [(.var 0),(.var 3)])),(.cmp .lt (.ix (.var 3) (.con (.int 0))) (.var 2))]) [.ret (.con (.bl false))] [],.set (.one 2) (.bin .add (.ix (.var 3) (.con (.int 0))) (.con (.int 1)))],.ret (.con (.bl true))],true⟩
noncomputable def d_is_book : Def:=⟨1,2,[.ifs (.or [(.not (.call i_is_tuple [(.var 0),(.con (.int 2)),(.con (.int 2))])),(.not (.call i_are_levels [(.ix (.var 0) (.con (.int 0)))])),(.not (.call i_is_tuple [(.ix (.var 0) (.con (.int 1))),(.con (.int 0)),(.con (.int 12))]))]) [.ret (.con (.bl false))] [],.ret (.blt .all [(.comp (.call i_is_meeting [(.ix (.var 0) (.con (.int 0))),(.var 1)]) (.one 1) .seq [(.ix (.var 0) (.con (.int 1)))] false (.con (.bl true)) [true,false])])],true⟩
noncomputable def d_checked : Def:=⟨1,1,[.rai],false⟩
noncomputable def x_checked : List XS:=[(.ifs (.not (.call i_is_book [(.var 0)])) [(.rai "BadBook")] []), (.n (.ret (.var 0)))]
noncomputable def d_meets : Def:=⟨2,3,[.ret (.blt .all [(.comp (.cmp .eq (.ix (.var 0) (.ix (.var 2) (.con (.int 0)))) (.ix (.var 2) (.con (.int 1)))) (.one 2) .seq [(.var 1)] false (.con (.bl true)) [true,false,false])])],true⟩
noncomputable def d_meets_any : Def:=⟨2,3,[.ret (.blt .any [(.comp (.call i_meets [(.var 0),(.var 2)]) (.one 2) .seq [(.var 1)] false (.con (.bl true)) [true,false,false])])],true⟩
noncomputable def d_all_rows : Def:=⟨1,6,[.set (.one 1) (.lst [(.tup [])]),.forr (.one 2) .seq [(.var 0)] [.set (.one 3) (.lst []),.forr (.one 4) .seq [(.var 1)] [.ext 3 (.comp (.bin .add (.var 4) (.tup [(.var 5)])) (.one 5) .rng [(.var 2)] false (.con (.bl true)) [false,false,false,false,true,false])],.set (.one 1) (.var 3)],.ret (.var 1)],true⟩
noncomputable def d_all_tests : Def:=⟨1,2,[.rai],false⟩
noncomputable def x_all_tests : List XS:=[(.ce i_checked [(.var 0)]),(.n (.ret (.comp (.var 1) (.one 1) .seq [(.call i_all_rows [(.ix (.var 0) (.con (.int 0)))])] true (.not (.call i_meets_any [(.var 1),(.ix (.var 0) (.con (.int 1)))])) [true,false])))]
noncomputable def d_is_row : Def:=⟨2,4,[.ifs (.not (.call i_is_tuple [(.var 1),(.blt .len [(.var 0)]),(.blt .len [(.var 0)])])) [.ret (.con (.bl false))] [],.ret (.blt .all [(.comp (.call i_is_whole [(.var 2),(.con (.int 0)),(.bin .sub (.var 3) (.con (.int 1)))]) (.two 2 3) .zip [(.var 1),(.var 0)] false (.con (.bl true)) [false,false,false,false])])],true⟩
noncomputable def d_is_test : Def:=⟨2,2,[.ret (.and [(.call i_is_row [(.ix (.var 0) (.con (.int 0))),(.var 1)]),(.not (.call i_meets_any [(.var 1),(.ix (.var 0) (.con (.int 1)))]))])],true⟩
noncomputable def d_check_tests : Def:=⟨2,2,[.rai],false⟩
noncomputable def x_check_tests : List XS:=[.lam i_is_test]
noncomputable def d_most_strength : Def:=⟨1,1,[.ret (.blt .min2 [(.con (.int 3)),(.blt .len [(.ix (.var 0) (.con (.int 0)))])])],true⟩
noncomputable def d_check_book_and_strength : Def:=⟨2,2,[.rai],false⟩
noncomputable def x_check_book_and_strength : List XS:=[(.ce i_checked [(.var 0)]), (.ifs (.not (.call i_is_whole [(.var 1), (.con (.int 1)), (.call i_most_strength [(.var 0)])])) [(.rai "BadStrength")] [])]
noncomputable def d_possible : Def:=⟨2,2,[.rai],false⟩
noncomputable def x_possible : List XS:=[(.ce i_check_book_and_strength [(.var 0),(.var 1)]),.any]
noncomputable def d_check_all : Def:=⟨3,3,[.rai],false⟩
noncomputable def x_check_all : List XS:=[(.ce i_check_book_and_strength [(.var 0),(.var 1)]),(.ce i_check_tests [(.var 0),(.var 2)])]
noncomputable def d_missing : Def:=⟨3,5,[.rai],false⟩
noncomputable def x_missing : List XS:=[(.ce i_check_all [(.var 0),(.var 1),(.var 2)]),.any,.any]
noncomputable def d_are_results : Def:=⟨2,3,[.ifs (.or [(.not (.isin (.var 1) .list)),(.cmp .ne (.blt .len [(.var 1)]) (.blt .len [(.var 0)]))]) [.ret (.con (.bl false))] [],.ret (.blt .all [(.comp (.isin (.var 2) .bool) (.one 2) .seq [(.var 1)] false (.con (.bl true)) [false,false,false])])],true⟩
noncomputable def d_suspects : Def:=⟨4,9,[.rai],false⟩
noncomputable def x_suspects : List XS:=[(.ce i_check_all [(.var 0), (.var 1), (.var 2)]), (.ifs (.not (.call i_are_results [(.var 2), (.var 3)])) [(.rai "BadResults")] []), .any, .any, .any]
noncomputable def d_small_tests : Def:=⟨2,3,[.rai],false⟩
noncomputable def x_small_tests : List XS:=[(.ce i_check_book_and_strength [(.var 0), (.var 1)]), (.cs 2 i_all_tests [(.var 0)]), (.ifs (.cmp .gt (.blt .len [(.var 2)]) (.con (.int 24))) [(.rai "TooBig")] []), .any]
noncomputable def d_fewest : Def:=⟨2,8,[.rai],false⟩
noncomputable def x_fewest : List XS:=[(.cs 2 i_small_tests [(.var 0),(.var 1)]),.any,.any,.any,.any,.any,.any]
noncomputable def d_with_setting : Def:=⟨2,3,[.rai],false⟩
noncomputable def x_with_setting : List XS:=[(.ce i_checked [(.var 0)]), (.n (.set (.one 2) (.ix (.var 0) (.con (.int 0))))), (.ifs (.not (.call i_is_whole [(.var 1), (.con (.int 0)), (.bin .sub (.blt .len [(.var 2)]) (.con (.int 1)))])) [(.rai "BadNumber")] []), .any]
noncomputable def d_read : Def:=⟨1,7,[.rai],false⟩
noncomputable def x_read : List XS:=[(.ifs (.or [(.not (.isin (.var 0) .str)), (.not (.mth .ends (.var 0) (.con (.str "\n"))))]) [(.rai "BadText")] []), .any, .any, .any, .any, .any, .any]
noncomputable def d__law_cell : Def:=⟨2,2,[.ifs (.cmp .lt (.var 1) (.blt .len [(.var 0)])) [.ret (.ix (.var 0) (.var 1))] [],.ret (.con (.int 0))],true⟩
noncomputable def d__law_deed : Def:=⟨1,2,[.rai],false⟩
noncomputable def x__law_deed : List XS:=[(.n (.set (.one 1) (.tup [(.tup [(.con (.int 2)), (.con (.int 2))]), (.tup [])]))), (.ifs (.cmp .eq (.var 0) (.con (.int 0))) [(.cr i_checked [(.tup [])])] []), (.ifs (.cmp .eq (.var 0) (.con (.int 1))) [(.cr i_possible [(.var 1), (.con (.int 3))])] []), (.ifs (.cmp .eq (.var 0) (.con (.int 2))) [(.cr i_missing [(.var 1), (.con (.int 1)), (.lst [(.tup [(.con (.int 2)), (.con (.int 0))])])])] []), (.ifs (.cmp .eq (.var 0) (.con (.int 3))) [(.cr i_with_setting [(.var 1), (.con (.int 2))])] []), (.ifs (.cmp .eq (.var 0) (.con (.int 4))) [(.cr i_suspects [(.var 1), (.con (.int 1)), (.lst [(.tup [(.con (.int 0)), (.con (.int 0))])]), (.lst [])])] []), (.ifs (.cmp .eq (.var 0) (.con (.int 5))) [(.cr i_fewest [(.tup [(.tup [(.con (.int 3)), (.con (.int 3)), (.con (.int 3))]), (.tup [])]), (.con (.int 1))])] []), (.cr i_read [(.con (.str ""))])]
noncomputable def d__law_kinds_of : Def:=⟨1,3,[.rai],false⟩
noncomputable def x__law_kinds_of : List XS:=[(.n (.set (.one 1) (.lst []))), (.ts [(.ce i__law_deed [(.var 0)])] 2 1 "TestError" [["BadBook", "BadStrength", "BadTests"], ["BadNumber"], ["BadResults", "TooBig", "BadText"]] ["BadBook", "BadStrength", "BadResults", "TooBig", "BadNumber", "BadText", "BadTests"]), (.n (.ret (.var 1)))]
noncomputable def d_law : Def:=⟨1,3,[.set (.one 1) (.bin .mod (.call i__law_cell [(.var 0),(.con (.int 0))]) (.con (.int 7))),.ret (.cmp .eq (.call i__law_kinds_of [(.var 1)]) (.comp (.cmp .eq (.var 2) (.var 1)) (.one 2) .rng [(.con (.int 7))] false (.con (.bl true)) [false,true,false]))],true⟩
noncomputable def tab : List Def:=[d_is_whole,d_is_tuple,d_are_levels,d_is_setting,d_is_meeting,d_is_book,d_checked,d_meets,d_meets_any,d_all_rows,d_all_tests,d_is_row,d_is_test,d_check_tests,d_most_strength,d_check_book_and_strength,d_possible,d_check_all,d_missing,d_are_results,d_suspects,d_small_tests,d_fewest,d_with_setting,d_read,d__law_cell,d__law_deed,d__law_kinds_of,d_law]
noncomputable def xtab : XTab:=[(i_checked,x_checked),(i_all_tests,x_all_tests),(i_check_tests,x_check_tests),(i_check_book_and_strength,x_check_book_and_strength),(i_possible,x_possible),(i_check_all,x_check_all),(i_missing,x_missing),(i_suspects,x_suspects),(i_small_tests,x_small_tests),(i_fewest,x_fewest),(i_with_setting,x_with_setting),(i_read,x_read),(i__law_deed,x__law_deed),(i__law_kinds_of,x__law_kinds_of)]
noncomputable def cs : List (Str × Addr):=[("BadBook", 37), ("BadStrength", 49), ("BadResults", 92), ("TooBig", 104), ("BadNumber", 80), ("BadText", 116), ("BadTests", 68)]
noncomputable def hs : List (Str × Addr):=[("TestError", 24)]
noncomputable def ks : List (Str × Value):=[("BadBook", .ref 37), ("BadStrength", .ref 49), ("BadTests", .ref 68), ("BadNumber", .ref 80), ("BadResults", .ref 92), ("TooBig", .ref 104), ("BadText", .ref 116)]
noncomputable def xtt : XT:=⟨cs.map (·.1),hs.map (·.1),ks.map (·.1)⟩
theorem cX_eq {n f : Nat} {d : Def} {args : List D} (ht : tab[f]? = some d) (hl : args.length = d.np) (hn : d.nrm = true:=by rfl) (hx : xtab.lookup f = none:=by rfl) : callX tab xtab (n + 1) f args = finS (runB (callX tab xtab n) d.body (args.map some++List.replicate (d.nn - d.np) none)):=callX_eq hx ht hl hn
theorem ok_is_whole : defB T d_is_whole ["thing", "least", "most"] ["thing", "least", "most"] (top 15) = true:=by decide +kernel
theorem ok_is_tuple : defB T d_is_tuple ["thing", "least", "most"] ["thing", "least", "most"] (top 16) = true:=by decide +kernel
theorem ok_are_levels : defB T d_are_levels ["thing", "rows", "level"] ["thing"] (top 17) = true:=by decide +kernel
theorem ok_is_setting : defB T d_is_setting ["levels", "thing"] ["levels", "thing"] (top 18) = true:=by decide +kernel
theorem ok_is_meeting : defB T d_is_meeting ["levels", "thing", "behind", "pair"] ["levels", "thing"] (top 19) = true:=by decide +kernel
theorem ok_is_book : defB T d_is_book ["thing", "ban"] ["thing"] (top 20) = true:=by decide +kernel
theorem ok_checked : defX T xtt d_checked x_checked ["book"] ["book"] (top 21) = true:=by decide +kernel
theorem ok_meets : defB T d_meets ["row", "meeting", "pair"] ["row", "meeting"] (top 22) = true:=by decide +kernel
theorem ok_meets_any : defB T d_meets_any ["row", "meetings", "meeting"] ["row", "meetings"] (top 23) = true:=by decide +kernel
theorem ok_all_rows : defB T d_all_rows ["levels", "rows", "level", "longer", "row", "setting"] ["levels"] (top 24) = true:=by decide +kernel
theorem ok_all_tests : defX T xtt d_all_tests x_all_tests ["book", "row"] ["book"] (top 25) = true:=by decide +kernel
theorem ok_is_row : defB T d_is_row ["levels", "thing", "setting", "level"] ["levels", "thing"] (top 26) = true:=by decide +kernel
theorem ok_is_test : defB T d_is_test ["book", "thing"] ["book", "thing"] (top 27) = true:=by decide +kernel
theorem t_check_tests : tab[i_check_tests]? = some d_check_tests:=rfl
theorem e_check_tests : xtab.lookup i_check_tests = some x_check_tests:=rfl
theorem ok_most_strength : defB T d_most_strength ["book"] ["book"] (top 31) = true:=by decide +kernel
theorem ok_check_book_and_strength : defX T xtt d_check_book_and_strength x_check_book_and_strength ["book", "strength"] ["book", "strength"] (top 32) = true:=by decide +kernel
theorem ok_possible : defX T xtt d_possible x_possible ["book", "strength"] ["book", "strength"] (top 37) = true:=by decide +kernel
theorem ok_check_all : defX T xtt d_check_all x_check_all ["book", "strength", "tests"] ["book", "strength", "tests"] (top 39) = true:=by decide +kernel
theorem ok_missing : defX T xtt d_missing x_missing ["book", "strength", "tests", "met", "meeting"] ["book", "strength", "tests"] (top 40) = true:=by decide +kernel
theorem ok_are_results : defB T d_are_results ["tests", "thing", "result"] ["tests", "thing"] (top 43) = true:=by decide +kernel
theorem ok_suspects : defX T xtt d_suspects x_suspects ["book", "strength", "tests", "results", "places", "faulty", "place", "result", "meeting"] ["book", "strength", "tests", "results"] (top 44) = true:=by decide +kernel
theorem ok_small_tests : defX T xtt d_small_tests x_small_tests ["book", "strength", "tests"] ["book", "strength"] (top 47) = true:=by decide +kernel
theorem ok_fewest : defX T xtt d_fewest x_fewest ["book", "strength", "tests", "masks", "many", "found", "by_bit", "bit"] ["book", "strength"] (top 58) = true:=by decide +kernel
theorem ok_with_setting : defX T xtt d_with_setting x_with_setting ["book", "thing", "levels"] ["book", "thing"] (top 61) = true:=by decide +kernel
theorem ok_read : defX T xtt d_read x_read ["text", "lines", "levels", "bans", "book", "line", "word"] ["text"] (top 67) = true:=by decide +kernel
theorem t__law_cell : tab[i__law_cell]? = some d__law_cell:=rfl
theorem ok__law_cell : defB T d__law_cell ["_law_script", "_law_k"] ["_law_script", "_law_k"] (top 69) = true:=by decide +kernel
theorem ok__law_deed : defX T xtt d__law_deed x__law_deed ["_law_way", "_law_book"] ["_law_way"] (top 70) = true:=by decide +kernel
theorem ok__law_kinds_of : defX T xtt d__law_kinds_of x__law_kinds_of ["_law_way", "_law_some", "e"] ["_law_way"] (top 71) = true:=by decide +kernel
theorem t_law : tab[i_law]? = some d_law:=rfl
theorem ok_law : defB T d_law ["_law_script", "_law_way", "_law_k"] ["_law_script"] (top 72) = true:=by decide +kernel
section
variable {K : PySem.W.Frag} {h : Heap} {mg : Str→Option Value}
theorem fn_of_ff {x : Str} {st : Stmt} {d : Def} {N ps : List Str} {i : Nat} (X : K.In h) (G : h.Ns mainGlobals mg) (f : FF K x st) (ht : tab[i]? = some d) (ok : match xtab.lookup i with | none => defB T d N ps st = true | some b => defX T xtt d b N ps st = true)
  (hb : ∀ (kV doc pm : Value) (an : Option Addr) (cdv ct : Value) (us : List Value),us.length = ps.length→bindArgs (PySem.W.fnOf x x (defArgs st) (defBody st) (defScope st) .none kV doc pm an cdv ct) ⟨us,[]⟩ = pure (ps.zip us)) :
  ∃ d N ps st a fd,tab[i]? = some d∧Fun K x x st a fd∧mg x = some (.ref a)∧L2.Binds K fd ps []∧(match xtab.lookup i with | none => defB T d N ps st = true | some b => defX T xtt d b N ps st = true∨LamD T K mg x b d ps st a fd):=by
 obtain ⟨a,fd,e,F⟩:=f.ex
 refine ⟨d,N,ps,st,a,fd,ht,F,PySem.W.mg_of X G e,F.binds hb,?_⟩
 cases hx : xtab.lookup i with
 | none => rw [hx] at ok;exact ok
 | some b => rw [hx] at ok;exact .inl ok
theorem pr (X : K.In h) (G : h.Ns mainGlobals mg) (f0 : FF K "is_whole" (top 15)) (f1 : FF K "is_tuple" (top 16)) (f2 : FF K "are_levels" (top 17)) (f3 : FF K "is_setting" (top 18)) (f4 : FF K "is_meeting" (top 19)) (f5 : FF K "is_book" (top 20)) (f6 : FF K "checked" (top 21)) (f7 : FF K "meets" (top 22)) (f8 : FF K "meets_any" (top 23)) (f9 : FF K "all_rows" (top 24)) (f10 : FF K "all_tests" (top 25)) (f11 : FF K "is_row" (top 26)) (f12 : FF K "is_test" (top 27)) (f13 : FL K "check_tests" (top 29)) (f14 : FF K "most_strength" (top 31)) (f15 : FF K "check_book_and_strength" (top 32)) (f16 : FF K "possible" (top 37)) (f17 : FF K "check_all" (top 39)) (f18 : FF K "missing" (top 40)) (f19 : FF K "are_results" (top 43)) (f20 : FF K "suspects" (top 44)) (f21 : FF K "small_tests" (top 47)) (f22 : FF K "fewest" (top 58)) (f23 : FF K "with_setting" (top 61)) (f24 : FF K "read" (top 67)) (f25 : FF K "_law_cell" (top 69)) (f26 : FF K "_law_deed" (top 70)) (f27 : FF K "_law_kinds_of" (top 71)) (f28 : FF K "law" (top 72)) (fcl : FF K "check_list" (top 28)) (fi : FI K 68 24 65 (Hs.inn 0 (top 4))) (g0 : GF K "MOST_THINGS" (.int 6)) (g1 : GF K "MOST_SETTINGS" (.int 4)) (g2 : GF K "MOST_ROWS" (.int 400)) (g3 : GF K "MOST_BANS" (.int 12)) (g4 : GF K "MOST_IN_MEETING" (.int 3)) (g5 : GF K "MOST_TESTS" (.int 24)) (g6 : GF K "FIGURES" (.str "0123456789")) (hb : ∀ f ∈ bltNames, PySem.W.nsIn K mainGlobals f = some none) (hxf : xfB K cs hs ks = true) : PrX T xtt tab xtab K mg:=by
 refine ⟨by decide,fun f b hf => ?_,fun f hf => PySem.W.mg_none_of X G (hb f hf),fun x i e => ?_,xf_of X G hxf,fun f x e => ?_⟩
 ·have hm : ∀ p∈xtab,p.1 < 1000:=by decide
  exact hm (f,b) (mem_lk hf)
 ·have key : ∀ (l : List (Str × D)),l.lookup x = some i→(∀ p∈l,GF K p.1 p.2)→GlV i (mg x):=by
   intro l
   induction l with
   | nil => intro e;cases e
   | cons q l ih =>
    intro e H
    rw [List.lookup_cons] at e
    split at e
    ·rename_i hx
     obtain ⟨v,e2,g⟩:=(H q List.mem_cons_self).ex
     cases e
     rw [PySem.W.mg_of X G (by rw [beq_iff_eq.mp hx];exact e2)]
     exact g
    ·exact ih e fun p hp => H p (List.mem_cons_of_mem _ hp)
  refine key T.gl e fun p hp => ?_
  simp only [T,List.mem_cons,List.not_mem_nil,or_false] at hp
  rcases hp with rfl | rfl | rfl | rfl | rfl | rfl | rfl
  ·exact g0
  ·exact g1
  ·exact g2
  ·exact g3
  ·exact g4
  ·exact g5
  ·exact g6
 ·have hlt : f < 29:=(List.getElem?_eq_some_iff.mp e).1
  match f,hlt,e with
  | 0,_,e => cases e;exact fn_of_ff X G f0 rfl ok_is_whole fun _ _ _ _ _ _ => us3 fun _ _ _ => rfl
  | 1,_,e => cases e;exact fn_of_ff X G f1 rfl ok_is_tuple fun _ _ _ _ _ _ => us3 fun _ _ _ => rfl
  | 2,_,e => cases e;exact fn_of_ff X G f2 rfl ok_are_levels fun _ _ _ _ _ _ => us1 fun _ => rfl
  | 3,_,e => cases e;exact fn_of_ff X G f3 rfl ok_is_setting fun _ _ _ _ _ _ => us2 fun _ _ => rfl
  | 4,_,e => cases e;exact fn_of_ff X G f4 rfl ok_is_meeting fun _ _ _ _ _ _ => us2 fun _ _ => rfl
  | 5,_,e => cases e;exact fn_of_ff X G f5 rfl ok_is_book fun _ _ _ _ _ _ => us1 fun _ => rfl
  | 6,_,e => cases e;exact fn_of_ff X G f6 rfl ok_checked fun _ _ _ _ _ _ => us1 fun _ => rfl
  | 7,_,e => cases e;exact fn_of_ff X G f7 rfl ok_meets fun _ _ _ _ _ _ => us2 fun _ _ => rfl
  | 8,_,e => cases e;exact fn_of_ff X G f8 rfl ok_meets_any fun _ _ _ _ _ _ => us2 fun _ _ => rfl
  | 9,_,e => cases e;exact fn_of_ff X G f9 rfl ok_all_rows fun _ _ _ _ _ _ => us1 fun _ => rfl
  | 10,_,e => cases e;exact fn_of_ff X G f10 rfl ok_all_tests fun _ _ _ _ _ _ => us1 fun _ => rfl
  | 11,_,e => cases e;exact fn_of_ff X G f11 rfl ok_is_row fun _ _ _ _ _ _ => us2 fun _ _ => rfl
  | 12,_,e => cases e;exact fn_of_ff X G f12 rfl ok_is_test fun _ _ _ _ _ _ => us2 fun _ _ => rfl
  | 13,_,e => cases e;exact fn_lam (d:=d_check_tests) (q:=i_is_test) X G f13 fcl e_check_tests t_check_tests rfl rfl rfl (ink_of X G fi rfl rfl (fun env => ⟨_,rfl⟩) fun _ _ _ _ _ _ => us2 fun _ _ => rfl) rfl rfl rfl rfl rfl rfl (fun _ _ _ _ _ _ => us2 fun _ _ => rfl) (fun _ _ _ _ _ _ => us2 fun _ _ => rfl)
  | 14,_,e => cases e;exact fn_of_ff X G f14 rfl ok_most_strength fun _ _ _ _ _ _ => us1 fun _ => rfl
  | 15,_,e => cases e;exact fn_of_ff X G f15 rfl ok_check_book_and_strength fun _ _ _ _ _ _ => us2 fun _ _ => rfl
  | 16,_,e => cases e;exact fn_of_ff X G f16 rfl ok_possible fun _ _ _ _ _ _ => us2 fun _ _ => rfl
  | 17,_,e => cases e;exact fn_of_ff X G f17 rfl ok_check_all fun _ _ _ _ _ _ => us3 fun _ _ _ => rfl
  | 18,_,e => cases e;exact fn_of_ff X G f18 rfl ok_missing fun _ _ _ _ _ _ => us3 fun _ _ _ => rfl
  | 19,_,e => cases e;exact fn_of_ff X G f19 rfl ok_are_results fun _ _ _ _ _ _ => us2 fun _ _ => rfl
  | 20,_,e => cases e;exact fn_of_ff X G f20 rfl ok_suspects fun _ _ _ _ _ _ => us4 fun _ _ _ _ => rfl
  | 21,_,e => cases e;exact fn_of_ff X G f21 rfl ok_small_tests fun _ _ _ _ _ _ => us2 fun _ _ => rfl
  | 22,_,e => cases e;exact fn_of_ff X G f22 rfl ok_fewest fun _ _ _ _ _ _ => us2 fun _ _ => rfl
  | 23,_,e => cases e;exact fn_of_ff X G f23 rfl ok_with_setting fun _ _ _ _ _ _ => us2 fun _ _ => rfl
  | 24,_,e => cases e;exact fn_of_ff X G f24 rfl ok_read fun _ _ _ _ _ _ => us1 fun _ => rfl
  | 25,_,e => cases e;exact fn_of_ff X G f25 rfl ok__law_cell fun _ _ _ _ _ _ => us2 fun _ _ => rfl
  | 26,_,e => cases e;exact fn_of_ff X G f26 rfl ok__law_deed fun _ _ _ _ _ _ => us1 fun _ => rfl
  | 27,_,e => cases e;exact fn_of_ff X G f27 rfl ok__law_kinds_of fun _ _ _ _ _ _ => us1 fun _ => rfl
  | 28,_,e => cases e;exact fn_of_ff X G f28 rfl ok_law fun _ _ _ _ _ _ => us1 fun _ => rfl
end
end E20
set_option maxHeartbeats 400000
namespace E20
open PySem L2 Mi
local macro_rules | `(tactic| simpa only [$xs,*]) => `(tactic| simp only [qM,qN,qp,qO,qC,qD,qE,qF,qG,qq,qr,qu,qv,qP,qw,qH,qQ,qR,qS,qx,qy,qz,qT,wA,wB,wC,qU,qV,wD,wE,wF,wG,wH,wI,wJ,qI,wK,we,wL,wM,wN,wf,wO,qW,qX,wP,qY,qZ,qa,qJ,qb,qK,wQ,qd,wg,wj,qe,wR,wS,wT,wU,wV,wW,wk,wl,wm,wn,↓wX,↓wY,wz,zA,zB,zC,zD,qf,qg,wZ,wo,qh,qi,qA,qL,qj,qk,ql,qm,finS_rt,finS_ro,finS_nx,wp,wq,wr,wt,wu,wv,zE,zF,zG,zH,zI,zJ,wa,wb,wc,if_true,ww,wx,zK,if_false,qB,wy,rx_n,rx_rai,rx_ce,rx_cr,rx_cs,rx_ifs,rx_tr,rx_any,rxb_nil,rxb_cons,tx_nx,tx_rt,tx_exc,lift_ok,cx_ok,td_ok,td_exc,pk_t,pk_f,ct_ok,finX_rt,finX_nx,finX_exc,ev_mth,ev_fmt,rx_xr,rx_xs,rx_tc,cc_ok,rx_ts,cs_ok,$xs,*])
noncomputable def cellZ (ns : List Int) (k : Nat) : Int:=ns.getD k 0
theorem c_cell {n : Nat} (ns : List Int) (k : Nat) : callX tab xtab (n + 1) i__law_cell [.lst (ns.map D.int),.int k] = .ok (.int (cellZ ns k)):=by
 rw [cX_eq t__law_cell rfl]
 delta d__law_cell;simpa only []
 unfold cellZ
 by_cases h : k < ns.length
 ·have e : ns[k]? = some ns[k]:=List.getElem?_eq_getElem h
  simpa only [decide_eq_true (show (k : Int) < ns.length by omega),ix_L (enc:=D.int) e,List.getD,e,Option.getD]
 ·simpa only [decide_eq_false (show ¬ ((k : Int) < ns.length) by omega),List.getD,List.getElem?_eq_none (Nat.le_of_not_lt h),Option.getD]
theorem cell_ok (ns : List Int) : ∃ c : Int,callX tab xtab 30 i__law_cell [.lst (ns.map D.int),.int 0] = .ok (.int c):=⟨_,c_cell (n:=29) ns 0⟩
noncomputable def lastR : List MS:=[.ret (.cmp .eq (.call i__law_kinds_of [(.var 1)]) (.comp (.cmp .eq (.var 2) (.var 1)) (.one 2) .rng [(.con (.int 7))] false (.con (.bl true)) [false,true,false]))]
theorem fin0 (l : D) : finS (runB (callX tab xtab 30) lastR [some l,some (.int 0),none]) = .ok (.bl true):=by kernel_rfl
theorem fin1 (l : D) : finS (runB (callX tab xtab 30) lastR [some l,some (.int 1),none]) = .ok (.bl true):=by kernel_rfl
theorem fin2 (l : D) : finS (runB (callX tab xtab 30) lastR [some l,some (.int 2),none]) = .ok (.bl true):=by kernel_rfl
theorem fin3 (l : D) : finS (runB (callX tab xtab 30) lastR [some l,some (.int 3),none]) = .ok (.bl true):=by kernel_rfl
theorem fin4 (l : D) : finS (runB (callX tab xtab 30) lastR [some l,some (.int 4),none]) = .ok (.bl true):=by kernel_rfl
theorem fin5 (l : D) : finS (runB (callX tab xtab 30) lastR [some l,some (.int 5),none]) = .ok (.bl true):=by kernel_rfl
theorem fin6 (l : D) : finS (runB (callX tab xtab 30) lastR [some l,some (.int 6),none]) = .ok (.bl true):=by kernel_rfl
theorem law_true (ns : List Int) (hns : ns.length≤63) : callX tab xtab 31 i_law [.lst (ns.map D.int)] = .ok (.bl true):=by
 obtain ⟨c,hc⟩:=cell_ok ns
 rw [cX_eq t_law rfl]
 have hm : binD .mod (.int c) (.int 7) = .ok (.int (c % 7)):=mod_I (by decide)
 have e1 : runS (callX tab xtab 30) (.set (.one 1) (.bin .mod (.call i__law_cell [(.var 0),(.con (.int 0))]) (.con (.int 7)))) [some (.lst (ns.map D.int)),none,none] = .ok (.nx [some (.lst (ns.map D.int)),some (.int (c % 7)),none]):=by
  show (((callX tab xtab 30 i__law_cell [.lst (ns.map D.int),.int 0]) >>= fun x => (.ok (.int 7) : R D) >>= fun y => binD .mod x y) >>= _) = _
  rw [hc]
  show (binD .mod (.int c) (.int 7) >>= _) = _
  rw [hm]
  rfl
 show finS (runS (callX tab xtab 30) _ [some (.lst (ns.map D.int)),none,none] >>= thenB (callX tab xtab 30) lastR) = _
 rw [e1]
 show finS (runB (callX tab xtab 30) lastR [some (.lst (ns.map D.int)),some (.int (c % 7)),none]) = _
 have h0:=Int.emod_nonneg c (show (7 : Int)≠0 by decide)
 have h7:=Int.emod_lt_of_pos c (show (0 : Int) < 7 by decide)
 generalize c % 7 = w at h0 h7 ⊢
 have hw : w = 0∨w = 1∨w = 2∨w = 3∨w = 4∨w = 5∨w = 6:=by omega
 rcases hw with rfl | rfl | rfl | rfl | rfl | rfl | rfl
 ·exact fin0 _
 ·exact fin1 _
 ·exact fin2 _
 ·exact fin3 _
 ·exact fin4 _
 ·exact fin5 _
 ·exact fin6 _
end E20
namespace E20
open PySem L2 Mi
variable (P : Params)
theorem ff_check_list : FF (heap P) "check_list" (top 28):=ff_mk (f:=204) (by kernel_rfl) (show (heap P).lookup 204 = some o_check_list by kernel_rfl) (by kernel_rfl) (by kernel_rfl)
theorem kcl : ((heap P).all fun q => clsB q.2) = true:=by kernel_rfl
theorem ff_init : FI (heap P) 68 24 65 (Hs.inn 0 (top 4)):=fi_mk (by kernel_rfl) (show (heap P).lookup 65 = some o_init by kernel_rfl) (by kernel_rfl) (by kernel_rfl) (by kernel_rfl)
theorem recs : ((PyProof.Rows.recsOf view).any fun d => decide (d.name = Str.ofString "check_tests")) = true:=by kernel_rfl
theorem ff_is_whole : FF (heap P) "is_whole" (top 15):=ff_mk (f:=125) (by kernel_rfl) (show (heap P).lookup 125 = some o_is_whole by kernel_rfl) (by kernel_rfl) (by kernel_rfl)
theorem ff_is_tuple : FF (heap P) "is_tuple" (top 16):=ff_mk (f:=132) (by kernel_rfl) (show (heap P).lookup 132 = some o_is_tuple by kernel_rfl) (by kernel_rfl) (by kernel_rfl)
theorem ff_are_levels : FF (heap P) "are_levels" (top 17):=ff_mk (f:=139) (by kernel_rfl) (show (heap P).lookup 139 = some o_are_levels by kernel_rfl) (by kernel_rfl) (by kernel_rfl)
theorem ff_is_setting : FF (heap P) "is_setting" (top 18):=ff_mk (f:=146) (by kernel_rfl) (show (heap P).lookup 146 = some o_is_setting by kernel_rfl) (by kernel_rfl) (by kernel_rfl)
theorem ff_is_meeting : FF (heap P) "is_meeting" (top 19):=ff_mk (f:=153) (by kernel_rfl) (show (heap P).lookup 153 = some o_is_meeting by kernel_rfl) (by kernel_rfl) (by kernel_rfl)
theorem ff_is_book : FF (heap P) "is_book" (top 20):=ff_mk (f:=158) (by kernel_rfl) (show (heap P).lookup 158 = some o_is_book by kernel_rfl) (by kernel_rfl) (by kernel_rfl)
theorem ff_checked : FF (heap P) "checked" (top 21):=ff_mk (f:=165) (by kernel_rfl) (show (heap P).lookup 165 = some o_checked by kernel_rfl) (by kernel_rfl) (by kernel_rfl)
theorem ff_meets : FF (heap P) "meets" (top 22):=ff_mk (f:=170) (by kernel_rfl) (show (heap P).lookup 170 = some o_meets by kernel_rfl) (by kernel_rfl) (by kernel_rfl)
theorem ff_meets_any : FF (heap P) "meets_any" (top 23):=ff_mk (f:=175) (by kernel_rfl) (show (heap P).lookup 175 = some o_meets_any by kernel_rfl) (by kernel_rfl) (by kernel_rfl)
theorem ff_all_rows : FF (heap P) "all_rows" (top 24):=ff_mk (f:=180) (by kernel_rfl) (show (heap P).lookup 180 = some o_all_rows by kernel_rfl) (by kernel_rfl) (by kernel_rfl)
theorem ff_all_tests : FF (heap P) "all_tests" (top 25):=ff_mk (f:=185) (by kernel_rfl) (show (heap P).lookup 185 = some o_all_tests by kernel_rfl) (by kernel_rfl) (by kernel_rfl)
theorem ff_is_row : FF (heap P) "is_row" (top 26):=ff_mk (f:=190) (by kernel_rfl) (show (heap P).lookup 190 = some o_is_row by kernel_rfl) (by kernel_rfl) (by kernel_rfl)
theorem ff_is_test : FF (heap P) "is_test" (top 27):=ff_mk (f:=197) (by kernel_rfl) (show (heap P).lookup 197 = some o_is_test by kernel_rfl) (by kernel_rfl) (by kernel_rfl)
theorem ff_check_tests : FL (heap P) "check_tests" (top 29):=fl_mk (f:=211) (by kernel_rfl) (show (heap P).lookup 211 = some o_check_tests by kernel_rfl) (by kernel_rfl) (by kernel_rfl) (by kernel_rfl)
theorem ff_most_strength : FF (heap P) "most_strength" (top 31):=ff_mk (f:=218) (by kernel_rfl) (show (heap P).lookup 218 = some o_most_strength by kernel_rfl) (by kernel_rfl) (by kernel_rfl)
theorem ff_check_book_and_strength : FF (heap P) "check_book_and_strength" (top 32):=ff_mk (f:=225) (by kernel_rfl) (show (heap P).lookup 225 = some o_check_book_and_strength by kernel_rfl) (by kernel_rfl) (by kernel_rfl)
theorem ff_possible : FF (heap P) "possible" (top 37):=ff_mk (f:=258) (by kernel_rfl) (show (heap P).lookup 258 = some o_possible by kernel_rfl) (by kernel_rfl) (by kernel_rfl)
theorem ff_check_all : FF (heap P) "check_all" (top 39):=ff_mk (f:=265) (by kernel_rfl) (show (heap P).lookup 265 = some o_check_all by kernel_rfl) (by kernel_rfl) (by kernel_rfl)
theorem ff_missing : FF (heap P) "missing" (top 40):=ff_mk (f:=270) (by kernel_rfl) (show (heap P).lookup 270 = some o_missing by kernel_rfl) (by kernel_rfl) (by kernel_rfl)
theorem ff_are_results : FF (heap P) "are_results" (top 43):=ff_mk (f:=282) (by kernel_rfl) (show (heap P).lookup 282 = some o_are_results by kernel_rfl) (by kernel_rfl) (by kernel_rfl)
theorem ff_suspects : FF (heap P) "suspects" (top 44):=ff_mk (f:=287) (by kernel_rfl) (show (heap P).lookup 287 = some o_suspects by kernel_rfl) (by kernel_rfl) (by kernel_rfl)
theorem ff_small_tests : FF (heap P) "small_tests" (top 47):=ff_mk (f:=294) (by kernel_rfl) (show (heap P).lookup 294 = some o_small_tests by kernel_rfl) (by kernel_rfl) (by kernel_rfl)
theorem ff_fewest : FF (heap P) "fewest" (top 58):=ff_mk (f:=363) (by kernel_rfl) (show (heap P).lookup 363 = some o_fewest by kernel_rfl) (by kernel_rfl) (by kernel_rfl)
theorem ff_with_setting : FF (heap P) "with_setting" (top 61):=ff_mk (f:=377) (by kernel_rfl) (show (heap P).lookup 377 = some o_with_setting by kernel_rfl) (by kernel_rfl) (by kernel_rfl)
theorem ff_read : FF (heap P) "read" (top 67):=ff_mk (f:=401) (by kernel_rfl) (show (heap P).lookup 401 = some o_read by kernel_rfl) (by kernel_rfl) (by kernel_rfl)
theorem ff__law_cell : FF (heap P) "_law_cell" (top 69):=ff_mk (f:=408) (by kernel_rfl) (show (heap P).lookup 408 = some o__law_cell by kernel_rfl) (by kernel_rfl) (by kernel_rfl)
theorem ff__law_deed : FF (heap P) "_law_deed" (top 70):=ff_mk (f:=415) (by kernel_rfl) (show (heap P).lookup 415 = some o__law_deed by kernel_rfl) (by kernel_rfl) (by kernel_rfl)
theorem ff__law_kinds_of : FF (heap P) "_law_kinds_of" (top 71):=ff_mk (f:=422) (by kernel_rfl) (show (heap P).lookup 422 = some o__law_kinds_of by kernel_rfl) (by kernel_rfl) (by kernel_rfl)
theorem ff_law : FF (heap P) "law" (top 72):=ff_mk (f:=427) (by kernel_rfl) (show (heap P).lookup 427 = some o_law by kernel_rfl) (by kernel_rfl) (by kernel_rfl)
theorem gf_MOST_THINGS : GF (heap P) "MOST_THINGS" (.int 6):=gf_mk (t:=330) (by kernel_rfl)
theorem gf_MOST_SETTINGS : GF (heap P) "MOST_SETTINGS" (.int 4):=gf_mk (t:=332) (by kernel_rfl)
theorem gf_MOST_ROWS : GF (heap P) "MOST_ROWS" (.int 400):=gf_mk (t:=334) (by kernel_rfl)
theorem gf_MOST_BANS : GF (heap P) "MOST_BANS" (.int 12):=gf_mk (t:=336) (by kernel_rfl)
theorem gf_MOST_IN_MEETING : GF (heap P) "MOST_IN_MEETING" (.int 3):=gf_mk (t:=338) (by kernel_rfl)
theorem gf_MOST_TESTS : GF (heap P) "MOST_TESTS" (.int 24):=gf_mk (t:=558) (by kernel_rfl)
theorem gf_FIGURES : GF (heap P) "FIGURES" (.str "0123456789"):=gs_mk (t:=681) (by kernel_rfl)
theorem bl : ∀ f∈bltNames,PySem.W.nsIn (heap P) mainGlobals f = some none:=by
 intro f hf
 simp only [bltNames,List.mem_cons,List.not_mem_nil,or_false] at hf
 rcases hf with rfl | rfl | rfl | rfl | rfl | rfl | rfl | rfl | rfl | rfl | rfl | rfl | rfl | rfl | rfl | rfl <;> kernel_rfl
theorem xf : xfB (heap P) cs hs ks = true:=by kernel_rfl
end E20
open PySem PySem.W PyProof.Rows
set_option maxRecDepth 100000 in
set_option maxHeartbeats 0 in
theorem PySem.Challenge.cw_pairtests_k20_refusals_stand_apart_holds : PySem.Challenge.rw_pairtests_k20_refusals_stand_apart.Holds := by
 w_on;o_law
 refine PySem.W.holds_open (q:=E20.view) (loose:=[]) (Xt:=fun s => PySem.W.xlAt E20.view [] s && PySem.W.recOk (PySem.W.RowW.records (PySem.W.OpenRow.toRowW PySem.Challenge.rw_pairtests_k20_refusals_stand_apart.row)) s) (XP:=XL E20.view []) (Yf:=Hook.obs E20.hook) (Ya:=Hook.val E20.hook) (YP:=Hook.says E20.hook) (N:=6692) E20.left (Hook.of E20.hook) (Hook.keeps E20.hook) (fun s e => xl_of s (Bool.and_eq_true_iff.mp e).1) XL.keeps (by rfl) (by rfl) (by rfl) (fun s e => recFacts_of (Bool.and_eq_true_iff.mp e).2) (by rfl) (by first | assumption | decide +kernel) (by decide +kernel) ⟨rfl,rfl,rfl,rfl,rfl,by decide +kernel⟩ ?hw ?hc
 (case hw => w_witness2)
 exact Mi.walkX (l:=PySem.Challenge.rw_pairtests_k20_refusals_stand_apart) (T:=E20.T) (xtt:=E20.xtt) (tab:=E20.tab) (xt:=E20.xtab) (n:=30) (fl:=28) (par:="_law_script") (N:=["_law_script", "_law_way", "_law_k"]) (st:=E20.top 72) rfl rfl ⟨rfl, by decide, by decide⟩ rfl rfl E20.ok_law (fun w h Y => Y) (fun p => Mi.kc_of (E20.kcl p)) (fun w s₀ mg mb h G Y => Mi.tab_of E20.recs G) (fun w mg h KX G => E20.pr KX G (E20.ff_is_whole w.params) (E20.ff_is_tuple w.params) (E20.ff_are_levels w.params) (E20.ff_is_setting w.params) (E20.ff_is_meeting w.params) (E20.ff_is_book w.params) (E20.ff_checked w.params) (E20.ff_meets w.params) (E20.ff_meets_any w.params) (E20.ff_all_rows w.params) (E20.ff_all_tests w.params) (E20.ff_is_row w.params) (E20.ff_is_test w.params) (E20.ff_check_tests w.params) (E20.ff_most_strength w.params) (E20.ff_check_book_and_strength w.params) (E20.ff_possible w.params) (E20.ff_check_all w.params) (E20.ff_missing w.params) (E20.ff_are_results w.params) (E20.ff_suspects w.params) (E20.ff_small_tests w.params) (E20.ff_fewest w.params) (E20.ff_with_setting w.params) (E20.ff_read w.params) (E20.ff__law_cell w.params) (E20.ff__law_deed w.params) (E20.ff__law_kinds_of w.params) (E20.ff_law w.params) (E20.ff_check_list w.params) (E20.ff_init w.params) (E20.gf_MOST_THINGS w.params) (E20.gf_MOST_SETTINGS w.params) (E20.gf_MOST_ROWS w.params) (E20.gf_MOST_BANS w.params) (E20.gf_MOST_IN_MEETING w.params) (E20.gf_MOST_TESTS w.params) (E20.gf_FIGURES w.params) (E20.bl w.params) (E20.xf w.params)) (fun w => E20.ff_law w.params) (fun _ _ _ _ _ _ _ => rfl) E20.law_true
