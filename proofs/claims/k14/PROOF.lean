import PyProof.Rows.All
import Wide.All
import OpenK.AllK
import Wide.FinOn
import Lean
import PyProof.EqAt
import PyProof.EqKinds
import PyProof.TupleCall
import PyProof.NeKinds
import PyProof.DictRoadsH
import KE.KIntText
import PyProof.StrLawsTight
import PyProof.CompFree
import PyProof.CompUse
import KE.KDictSum
import PyProof.Draws
import PyProof.EnumMake
import PyProof.EnumFor
import KE.KSortTup
import PyProof.TupleOfSeq
import KE.LcSums
import PyProof.ZipIter
import KE.KRevIter
import KE.KStateDown
import PyProof.ListRange
import PyProof.Conv_int_bool
import PyProof.AutoListH
import PyProof.Rows.StrItems
import KE.KLam
import PySem.Challenge.RW_pairtests_k14_suspects
noncomputable section
set_option Elab.async false
set_option linter.all false
set_option bootstrap.genMatcherCode false
set_option compiler.extract_closed false
set_option maxRecDepth 100000
set_option maxHeartbeats 4000000
abbrev w4:=List (PySem.Addr × PySem.Obj)
abbrev w8:=PySem.Str->Option PySem.Value
abbrev zb:=PySem.Value->PySem.Shared->Prop
abbrev zd:=PySem.W.Frag
abbrev ze:=List (List Nat)
abbrev zg:=List PySem.Value
abbrev zi:=List Nat
abbrev zk:=List PySem.Str
abbrev zl:=List PySem.Expr
abbrev zn:=List PySem.Stmt
abbrev zt:=Array PySem.Value
abbrev zv:=Option PySem.Addr
abbrev zw:=Array (Option PySem.Value)
abbrev zz:=@PySem.wpAny_bind
abbrev z0:=@PySem.wpAny_pure
abbrev ve:=@List.mem_cons_of_mem
abbrev vi:=@List.mem_cons_self
abbrev vj:=@List.mem_append_left
abbrev vk:=@List.mem_append_right
abbrev vn:=@PySem.Heap.get?_push_of_some
abbrev vw:=@PySem.Heap.get?_push_size
abbrev vx:=@PySem.Heap.lt_size
abbrev vy:=@Nat.le_refl
abbrev vz:=@Nat.ne_of_lt
abbrev vE:=@Nat.ne_of_gt
abbrev vF:=@Nat.le_trans
abbrev vS:=@Nat.zero_le
abbrev vT:=@Nat.lt_of_lt_of_le
abbrev v3:=@decide_eq_true
abbrev v4:=@decide_eq_false
abbrev v6:=@PySem.Heap.get?_update_other
abbrev ya:=@PySem.Heap.get?_update_self
abbrev yb:=@List.length_filter_le
abbrev yf:=@Nat.lt_irrefl
abbrev vR:=@List.mem_cons
abbrev yB:=@List.getElem?_eq_some_iff
abbrev yI:=@List.mem_map
abbrev yT:=@List.mem_append
abbrev yY:=@List.mem_singleton
abbrev y0:=@Option.isSome_iff_exists
abbrev y4:=@List.all_eq_true
abbrev y6:=@List.mem_flatMap
abbrev y8:=@List.mem_filter
abbrev y9:=@List.mem_range
abbrev ja:=@PySem.wpAny_call_entry
abbrev jb:=@PySem.wpAny_callSpecial?_slot
abbrev jn:=@PyProof.Rows.callWith_type1
abbrev jo:=@PySem.wpAny_truthy_bool
abbrev jp:=@PySem.wpAny_field
abbrev jr:=@Option.some.inj
abbrev js:=@False.elim
abbrev jv:=@PySem.Heap.SameBut.update
abbrev jw:=@PySem.mem_of_lookup
abbrev jy:=@PySem.wpAny_setField
abbrev jC:=@Bool.false_ne_true
abbrev jI:=@PySem.wpAny_newObj_type
abbrev jK:=@PySem.wpAny_dictEntries
abbrev jN:=@PySem.wpAny_dictEpoch
namespace L2
open PySem PySem.Spec PyProof.Rows
noncomputable def dI (s:Stmt):Arguments:=match s with
 | .FunctionDef _ a _ _ _ _ _ _ _ _=>a
 | _=>{ posonlyargs:=[],args:=[],vararg:=none,kwonlyargs:=[],kw_defaults:=[],kwarg:=none,defaults:=[] }
noncomputable def cI (s:Stmt):zn:=match s with
 | .FunctionDef _ _ b _ _ _ _ _ _ _=>b
 | _=>[]
noncomputable def aL (s:Stmt):Scope:=match s with
 | .FunctionDef _ _ _ _ _ _ sc _ _ _=>sc
 | _=>{ kind:=.function,names:=[],isGenerator:=false,isCoroutine:=false }
end L2
namespace Mi
open PySem L2
noncomputable abbrev gS (x:String) (k:Nat):Value:=.str (Str.ofString x) k
noncomputable abbrev gE (P:Params) (x:String) (k:Nat) (v:Value):DictEntry:=⟨PyData.keyHash P (Str.ofString x),.str (Str.ofString x) k,v⟩
abbrev gF (st:Stmt) (x:String) (kV doc pm:Value) (an:zv) (cdv ct:Value) (sl:zw):Obj:=⟨.type "function",none,.func (PySem.W.fnOf x x (dI st) (cI st) (aL st) .none kV doc pm an cdv ct),sl⟩
end Mi
namespace Hs
open PySem PySem.W PySem.Calls PyProof.Rows
def WW {p q:Program}{loose:zk}{Xt:Shared->Bool}{α:Type}{Yf:Shared->α}{Ya:World->α}{N:Nat}{g0:Bool}{H₀:Params->Heap}{gs₀:Array GenState}{d₀:Drawn}{k₀ m₀ M N4:Nat}{ann:Option Value}{tm:World->OsState->Thread}{Sm:World->OsState->Shared}
  (open_:∀ w:World,(fencedOpening treeTable p w N).map (fun s=>(s.heap,s.gens,s.drawn,s.toks))=some (H₀ w.params,gs₀,d₀,k₀))
  (size:∀ w:World,((H₀ w.params).isNs mainGlobals && gs₀.size == 0,(H₀ w.params).objs.size,(H₀ w.params).nsMap mainGlobals "__annotations__")=(true,m₀,ann))
  (run:∀ (w:World) (os:OsState) (r:Shared),topRun treeTable p w m₀ ann N4 (Sm w os) (tm w os)=some r->topRun treeTable p w m₀ ann M ⟨H₀ w.params,gs₀,d₀,k₀,os⟩ (topStub p)=some r) (le:Nat.ble M N=true)
  (last:∀ (w:World) (os:OsState),(topRun treeTable p w m₀ ann N4 (Sm w os) (tm w os)).map (fun s=>(staticsOk (importedModules p.main.body) (H₀ w.params) s.heap && namesBound p s.heap && gensDone s && laidKept (H₀ w.params) s.heap,openSeen q loose (importedModules p.main.body) Xt g0 s,Yf s))=some (true,openGood q loose,Ya w)):LeftO p q loose Xt Yf Ya N g0:=fun w=>by
 obtain ⟨⟨h,gs,d,k,os⟩,e,e'⟩:=Option.map_eq_some_iff.mp (open_ w);obtain ⟨rfl,rfl,rfl,rfl⟩:h=H₀ w.params/\gs=gs₀/\d=d₀/\k=k₀:=by simpa using e'
 obtain ⟨z1,z2,z3⟩:_/\_/\_:=by simpa only [Prod.mk.injEq] using size w
 obtain ⟨s1,r1,r2⟩:=Option.map_eq_some_iff.mp (last w os);obtain ⟨l1,l2,l3⟩:_/\_/\_:=by simpa only [Prod.mk.injEq] using r2
 have r:=topRun_mono (N - M) _ _ _ _ (run w os s1 r1);rw [show M+(N - M)=N by have:=Nat.le_of_ble_eq_true le;omega] at r;have t:topFrom treeTable p w N ⟨H₀ w.params,gs,d,k,os⟩=some s1:=by
  unfold topFrom;dsimp only;rw [z1,z2,z3,r];show (match staticsOk (importedModules p.main.body) (H₀ w.params) s1.heap && namesBound p s1.heap && gensDone s1 && laidKept (H₀ w.params) s1.heap with | true=>_ | false=>_)=_
  rw [l1]
 unfold openEnds;rw [e];show (topFrom treeTable p w N _).map _=_
 rw [t];exact congrArg some (Prod.ext l2 l3)
noncomputable def inn (k:Nat):Stmt->Stmt
 | .ClassDef _ _ _ b _ _ _ _ _ _ _=>b.getD k (.Pass ⟨0,0,0,0⟩)
 | s=>s
noncomputable abbrev gT (l:zg):Obj:=⟨.type "tuple",none,.seq ⟨l⟩ 0,#[]⟩
noncomputable abbrev gO:Obj:=⟨.none,none,.fields #[],#[]⟩
noncomputable abbrev gY (l:zg):Obj:=⟨.none,none,.fields ⟨l⟩,#[]⟩
noncomputable abbrev gR (st:Stmt) (x y:String):Obj:=⟨.none,none,.func ⟨x,y,L2.dI st,.stmts (L2.cI st),L2.aL st,0,[],.none,.none,.none,.none,none,.none,.none,0⟩,#[]⟩
noncomputable abbrev gG (st:Stmt) (x y:String) (pm cdv:Value):Obj:=⟨.type "function",none,.func (PySem.W.fnOf x y (L2.dI st) (L2.cI st) (L2.aL st) .none .none .none pm none cdv .none),#[]⟩
noncomputable abbrev gM (f:String) (v:Value):Obj:=⟨.type "builtin_function_or_method",none,.fields #[.builtin f,v],#[]⟩
noncomputable abbrev gU (a:Nat):Obj:=⟨.type "super",none,.fields #[.ref a,.ref a,.ref a],#[]⟩
noncomputable abbrev gK (x y:String) (t l n k:Nat) (b:Bool) (m a:Nat) (c d e:Value) (u:Nat):Obj:=⟨.type "code",none,.fields #[Mi.gS x t,Mi.gS y (t+1),Mi.gS "/claim/cut.py" (t+2),.int l 0,.int n 0,.int 0 0,.int 0 0,.int k 0,.ref a,.bool b,.int m 0,.ref (a+1),.none,c,d,e,.int u 0,.int l 0,Mi.gS "/claim/cut.py" (u+1)],#[]⟩
noncomputable def nm:Stmt->Str
 | .FunctionDef n ..=>n
 | _=>""
noncomputable def ln (s:Stmt):Nat:=s.pos.line
noncomputable def np (s:Stmt):Nat:=(L2.dI s).args.length
abbrev gC1 (st:Stmt) (t a k:Nat):Obj:=⟨.type "code",none,.fields #[.str (nm st) t,.str (nm st) (t+1),Mi.gS "/claim/cut.py" (t+2),.int (ln st) 0,.int (np st) 0,.int 0 0,.int 0 0,.int 3 0,.ref a,.bool true,.int 181 0,.ref (a+1),.none,.ref (a+2),.ref (a+3),.ref (a+4),.int (t+3+k:Nat) 0,.int (ln st) 0,Mi.gS "/claim/cut.py" (t+4+k)],#[]⟩
abbrev gC0 (st:Stmt) (t a:Nat):Obj:=⟨.type "code",none,.fields #[.str (nm st) t,.str (nm st) (t+1),Mi.gS "/claim/cut.py" (t+2),.int (ln st) 0,.int (np st) 0,.int 0 0,.int 0 0,.int 3 0,.ref a,.bool true,.int 181 0,.ref (a+1),.none,.none,.none,.ref (a+2),.int (t+3:Nat) 0,.int (ln st) 0,Mi.gS "/claim/cut.py" (t+4)],#[]⟩
abbrev gQ (st:Stmt):Obj:=⟨.none,none,.func ⟨nm st,nm st,L2.dI st,.stmts (L2.cI st),L2.aL st,0,[],.none,.none,.none,.none,none,.none,.none,0⟩,#[]⟩
abbrev gW (st:Stmt) (m:Value) (a:Nat):Obj:=⟨.type "function",none,.func (PySem.W.fnOf (nm st) (nm st) (L2.dI st) (L2.cI st) (L2.aL st) .none .none .none m none (.ref a) .none),#[]⟩
noncomputable def sl:Nat->List String->zg
 | _,[]=>[]
 | t,x::xs=>Mi.gS x t::sl (t+1) xs
abbrev gV (t:Nat) (xs:List String):Obj:=⟨.type "tuple",none,.seq ⟨sl t xs⟩ 0,#[]⟩
noncomputable def tb:List (Nat × Nat)->zg
 | []=>[]
 | (l,a)::xs=>.int l 0::.int 0 0::.ref a::tb xs
abbrev gZ (xs:List (Nat × Nat)):Obj:=⟨.none,none,.fields ⟨tb xs⟩,#[]⟩
noncomputable abbrev gI (a b:Nat) (m:Value):Obj:=⟨.type "frame",none,.plain,#[some (.ref a),some (.ref 3),some (.ref b),none,some m,none,some (.ref 0)]⟩
end Hs
namespace E14
open PySem L2 Mi
noncomputable def top (i:Nat):Stmt:=PySem.Challenge.pw_pairtests_k14_suspects.main.body.getD i (.Pass ⟨0,0,0,0⟩)
def view:Program:={ PySem.Challenge.pw_pairtests_k14_suspects with main:={ PySem.Challenge.pw_pairtests_k14_suspects.main with body:=[top 1,top 2,top 3,top 4,top 5,top 7,top 8,top 9,top 10,top 11,top 12,top 13,top 14,top 15,top 16,top 17,top 18,top 19,top 20,top 21,top 22,top 23,top 24,top 25,top 26,top 28,top 29,top 30,top 31,top 32,top 33,top 34,top 36,top 37,top 39,top 40,top 41,top 42,top 43,top 44,top 46,top 47,top 48,top 49,top 50,top 51,top 52,top 53,top 54,top 55,top 56,top 57] } }
abbrev fqq (i:Nat) (n:String) (a:Nat):Obj:=gF (top i) n .none .none (gS "pairtests.books" 280) none (.ref a) .none #[]
def CN:Obj:=fqq 12 "is_whole" 88
def Dw:Obj:=fqq 13 "is_tuple" 95
def xT:Obj:=fqq 14 "are_levels" 102
def yr:Obj:=fqq 15 "is_setting" 109
def yS:Obj:=fqq 16 "is_meeting" 116
def Gu:Obj:=fqq 17 "is_book" 121
def GC:Obj:=fqq 18 "checked" 128
def Oa:Obj:=fqq 19 "meets" 133
def Bb:Obj:=fqq 20 "meets_any" 138
def Cy:Obj:=fqq 21 "all_rows" 143
def Bg:Obj:=fqq 22 "all_tests" 148
def K5:Obj:=fqq 23 "is_row" 153
def GK:Obj:=fqq 24 "is_test" 160
def yE:Obj:=fqq 25 "check_list" 167
def xO:Obj:=fqq 26 "check_tests" 174
abbrev fqz (i:Nat) (n:String) (a:Nat):Obj:=gF (top i) n .none .none (gS "pairtests.meetings" 407) none (.ref a) .none #[]
def tU:Obj:=fqz 28 "most_strength" 181
def jG:Obj:=fqz 29 "check_book_and_strength" 188
def Bd:Obj:=fqz 30 "is_behind" 195
def sY:Obj:=fqz 31 "meetings_among" 200
def xM:Obj:=fqz 32 "meetings_of" 207
def Jy:Obj:=fqz 33 "met_by" 214
def Eb:Obj:=fqz 34 "possible" 221
def Bh:Obj:=gF (top 36) "check_all" .none .none (gS "pairtests.covers" 465) none (.ref 228) .none #[]
def mZ:Obj:=gF (top 37) "places_by_meeting" .none .none (gS "pairtests.covers" 465) none (.ref 235) .none #[]
abbrev fqx (i:Nat) (n:String) (a:Nat):Obj:=gF (top i) n .none .none (gS "pairtests.faults" 488) none (.ref a) .none #[]
def xJ:Obj:=fqx 39 "are_results" 240
def Ea:Obj:=fqx 40 "suspects" 245
def Aq:Obj:=fqx 42 "next_test" 259
def oN:Obj:=fqx 43 "lists_by_results" 266
def FT:Obj:=fqx 44 "blurred" 271
abbrev fqv (i:Nat) (n:String) (a:Nat):Obj:=gF (top i) n .none .none (gS "law_pairtests_k14_suspects" 546) none (.ref a) .none #[]
def Bf:Obj:=fqv 46 "_law_cell" 278
def CK:Obj:=fqv 47 "_law_mix" 285
def Av:Obj:=fqv 48 "_law_book" 290
def Ao:Obj:=fqv 49 "_law_rows" 295
def yq:Obj:=fqv 50 "_law_meets" 300
def yu:Obj:=fqv 51 "_law_tests" 305
def tO:Obj:=fqv 52 "_law_meetings" 310
def ux:Obj:=fqv 53 "_law_possible" 315
def xX:Obj:=fqv 54 "_law_drawn" 322
def tH:Obj:=fqv 55 "_law_strength" 329
def Ax:Obj:=fqv 56 "_law_told" 336
def o_law:Obj:=fqv 57 "law" 341
abbrev kC (i t a k:Nat):=Hs.gC1 (top i) t a k
abbrev kD (i t a:Nat):=Hs.gC0 (top i) t a
abbrev ye (P:PySem.Params):PySem.Obj:=⟨.type "dict",none,.dict #[gE P "__module__" 196 (gS "pairtests.errors" 187),gE P "__firstlineno__" 200 (.int 2 199),gE P "__static_attributes__" 201 (.ref 22),gE P "__weakref__" 203 (.ref 25),gE P "__doc__" 204 .none] 3,#[]⟩
abbrev yi:PySem.Obj:=⟨.type "type",none,.cls { name:=(Str.ofString "TestError"),bases:=[.type "ValueError"],mro:=[.ref 24,.type "ValueError",.type "Exception",.type "BaseException",.type "object"],ns:=23,qualname:=(Str.ofString "TestError"),hasDict:=true,slotNames:=[],subclasses:=[.ref 37,.ref 49,.ref 68,.ref 80],abstract:=false,collection:=none,hasDel:=false },#[some (.ref 15),none,some (gS "TestError" 189),some (gS "TestError" 197),some (.builtin "ValueError.__new__"),some (.bool true)]⟩
abbrev yk (P:PySem.Params):PySem.Obj:=⟨.type "dict",none,.dict #[gE P "__module__" 214 (gS "pairtests.errors" 187),gE P "__firstlineno__" 218 (.int 4 217),gE P "__static_attributes__" 219 (.ref 35),gE P "__doc__" 220 .none] 2,#[]⟩
abbrev yl:PySem.Obj:=⟨.type "type",none,.cls { name:=(Str.ofString "BadBook"),bases:=[.ref 24],mro:=[.ref 37,.ref 24,.type "ValueError",.type "Exception",.type "BaseException",.type "object"],ns:=36,qualname:=(Str.ofString "BadBook"),hasDict:=true,slotNames:=[],subclasses:=[],abstract:=false,collection:=none,hasDel:=false },#[some (.ref 28),none,some (gS "BadBook" 207),some (gS "BadBook" 215),some (.builtin "ValueError.__new__"),some (.bool true)]⟩
abbrev ym (P:PySem.Params):PySem.Obj:=⟨.type "dict",none,.dict #[gE P "__module__" 230 (gS "pairtests.errors" 187),gE P "__firstlineno__" 234 (.int 6 233),gE P "__static_attributes__" 235 (.ref 47),gE P "__doc__" 236 .none] 2,#[]⟩
abbrev yn:PySem.Obj:=⟨.type "type",none,.cls { name:=(Str.ofString "BadStrength"),bases:=[.ref 24],mro:=[.ref 49,.ref 24,.type "ValueError",.type "Exception",.type "BaseException",.type "object"],ns:=48,qualname:=(Str.ofString "BadStrength"),hasDict:=true,slotNames:=[],subclasses:=[],abstract:=false,collection:=none,hasDel:=false },#[some (.ref 40),none,some (gS "BadStrength" 223),some (gS "BadStrength" 231),some (.builtin "ValueError.__new__"),some (.bool true)]⟩
abbrev yo (P:PySem.Params):PySem.Obj:=⟨.type "dict",none,.dict #[gE P "__module__" 271 (gS "pairtests.errors" 187),gE P "__firstlineno__" 275 (.int 13 274),gE P "__static_attributes__" 276 (.ref 78),gE P "__doc__" 277 .none] 2,#[]⟩
abbrev yv:PySem.Obj:=⟨.type "type",none,.cls { name:=(Str.ofString "BadResults"),bases:=[.ref 24],mro:=[.ref 80,.ref 24,.type "ValueError",.type "Exception",.type "BaseException",.type "object"],ns:=79,qualname:=(Str.ofString "BadResults"),hasDict:=true,slotNames:=[],subclasses:=[],abstract:=false,collection:=none,hasDel:=false },#[some (.ref 71),none,some (gS "BadResults" 264),some (gS "BadResults" 272),some (.builtin "ValueError.__new__"),some (.bool true)]⟩
def heap (P:Params):zd:=[(3,⟨.type "dict",none,.dict #[gE P "__name__" 165 (gS "law_pairtests_k14_suspects" 546),gE P "__doc__" 166 .none,gE P "__package__" 167 .none,gE P "__loader__" 168 (.builtin "__main__.__loader__#opaque"),gE P "__spec__" 169 .none,gE P "__annotations__" 170 (.ref 6),gE P "__builtins__" 171 (.ref 4),gE P "__file__" 173 (gS "/claim/cut.py" 172),gE P "__cached__" 174 .none,gE P "TestError" 206 (.ref 24),gE P "BadBook" 222 (.ref 37),gE P "BadStrength" 238 (.ref 49),gE P "BadTests" 263 (.ref 68),gE P "BadResults" 279 (.ref 80),gE P "MOST_THINGS" 283 (.int 6 282),gE P "MOST_SETTINGS" 285 (.int 4 284),gE P "MOST_ROWS" 287 (.int 400 286),gE P "MOST_BANS" 289 (.int 12 288),gE P "MOST_IN_MEETING" 291 (.int 3 290),gE P "is_whole" 300 (.ref 89),gE P "is_tuple" 309 (.ref 96),gE P "are_levels" 318 (.ref 103),gE P "is_setting" 326 (.ref 110),gE P "is_meeting" 336 (.ref 117),gE P "is_book" 342 (.ref 122),gE P "checked" 349 (.ref 129),gE P "meets" 355 (.ref 134),gE P "meets_any" 361 (.ref 139),gE P "all_rows" 367 (.ref 144),gE P "all_tests" 373 (.ref 149),gE P "is_row" 379 (.ref 154),gE P "is_test" 387 (.ref 161),gE P "check_list" 397 (.ref 168),gE P "check_tests" 406 (.ref 175),gE P "most_strength" 415 (.ref 182),gE P "check_book_and_strength" 423 (.ref 189),gE P "is_behind" 431 (.ref 196),gE P "meetings_among" 437 (.ref 201),gE P "meetings_of" 445 (.ref 208),gE P "met_by" 456 (.ref 215),gE P "possible" 464 (.ref 222),gE P "check_all" 475 (.ref 229),gE P "places_by_meeting" 487 (.ref 236),gE P "are_results" 495 (.ref 241),gE P "suspects" 501 (.ref 246),gE P "next_place" 514 (.ref 253),gE P "next_test" 527 (.ref 260),gE P "lists_by_results" 539 (.ref 267),gE P "blurred" 545 (.ref 272),gE P "_law_cell" 555 (.ref 279),gE P "_law_mix" 564 (.ref 286),gE P "_law_book" 570 (.ref 291),gE P "_law_rows" 576 (.ref 296),gE P "_law_meets" 582 (.ref 301),gE P "_law_tests" 588 (.ref 306),gE P "_law_meetings" 594 (.ref 311),gE P "_law_possible" 600 (.ref 316),gE P "_law_drawn" 613 (.ref 323),gE P "_law_strength" 621 (.ref 330),gE P "_law_told" 633 (.ref 337),gE P "law" 639 (.ref 342)] 61,#[]⟩),(23,(ye P)),(24,yi),(36,(yk P)),(37,yl),(48,(ym P)),(49,yn),(79,(yo P)),(80,yv),(88,kC 12 292 83 3),(89,CN),(95,kC 13 301 90 3),(96,Dw),(102,kC 14 310 97 3),(103,xT),(109,kC 15 319 104 2),(110,yr),(116,kC 16 327 111 4),(117,yS),(121,kD 17 337 118),(122,Gu),(128,kC 18 343 123 1),(129,GC),(133,kD 19 350 130),(134,Oa),(138,kD 20 356 135),(139,Bb),(143,kD 21 362 140),(144,Cy),(148,kD 22 368 145),(149,Bg),(153,kD 23 374 150),(154,K5),(160,kC 24 380 155 2),(161,GK),(167,kC 25 388 162 4),(168,yE),(174,kC 26 398 169 3),(175,xO),(181,kC 28 409 176 1),(182,tU),(188,kC 29 416 183 2),(189,jG),(195,kC 30 424 190 2),(196,Bd),(200,kD 31 432 197),(201,sY),(207,kC 32 438 202 2),(208,xM),(214,kC 33 446 209 5),(215,Jy),(221,kC 34 457 216 2),(222,Eb),(228,kC 36 467 223 3),(229,Bh),(235,kC 37 476 230 6),(236,mZ),(240,kD 39 490 237),(241,xJ),(245,kD 40 496 242),(246,Ea),(259,kC 42 515 254 7),(260,Aq),(266,kC 43 528 261 6),(267,oN),(271,kD 44 540 268),(272,FT),(278,kC 46 548 273 2),(279,Bf),(285,kC 47 556 280 3),(286,CK),(290,kD 48 565 287),(291,Av),(295,kD 49 571 292),(296,Ao),(300,kD 50 577 297),(301,yq),(305,kD 51 583 302),(306,yu),(310,kD 52 589 307),(311,tO),(315,kD 53 595 312),(316,ux),(322,kC 54 601 317 7),(323,xX),(329,kC 55 614 324 2),(330,tH),(336,kC 56 622 331 6),(337,Ax),(341,kD 57 634 338),(342,o_law)]
noncomputable def adf:List Addr:=[3,23,24,36,37,48,49,79,80,88,89,95,96,102,103,109,110,116,117,121,122,128,129,133,134,138,139,143,144,148,149,153,154,160,161,167,168,174,175,181,182,188,189,195,196,200,201,207,208,214,215,221,222,228,229,235,236,240,241,245,246,259,260,266,267,271,272,278,279,285,286,290,291,295,296,300,301,305,306,310,311,315,316,322,323,329,330,336,337,341,342]
def hook:PySem.W.Hook:=PySem.W.kHook heap adf (fun _=>rfl)
noncomputable abbrev e0:Obj:=Hs.gT []
noncomputable abbrev o0:Obj:=Hs.gO
abbrev kQ (i:Nat):=Hs.gQ (top i)
abbrev kW (i:Nat) (m:Value) (a:Nat):=Hs.gW (top i) m a
abbrev pw:Program:=PySem.Challenge.pw_pairtests_k14_suspects
abbrev m0:Value:=(gS "__main__" 164)
abbrev m1:Value:=(gS "pairtests.errors" 187)
abbrev m2:Value:=(gS "pairtests.books" 280)
abbrev m3:Value:=(gS "pairtests.meetings" 407)
abbrev m4:Value:=(gS "pairtests.covers" 465)
abbrev m5:Value:=(gS "pairtests.faults" 488)
abbrev m6:Value:=(gS "law_pairtests_k14_suspects" 546)
noncomputable def h13:Obj:=Hs.gK "<module>" "<module>" 182 1 0 0 false 181 11 .none .none .none 185
noncomputable def env:Env:={ scope:=pw.main.scope,locals:=mainNs,globals:=mainNs,cells:=[],code:=(.ref 13),frame:=some 14 }
abbrev bc:Code:=.body (PySem.W.behindTheImports pw) env
abbrev B0:List Frame:=[PySem.W.topFrame ⟨0,0,0,0⟩]
def t0 (P:Params):PySem.W.BT:=(.node (PySem.W.boot_o_0 P) (.node (PySem.W.boot_o_1 P) (.node (PySem.W.boot_o_3 P) (.node (PySem.W.boot_o_7 P) .nil .nil) (.node e0 .nil .nil)) (.node (PySem.W.boot_o_5 P) (.node (PySem.W.boot_o_9 P) .nil .nil) (.node h13 .nil .nil))) (.node (PySem.W.boot_o_2 P) (.node (PySem.W.boot_o_4 P) (.node (PySem.W.boot_o_8 P) .nil .nil) (.node o0 .nil .nil)) (.node (PySem.W.boot_o_6 P) (.node (PySem.W.boot_o_10 P) .nil .nil) (.node (Hs.gI 13 3 m0) .nil .nil))))
abbrev s0 (w:World) (os:OsState):PySem.W.SharedT:=⟨t0 w.params,15,{},#[],{},187,os⟩
abbrev yA:=@PySem.W.BT.node
abbrev yz (o) (l):=yA o l .nil
abbrev yy (o):=yz o .nil
def t1 (P:Params):PySem.W.BT:=(yA (PySem.W.boot_o_0 P) (yA (PySem.W.boot_o_1 P) (yA (⟨.type "dict",none,.dict #[gE P "__name__" 165 (gS "law_pairtests_k14_suspects" 546),gE P "__doc__" 166 .none,gE P "__package__" 167 .none,gE P "__loader__" 168 (.builtin "__main__.__loader__#opaque"),gE P "__spec__" 169 .none,gE P "__annotations__" 170 (.ref 6),gE P "__builtins__" 171 (.ref 4),gE P "__file__" 173 (gS "/claim/cut.py" 172),gE P "__cached__" 174 .none,gE P "TestError" 206 (.ref 24),gE P "BadBook" 222 (.ref 37),gE P "BadStrength" 238 (.ref 49),gE P "BadTests" 263 (.ref 68),gE P "BadResults" 279 (.ref 80),gE P "MOST_THINGS" 283 (.int 6 282),gE P "MOST_SETTINGS" 285 (.int 4 284),gE P "MOST_ROWS" 287 (.int 400 286),gE P "MOST_BANS" 289 (.int 12 288),gE P "MOST_IN_MEETING" 291 (.int 3 290),gE P "is_whole" 300 (.ref 89),gE P "is_tuple" 309 (.ref 96),gE P "are_levels" 318 (.ref 103),gE P "is_setting" 326 (.ref 110),gE P "is_meeting" 336 (.ref 117),gE P "is_book" 342 (.ref 122),gE P "checked" 349 (.ref 129),gE P "meets" 355 (.ref 134),gE P "meets_any" 361 (.ref 139),gE P "all_rows" 367 (.ref 144),gE P "all_tests" 373 (.ref 149),gE P "is_row" 379 (.ref 154),gE P "is_test" 387 (.ref 161),gE P "check_list" 397 (.ref 168),gE P "check_tests" 406 (.ref 175),gE P "most_strength" 415 (.ref 182),gE P "check_book_and_strength" 423 (.ref 189),gE P "is_behind" 431 (.ref 196),gE P "meetings_among" 437 (.ref 201),gE P "meetings_of" 445 (.ref 208),gE P "met_by" 456 (.ref 215),gE P "possible" 464 (.ref 222),gE P "check_all" 475 (.ref 229),gE P "places_by_meeting" 487 (.ref 236),gE P "are_results" 495 (.ref 241),gE P "suspects" 501 (.ref 246),gE P "next_place" 514 (.ref 253),gE P "next_test" 527 (.ref 260),gE P "lists_by_results" 539 (.ref 267),gE P "blurred" 545 (.ref 272),gE P "_law_cell" 555 (.ref 279),gE P "_law_mix" 564 (.ref 286),gE P "_law_book" 570 (.ref 291),gE P "_law_rows" 576 (.ref 296),gE P "_law_meets" 582 (.ref 301),gE P "_law_tests" 588 (.ref 306),gE P "_law_meetings" 594 (.ref 311),gE P "_law_possible" 600 (.ref 316),gE P "_law_drawn" 613 (.ref 323)] 58,#[]⟩) (yA (PySem.W.boot_o_7 P) (yA (Hs.gT [(.type "ValueError")]) (yA e0 (yA (Hs.gR (Hs.inn 0 (top 4)) "__init__" "BadTests.__init__") (yz (kQ 18) (yy o0)) (yz o0 (yy (Hs.gV 604 ["_law_script","_law_at","_law_book_here","_law_most","_law_tests_here","_law_found","_law_k"])))) (yA (kC 13 301 90 3) (yz (kQ 24) (yy e0)) (yy e0))) (yA e0 (yA (yo P) (yz (kD 21 362 140) (yy (kD 44 540 268))) (yy (kC 32 438 202 2))) (yA e0 (yz (kW 26 m2 174) (yy o0)) (yy (kQ 39))))) (yA (ye P) (yA (Hs.gM "object.__init_subclass__" (.ref 37)) (yA (Hs.gT [(.ref 24)]) (yz e0 (yy (Hs.gV 531 ["book","strength","tests","places","lists","meeting"]))) (yy (kQ 31))) (yA (kW 14 m2 102) (yz (kC 25 388 162 4) (yy (kD 49 571 292))) (yy o0))) (yA e0 (yA (kQ 12) (yz o0 (yy (kW 46 m6 278))) (yy (kW 33 m3 214))) (yA o0 (yz e0 (yy (kW 52 m6 310))) (yy e0))))) (yA e0 (yA o0 (yA e0 (yA (⟨.type "dict",none,.dict #[gE P "__module__" 246 (gS "pairtests.errors" 187),gE P "__firstlineno__" 250 (.int 8 249),gE P "__init__" 258 (.ref 65),gE P "__static_attributes__" 260 (.ref 66),gE P "__doc__" 261 .none] 2,#[]⟩) (yz o0 (yy (kC 42 515 254 7))) (yz (kC 30 424 190 2) (yy (kW 54 m6 322)))) (yA (Hs.gV 313 ["thing","rows","level"]) (yz o0 (yy (kW 48 m6 290))) (yy (kQ 36)))) (yA (Hs.gM "object.__init_subclass__" (.ref 49)) (yA e0 (yz (kQ 22) (yy (Hs.gV 551 ["_law_script","_law_k"]))) (yy (Hs.gV 449 ["tests","strength","met","test","meeting"]))) (yA (kQ 16) (yz e0 (yy e0)) (yy o0)))) (yA (Hs.gM "object.__init_subclass__" (.ref 24)) (yA e0 (yA o0 (yz (kW 20 m2 138) (yy (kW 43 m5 266))) (yy o0)) (yA e0 (yz (Hs.gV 401 ["book","tests"]) (yy (kQ 50))) (yy (kC 37 476 230 6)))) (yA e0 (yA o0 (yz e0 (yy e0)) (yy e0)) (yA e0 (yz (kQ 29) (yy (kD 53 595 312))) (yy (kQ 41))))))) (yA (PySem.W.boot_o_5 P) (yA (PySem.W.boot_o_9 P) (yA (⟨.type "dict",none,.dict #[gE P "__module__" 196 (gS "pairtests.errors" 187),gE P "__qualname__" 198 (gS "TestError" 197),gE P "__firstlineno__" 200 (.int 2 199),gE P "__static_attributes__" 201 (.ref 22)] 4,#[]⟩) (yA (Hs.gK "BadBook" "BadBook" 209 4 0 0 false 181 31 .none .none .none 212) (yA (Hs.gG (Hs.inn 0 (top 4)) "__init__" "BadTests.__init__" (gS "pairtests.errors" 187) (.ref 64)) (yz (kW 18 m2 128) (yy e0)) (yz e0 (yy (kQ 54)))) (yA e0 (yz (kW 24 m2 160) (yy (kQ 48))) (yy (Hs.gV 470 ["book","strength","tests"])))) (yA yn (yA (Hs.gU 80) (yz e0 (yy e0)) (yy e0)) (yA (Hs.gV 330 ["levels","thing","behind","pair"]) (yz o0 (yy (kD 51 583 302))) (yy (kW 39 m5 240))))) (yA (⟨.type "getset_descriptor",none,.fields #[(gS "__weakref__" 202),(.ref 24),(.builtin "ExceptionGroup.__weakref__"),.none],#[]⟩) (yA (Hs.gM "type.__prepare__" (.type "type")) (yA (⟨.type "dict",none,.dict #[gE P "__module__" 271 (gS "pairtests.errors" 187),gE P "__qualname__" 273 (gS "BadResults" 272),gE P "__firstlineno__" 275 (.int 13 274),gE P "__static_attributes__" 276 (.ref 78)] 4,#[]⟩) (yz (kQ 20) (yy (kQ 43))) (yy (kW 31 m3 200))) (yA o0 (yz e0 (yy e0)) (yy e0))) (yA (Hs.gK "BadTests" "BadTests" 241 8 0 0 false 181 55 .none .none .none 244) (yA (kW 12 m2 88) (yz (kD 23 374 150) (yy o0)) (yy o0)) (yA (kD 17 337 118) (yz (Hs.gV 419 ["book","strength"]) (yy o0)) (yy (Hs.gV 505 ["meetings","places","meeting","place","found"])))))) (yA h13 (yA (Hs.gI 20 17 m1) (yA yl (yA (Hs.gU 68) (yz (kD 19 350 130) (yy e0)) (yy e0)) (yA (kQ 14) (yz e0 (yy o0)) (yy (kW 36 m4 228)))) (yA (Hs.gM "type.__prepare__" (.type "type")) (yA (Hs.gV 295 ["thing","least","most"]) (yz (kW 22 m2 148) (yy (kQ 46))) (yy (kQ 33))) (yA (kW 16 m2 116) (yz (kC 28 409 176 1) (yy (kQ 52))) (yy (kD 40 496 242))))) (yA (Hs.gM "type.__prepare__" (.type "type")) (yA (Hs.gK "BadStrength" "BadStrength" 225 6 0 0 false 181 43 .none .none .none 228) (yA (Hs.gI 76 73 m1) (yz o0 (yy o0)) (yy e0)) (yA (kC 15 319 104 2) (yz (kQ 26) (yy (kW 50 m6 300))) (yy e0))) (yA (Hs.gV 254 ["self","at"]) (yA e0 (yz (Hs.gV 383 ["book","thing"]) (yy (kC 47 556 280 3))) (yy (kC 34 457 216 2))) (yA (Hs.gV 346 ["book"]) (yz (kW 29 m3 188) (yy e0)) (yy (kW 41 m5 252)))))))) (yA (PySem.W.boot_o_2 P) (yA (PySem.W.boot_o_4 P) (yA (PySem.W.boot_o_8 P) (yA (Hs.gM "type.__prepare__" (.type "type")) (yA o0 (yA (Hs.gK "__init__" "BadTests.__init__" 251 10 2 3 true 181 59 (.ref 61) (.ref 62) (.ref 63) 256) (yz (kC 18 343 123 1) (yy (Hs.gV 518 ["book","strength","tests","results","meetings","every","place"]))) (yz (Hs.gV 427 ["pair","meeting"]) (yy e0))) (yA (kW 13 m2 95) (yz (kC 24 380 155 2) (yy o0)) (yy o0))) (yA (ym P) (yA yv (yz (kW 21 m2 143) (yy (kW 44 m5 271))) (yy (kW 32 m3 207))) (yA o0 (yz e0 (yy (kQ 51))) (yy (kD 39 490 237))))) (yA yi (yA (Hs.gT [(.ref 24)]) (yA (Hs.gM "type.__prepare__" (.type "type")) (yz o0 (yy e0)) (yy (kD 31 432 197))) (yA e0 (yz (kW 25 m2 167) (yy (kW 49 m6 295))) (yy (Hs.gV 479 ["tests","strength","places","place","test","meeting"])))) (yA (Hs.gY [(.int 10 0),(.int 4 0),(.ref 64)]) (yA (kC 12 292 83 3) (yz (kQ 23) (yy e0)) (yy e0)) (yA (kQ 17) (yz o0 (yy e0)) (yy o0))))) (yA (Hs.gZ [(2,20),(4,33),(6,45),(8,57),(13,76),(21,88),(23,95),(25,102),(34,109),(38,116),(47,121),(51,128),(55,133),(57,138),(59,143),(67,148),(70,153),(74,160),(76,167),(82,174),(85,181),(87,188),(91,195),(93,200),(101,207),(103,214),(109,221),(113,228),(116,235),(123,240),(127,245),(134,252),(143,259),(148,266),(154,271),(158,278),(162,285),(164,290),(181,295),(189,300),(191,305),(197,310),(207,315),(214,322)]) (yA (Hs.gK "TestError" "TestError" 191 2 0 0 false 181 18 .none .none .none 194) (yA (yk P) (yA (⟨.type "type",none,.cls { name:=(Str.ofString "BadTests"),bases:=[(.ref 24)],mro:=[(.ref 68),(.ref 24),(.type "ValueError"),(.type "Exception"),(.type "BaseException"),(.type "object")],ns:=67,qualname:=(Str.ofString "BadTests"),hasDict:=true,slotNames:=[],subclasses:=[],abstract:=false,collection:=none,hasDel:=false },#[some (.ref 52),none,some (gS "BadTests" 239),some (gS "BadTests" 247),some (.builtin "ValueError.__new__"),some (.bool true)]⟩) (yz (kQ 19) (yy (kW 42 m5 259))) (yy (kW 30 m3 195))) (yA e0 (yz (Hs.gV 391 ["things","is_right","place","thing"]) (yy e0)) (yy (kC 36 467 223 3)))) (yA (Hs.gT [(.ref 24)]) (yA o0 (yz (kD 22 368 145) (yy e0)) (yy e0)) (yA (kC 16 327 111 4) (yz (kQ 28) (yy o0)) (yy (kQ 40))))) (yA (Hs.gT [(.ref 24)]) (yA o0 (yA (Hs.gK "BadResults" "BadResults" 266 13 0 0 false 181 74 .none .none .none 269) (yz e0 (yy e0)) (yy (Hs.gV 441 ["test","strength"]))) (yA (kQ 15) (yz (Hs.gV 403 ["book"]) (yy (kD 50 577 297))) (yy (kW 37 m4 235)))) (yA o0 (yA (Hs.gV 304 ["thing","least","most"]) (yz o0 (yy (kQ 47))) (yy (kQ 34))) (yA o0 (yz (kC 29 416 183 2) (yy (kW 53 m6 315))) (yy (kC 41 502 247 7))))))) (yA (PySem.W.boot_o_6 P) (yA (PySem.W.boot_o_10 P) (yA e0 (yA (Hs.gI 33 30 m1) (yA (Hs.gV 259 ["at"]) (yz e0 (yy (kQ 42))) (yz (kQ 30) (yy (kC 54 601 317 7)))) (yA o0 (yz e0 (yy (kD 48 565 287))) (yy e0))) (yA (Hs.gU 49) (yA (Hs.gM "object.__init_subclass__" (.ref 80)) (yz o0 (yy o0)) (yy o0)) (yA e0 (yz (Hs.gV 412 ["book"]) (yy (kW 51 m6 305))) (yy e0)))) (yA (Hs.gU 24) (yA (⟨.type "dict",none,.dict #[gE P "__module__" 230 (gS "pairtests.errors" 187),gE P "__qualname__" 232 (gS "BadStrength" 231),gE P "__firstlineno__" 234 (.int 6 233),gE P "__static_attributes__" 235 (.ref 47)] 4,#[]⟩) (yA e0 (yz (kD 20 356 135) (yy (kC 43 528 261 6))) (yy e0)) (yA (Hs.gV 322 ["levels","thing"]) (yz o0 (yy o0)) (yy (kQ 37)))) (yA (Hs.gI 57 54 m1) (yA e0 (yz (kW 23 m2 153) (yy (Hs.gV 559 ["_law_cell_here","_law_prime","_law_many"]))) (yy (Hs.gV 460 ["book","strength"]))) (yA (kW 17 m2 121) (yz e0 (yy (kQ 53))) (yy (Hs.gV 510 ["meetings","many"])))))) (yA (Hs.gI 13 3 m0) (yA e0 (yA (Hs.gU 37) (yA (Hs.gM "object.__init_subclass__" (.ref 68)) (yz (kW 19 m2 133) (yy o0)) (yy o0)) (yA (kC 14 310 97 3) (yz (kQ 25) (yy (kQ 49))) (yy e0))) (yA (⟨.type "dict",none,.dict #[gE P "__module__" 246 (gS "pairtests.errors" 187),gE P "__qualname__" 248 (gS "BadTests" 247),gE P "__firstlineno__" 250 (.int 8 249),gE P "__init__" 258 (.ref 65),gE P "__static_attributes__" 260 (.ref 66)] 5,#[]⟩) (yA e0 (yz e0 (yy (kC 46 548 273 2))) (yy (kC 33 446 209 5))) (yA e0 (yz (kW 28 m3 181) (yy (kD 52 589 307))) (yy (kW 40 m5 245))))) (yA (⟨.type "dict",none,.dict #[gE P "__module__" 214 (gS "pairtests.errors" 187),gE P "__qualname__" 216 (gS "BadBook" 215),gE P "__firstlineno__" 218 (.int 4 217),gE P "__static_attributes__" 219 (.ref 35)] 4,#[]⟩) (yA (Hs.gI 45 42 m1) (yA e0 (yz (kQ 21) (yy (kQ 44))) (yy (kQ 32))) (yA (kW 15 m2 109) (yz (kC 26 398 169 3) (yy e0)) (yy o0))) (yA e0 (yA (kQ 13) (yz e0 (yy (kW 47 m6 285))) (yy (kW 34 m3 221))) (yA e0 (yz e0 (yy o0)) (yy e0))))))))
abbrev s1 (w:World) (os:OsState):PySem.W.SharedT:=⟨t1 w.params,324,{},#[],{},614,os⟩
def l1:zn:=[top 0,top 1,top 2,top 3,top 4,top 5,top 6,top 7,top 8,top 9,top 10,top 11,top 12,top 13,top 14,top 15,top 16,top 17,top 18,top 19,top 20,top 21,top 22,top 23,top 24,top 25,top 26,top 27,top 28,top 29,top 30,top 31,top 32,top 33,top 34,top 35,top 36,top 37,top 38,top 39,top 40,top 41,top 42,top 43,top 44,top 45,top 46,top 47,top 48,top 49,top 50,top 51,top 52,top 53,top 54]
def l2:zn:=[top 55,top 56,top 57]
theorem split:PySem.W.behindTheImports pw=l1++(l2):=by kernel_rfl
theorem pre (w:World) (os:OsState):PySem.W.topGo PySem.treeTable pw w 11 (some (.ref 6)) 12 ⟨PySem.W.boot_heap w.params,#[],PySem.W.boot_drawn,PySem.W.boot_toks,os⟩ (PySem.W.topStub pw)=some ((s0 w os).abs,⟨denote PySem.treeTable bc,bc,⟨0,0,0,0⟩,B0⟩):=by kernel_rfl
theorem blk (w:World) (os:OsState):PySem.W.segRun PySem.treeTable pw w 11 (some (.ref 6)) 1 1 (s0 w os).abs (PySem.W.blockOf (PySem.W.behindTheImports pw) env bc ⟨0,0,0,0⟩ B0)=some (.next,(s0 w os).abs,bc,⟨0,0,0,0⟩):=by kernel_rfl
theorem c1 (w:World) (os:OsState):PySem.W.segRunT PySem.treeTable pw w 11 (some (.ref 6)) 1 2310 (s0 w os) (PySem.W.piecesOf l1 env bc ⟨0,0,0,0⟩ B0)=some (.next,s1 w os,bc,⟨214,0,220,21⟩):=by kernel_rfl
def lk (w:World) (s:Shared):=(PySem.W.staticsOk (PySem.importedModules pw.main.body) (PySem.W.boot_heap w.params) s.heap && PySem.W.namesBound pw s.heap && PySem.W.gensDone s && PySem.W.laidKept (PySem.W.boot_heap w.params) s.heap,PySem.W.openSeen view [] (PySem.importedModules pw.main.body) (fun s=>PySem.W.xlAt E14.view [] s && PySem.W.recOk (PySem.W.RowW.records (PySem.W.OpenRow.toRowW PySem.Challenge.rw_pairtests_k14_suspects.row)) s) true s,PySem.W.Hook.obs hook s)
theorem last (w:World) (os:OsState):(PySem.W.topRun PySem.treeTable pw w 11 (some (.ref 6)) 92 (s1 w os).abs (PySem.W.restOf l2 env bc ⟨214,0,220,21⟩ B0)).map (lk w)=some (true,PySem.W.openGood view [],PySem.W.Hook.val hook w):=by kernel_rfl
theorem run (w:World) (os:OsState) (r:Shared) (h:PySem.W.topRun PySem.treeTable pw w 11 (some (.ref 6)) 92 (s1 w os).abs (PySem.W.restOf l2 env bc ⟨214,0,220,21⟩ B0)=some r):PySem.W.topRun PySem.treeTable pw w 11 (some (.ref 6)) (12+(1+(2310+(92)))) ⟨PySem.W.boot_heap w.params,#[],PySem.W.boot_drawn,PySem.W.boot_toks,os⟩ (PySem.W.topStub pw)=some r:=PySem.W.go_top (pre w os) (PySem.W.piece_block (blk w os) (split ▸ PySem.W.piece_app (PySem.W.segRun_of (c1 w os)) (h)))
theorem left:PySem.W.LeftO PySem.Challenge.pw_pairtests_k14_suspects view [] (fun s=>PySem.W.xlAt E14.view [] s && PySem.W.recOk (PySem.W.RowW.records (PySem.W.OpenRow.toRowW PySem.Challenge.rw_pairtests_k14_suspects.row)) s) (PySem.W.Hook.obs hook) (PySem.W.Hook.val hook) 4924:=Hs.WW (PySem.W.boot_open (by kernel_rfl) (by decide) (fun _=>rfl)) (fun w=>by kernel_rfl) run (by decide) last
end E14
set_option genInjectivity false
set_option genSizeOfSpec false
namespace L2
open PySem PySem.Spec PyProof.Rows
noncomputable abbrev Key:=Sum Int Str
noncomputable def XJ:Key->Value->Bool
 | .inl k,v=>Value.isInt k v
 | .inr x,v=>Value.isStrOf x v
noncomputable def ac9 (w:World):Key->Int
 | .inl k=>hashInt k
 | .inr x=>hashStr w x
theorem fK:∀ {k:Key}{v:Value},XJ k v=true->(∃ i t,k=Sum.inl i/\v=Value.int i t)\/(∃ x t,k=Sum.inr x/\v=Value.str x t)
 | .inl i,v,h=>by
  obtain ⟨t,e⟩:=Value.isInt_shape (k:=i) (v:=v) h;exact .inl ⟨i,t,rfl,e⟩
 | .inr x,v,h=>by
  obtain ⟨t,e⟩:=Value.isStrOf_shape (x:=x) (v:=v) h;exact .inr ⟨x,t,rfl,e⟩
def abz (a b:Int):decide ((Sum.inl a:Key)=Sum.inl b)=(a == b):=by
 by_cases e:a=b
 .subst e;simp
 .have h:¬ (Sum.inl a:Key)=Sum.inl b:=fun q=>e (Sum.inl.inj q)
  rw [decide_eq_false h];exact (beq_eq_false_iff_ne.mpr e).symm
def aaG (a b:Str):decide ((Sum.inr a:Key)=Sum.inr b)=decide (a=b):=by
 by_cases e:a=b
 .subst e;simp
 .have h:¬ (Sum.inr a:Key)=Sum.inr b:=fun q=>e (Sum.inr.inj q)
  rw [decide_eq_false h,decide_eq_false e]
theorem aaq (a:Int) (b:Str):decide ((Sum.inl a:Key)=Sum.inr b)=false:=v4 (fun q=>nomatch q)
theorem abp (a:Str) (b:Int):decide ((Sum.inr a:Key)=Sum.inl b)=false:=v4 (fun q=>nomatch q)
def Fj (prog:Program) (w:World):PySem.KeyKind prog w Key where
 is:=XJ
 hash:=ac9 w
 inj:=fun v a b ha hb=>by
  rcases fK ha with ⟨i,t,rfl,rfl⟩ | ⟨x,t,rfl,rfl⟩
  .rcases fK hb with ⟨j,u,rfl,e⟩ | ⟨y,u,rfl,e⟩
   .injection e with e1 _;rw [e1]
   .exact nomatch e
  .rcases fK hb with ⟨j,u,rfl,e⟩ | ⟨y,u,rfl,e⟩
   .exact nomatch e
   .injection e with e1 _;rw [e1]
 byValue:=fun k v h=>by
  rcases fK h with ⟨i,t,rfl,rfl⟩ | ⟨x,t,rfl,rfl⟩ <;> rfl
 pyHash:=fun hv h=>by
  rcases fK hv with ⟨i,t,rfl,rfl⟩ | ⟨x,t,rfl,rfl⟩
  .exact wpAny_pyHash_int h
  .exact wpAny_pyHash_str h
 eqBool:=fun hu hv h=>by
  rcases fK hu with ⟨i,t,rfl,rfl⟩ | ⟨x,t,rfl,rfl⟩
  .rcases fK hv with ⟨j,u,rfl,rfl⟩ | ⟨y,u,rfl,rfl⟩
   .rw [abz] at h;exact wpAny_eqBool_int h
   .rw [aaq] at h;exact SeqAt.EqAt.int_str i t y u _ _ _ _ h
  .rcases fK hv with ⟨j,u,rfl,rfl⟩ | ⟨y,u,rfl,rfl⟩
   .rw [abp] at h;exact SeqAt.EqAt.str_int x t j u _ _ _ _ h
   .rw [aaG] at h;exact wpAny_eqBool_str h
 «strs»:=fun k x t v h=>by
  rcases fK h with ⟨i,u,rfl,e⟩ | ⟨y,u,rfl,e⟩
  .exact nomatch e
  .injection e with e1 _;subst e1;cases v <;> rfl
inductive V where
 | non | bl (b:Bool) | int (i:Int) | str (x:Str) | byt (b:Array UInt8) | flt (b:UInt64) | ref (a:Addr) | ty (n:String)
 deriving DecidableEq
def RelV:V->Value->Prop
 | .non,u=>u=Value.none
 | .bl b,u=>u=Value.bool b
 | .int i,u=>∃ t,u=Value.int i t
 | .str x,u=>∃ t,u=Value.str x t
 | .byt b,u=>∃ t,u=Value.bytes b t
 | .flt b,u=>∃ t,u=Value.float b t
 | .ref a,u=>u=Value.ref a
 | .ty n,u=>u=Value.type n
abbrev Vals:List V->zg->Prop:=Paired RelV
variable {xs:List V}{us:zg}
theorem Vals.length (r:Vals xs us):xs.length=us.length:=Paired.length r
theorem Vals.get:∀ {xs:List V}{us:zg}{i:Nat}{x:V},Vals xs us->xs[i]?=some x->∃ u,us[i]?=some u/\RelV x u
 | _,_,_,_,.nil,e=>by simp at e
 | _,_,0,_,.cons r _,e=>by simp at e;subst e;exact ⟨_,rfl,r⟩
 | _,_,i+1,x,.cons _ t,e=>by
  obtain ⟨u,h1,h2⟩:=Vals.get (i:=i) (x:=x) t (by simpa using e);exact ⟨u,by simpa using h1,h2⟩
theorem Vals.append:∀ {xs ys:List V}{us ws:zg},Vals xs us->Vals ys ws->Vals (xs++ys) (us++ws)
 | _,_,_,_,.nil,s=>s
 | _,_,_,_,.cons r t,s=>.cons r (Vals.append t s)
theorem Vals.take:∀ {xs:List V}{us:zg} (n:Nat),Vals xs us->Vals (xs.take n) (us.take n)
 | _,_,0,_=>.nil
 | _,_,_+1,.nil=>.nil
 | _,_,n+1,.cons r t=>.cons r (Vals.take n t)
theorem Vals.drop:∀ {xs:List V}{us:zg} (n:Nat),Vals xs us->Vals (xs.drop n) (us.drop n)
 | _,_,0,r=>r
 | _,_,_+1,.nil=>.nil
 | _,_,n+1,.cons _ t=>Vals.drop n t
def Xo:Option V->Option Value->Prop
 | some v,some u=>RelV v u
 | none,none=>True
 | _,_=>False
def KV {κ:Type}:List (κ × V)->List (κ × Value)->Prop:=Paired fun (p:κ × V) (q:κ × Value)=>p.1=q.1/\RelV p.2 q.2
noncomputable def kV:Key->V
 | .inl i=>.int i
 | .inr x=>.str x
inductive HO where
 /-- a list -/
 | lst (xs:List V)
 /-- a tuple (never changes) -/
 | tup (xs:List V)
 /-- a dict whose keys are ints and texts;one whose keys are tuples of ints and texts (the empty one is both) -/
 | dK (kvs:List (Key × V)) | dT (kvs:List (List Key × V))
 /-- a set of ints: its members,its size -/
 | set (S:Int->Bool) (n:Nat)
 /-- an instance of the class at C,its dict at dx,its attributes -/
 | ins (C dx:Addr) (fs:List (Str × V))
 /-- the dict of the instance at x -/
 | own (x:Addr)
 /-- the dict of an exception -/
 | xd (fs:List (Str × V))
 /-- a bound method,f of x -/
 | met (f x:Addr)
 /-- a range object lo,lo+1,.. below hi -/
 | rng (lo hi:Int)
 /-- a thing that is known to the object (the script;a dict while a loop walks it): read,never written while it is so -/
 | frz (o:Obj) (u:HO)
 /-- a code object's table -/
 | tbl (ps:zt)
 /-- any other thing,by what is true of its one object (a def of one's own: SetO a S n:=HO.ext fun h=>..) -/
 | ext (φ:Heap->Prop)
abbrev Hp:=Addr->Option HO
noncomputable def upd (H:Hp) (a:Addr) (o:HO):Hp:=fun b=>if b=a then some o else H b
variable {H:Hp}{a:Addr}{o:HO}
def aA :upd H a o a=some o:=by unfold upd;rw [if_pos rfl]
variable {b:Addr}
def ao (h:b≠a):upd H a o b=H b:=by unfold upd;rw [if_neg h]
theorem Eh {u:HO}:upd (upd H a o) a u=upd H a u:=by
 funext b;unfold upd;split <;> rfl
def QL {u:HO} (h:H a=some o) (h':H b=some u) (d:o≠u):a≠b:=by
 intro e;subst e;rw [h] at h';exact d (jr h')
def ak (h:H a=some o) (h':H b=none):a≠b:=by
 intro e;subst e;rw [h] at h';cases h'
def Pn (o:Obj):Prop:=∀ vs,o.data=.fields vs->o.cls≠.none
noncomputable def fM:Str:=Str.ofString "check_tests.<locals>.<lambda>"
def lamO (o:Obj):Prop:=∃ vs t,o.data=.fields vs/\vs[1]?=some (.str fM t)
section
variable (P:Program) (w:World)
def cj (H:Hp) (h:Heap) (a:Addr):HO->Prop
 | .lst xs=>xs.length <= sizeLine /\ ∃ (its:zg) (n:Nat),Vals xs its /\ h.get? a=some { cls:=.type "list",data:=.seq its.toArray n }
 | .tup xs=>xs.length<=sizeLine/\∃ its:zg,Vals xs its/\IsTup h a its.toArray
 | .dK kvs=>kvs.length<=sizeLine/\(a == sysModules)=false/\∃ vs,KV kvs vs/\h.DictOf (Fj P w) a vs
 | .dT kvs=>kvs.length<=sizeLine/\(a == sysModules)=false/\∃ xs:List (List Key × Addr × Value),
   Paired (fun (p:List Key × V) (q:List Key × Addr × Value)=>p.1=q.1/\H q.2.1=some (.tup (p.1.map kV))/\RelV p.2 q.2.2) kvs xs /\
   ∃ o es ep,h.get? a=some o/\o.ExactDict/\o.data=.dict es ep/\es.toList=xs.map (entryOfKey (tupleKind (Fj P w)))/\(xs.map (·.1)).Nodup
 | .set S n=>h.SetOf (intKind P w) a S n
 | .ins C dx fs=>H dx=some (.own a)/\fs.length<=1000/\dx≠a/\h.get? a=some (PySem.W.instObj C dx) /\
   ∃ mA,h.Ns1 dx mA/\(∀ f,Xo (fs.lookup f) (mA f))/\PySem.Within mA (fs.map (·.1))
 | .own _=>∃ o,h.get? a=some o
 | .xd fs=>∃ mA,h.Ns1 a mA/\∀ f,Xo (fs.lookup f) (mA f)
 | .rng lo hi=>∃ t u v,h.get? a=some { cls:=.type "range",data:=.fields #[.int lo t,.int hi u,.int 1 v] }
 | .frz o u=>h.get? a=some o/\cj H h a u
 | .tbl _=>∃ ps:zt,h.get? a=some { cls:=.none,data:=.fields ps }/\TriplesOk ps.toList/\∀ pos v,codeAmong pos ps.toList=some v->∃ c o,v=.ref c/\H c=some (.frz o (.ext fun _=>True))/\lamO o
 | .met f x=>h.get? a=some (PySem.W.methodObj (.ref f) (.ref x))
 | .ext φ=>φ h/\(∃ o,h.get? a=some o)/\∀ h1 h2:Heap,φ h1->(∀ o,h1.get? a=some o->h2.get? a=some o)->φ h2
def HOk (H:Hp) (h:Heap):Prop:=∀ a o,H a=some o->cj P w H h a o
end
section
variable {P:Program}{w:World}{H H':Hp}{h h':Heap}{a:Addr}{o:HO}
theorem cj.lt (x:cj P w H h a o):a < h.objs.size:=by
 cases o with
 | lst xs=>obtain ⟨_,_,_,_,e⟩:=x;exact vx e
 | tup xs=>obtain ⟨_,_,_,p⟩:=x;exact p.lt
 | dK kvs=>obtain ⟨_,_,_,_,o,_,_,e,_⟩:=x;exact vx e
 | dT kvs=>obtain ⟨_,_,_,_,o,_,_,e,_⟩:=x;exact vx e
 | set S n=>obtain ⟨o,_,_,_,e,_⟩:=x;exact vx e
 | ins C dx fs=>obtain ⟨_,_,_,e,_⟩:=x;exact vx e
 | own y=>obtain ⟨_,e⟩:=x;exact vx e
 | xd fs=>obtain ⟨_,⟨_,_,_,e,_⟩,_⟩:=x;exact vx e
 | rng lo hi=>obtain ⟨_,_,_,e⟩:=x;exact vx e
 | frz ob u=>obtain ⟨e,_⟩:=x;exact vx e
 | tbl ps=>obtain ⟨_,e,_⟩:=x;exact vx e
 | met f y=>exact vx (show h.get? a=some _ from x)
 | ext φ=>obtain ⟨_,⟨_,e⟩,_⟩:=x;exact vx e
theorem Paired.mapP {α β:Type}{F G:α->β->Prop}:∀ {l₁:List α}{l₂:List β},Paired F l₁ l₂->(∀ a b,F a b->G a b)->Paired G l₁ l₂
 | _,_,.nil,_=>.nil
 | _,_,.cons r t,f=>.cons (f _ _ r) (Paired.mapP t f)
theorem cj.stay (x:cj P w H h a o) (k:∀ b u,(b=a\/H b=some (.own a))->h.get? b=some u->h'.get? b=some u)
  (ho:∀ b,H b=some (.own a)->H' b=some (.own a)) (ht:∀ b xs,H b=some (.tup xs)->H' b=some (.tup xs)) (hf:∀ b o,H b=some (.frz o (.ext fun _=>True))->lamO o->H' b=some (.frz o (.ext fun _=>True)):=by intro _ _ q _;exact q):cj P w H' h' a o:=by
 induction o with
 | lst xs=>obtain ⟨z,its,n,r,e⟩:=x;exact ⟨z,its,n,r,k _ _ (.inl rfl) e⟩
 | tup xs=>obtain ⟨z,its,r,ob,e,c⟩:=x;exact ⟨z,its,r,ob,k _ _ (.inl rfl) e,c⟩
 | dK kvs=>obtain ⟨z,y,vs,r,ob,es,ep,e,c⟩:=x;exact ⟨z,y,vs,r,ob,es,ep,k _ _ (.inl rfl) e,c⟩
 | dT kvs =>
  obtain ⟨z,y,xs,r,ob,es,ep,e,c⟩:=x;exact ⟨z,y,xs,Paired.mapP r fun p q z=>⟨z.1,ht _ _ z.2.1,z.2.2⟩,ob,es,ep,k _ _ (.inl rfl) e,c⟩
 | set S n=>obtain ⟨ob,es,ep,t,e,c⟩:=x;exact ⟨ob,es,ep,t,k _ _ (.inl rfl) e,c⟩
 | ins C dx fs =>
  obtain ⟨d,z,ne,e,mA,⟨od,es,ep,e2,c⟩,r⟩:=x;exact ⟨ho _ d,z,ne,k _ _ (.inl rfl) e,mA,⟨od,es,ep,k _ _ (.inr d) e2,c⟩,r⟩
 | own y=>obtain ⟨ob,e⟩:=x;exact ⟨ob,k _ _ (.inl rfl) e⟩
 | xd fs=>obtain ⟨mA,⟨od,es,ep,e,c⟩,r⟩:=x;exact ⟨mA,⟨od,es,ep,k _ _ (.inl rfl) e,c⟩,r⟩
 | rng lo hi=>obtain ⟨t,u,v,e⟩:=x;exact ⟨t,u,v,k _ _ (.inl rfl) e⟩
 | frz ob u ih=>obtain ⟨e,q⟩:=x;exact ⟨k _ _ (.inl rfl) e,ih q⟩
 | tbl qs =>
  obtain ⟨ps,e,tr,g⟩:=x;refine ⟨ps,k a _ (.inl rfl) e,tr,fun pos v hc=>?_⟩;obtain ⟨c,o,e1,g1,g2⟩:=g pos v hc;exact ⟨c,o,e1,hf c o g1 g2,g2⟩
 | met f y =>
  have e:h.get? a=some (PySem.W.methodObj (.ref f) (.ref y)):=x;show h'.get? a=some (PySem.W.methodObj (.ref f) (.ref y))
  exact k a _ (.inl rfl) e
 | ext φ=>obtain ⟨p,⟨o,e⟩,st⟩:=x;exact ⟨st _ _ p fun o q=>k _ _ (.inl rfl) q,⟨o,k _ _ (.inl rfl) e⟩,st⟩
theorem HOk.lt (x:HOk P w H h) (e:H a=some o):a < h.objs.size:=(x a o e).lt
theorem HOk.fresh (x:HOk P w H h) (e:h.objs.size<=a):H a=none:=by
 cases q:H a with
 | none=>rfl
 | some u=>exact absurd (vT (x.lt q) e) (yf _)
theorem HOk.kept (x:HOk P w H h) (k:∀ b u,h.get? b=some u->h'.get? b=some u):HOk P w H h':=fun a o e =>
 (x a o e).stay (fun b u _ q=>k b u q) (fun _ q=>q) fun _ _ q=>q
theorem HOk.laid (x:HOk P w H h) (k:∀ b u,h.get? b=some u->h'.get? b=some u) (hp:h.objs.size<=a) (new:cj P w (upd H a o) h' a o):HOk P w (upd H a o) h':=fun b u e=>by
 have hn:=x.fresh hp;by_cases hb:b=a
 .subst hb;rw [aA] at e;cases e;exact new
 .rw [ao hb] at e;exact (x b u e).stay (fun c v _ q=>k c v q) (fun c q=>by rw [ao (ak q hn)];exact q) (fun c xs q=>by rw [ao (ak q hn)];exact q) (fun c ob q _=>by rw [ao (ak q hn)];exact q)
end
def Rd (H:Hp) (a:Addr) (u:HO):Prop:=H a=some u\/∃ o,H a=some (.frz o u)
variable {P:Program}{w:World}{h:Heap}
theorem Rd.ok {u:HO} (r:Rd H a u) (x:HOk P w H h):cj P w H h a u:=by
 rcases r with r | ⟨o,r⟩
 .exact x a u r
 .obtain ⟨_,q⟩:=x a _ r;exact q
def Mut:Option HO->Prop
 | some (.lst _)=>True
 | some (.dK _)=>True
 | some (.dT _)=>True
 | some (.set _ _)=>True
 | some (.ins _ _ _)=>True
 | some (.ext _)=>True
 | _=>False
section
variable {P:Program}{w:World}{H:Hp}{h h':Heap}{x e:Addr}{o':HO}
theorem HOk.write (ok:HOk P w H h) (mu:Mut (H x)) (he:e=x\/H e=some (.own x)) (k:∀ b u,b≠e->h.get? b=some u->h'.get? b=some u) (heo:∃ u,h'.get? e=some u)
  (new:cj P w (upd H x o') h' x o'):HOk P w (upd H x o') h':=fun b u q=>by
 have nown:∀ c y,H c=some (.own y)->c≠x:=fun c y r z=>by subst z;rw [r] at mu;exact mu
 have ntup:∀ c xs,H c=some (.tup xs)->c≠x:=fun c xs r z=>by subst z;rw [r] at mu;exact mu
 by_cases hb:b=x
 .subst hb;rw [aA] at q;cases q;exact new
 .rw [ao hb] at q;by_cases hbe:b=e
  .have q':H b=some (.own x):=by
    rcases he with z | z
    .exact absurd (hbe.trans z) hb
    .rw [hbe];exact z
   rw [q] at q';cases q';obtain ⟨v,hv⟩:=heo;exact ⟨v,by rw [hbe];exact hv⟩
  .refine (ok b u q).stay (fun c v hc r=>k c v ?_ r) (fun c r=>by rw [ao (nown c b r)];exact r) (fun c xs r=>by rw [ao (ntup c xs r)];exact r) (fun c ob r _=>by rw [ao (fun z=>by subst z;rw [r] at mu;exact mu)];exact r);rcases hc with rfl | hc
   .exact hbe
   .rintro rfl;rcases he with z | z
    .exact nown c b hc z
    .rw [hc] at z;cases z;exact hb rfl
end
structure Un (fs ex:List Addr) (H H':Hp) (h h':Heap):Prop where
 keep:∀ b o,h.get? b=some o->H b=none->b ∉ fs->b ∉ ex->h'.get? b=some o
 slot:∀ b o,h.get? b=some o->H b=none->b∈fs->b ∉ ex->∃ sl,h'.get? b=some { o with slots:=sl }
 free:∀ b o,h.get? b=some o->H b=none->b ∉ ex->H' b=none
 there:∀ b o,h.get? b=some o->b ∉ ex->∃ o',h'.get? b=some o'
 tups:∀ b xs,H b=some (.tup xs)->H' b=some (.tup xs)
 frzs:∀ b o u,H b=some (.frz o u)->H' b=some (.frz o u)
 tbls:∀ b ps,H b=some (.tbl ps)->∃ more,H' b=some (.tbl (ps++more))
section
variable {fs fs' ex ex':List Addr}{H H1 H2:Hp}{h h1 h2 h':Heap}{a x e:Addr}{o:HO}
theorem Un.any (u:Un fs ex H H1 h h1) {ob:Obj} (q:h.get? b=some ob) (n:H b=none) (hx:b ∉ ex):∃ sl,h1.get? b=some { ob with slots:=sl }:=by
 by_cases hb:b∈fs
 .exact u.slot b ob q n hb hx
 .exact ⟨ob.slots,u.keep b ob q n hb hx⟩
theorem Un.kept (k:∀ b u,h.get? b=some u->h'.get? b=some u):Un fs ex H H h h' :=
 ⟨fun b ob q _ _ _=>k b ob q,fun b ob q _ _ _=>⟨ob.slots,k b ob q⟩,fun _ _ _ n _=>n,fun b ob q _=>⟨ob,k b ob q⟩,fun _ _ q=>q,fun _ _ _ q=>q,fun _ ps q=>⟨#[],by rw [q];simp⟩⟩
theorem Un.refl:Un fs ex H H h h:=Un.kept fun _ _ q=>q
theorem Un.laid (k:∀ b u,h.get? b=some u->h'.get? b=some u) (hp:h.objs.size<=a) (hn:H a=none):Un fs ex H (upd H a o) h h' where
 keep:=fun b u q _ _ _=>k b u q
 slot:=fun b u q _ _ _=>⟨u.slots,k b u q⟩
 free:=fun b u q n _=>by rw [ao (Nat.ne_of_lt (Nat.lt_of_lt_of_le (Heap.lt_size q) hp))];exact n
 there:=fun b u q _=>⟨u,k b u q⟩
 tups:=fun b xs q=>by rw [ao (ak q hn)];exact q
 frzs:=fun b u xs q=>by rw [ao (ak q hn)];exact q
 tbls:=fun b ps q=>⟨#[],by rw [ao (ak q hn),q];simp⟩
theorem Un.write (mu:Mut (H x)) (he:e=x\/H e=some (.own x)) (k:∀ b u,b≠e->h.get? b=some u->h'.get? b=some u) (heo:∃ u,h'.get? e=some u):Un fs ex H (upd H x o) h h':=by
 have hx:∀ b,H b=none->b≠x:=fun b n z=>by subst z;rw [n] at mu;exact mu
 have hb:∀ b,H b=none->b≠e:=fun b n z=>by
  subst z;rcases he with r | r
  .exact hx b n r
  .rw [n] at r;cases r
 have hm:∀ b u,H b=some u->¬ Mut (some u)->b≠x:=fun b u q nm z=>by subst z;rw [q] at mu;exact nm mu
 refine ⟨fun b u q n _ _=>k b u (hb b n) q,fun b u q n _ _=>⟨u.slots,k b u (hb b n) q⟩,fun b u q n _=>by rw [ao (hx b n)];exact n,fun b u q _=>?_,
  fun b xs q=>by rw [ao (hm b _ q fun z=>z)];exact q,fun b u xs q=>by rw [ao (hm b _ q fun z=>z)];exact q,fun b ps q=>⟨#[],by rw [ao (hm b _ q fun z=>z),q];simp⟩⟩
 by_cases hbe:b=e
 .subst hbe;exact heo
 .exact ⟨u,k b u hbe q⟩
end
noncomputable def trk (h:Heap) (H:Hp):List Addr:=(List.range h.objs.size).filter fun a=>(H a).isSome
def uH (h:Heap) (H:Hp):Heap:=PySem.W.hideAll h (trk h H)
theorem Ug (h:Heap) (H:Hp):(uH h H).objs.size=h.objs.size:=PySem.W.hideAll_size _ _
theorem Xr {o:Obj} (e:h.get? b=some o) (n:H b=none):(uH h H).get? b=some o :=
 PySem.W.hideAll_get _ e fun hm=>by
  have q:(H b).isSome=true:=(y8.mp hm).2;rw [n] at q;simp at q
def Y6 {o:Obj} (e:(uH h H).get? b=some o):h.get? b=some o/\H b=none:=by
 have e':h.get? b=some o:=PySem.W.of_hideAll (trk h H) e;refine ⟨e',?_⟩;cases q:H b with
 | none=>rfl
 | some x =>
  have hm:b∈trk h H:=y8.mpr ⟨y9.mpr (vx e'),by simp [q]⟩;have z:(uH h H).get? b=none:=PySem.W.hideAll_none (trk h H) hm;rw [z] at e;cases e
structure Mod (K:zd) (mg:w8) (base:Heap):Prop where
 kin:K.In base
 glob:base.Ns mainGlobals mg
 blt:∃ mb,base.Ns builtinsNs mb /\ ∀ x:Str,x ≠ "__name__" -> mb x=bootBuiltins x
 nolimit:base.NoLimit
 bm:∃ bm ob,mg "__builtins__"=some (.ref bm) /\ bm ≠ builtinsNs /\ bm ≠ mainGlobals /\ base.get? bm=some ob /\ ob.cls=.type "module" /\ ob.dict=some builtinsNs /\ ob.data=.plain
def ug (K:zd) (mg:Str -> Option Value) (H:Hp):Prop:=∀ a o fd c oc vs p,mg "check_tests"=some (.ref a) -> K.lookup a=some o -> o.data=.func fd -> fd.code=.ref c -> K.lookup c=some oc -> oc.data=.fields vs -> vs[11]?=some (.ref p) -> ∃ q,H p=some (.tbl q)
variable {K:zd}{mg:w8}{H':Hp}
theorem ug.un {fs ex:List Addr}{h':Heap} (x:ug K mg H) (u:Un fs ex H H' h h'):ug K mg H':=fun a o fd c oc vs p e1 e2 e3 e4 e5 e6 e7 =>
 let ⟨q,e⟩:=x a o fd c oc vs p e1 e2 e3 e4 e5 e6 e7
 let ⟨m,e'⟩:=u.tbls p q e
 ⟨_,e'⟩
structure Cx where
 prog:Program
 w:World
 K:zd
 mg:w8
 base:Heap
 A:Around
 N:zk
 s₀:Shared
 H₀:Hp
 env:Env
 outer:List Env
 stack:List Env
 ex:List Addr
 fn:Str->Bool
 calm:Bool
 pn:w4
 xe:zb
noncomputable def frs (l:List Env):List Addr:=l.filterMap (·.frame)
abbrev Cx.fs (X:Cx):List Addr:=frs X.outer
def Vis (sc:Scope) (x:Str):Prop:=sc.names.lookup x=some .local\/sc.names.lookup x=some .cell\/sc.names.lookup x=some .free
def Loc (sc:Scope) (x:Str):Prop:=sc.names.lookup x=some .local\/sc.names.lookup x=some .cell
def Look (env:Env) (h:Heap) (m:w8) (x:Str) (u:Value):Prop :=
 (env.kindOf x=some .local/\m x=some u)\/((env.kindOf x=some .cell\/env.kindOf x=some .free)/\∃ c,env.cells.lookup x=some c/\h.IsCell c (some u))
structure Cx.Ok (X:Cx):Prop where
 mod:Mod X.K X.mg X.base
 kind:X.env.scope.kind=.function
 glob:X.env.globals=mainGlobals
 blt:X.env.builtins=builtinsNs
 above:X.s₀.heap.objs.size<=X.env.locals
 inj:∀ x y c,X.env.cells.lookup x=some c->X.env.cells.lookup y=some c->x=y
 has:∀ x,(X.env.kindOf x=some .cell\/X.env.kindOf x=some .free)->∃ c,X.env.cells.lookup x=some c
 cab:∀ x c,X.fn x=true->X.env.cells.lookup x=some c->X.s₀.heap.objs.size<=c
 hd:X.calm=true->X.A.handled=none
 frames:X.A.frames=some X.stack
 stk:X.stack=X.outer\/(X.stack=X.env::X.outer/\X.env.frame=some X.env.locals)
 exf:∀ b∈X.ex,b≠X.env.locals/\∀ x c,X.env.cells.lookup x=some c->c≠b
 bs:∀ b o,X.base.get? b=some o->X.s₀.heap.get? b=some o/\X.H₀ b=none
 bsz:X.base.objs.size<=X.s₀.heap.objs.size
 noex:∀ b o,X.base.get? b=some o->b ∉ X.ex
 exfs:∀ b∈X.ex,b ∉ X.fs
 funs:X.s₀.heap.FunFrames X.base X.outer
 frf:∀ b∈X.fs,X.H₀ b=none
 tab:ug X.K X.mg X.H₀
structure Inv (X:Cx) (pins:w4) (σ:List (Option V)) (H:Hp) (s:Shared):Prop where
 ok:X.Ok
 os:s.os=X.s₀.os
 bare:AllBare s.gens
 base:Un X.fs X.ex X.H₀ H X.s₀.heap s.heap
 loc:∃ m,s.heap.Ns X.env.locals m/\∀ (i:Nat) (x:Str) (v:V),X.N[i]?=some x->σ[i]?=some (some v)->Vis X.env.scope x->∃ u,RelV v u/\Look X.env s.heap m x u
 cell:∀ x c,X.env.cells.lookup x=some c->∃ v,s.heap.IsCell c v
 free:H X.env.locals=none
 freeC:∀ x c,X.env.cells.lookup x=some c->H c=none
 pin:∀ p∈X.pn++pins,s.heap.get? p.1=some p.2/\H p.1=none/\p.1≠X.env.locals/\p.1 ∉ X.fs/\∀ v,p.2.data≠.cell v
 hok:HOk X.prog X.w H s.heap
 len:σ.length=X.N.length
variable {g':Array GenState}{ch:List Addr}{it:Addr}{N:zk}{i:Nat}{x:Str}{A:Around}{E:zb}{v:V}{u:Value}{Q:Unit->Shared->Prop}{s':Shared}
section
variable {X:Cx}{pins:w4}{σ:List (Option V)}{H H':Hp}{s:Shared}{h':Heap}
theorem Cx.Ok.nofr (ok:X.Ok) {o:Obj} (e:X.base.get? b=some o):b ∉ X.fs:=fun hb=>by
 have:=(ok.funs.mem hb).1;rw [e] at this;cases this
theorem Inv.bs (I:Inv X pins σ H s):∀ b o,X.base.get? b=some o->s.heap.get? b=some o/\H b=none:=fun b o e =>
 ⟨I.base.keep b o (I.ok.bs b o e).1 (I.ok.bs b o e).2 (I.ok.nofr e) (I.ok.noex b o e),I.base.free b o (I.ok.bs b o e).1 (I.ok.bs b o e).2 (I.ok.noex b o e)⟩
theorem Inv.bk (I:Inv X pins σ H s):∀ b o,X.base.get? b=some o->s.heap.get? b=some o:=fun b o e=>(I.bs b o e).1
theorem Inv.mod (I:Inv X pins σ H s):Mod X.K X.mg X.base:=I.ok.mod
theorem Inv.kIn (I:Inv X pins σ H s):X.K.In s.heap:=I.ok.mod.kin.keeps I.bk
theorem Inv.fr (I:Inv X pins σ H s):∃ m,Fr X.base X.env.locals s.heap m :=
 let ⟨m,hn,_⟩:=I.loc
 ⟨m,hn,I.bk,vF I.ok.bsz I.ok.above⟩
theorem Inv.lt (I:Inv X pins σ H s):X.env.locals < s.heap.objs.size:=let ⟨_,hn,_⟩:=I.loc;hn.lt
theorem Inv.sz (I:Inv X pins σ H s):X.s₀.heap.objs.size<=s.heap.objs.size:=vF I.ok.above (Nat.le_of_lt I.lt)
theorem Inv.nofs (I:Inv X pins σ H s)  (h:s.heap.objs.size<=a):a ∉ X.fs:=fun hb=>by
 obtain ⟨_,o,ho,_⟩:=I.ok.funs.mem hb;exact absurd (vT (vx ho) (vF I.sz h)) (yf _)
theorem Inv.cne (I:Inv X pins σ H s):∀ x c,X.env.cells.lookup x=some c->c≠X.env.locals:=fun x c e z=>by
 obtain ⟨v,o,ho,hd⟩:=I.cell x c e;obtain ⟨m,⟨o',es,ep,ho',hd',_⟩,_⟩:=I.loc;rw [z,ho'] at ho;cases ho;rw [hd'] at hd;cases hd
theorem Inv.funs (I:Inv X pins σ H s):s.heap.FunFrames X.base X.outer:=by
 have all:∀ (l:List Env),(∀ b∈frs l,b∈X.fs)->X.s₀.heap.FunFrames X.base l->s.heap.FunFrames X.base l:=by
  intro l;induction l with
  | nil=>intro _ _;trivial
  | cons env r ih =>
   intro hs hl;obtain ⟨hk,⟨L,o,hf,hn,ho,hd⟩,hr⟩:=hl;have hL:L∈X.fs:=hs L (by unfold frs;rw [List.filterMap_cons,hf];exact vi);obtain ⟨sl,e⟩:=I.base.slot L o ho (I.ok.frf L hL) hL fun z=>I.ok.exfs L z hL
   exact ⟨hk,⟨L,_,hf,hn,e,hd⟩,ih (fun b hb=>hs b (by unfold frs;rw [List.filterMap_cons,hf];exact ve _ hb)) hr⟩
 exact all X.outer (fun _ hb=>hb) I.ok.funs
theorem Inv.stack (I:Inv X pins σ H s):s.heap.FunFrames X.base X.stack:=by
 rcases I.ok.stk with e | ⟨e,hf⟩
 .rw [e];exact I.funs
 .rw [e];obtain ⟨m,hn,_⟩:=I.loc;refine .cons (by rw [I.ok.kind];decide) hf hn ?_ I.funs;exact Heap.get?_none_of_le (vF I.ok.bsz I.ok.above)
theorem Inv.stkSub (I:Inv X pins σ H s):∀ b∈frs X.stack,b∈X.env.locals::X.fs:=fun b hb=>by
 rcases I.ok.stk with e | ⟨e,hf⟩
 .rw [e] at hb;exact ve _ hb
 .rw [e] at hb;unfold frs at hb;rw [List.filterMap_cons,hf] at hb;exact hb
theorem Inv.stkFree (I:Inv X pins σ H s):∀ b∈frs X.stack,H b=none:=fun b hb=>by
 rcases vR.mp (I.stkSub b hb) with e | hb
 .rw [e];exact I.free
 .obtain ⟨_,o,ho,_⟩:=I.ok.funs.mem hb;exact I.base.free b o ho (I.ok.frf b hb) fun z=>I.ok.exfs b z hb
theorem Inv.step {t':Nat}{d':Drawn} (I:Inv X pins σ H s)
  (hch:∀ b∈ch,(b∈X.ex\/X.s₀.heap.objs.size<=b)/\b≠X.env.locals/\(∀ x c,X.env.cells.lookup x=some c->c≠b)/\∀ p∈X.pn++pins,p.1≠b)
  (keep:∀ b o,b≠X.env.locals->b ∉ X.fs->b ∉ ch->s.heap.get? b=some o->H b=none->h'.get? b=some o)
  (slot:∀ b o,b≠X.env.locals->b∈X.fs->b ∉ ch->s.heap.get? b=some o->H b=none->∃ sl,h'.get? b=some { o with slots:=sl }) (free:∀ b o,b ∉ ch->s.heap.get? b=some o->H b=none->H' b=none)
  (there:∀ b o,b ∉ ch->s.heap.get? b=some o->∃ o',h'.get? b=some o')
  (tups:∀ b xs,H b=some (.tup xs)->H' b=some (.tup xs)) (frzs:∀ b o u,H b=some (.frz o u)->H' b=some (.frz o u)) (tbls:∀ b ps,H b=some (.tbl ps)->∃ more,H' b=some (.tbl (ps++more)))
  (ns:∀ m,s.heap.Ns X.env.locals m->h'.Ns X.env.locals m) (hok:HOk X.prog X.w H' h') (hg:AllBare g') :
  Inv X pins σ H' { s with heap:=h',gens:=g',drawn:=d',toks:=t' }:=by
 have neL:∀ b o,X.s₀.heap.get? b=some o->b≠X.env.locals:=fun b o e=>vz (vT (vx e) I.ok.above)
 have neC:∀ b o,X.s₀.heap.get? b=some o->b ∉ X.ex->b ∉ ch:=fun b o e hx hb=>by
  rcases (hch b hb).1 with z | z
  .exact hx z
  .exact absurd (vT (vx e) z) (yf _)
 have cellK:∀ x c,X.env.cells.lookup x=some c->∀ v,s.heap.IsCell c v->h'.IsCell c v:=fun x c e v ⟨o,ho,hd⟩=>by
  have nch:c ∉ ch:=fun z=>(hch c z).2.2.1 x c e rfl
  by_cases hc:c∈X.fs
  .obtain ⟨sl,q⟩:=slot c o (I.cne x c e) hc nch ho (I.freeC x c e);exact ⟨_,q,hd⟩
  .exact ⟨o,keep c o (I.cne x c e) hc nch ho (I.freeC x c e),hd⟩
 refine ⟨I.ok,I.os,hg,⟨fun b o e n hb hx=>?_,fun b o e n hb hx=>?_,fun b o e n hx=>?_,fun b o e hx=>?_,fun b xs e=>tups b xs (I.base.tups b xs e),fun b o xs e=>frzs b o xs (I.base.frzs b o xs e),fun b ps e=>?_⟩,?_,fun x c e=>?_,?_,fun x c e=>?_,fun p hp=>?_,hok,I.len⟩
 .exact keep b o (neL b o e) hb (neC b o e hx) (I.base.keep b o e n hb hx) (I.base.free b o e n hx)
 .obtain ⟨sl,e1⟩:=I.base.slot b o e n hb hx;obtain ⟨sl',e2⟩:=slot b _ (neL b o e) hb (neC b o e hx) e1 (I.base.free b o e n hx);exact ⟨sl',e2⟩
 .obtain ⟨o',e1⟩:=I.base.there b o e hx;exact free b o' (neC b o e hx) e1 (I.base.free b o e n hx)
 .obtain ⟨o',e1⟩:=I.base.there b o e hx;exact there b o' (neC b o e hx) e1
 .obtain ⟨m1,e1⟩:=I.base.tbls b ps e;obtain ⟨m2,e2⟩:=tbls b _ e1;exact ⟨m1++m2,by rw [e2,Array.append_assoc]⟩
 .obtain ⟨m,hn,hl⟩:=I.loc;refine ⟨m,ns m hn,fun i x v e1 e2 e3=>?_⟩;obtain ⟨u,r,l⟩:=hl i x v e1 e2 e3;refine ⟨u,r,?_⟩;rcases l with l | ⟨k,c,e,z⟩
  .exact .inl l
  .exact .inr ⟨k,c,e,cellK x c e _ z⟩
 .obtain ⟨v,z⟩:=I.cell x c e;exact ⟨v,cellK x c e v z⟩
 .obtain ⟨m,⟨o,_,_,ho,_⟩,_⟩:=I.loc;exact free _ o (fun z=>(hch _ z).2.1 rfl) ho I.free
 .obtain ⟨v,o,ho,hd⟩:=I.cell x c e;exact free c o (fun z=>(hch c z).2.2.1 x c e rfl) ho (I.freeC x c e)
 .obtain ⟨e,n,ne,nf,d⟩:=I.pin p hp;have nch:p.1 ∉ ch:=fun z=>(hch p.1 z).2.2.2 p hp rfl
  exact ⟨keep p.1 p.2 ne nf nch e n,free p.1 p.2 nch e n,ne,nf,d⟩
theorem Inv.un {t':Nat} (I:Inv X pins σ H s) (u:Un X.fs [] H H' s.heap h') (hok:HOk X.prog X.w H' h'):Inv X pins σ H' { s with heap:=h',toks:=t' }:=by
 obtain ⟨m,⟨o,es,ep,ho,r⟩,_⟩:=id I.loc;obtain ⟨sl,hL⟩:=u.any ho I.free (by simp);exact I.step (g':=s.gens) (d':=s.drawn) (ch:=[]) (fun _ z=>nomatch z) (fun b o _ hb _ e n=>u.keep b o e n hb (by simp)) (fun b o _ hb _ e n=>u.slot b o e n hb (by simp)) (fun b o _ e n=>u.free b o e n (by simp)) (fun b o _ e=>u.there b o e (by simp)) u.tups u.frzs u.tbls (fun m' hm=>by
  obtain ⟨o',es',ep',ho',r'⟩:=hm;rw [ho] at ho';cases ho';exact ⟨_,es',ep',hL,r'⟩) hok I.bare
theorem Inv.call {t':Nat}{d':Drawn} (I:Inv X pins σ H s) (u:Un (frs X.stack) ch H H' s.heap h') (hok:HOk X.prog X.w H' h') (hg:AllBare g')
  (hch:∀ b∈ch,(b∈X.ex\/X.s₀.heap.objs.size<=b)/\b≠X.env.locals/\(∀ x c,X.env.cells.lookup x=some c->c≠b)/\∀ p∈X.pn++pins,p.1≠b) :
  Inv X pins σ H' { s with heap:=h',gens:=g',drawn:=d',toks:=t' }:=by
 obtain ⟨m,⟨o,es,ep,ho,r⟩,_⟩:=id I.loc;obtain ⟨sl,hL⟩:=u.any ho I.free fun z=>(hch _ z).2.1 rfl
 exact I.step (ch:=ch) hch (fun b o hL hb hc e n=>u.keep b o e n (fun z=>(vR.mp (I.stkSub b z)).elim hL hb) hc) (fun b o _ _ hc e n=>u.any e n hc) (fun b o hc e n=>u.free b o e n hc) (fun b o hc e=>u.there b o e hc) u.tups u.frzs u.tbls (fun m' hm=>by
  obtain ⟨o',es',ep',ho',r'⟩:=hm;rw [ho] at ho';cases ho';exact ⟨_,es',ep',hL,r'⟩) hok hg
theorem Inv.turned {t':Nat} (I:Inv X pins σ H s) (k:∀ b o,b≠it->s.heap.get? b=some o->h'.get? b=some o) (hn:H it=none) (hL:it≠X.env.locals)
  (h1:it∈X.ex\/X.s₀.heap.objs.size<=it) (h2:∀ x c,X.env.cells.lookup x=some c->c≠it) (h3:∀ p∈X.pn++pins,p.1≠it):Inv X pins σ H { s with heap:=h',toks:=t' }:=by
 have nit:∀ b u,H b=some u->b≠it:=fun b u e z=>by rw [z,hn] at e;cases e
 refine I.step (g':=s.gens) (d':=s.drawn) (ch:=[it]) (fun b hb=>?_) (fun b o _ _ hc e _=>k b o (fun z=>hc (by simp [z])) e) (fun b o _ _ hc e _=>⟨o.slots,k b o (fun z=>hc (by simp [z])) e⟩) (fun _ _ _ _ n=>n)
  (fun b o hc e=>⟨o,k b o (fun z=>hc (by simp [z])) e⟩) (fun _ _ e=>e) (fun _ _ _ e=>e) (fun b ps e=>⟨#[],by rw [e];simp⟩) (fun m hm=>?_) (fun b u e=>?_) I.bare
 .have e:b=it:=by simpa using hb
  subst e;exact ⟨h1,hL,h2,h3⟩
 .obtain ⟨o,es,ep,ho,r⟩:=hm;exact ⟨o,es,ep,k _ o (Ne.symm hL) ho,r⟩
 .refine (I.hok b u e).stay (fun c v hc q=>k c v ?_ q) (fun _ q=>q) fun _ _ q=>q
  rcases hc with z | z
  .rw [z];exact nit b u e
  .exact nit c _ z
theorem Inv.tok (I:Inv X pins σ H s) (t:Nat):Inv X pins σ H { s with toks:=t }:=I.un (h':=s.heap) (t':=t) Un.refl I.hok
theorem Inv.kept {t':Nat} (I:Inv X pins σ H s) (k:∀ b u,s.heap.get? b=some u->h'.get? b=some u):Inv X pins σ H { s with heap:=h',toks:=t' }:=I.un (Un.kept k) (I.hok.kept k)
theorem Inv.laid {t':Nat} (I:Inv X pins σ H s) (k:∀ b u,s.heap.get? b=some u->h'.get? b=some u) (hp:s.heap.objs.size<=a) (new:cj X.prog X.w (upd H a o) h' a o) :
  Inv X pins σ (upd H a o) { s with heap:=h',toks:=t' }:=I.un (Un.laid k hp (I.hok.fresh hp)) (I.hok.laid k hp new)
theorem Inv.write {x e:Addr}{t':Nat} (I:Inv X pins σ H s) (mu:Mut (H x)) (he:e=x\/H e=some (.own x)) (k:∀ b u,b≠e->s.heap.get? b=some u->h'.get? b=some u) (heo:∃ u,h'.get? e=some u)
  (new:cj X.prog X.w (upd H x o) h' x o):Inv X pins σ (upd H x o) { s with heap:=h',toks:=t' }:=I.un (Un.write mu he k heo) (I.hok.write mu he k heo new)
theorem Inv.weak {σ':List (Option V)} (I:Inv X pins σ H s) (hl:σ'.length=σ.length) (w:∀ (i:Nat) v,σ'[i]?=some (some v)->σ[i]?=some (some v)):Inv X pins σ' H s :=
 ⟨I.ok,I.os,I.bare,I.base,let ⟨m,hn,hl'⟩:=I.loc;⟨m,hn,fun i x v e1 e2 e3=>hl' i x v e1 (w i v e2) e3⟩,I.cell,I.free,I.freeC,I.pin,I.hok,hl.trans I.len⟩
theorem Inv.pins_of {pins':w4} (I:Inv X pins σ H s) (h:∀ p∈pins',s.heap.get? p.1=some p.2/\H p.1=none/\p.1≠X.env.locals/\p.1 ∉ X.fs/\∀ v,p.2.data≠.cell v):Inv X pins' σ H s :=
 ⟨I.ok,I.os,I.bare,I.base,I.loc,I.cell,I.free,I.freeC,fun p hp=>(yT.mp hp).elim (fun z=>I.pin p (vj _ z)) (h p),I.hok,I.len⟩
def Jm (hN:N.Nodup) {j:Nat} (a:N[i]?=some x) (b:N[j]?=some x):i=j:=by
 obtain ⟨h1,e1⟩:=yB.mp a;obtain ⟨h2,e2⟩:=yB.mp b;exact (List.getElem_inj hN).mp (e1.trans e2.symm)
def Gj {M:Model} (I:Inv X pins σ H s) (hN:X.N.Nodup) (hi:X.N[i]?=some x) (hx:Loc X.env.scope x) (r:RelV v u)
  (h:∀ s',Inv X pins (σ.set i (some v)) H s'->(∃ a,Heap.SameBut a s.heap s'.heap/\(a=X.env.locals\/X.env.cells.lookup x=some a))->Q () s') (hf:X.fn x=true\/X.env.scope.names.lookup x=some .local:=by first | exact .inl rfl | exact .inr rfl | assumption):wpAny M A (storeName X.env x u) Q E s:=by
 obtain ⟨m,hn,hl⟩:=id I.loc;have hcls:(X.env.scope.kind == .class || (X.env.scope.kind == .module && X.env.locals != X.env.globals))=false:=by rw [I.ok.kind];rfl
 have hiσ:i < σ.length:=by rw [I.len];exact (yB.mp hi).1
 have cne:=I.cne;have tracked:∀ {a:Addr}{h':Heap},(∃ o,s.heap.get? a=some o/\H a=none)->Heap.SameBut a s.heap h'->HOk X.prog X.w H h':=fun {a h'} ha hs b ob e=>by
  obtain ⟨_,_,hfree⟩:=ha;refine (I.hok b ob e).stay (fun c w' hc q=>(hs.2 c ?_).trans q) (fun _ q=>q) fun _ _ q=>q
  rintro rfl;rcases hc with rfl | hc
  .rw [hfree] at e;cases e
  .rw [hfree] at hc;cases hc
 rcases hx with hk | hk
 .refine wpAny_storeName_local hk hn (fun h' hn' hs=>?_) hcls;obtain ⟨oL,_,_,hoL,_⟩:=id hn;refine h _ ⟨I.ok,I.os,I.bare,⟨fun b o e n hb hx=>?_,fun b o e n hb hx=>?_,I.base.free,fun b o e hx=>?_,I.base.tups,I.base.frzs,I.base.tbls⟩,⟨_,hn',fun j y v' e1 e2 e3=>?_⟩,fun y c e=>?_,I.free,I.freeC,fun p hp=>?_,tracked ⟨oL,hoL,I.free⟩ hs,by simpa using I.len⟩ ⟨_,hs,.inl rfl⟩
  .exact (hs.2 b (vz (vT (vx e) I.ok.above))).trans (I.base.keep b o e n hb hx)
  .obtain ⟨sl,e1⟩:=I.base.slot b o e n hb hx;exact ⟨sl,(hs.2 b (vz (vT (vx e) I.ok.above))).trans e1⟩
  .obtain ⟨o',e1⟩:=I.base.there b o e hx;exact ⟨o',(hs.2 b (vz (vT (vx e) I.ok.above))).trans e1⟩
  .by_cases hj:j=i
   .subst hj;rw [hi] at e1;cases e1;rw [List.getElem?_set_self hiσ] at e2;cases e2;exact ⟨u,r,.inl ⟨hk,by simp⟩⟩
   .rw [List.getElem?_set_ne (Ne.symm hj)] at e2;obtain ⟨u',r',q⟩:=hl j y v' e1 e2 e3;refine ⟨u',r',?_⟩;rcases q with ⟨k,e⟩ | ⟨k,c,e,z⟩
    .refine .inl ⟨k,?_⟩;have:y≠x:=fun e=>hj (Jm hN e1 (e ▸ hi))
     simp [this,e]
    .exact .inr ⟨k,c,e,z.sameBut hs (cne y c e)⟩
  .obtain ⟨w',z⟩:=I.cell y c e;exact ⟨w',z.sameBut hs (cne y c e)⟩
  .obtain ⟨e,n,ne,nf,d⟩:=I.pin p hp;exact ⟨(hs.2 p.1 ne).trans e,n,ne,nf,d⟩
 .have hfn:X.fn x=true:=by
   rcases hf with z | z
   .exact z
   .rw [z] at hk;cases hk
  obtain ⟨c,hc⟩:=I.ok.has x (.inl hk);obtain ⟨w',z⟩:=I.cell x c hc;refine wpAny_storeName_cell I.ok.kind hk hc z (fun h' hc' hs=>?_);obtain ⟨oc,hoc,hocd⟩:=id z;refine h { s with heap:=h' } ⟨I.ok,I.os,I.bare,⟨fun b o e n hb hx=>?_,fun b o e n hb hx=>?_,I.base.free,fun b o e hx=>?_,I.base.tups,I.base.frzs,I.base.tbls⟩,⟨m,hn.sameBut hs (Ne.symm (cne x c hc)),fun j y v' e1 e2 e3=>?_⟩,fun y c' e=>?_,I.free,I.freeC,fun p hp=>?_,tracked ⟨oc,hoc,I.freeC x c hc⟩ hs,by simpa using I.len⟩ ⟨c,hs,.inr hc⟩
  .exact (hs.2 b (vz (vT (vx e) (I.ok.cab x c hfn hc)))).trans (I.base.keep b o e n hb hx)
  .obtain ⟨sl,e1⟩:=I.base.slot b o e n hb hx;exact ⟨sl,(hs.2 b (vz (vT (vx e) (I.ok.cab x c hfn hc)))).trans e1⟩
  .obtain ⟨o',e1⟩:=I.base.there b o e hx;exact ⟨o',(hs.2 b (vz (vT (vx e) (I.ok.cab x c hfn hc)))).trans e1⟩
  .by_cases hj:j=i
   .subst hj;rw [hi] at e1;cases e1;rw [List.getElem?_set_self hiσ] at e2;cases e2;exact ⟨u,r,.inr ⟨.inl hk,c,hc,hc'⟩⟩
   .rw [List.getElem?_set_ne (Ne.symm hj)] at e2;obtain ⟨u',r',q⟩:=hl j y v' e1 e2 e3;refine ⟨u',r',?_⟩;rcases q with q | ⟨k,c',e,z'⟩
    .exact .inl q
    .refine .inr ⟨k,c',e,z'.sameBut hs ?_⟩;rintro rfl;exact hj (Jm hN e1 (I.ok.inj _ _ _ e hc ▸ hi))
  .by_cases hcc:c'=c
   .subst hcc;exact ⟨_,hc'⟩
   .obtain ⟨w2,z2⟩:=I.cell y c' e;exact ⟨w2,z2.sameBut hs hcc⟩
  .obtain ⟨e,n,ne,nf,d⟩:=I.pin p hp;refine ⟨(hs.2 p.1 ?_).trans e,n,ne,nf,d⟩;intro q;rw [q,hoc] at e;have q':oc=p.2:=jr e;exact d w' (by rw [<- q'];exact hocd)
def Ij {M:Model} (I:Inv X pins σ H s) (hN:X.N.Nodup) (hi:X.N[i]?=some x) (hx:Loc X.env.scope x) (r:RelV v u)
  (h:∀ s',Inv X pins (σ.set i (some v)) H s'->Q () s') (hf:X.fn x=true\/X.env.scope.names.lookup x=some .local:=by first | exact .inl rfl | exact .inr rfl | assumption):wpAny M A (storeName X.env x u) Q E s :=
 Gj I hN hi hx r (fun s' I' _=>h s' I') hf
theorem Inv.call' (I:Inv X pins σ H s) (ho:s'.os=s.os) (u:Un (frs X.stack) ch H H' s.heap s'.heap) (hok:HOk X.prog X.w H' s'.heap) (hg:AllBare s'.gens)
  (hch:∀ b∈ch,(b∈X.ex\/X.s₀.heap.objs.size<=b)/\b≠X.env.locals/\(∀ x c,X.env.cells.lookup x=some c->c≠b)/\∀ p∈X.pn++pins,p.1≠b):Inv X pins σ H' s':=by
 obtain ⟨h',g',d',t',o'⟩:=s';have e:o'=s.os:=ho;subst e;exact I.call (g':=g') (t':=t') (d':=d') u hok hg hch
end
abbrev XK:=Value->zv->Hp->Prop
abbrev St:=List (Option V)
abbrev VK:=V->Hp->Prop
abbrev TE:=St->Hp->VK->Prop
abbrev TT:=St->Hp->(Bool->Hp->Prop)->Prop
abbrev TA:=St->Hp->(List V->Hp->Prop)->Prop
structure Ends where
 nx:St->Hp->Prop
 rt:VK
 bk:St->Hp->Prop:=fun _ _=>False
 ct:St->Hp->Prop:=fun _ _=>False
noncomputable abbrev TS:=Ends->St->Hp->Prop
def EP (X:Cx) (pins:w4) (σ:St) (Q:VK) (u:Value) (s':Shared):Prop:=∃ v H',Inv X pins σ H' s'/\RelV v u/\Q v H'
def TP (X:Cx) (pins:w4) (σ:St) (Q:Bool->Hp->Prop) (b:Bool) (s':Shared):Prop:=∃ H',Inv X pins σ H' s'/\Q b H'
def AP (X:Cx) (pins:w4) (σ:St) (Q:List V->Hp->Prop) (us:zg) (s':Shared):Prop:=∃ vs H',Inv X pins σ H' s'/\Vals vs us/\Q vs H'
def SP (X:Cx) (pins:w4) (D:Ends) (f:Flow) (s':Shared):Prop :=
 match f with
 | .next=>∃ σ' H',Inv X pins σ' H' s'/\D.nx σ' H'
 | .brk=>∃ σ' H',Inv X pins σ' H' s'/\D.bk σ' H'
 | .cont=>∃ σ' H',Inv X pins σ' H' s'/\D.ct σ' H'
 | .ret u=>∃ v σ' H',Inv X pins σ' H' s'/\RelV v u/\D.rt v H'
def PE (X:Cx) (e:Expr) (t:TE):Prop :=
 ∀ (pins:w4) (s:Shared) (σ:St) (H:Hp) (Q:VK),Inv X pins σ H s->t σ H Q->wpAny (model X.prog X.w) X.A (eval e X.env) (EP X pins σ Q) X.xe s
def PT (X:Cx) (e:Expr) (t:TT):Prop :=
 ∀ (pins:w4) (s:Shared) (σ:St) (H:Hp) (Q:Bool->Hp->Prop),Inv X pins σ H s->t σ H Q->wpAny (model X.prog X.w) X.A (isTrue e X.env (eval e X.env)) (TP X pins σ Q) X.xe s
def PW (X:Cx) (e:Expr) (t:TT):Prop :=
 ∀ (whole:Sem Value) (pins:w4) (s:Shared) (σ:St) (H:Hp) (Q:Bool->Hp->Prop),Inv X pins σ H s->t σ H Q->wpAny (model X.prog X.w) X.A (isTrue e X.env whole) (TP X pins σ Q) X.xe s
variable {X:Cx}{e:Expr}
theorem PW.pt {t:TT} (h:PW X e t):PT X e t:=h _
def PA (X:Cx) (es:zl) (t:TA):Prop :=
 ∀ (pos:Pos) (pins:w4) (s:Shared) (σ:St) (H:Hp) (Q:List V->Hp->Prop),Inv X pins σ H s->t σ H Q->wpAny (model X.prog X.w) X.A (spliced (backTo pos (starEach es X.env))) (AP X pins σ Q) X.xe s
def PS (X:Cx) (st:Stmt) (t:TS):Prop :=
 ∀ (pins:w4) (s:Shared) (σ:St) (H:Hp) (D:Ends),Inv X pins σ H s->t D σ H->wpAny (model X.prog X.w) X.A (exec st X.env) (SP X pins D) X.xe s
def PSs (X:Cx) (st:zn) (t:TS):Prop :=
 ∀ (pins:w4) (s:Shared) (σ:St) (H:Hp) (D:Ends),Inv X pins σ H s->t D σ H->wpAny (model X.prog X.w) X.A (execs st X.env) (SP X pins D) X.xe s
variable {s:Shared}
theorem thn {α:Type}{t:Sem α}{Q Q':α->Shared->Prop}{M:Model} (h:wpAny M A t Q E s) (hQ:∀ a s,Q a s->Q' a s):wpAny M A t Q' E s:=wpAny_mono h hQ fun _ _ x=>x
variable {pins:w4}{σ:St}{pos:Pos}{op:CmpOp}{t:TE}
section
variable {X:Cx}
def bin {a b:Expr}{ta tb:TE} (ha:PE X a ta) (hb:PE X b tb) {R:V->V->Hp->Prop} (I:Inv X pins σ H s) (h:ta σ H fun x H1=>tb σ H1 fun y H2=>R x y H2)
  {α:Type}{Q:α->Shared->Prop}{f:Value->Value->Sem α}
  (hf:∀ v u s2 x y H2,Inv X pins σ H2 s2->RelV x v->RelV y u->R x y H2->wpAny (model X.prog X.w) X.A (f v u) Q X.xe s2) :
  wpAny (model X.prog X.w) X.A (eval a X.env) (fun v s₁=>wpAny (model X.prog X.w) X.A (eval b X.env) (fun u s₂=>wpAny (model X.prog X.w) X.A (f v u) Q X.xe s₂) X.xe s₁) X.xe s:=by
 refine thn (ha pins s σ H _ I h) fun v s1 ⟨x,H1,I1,r1,q1⟩=>?_
 refine thn (hb pins s1 σ H1 _ I1 q1) fun u s2 ⟨y,H2,I2,r2,q2⟩=>?_
 exact hf v u s2 x y H2 I2 r1 r2 q2
def aa2 (i:Nat):TE:=fun σ H Q=>∃ v,σ[i]?=some (some v)/\Q v H
def tC (v:V):TE:=fun _ H Q=>Q v H
def jW (hN:X.N[i]?=some x) (hv:Vis X.env.scope x) (hd:(x == ("__debug__":Str))=false:=by decide) (hcd:(x == ("__classdict__":Str))=false:=by decide):PE X (.Name x pos) (aa2 i):=by
 intro pins s σ H Q I h;obtain ⟨v,e,h⟩:=h;obtain ⟨m,hn,hl⟩:=I.loc;obtain ⟨u,r,l⟩:=hl i x v hN e hv;have fin:EP X pins σ Q u s:=⟨v,H,I,r,h⟩;rcases l with ⟨hk,hm⟩ | ⟨hk,c,hc,hcell⟩
 .exact wpAny_Name (wpAny_loadName_local I.ok.kind hk hn hm fin) hd
 .rcases hk with hk | hk
  .exact wpAny_Name (wpAny_loadName_cell I.ok.kind hk hc hcell fin) hd
  .exact wpAny_Name (wpAny_loadName_free I.ok.kind hk hc hcell fin hcd) hd
theorem abQ {i j pos}:PE X (.Constant (.int i) j pos) (tC (.int i)):=fun _ _ _ H _ I h=>wpAny_Constant_int ⟨.int i,H,I.tok _,⟨_,rfl⟩,h⟩
theorem acL {b j pos}:PE X (.Constant (.bool b) j pos) (tC (.bl b)):=fun _ _ _ H _ I h=>Constant_bool ⟨.bl b,H,I,rfl,h⟩
theorem abO {j pos}:PE X (.Constant .none j pos) (tC .non):=fun _ _ _ H _ I h=>Constant_none ⟨.non,H,I,rfl,h⟩
theorem Kq {x j pos}:PE X (.Constant (.str x) j pos) (tC (.str x)):=fun _ _ _ H _ I h=>Calls.Constant_str ⟨.str x,H,I.tok _,⟨_,rfl⟩,h⟩
def Gl (X:Cx) (x:Str):Prop:=X.env.kindOf x=some .globalImplicit
def rD {Q:zb} (I:Inv X pins σ H s) (hg:Gl X x) (hm:X.mg x=some u) (h:Q u s)
  (hd:(x == ("__debug__":Str))=false:=by decide):wpAny (model X.prog X.w) X.A (eval (.Name x pos) X.env) Q E s :=
 Calls.Name_function_global I.ok.kind hg (Calls.loadGlobal_global (by rw [I.ok.glob];exact I.mod.glob.keeps I.bk) hm h) hd
def jP {Q:zb} (I:Inv X pins σ H s) (hg:Gl X x) (hm:X.mg x=none) (hv:bootBuiltins x=some u) (h:Q u s)
  (hn:x ≠ "__name__":=by decide) (hd:(x == ("__debug__":Str))=false:=by decide):wpAny (model X.prog X.w) X.A (eval (.Name x pos) X.env) Q E s:=by
 obtain ⟨mb,h1,h2⟩:=I.mod.blt;exact Calls.Name_function_global I.ok.kind hg (Calls.loadGlobal_builtin (by rw [I.ok.glob];exact I.mod.glob.keeps I.bk) hm (by rw [I.ok.blt];exact h1.keeps I.bk) ((h2 x hn).trans hv) h) hd
def Ed (hg:Gl X x) (hm:X.mg x=some u) (r:RelV v u) (hd:(x == ("__debug__":Str))=false:=by decide):PE X (.Name x pos) (tC v) :=
 fun _ _ _ H _ I h=>rD I hg hm ⟨v,H,I,r,h⟩ hd
def rE (hg:Gl X x) (hm:X.mg x=none) (hv:bootBuiltins x=some u) (r:RelV v u) (hn:x ≠ "__name__":=by decide) (hd:(x == ("__debug__":Str))=false:=by decide):PE X (.Name x pos) (tC v) :=
 fun _ _ _ H _ I h=>jP I hg hm hv ⟨v,H,I,r,h⟩ hn hd
variable {a b:Expr}{ta tb:TE}{pos:Pos}
def PC (X:Cx) (op:CmpOp) (a b:Expr) (t:TE):Prop :=
 ∀ (pins:w4) (s:Shared) (σ:St) (H:Hp) (Q:VK),Inv X pins σ H s->t σ H Q ->
  wpAny (model X.prog X.w) X.A (eval a X.env) (fun v s₁=>wpAny (model X.prog X.w) X.A (eval b X.env) (fun u s₂=>wpAny (model X.prog X.w) X.A (compareOp op v u) (EP X pins σ Q) X.xe s₂) X.xe s₁) X.xe s
def tB (t:TE):TT:=fun σ H Q=>t σ H fun x H1=>∃ c,x=.bl c/\Q c H1
def adx (h:PC X op a b t) (h1:behindInMarks op b=false:=by first | exact nobehind _ (by decide) (by decide) | rfl):PT X (.Compare a [op] [b] pos) (tB t):=by
 intro pins s σ H Q I hw;refine wpAny_isTrue_Compare1 (thn (h pins s σ H _ I hw) fun v s1 h1=>thn h1 fun u s2 h2=>thn h2 fun c s3 ⟨x,H1,I1,r1,q1⟩=>?_) h1;obtain ⟨d,rfl,q⟩:=q1;cases r1;exact jo ⟨H1,I1,q⟩
def Tj (h:PE X e t) (he:∀ whole,isTrue e X.env whole=(do let v <- whole;standAt e.pos;holding [v] (truthy v)):=by intro _;rfl):PT X e (tB t):=by
 intro pins s σ H Q I hw;refine isTrue_plain (thn (h pins s σ H _ I hw) fun v s1 ⟨x,H1,I1,r1,q1⟩=>?_) (he _);obtain ⟨d,rfl,q⟩:=q1;cases r1;exact jo ⟨H1,I1,q⟩
variable {tA tB':TT}{rest:zl}
def ac4 (t u:TT):TT:=fun σ H Q=>t σ H fun c H1=>if c=true then u σ H1 Q else Q false H1
def tOr (t u:TT):TT:=fun σ H Q=>t σ H fun c H1=>if c=true then Q true H1 else u σ H1 Q
def ac5 (t:TT):TT:=fun σ H Q=>t σ H fun c H1=>Q (!c) H1
def Yh (ha:PT X a tA):PW X (.BoolOp .And [a] pos) tA:=by
 intro wh pins s σ H Q I h;refine isTrue_and (thn (ha pins s σ H Q I h) fun c s1 e=>?_);cases c with
 | true=>exact isTrue_and_nil e
 | false=>exact e
def abV (ha:PT X a tA):PW X (.BoolOp .Or [a] pos) tA:=by
 intro wh pins s σ H Q I h;refine isTrue_or (thn (ha pins s σ H Q I h) fun c s1 e=>?_);cases c with
 | false=>exact isTrue_or_nil e
 | true=>exact e
def abf (ha:PT X a tA) (hb:PW X (.BoolOp .And (b::rest) pos) tB'):PW X (.BoolOp .And (a::b::rest) pos) (ac4 tA tB'):=by
 intro wh pins s σ H Q I h;refine isTrue_and (thn (ha pins s σ H _ I h) fun c s1 ⟨H1,I1,q1⟩=>?_);cases c with
 | true=>exact hb wh pins s1 σ H1 Q I1 q1
 | false=>exact ⟨H1,I1,q1⟩
def acj (ha:PT X a tA) (hb:PW X (.BoolOp .Or (b::rest) pos) tB'):PW X (.BoolOp .Or (a::b::rest) pos) (tOr tA tB'):=by
 intro wh pins s σ H Q I h;refine isTrue_or (thn (ha pins s σ H _ I h) fun c s1 ⟨H1,I1,q1⟩=>?_);cases c with
 | true=>exact ⟨H1,I1,q1⟩
 | false=>exact hb wh pins s1 σ H1 Q I1 q1
def Rq (ha:PT X a tA):PT X (.UnaryOp .Not a pos) (ac5 tA):=by
 intro pins s σ H Q I h;exact isTrue_not (ha pins s σ H (fun c H1=>Q (!c) H1) I h)
def ab7 (ta tb:TE):TE:=fun σ H Q=>ta σ H fun x H1=>∃ c,x=.bl c/\if c=true then tb σ H1 Q else Q (.bl false) H1
def ac8 (ta tb:TE):TE:=fun σ H Q=>ta σ H fun x H1=>∃ c,x=.bl c/\if c=true then Q (.bl true) H1 else tb σ H1 Q
def acE (ta:TE):TE:=fun σ H Q=>ta σ H fun x H1=>∃ c,x=.bl c/\Q (.bl (!c)) H1
theorem Rg {op} (h:PE X a t):PE X (.BoolOp op [a] pos) t:=fun pins s σ H Q I hw=>BoolOp_one (h pins s σ H Q I hw)
def abl (ha:PE X a ta) (hb:PE X (.BoolOp .And (b::rest) pos) tb):PE X (.BoolOp .And (a::b::rest) pos) (ab7 ta tb):=by
 intro pins s σ H Q I h;refine BoolOp_and (thn (ha pins s σ H _ I h) fun v s1 ⟨x,H1,I1,r1,q1⟩=>?_);obtain ⟨c,rfl,q1⟩:=q1;cases r1;refine jo ?_;cases c with
 | true=>exact hb pins s1 σ H1 Q I1 q1
 | false=>exact ⟨.bl false,H1,I1,rfl,q1⟩
def acw (ha:PE X a ta) (hb:PE X (.BoolOp .Or (b::rest) pos) tb):PE X (.BoolOp .Or (a::b::rest) pos) (ac8 ta tb):=by
 intro pins s σ H Q I h;refine BoolOp_or (thn (ha pins s σ H _ I h) fun v s1 ⟨x,H1,I1,r1,q1⟩=>?_);obtain ⟨c,rfl,q1⟩:=q1;cases r1;refine jo ?_;cases c with
 | false=>exact hb pins s1 σ H1 Q I1 q1
 | true=>exact ⟨.bl true,H1,I1,rfl,q1⟩
def aaR (ha:PE X a ta):PE X (.UnaryOp .Not a pos) (acE ta):=by
 intro pins s σ H Q I h;refine UnaryOp_ (thn (ha pins s σ H _ I h) fun v s1 ⟨x,H1,I1,r1,q1⟩=>?_);obtain ⟨c,rfl,q1⟩:=q1;cases r1;exact not_of (jo ⟨.bl (!c),H1,I1,rfl,q1⟩)
end
def SqL (K:zd) (H:Hp) (a:Addr) (xs:List V):Prop :=
 Rd H a (.lst xs) \/
  ∃ (o:Obj) (its:zt) (n:Nat),K.lookup a=some o /\ o.cls=.type "list" /\ o.dict=none /\ o.data=.seq its n /\ its.size <= sizeLine /\ Vals xs its.toList
def SqT (K:zd) (H:Hp) (a:Addr) (xs:List V):Prop :=
 Rd H a (.tup xs) \/
  ∃ (o:Obj) (its:zt) (n:Nat),K.lookup a=some o /\ o.cls=.type "tuple" /\ o.data=.seq its n /\ its.size <= sizeLine /\ Vals xs its.toList
noncomputable def ado:Value->Option V
 | .none=>some .non
 | .bool b=>some (.bl b)
 | .int i _=>some (.int i)
 | .str x _=>some (.str x)
 | .bytes b _=>some (.byt b)
 | .float b _=>some (.flt b)
 | .ref a=>some (.ref a)
 | .type n=>some (.ty n)
 | _=>none
theorem RelV.abs {x:V} (r:RelV x u):ado u=some x:=by
 cases x with
 | non=>cases r;rfl
 | bl _=>cases r;rfl
 | int _=>obtain ⟨t,rfl⟩:=r;rfl
 | str _=>obtain ⟨t,rfl⟩:=r;rfl
 | byt _=>obtain ⟨t,rfl⟩:=r;rfl
 | flt _=>obtain ⟨t,rfl⟩:=r;rfl
 | ref _=>cases r;rfl
 | ty _=>cases r;rfl
variable {y:V}
theorem RelV.inj {x:V} (r:RelV x u) (q:RelV y u):x=y:=jr (r.abs.symm.trans q.abs)
theorem Vals.inj:∀ {xs ys:List V}{us:zg},Vals xs us->Vals ys us->xs=ys
 | _,_,_,.nil,.nil=>rfl
 | _,_,_,.cons r t,.cons r' t'=>by rw [r.inj r',Vals.inj t t']
section
variable {X:Cx}{pins:w4}{σ:St}{H:Hp}{s:Shared}{a:Addr}{xs ys:List V}
theorem SqL.of (h:H a=some (.lst xs)):SqL K H a xs:=.inl (.inl h)
theorem SqT.of (h:H a=some (.tup xs)):SqT K H a xs:=.inl (.inl h)
theorem Inv.list (I:Inv X pins σ H s) (h:SqL X.K H a xs):∃ its:zg,Vals xs its/\PlainL s.heap a its.toArray/\xs.length<=sizeLine:=by
 rcases h with h | ⟨o,its,n,hk,hc,hd,hs,hz,r⟩
 .obtain ⟨z,its,n,r,e⟩:=h.ok I.hok;exact ⟨its,r,⟨_,n,e,rfl,rfl,rfl⟩,z⟩
 .refine ⟨its.toList,r,⟨o,n,I.kIn a o hk,hc,hd,by simpa using hs⟩,?_⟩;have e:=r.length;simp only [Array.length_toList] at e;omega
theorem Inv.tuple (I:Inv X pins σ H s) (h:SqT X.K H a xs):∃ its:zg,Vals xs its/\IsTup s.heap a its.toArray/\xs.length<=sizeLine:=by
 rcases h with h | ⟨o,its,n,hk,hc,hs,hz,r⟩
 .obtain ⟨z,its,r,p⟩:=h.ok I.hok;exact ⟨its,r,p,z⟩
 .refine ⟨its.toList,r,⟨o,I.kIn a o hk,hc,n,by simpa using hs⟩,?_⟩;have e:=r.length;simp only [Array.length_toList] at e;omega
theorem Inv.list_inj (I:Inv X pins σ H s) (h:SqL X.K H a xs) (h':SqL X.K H a ys):xs=ys:=by
 obtain ⟨its,r,⟨o,n,e,_,_,d⟩,_⟩:=I.list h;obtain ⟨its',r',⟨o',n',e',_,_,d'⟩,_⟩:=I.list h';rw [e] at e';cases e';rw [d] at d';injection d' with d1 _;have:its=its':=by simpa using congrArg Array.toList d1
 subst this;exact r.inj r'
theorem Inv.tuple_inj (I:Inv X pins σ H s) (h:SqT X.K H a xs) (h':SqT X.K H a ys):xs=ys:=by
 obtain ⟨its,r,⟨o,e,_,n,d⟩,_⟩:=I.tuple h;obtain ⟨its',r',⟨o',e',_,n',d'⟩,_⟩:=I.tuple h';rw [e] at e';cases e';rw [d] at d';injection d' with d1 _;have:its=its':=by simpa using congrArg Array.toList d1
 subst this;exact r.inj r'
end
noncomputable abbrev Cx.wish (X:Cx) (E:zb):Cx:={ X with xe:=E }
noncomputable abbrev Cx.nox (X:Cx):Cx:=X.wish fun _ _=>False
theorem Cx.Ok.wish (ok:X.Ok) (E:zb):(X.wish E).Ok :=
 ⟨ok.mod,ok.kind,ok.glob,ok.blt,ok.above,ok.inj,ok.has,ok.cab,ok.hd,ok.frames,ok.stk,ok.exf,ok.bs,ok.bsz,ok.noex,ok.exfs,ok.funs,ok.frf,ok.tab⟩
theorem Cx.Ok.unwish (ok:(X.wish E).Ok):X.Ok :=
 ⟨ok.mod,ok.kind,ok.glob,ok.blt,ok.above,ok.inj,ok.has,ok.cab,ok.hd,ok.frames,ok.stk,ok.exf,ok.bs,ok.bsz,ok.noex,ok.exfs,ok.funs,ok.frf,ok.tab⟩
section
variable {X:Cx}{pins:w4}{σ:St}{H:Hp}{s:Shared}{E:zb}
theorem Inv.wish (I:Inv X pins σ H s) (E:zb):Inv (X.wish E) pins σ H s:=⟨I.ok.wish E,I.os,I.bare,I.base,I.loc,I.cell,I.free,I.freeC,I.pin,I.hok,I.len⟩
theorem Inv.unwish (I:Inv (X.wish E) pins σ H s):Inv X pins σ H s:=⟨I.ok.unwish,I.os,I.bare,I.base,I.loc,I.cell,I.free,I.freeC,I.pin,I.hok,I.len⟩
theorem SP.unwish {D:Ends}{f:Flow} (h:SP (X.wish E) pins D f s'):SP X pins D f s':=by
 cases f with
 | next=>obtain ⟨σ',H',I,q⟩:=h;exact ⟨σ',H',I.unwish,q⟩
 | brk=>obtain ⟨σ',H',I,q⟩:=h;exact ⟨σ',H',I.unwish,q⟩
 | cont=>obtain ⟨σ',H',I,q⟩:=h;exact ⟨σ',H',I.unwish,q⟩
 | ret u=>obtain ⟨v,σ',H',I,r,q⟩:=h;exact ⟨v,σ',H',I.unwish,r,q⟩
theorem PSs.nox {st:zn}{t:TS} (h:PSs X.nox st t):PSs X st t:=fun pins s σ H D I hw =>
 wpAny_mono (h pins s σ H D (I.wish _) hw) (fun _ _ q=>q.unwish) fun _ _ z=>js z
end
section
variable {X:Cx}{st:Stmt}{rest:zn}{t u:TS}{e:Expr}{te:TE}{pos:Pos}
def acO:TS:=fun D σ H=>D.nx σ H
def ada (t u:TS):TS:=fun D σ H=>t { D with nx:=u D } σ H
theorem Ai:PSs X [] acO:=fun _ _ σ H _ I h=>wpAny_execs_nil ⟨σ,H,I,h⟩
def ni (h1:PS X st t) (h2:PSs X rest u):PSs X (st::rest) (ada t u):=by
 intro pins s σ H D I h;refine wpAny_execs_cons (thn (h1 pins s σ H { D with nx:=u D } I h) fun f s1 q=>?_);cases f with
 | next =>
  obtain ⟨σ',H',I',q⟩:=q;exact h2 pins s1 σ' H' D I' q
 | ret v=>exact q
 | brk=>exact q
 | cont=>exact q
def zY (h1:PS X st t):PSs X [st] t:=by
 intro pins s σ H D I h;refine wpAny_execs_cons (thn (h1 pins s σ H D I h) fun f s1 q=>?_);cases f with
 | next=>exact wpAny_execs_nil q
 | ret v=>exact q
 | brk=>exact q
 | cont=>exact q
theorem Inv.quiet (I:Inv X pins σ H s):interactive X.env=false:=by simp [interactive,I.ok.kind]
def acM (te:TE):TS:=fun D σ H=>te σ H fun _ H1=>D.nx σ H1
def rJ (he:PE X e te) (hs:swapsWith e none pos.line X.env=pure false:=by rfl):PS X (.Expr e pos) (acM te):=by
 intro pins s σ H D I h;exact wpAny_Expr_any (thn (he pins s σ H _ I h) fun v s1 ⟨x,H1,I1,r1,q1⟩=>⟨σ,H1,I1,q1⟩) I.quiet hs
def adt (te:TE):TS:=fun D σ H=>te σ H D.rt
def Ja (he:PE X e te):PS X (.Return (some e) pos) (adt te):=by
 intro pins s σ H D I h;exact wpAny_Return_some (thn (he pins s σ H _ I h) fun v s1 ⟨x,H1,I1,r1,q1⟩=>⟨x,σ,H1,I1,r1,q1⟩)
def acz:TS:=fun D _ H=>D.rt .non H
theorem YD:PS X (.Return none pos) acz:=fun _ _ σ H _ I h=>wpAny_Return_none ⟨.non,σ,H,I,rfl,h⟩
def adh (c:TT) (t u:TS):TS:=fun D σ H=>c σ H fun b H1=>if b=true then t D σ H1 else u D σ H1
def QJ {c:Expr}{a b:zn}{tc:TT} (hc:PT X c tc) (ha:PSs X a t) (hb:PSs X b u):PS X (.If c a b pos) (adh tc t u):=by
 intro pins s σ H D I h;refine wpAny_If (thn (hc pins s σ H _ I h) fun d s1 ⟨H1,I1,q1⟩=>?_);cases d with
 | true=>exact ha pins s1 σ H1 D I1 q1
 | false=>exact hb pins s1 σ H1 D I1 q1
def Li:TS:=fun _ _ _=>False
theorem K6:PS X st Li:=fun _ _ _ _ _ _ h=>h.elim
theorem yC {sts:zn}:PSs X sts Li:=fun _ _ _ _ _ _ h=>h.elim
end
abbrev TG:=V->St->Hp->(St->Hp->Prop)->Prop
abbrev TGs:=List V->St->Hp->(St->Hp->Prop)->Prop
def PG (X:Cx) (target:Expr) (t:TG):Prop :=
 ∀ (pins:w4) (s:Shared) (σ:St) (H:Hp) (v:V) (u:Value) (Q:St->Hp->Prop),Inv X pins σ H s->RelV v u->t v σ H Q ->
  wpAny (model X.prog X.w) X.A (assign target X.env u) (fun _ s'=>∃ σ' H',Inv X pins σ' H' s'/\Q σ' H') X.xe s
def PGs (X:Cx) (ts:zl) (t:TGs):Prop :=
 ∀ (pins:w4) (s:Shared) (σ:St) (H:Hp) (vs:List V) (us:zg) (Q:St->Hp->Prop),Inv X pins σ H s->Vals vs us->t vs σ H Q ->
  wpAny (model X.prog X.w) X.A (assignInOrder ((assignEach ts X.env).map (·.2)) us) (fun _ s'=>∃ σ' H',Inv X pins σ' H' s'/\Q σ' H') X.xe s
abbrev P0:=V->V->V->Hp->(Hp->Prop)->Prop
def abZ (X:Cx) (t:P0):Prop :=
 ∀ (pins:w4) (s:Shared) (σ:St) (H:Hp) (o i v:V) (ov iv u:Value) (Q:Hp->Prop),Inv X pins σ H s->RelV o ov->RelV i iv->RelV v u->t o i v H Q ->
  wpAny (model X.prog X.w) X.A (setItem ov iv u) (fun _ s'=>∃ H',Inv X pins σ H' s'/\Q H') X.xe s
variable {es:zl}{k n:Nat}{tg:Expr}{g:TG}
section
variable {X:Cx}{pos:Pos}
def Ec (i:Nat):TG:=fun v σ H Q=>Q (σ.set i (some v)) H
def Ew (hN:X.N.Nodup) (hi:X.N[i]?=some x) (hx:Loc X.env.scope x) (hf:X.fn x=true\/X.env.scope.names.lookup x=some .local:=by first | exact .inl rfl | exact .inr rfl | assumption):PG X (.Name x pos) (Ec i):=by
 intro pins s σ H v u Q I r h;exact wpAny_assign_Name (Ij I hN hi hx r (fun s' I'=>⟨_,H,I',h⟩) hf)
def abT:TGs:=fun vs σ H Q=>vs=[]/\Q σ H
def Qs (t:TG) (u:TGs):TGs:=fun vs σ H Q=>∃ v r,vs=v::r/\t v σ H fun σ' H'=>u r σ' H' Q
def Zz:PGs X [] abT:=by
 intro pins s σ H vs us Q I r h;obtain ⟨e,h⟩:=h;subst e;cases r;exact assignInOrder_nil ⟨σ,H,I,h⟩
def Jq {t:TG}{u:TGs} (h1:PG X e t) (h2:PGs X es u)
  (hs:(assignEach (e::es) X.env).map (·.2)=assign e X.env::(assignEach es X.env).map (·.2):=by rfl):PGs X (e::es) (Qs t u):=by
 intro pins s σ H vs us Q I r h;obtain ⟨v,vr,e1,h⟩:=h;subst e1;cases r with
 | cons r rr =>
  rw [hs];refine assignInOrder_cons (thn (h1 pins s σ H _ _ _ I r h) fun _ s1 ⟨σ1,H1,I1,q1⟩=>?_);exact h2 pins s1 σ1 H1 _ _ Q I1 rr q1
def aa4 (K:zd) (n:Nat) (t:TGs):TG:=fun v σ H Q=>∃ a xs,v=.ref a/\SqT K H a xs/\xs.length=n/\t xs σ H Q
def aa8 {t:TGs} (hc:X.calm=true) (h:PGs X es t)
  (hn:(assignEach es X.env).length=n:=by rfl) (hst:(assignEach es X.env).findIdx? (·.1)=none:=by rfl):PG X (.Tuple es k pos) (aa4 X.K n t):=by
 intro pins s σ H v u Q I r hw;obtain ⟨a,xs,e1,hq,hl,hw⟩:=hw;subst e1;cases r;obtain ⟨its,rv,ht,hz⟩:=I.tuple hq;refine assign_Tuple_tuple (I.ok.hd hc) ht (by simp [hn,<- hl,rv.length]) hst fun h' hx=>?_
 have I1:Inv X pins σ H { s with heap:=h' }:=I.kept (t':=s.toks) fun b o e=>hx b o (vz (vx e)) e
 exact h pins _ σ H xs _ Q I1 (by simpa using rv) hw
def adu (to ti:TE) (t:P0):TG:=fun v σ H Q=>to σ H fun o H1=>ti σ H1 fun i H2=>t o i v H2 fun H3=>Q σ H3
def Tw {o i:Expr}{to ti:TE}{t:P0} (ho:PE X o to) (hi:PE X i ti) (hs:abZ X t)
  (ha:∀ v,assign (.Subscript o i pos) X.env v=(do
   let ov <- holding [v] (eval o X.env)
   let iv <- holding [v,ov] (eval i X.env)
   standAt pos
   holding [v,ov,iv] (setItem ov iv v)
   release [v,ov,iv] []):=by intro _;rfl):PG X (.Subscript o i pos) (adu to ti t):=by
 intro pins s σ H v u Q I r h;rw [ha];refine zz (wpAny_holding (thn (ho pins s σ H _ I h) fun ov s1 ⟨x,H1,I1,r1,q1⟩=>?_));refine zz (wpAny_holding (thn (hi pins s1 σ H1 _ I1 q1) fun iv s2 ⟨y,H2,I2,r2,q2⟩=>?_));refine zz (wpAny_standAt (zz (wpAny_holding (thn (hs pins s2 σ H2 x y v ov iv u _ I2 r1 r2 r q2) fun _ s3 ⟨H3,I3,q3⟩=>?_))));exact wpAny_release ⟨σ,H3,I3,q3⟩
def WY (te:TE) (g:TG):TS:=fun D σ H=>te σ H fun x H1=>g x σ H1 D.nx
def oY {te:TE} (he:PE X e te) (hg:PG X tg g) (hs:swapsWithSole [tg] e pos.line X.env=pure false:=by rfl) (hw:swappedStores [tg] e X.env=pure none:=by rfl)
  (h1:(assignEach [tg] X.env).map (·.2)=[assign tg X.env]:=by rfl):PS X (.Assign [tg] e pos) (WY te g):=by
 intro pins s σ H D I h;refine wpAny_Assign_stores (thn (he pins s σ H _ I h) fun v s1 ⟨x,H1,I1,r1,q1⟩=>?_) hs hw;rw [h1];exact thn (hg pins s1 σ H1 x v _ I1 r1 q1) fun _ s2 q=>q
end
structure It where
 go:Nat->Hp->Prop
 yld:Nat->Hp->V->Hp->Prop
 stop:Nat->Hp->Prop
def jz (X:Cx) (pins:w4) (H:Hp) (b:Addr):Prop :=
 H b=none/\b≠X.env.locals/\b ∉ X.fs/\(b∈X.ex\/X.s₀.heap.objs.size<=b)/\(∀ x c,X.env.cells.lookup x=some c->c≠b)/\∀ p∈X.pn++pins,p.1≠b
theorem Inv.fpOk (I:Inv X pins σ H s) (hb:s.heap.objs.size<=b) (hn:H' b=none):jz X pins H' b:=by
 refine ⟨hn,vE (vT I.lt hb),I.nofs hb,.inr (vF I.sz hb),fun x c e z=>?_,fun p hp z=>?_⟩
 .obtain ⟨v,q⟩:=I.cell x c e;exact absurd (vT q.lt (by rw [z];exact hb)) (yf _)
 .exact absurd (vT (vx (I.pin p hp).1) (by rw [z];exact hb)) (yf _)
structure Turn (P:Program) (w:World) (K:zd) (tg:Expr) (J:It) (fp:List Addr) (it:Addr) (tn:Nat->Heap->Prop):Prop where
 mem:it∈fp
 obj:∀ i h,tn i h->∀ b∈fp,∃ o,h.get? b=some o/\∀ v,o.data≠.cell v
 keep:∀ i h h',tn i h->(∀ b∈fp,∀ o,h.get? b=some o->h'.get? b=some o)->tn i h'
 item:∀ (X:Cx),X.prog=P->X.w=w->X.K=K->X.calm=true->∀ (i:Nat) (pins:w4) (s:Shared) (σ:St) (H:Hp) (E:zb),Inv X pins σ H s->(∀ b∈fp,jz X pins H b)->tn i s.heap->J.go i H ->
  wpAny (model P w) X.A (pyNext (.ref it)) (fun r s1=>∃ u,r=some u /\
   wpAny (model P w) X.A (letOwnedTupleGo tg (.ref it) u) (fun _ s2=>∃ x H',Inv X pins σ H' s2/\RelV x u/\J.yld i H x H'/\tn (i+1) s2.heap/\∀ b∈fp,H' b=none) E s1) E s
 done:∀ (X:Cx),X.prog=P->X.w=w->X.K=K->X.calm=true->∀ (i:Nat) (pins:w4) (s:Shared) (σ:St) (H:Hp) (E:zb),Inv X pins σ H s->(∀ b∈fp,jz X pins H b)->tn i s.heap->J.stop i H ->
  wpAny (model P w) X.A (pyNext (.ref it)) (fun r s1=>r=none/\Inv X pins σ H s1) E s
 self:∀ (A:Around) (i:Nat) (s:Shared) (Q:zb) (E:zb),tn i s.heap->Q (.ref it) s->wpAny (model P w) A (pyIter (.ref it)) Q E s
abbrev TI:=St->Hp->(It->Hp->Prop)->Prop
def PIE (X:Cx) (pins:w4) (σ:St) (tg:Expr) (R:It->Hp->Prop) (itv:Value) (s2:Shared):Prop :=
 ∃ (it:Addr) (fp:List Addr) (tn:Nat->Heap->Prop) (J:It) (H':Hp),itv=.ref it/\Inv X pins σ H' s2/\Turn X.prog X.w X.K tg J fp it tn/\tn 0 s2.heap/\(∀ b∈fp,jz X pins H' b)/\R J H'
def PI (X:Cx) (tg iter:Expr) (wi:TI):Prop :=
 ∀ (pins:w4) (s:Shared) (σ:St) (H:Hp) (R:It->Hp->Prop),Inv X pins σ H s->wi σ H R ->
  wpAny (model X.prog X.w) X.A (eval iter X.env) (fun v s1=>wpAny (model X.prog X.w) X.A (pyIter v) (PIE X pins σ tg R) X.xe s1) X.xe s
def Ib {M:Model}{o:Obj}{n:String}{vs:zt} (ho:s.heap.get? it=some o) (hc:o.cls=.type n) (hd:o.data=.fields vs)
  (hn:["enumerate","zip","dict_itemiterator","dict_reverseitemiterator","odict_iterator","itertools.zip_longest","itertools.pairwise"].contains n=false) (hQ:Q () s):wpAny M A (letOwnedTupleGo tg (.ref it) u) Q E s:=by
 unfold letOwnedTupleGo;cases tg <;> first
  | exact z0 hQ
  | (cases u <;> first
    | exact z0 hQ
    | (refine zz (wpAny_load ho ?_)
       rw [hc,hd];show wpAny M A (if (["enumerate","zip","dict_itemiterator","dict_reverseitemiterator","odict_iterator","itertools.zip_longest","itertools.pairwise"].contains n && vs[0]? == some (rawInt _))=true then _ else _) Q E s
       rw [if_neg (by intro h;rw [hn,Bool.false_and] at h;cases h)];exact z0 hQ))
noncomputable def Itl (K:zd) (a:Addr):It :=
 ⟨fun i H=>∃ xs x,SqL K H a xs/\xs[i]?=some x,fun i H x H'=>H'=H/\∀ xs,SqL K H a xs->xs[i]?=some x,fun i H=>∃ xs,SqL K H a xs/\xs.length<=i⟩
noncomputable def Itt (K:zd) (a:Addr):It :=
 ⟨fun i H=>∃ xs x,SqT K H a xs/\xs[i]?=some x,fun i H x H'=>H'=H/\∀ xs,SqT K H a xs->xs[i]?=some x,fun i H=>∃ xs,SqT K H a xs/\xs.length<=i⟩
noncomputable def Itr (lo:Int) (n:Nat):It:=⟨fun i _=>i < n,fun i H x H'=>H'=H/\x=.int (lo+i),fun i _=>n<=i⟩
def Rj (a it:Addr):Turn P w K tg (Itl K a) [it] it (fun i h=>h.IsListIter it a i) where
 mem:=by simp
 obj:=fun i h st b hb=>by
  have e:b=it:=by simpa using hb
  subst e;obtain ⟨o,e,c,d⟩:=st;exact ⟨o,e,fun v z=>by rw [d] at z;cases z⟩
 keep:=fun i h h' st k=>st.at fun o e=>k it (by simp) o e
 item:=by
  intro X hP hw hK hc i pins s σ H E I hf st hg;subst hP hw hK;obtain ⟨xs,x,hq,hx⟩:=hg;obtain ⟨its,rv,p,hz⟩:=I.list hq;obtain ⟨u,hu,ru⟩:=rv.get hx;obtain ⟨f0,f1,f2,f3,f4,f5⟩:=hf it (by simp);refine wpAny_pyNext_list_item st p.isList (x:=u) (by simpa using hu) fun h' st' sb=>?_
  have I1:Inv X pins σ H { s with heap:=h' }:=I.turned (t':=s.toks) (fun b o hb e=>(sb.2 b hb).trans e) f0 f1 f3 f4 f5;obtain ⟨o,e,c,d⟩:=id st';exact ⟨u,rfl,Ib (s:={ s with heap:=h' }) e c d (by decide) ⟨x,H,I1,ru,⟨rfl,fun ys hy=>by rw [I.list_inj hy hq];exact hx⟩,st',fun b hb=>(hf b hb).1⟩⟩
 done:=by
  intro X hP hw hK hc i pins s σ H E I hf st hg;subst hP hw hK;obtain ⟨xs,hq,hx⟩:=hg;obtain ⟨its,rv,p,hz⟩:=I.list hq;obtain ⟨f0,f1,f2,f3,f4,f5⟩:=hf it (by simp);have hl:=rv.length;exact wpAny_pyNext_list_end (I.ok.hd hc) st p.isList (by simp;omega) fun h' eb=>⟨rfl,I.turned (t':=s.toks) (fun b o hb e=>eb b o hb e) f0 f1 f3 f4 f5⟩
 self:=fun _ _ _ _ _ st h=>wpAny_pyIter_listiter st h
def Pk (a it:Addr):Turn P w K tg (Itt K a) [it] it (fun i h=>h.IsTupleIter it a i) where
 mem:=by simp
 obj:=fun i h st b hb=>by
  have e:b=it:=by simpa using hb
  subst e;obtain ⟨o,e,c,d⟩:=st;exact ⟨o,e,fun v z=>by rw [d] at z;cases z⟩
 keep:=fun i h h' st k=>st.at fun o e=>k it (by simp) o e
 item:=by
  intro X hP hw hK hc i pins s σ H E I hf st hg;subst hP hw hK;obtain ⟨xs,x,hq,hx⟩:=hg;obtain ⟨its,rv,p,hz⟩:=I.tuple hq;obtain ⟨u,hu,ru⟩:=rv.get hx;obtain ⟨f0,f1,f2,f3,f4,f5⟩:=hf it (by simp);refine wpAny_pyNext_tuple_item st (show s.heap.IsTuple a its.toArray from p) (x:=u) (by simpa using hu) fun h' st' sb=>?_
  have I1:Inv X pins σ H { s with heap:=h' }:=I.turned (t':=s.toks) (fun b o hb e=>(sb.2 b hb).trans e) f0 f1 f3 f4 f5;obtain ⟨o,e,c,d⟩:=id st';exact ⟨u,rfl,Ib (s:={ s with heap:=h' }) e c d (by decide) ⟨x,H,I1,ru,⟨rfl,fun ys hy=>by rw [I.tuple_inj hy hq];exact hx⟩,st',fun b hb=>(hf b hb).1⟩⟩
 done:=by
  intro X hP hw hK hc i pins s σ H E I hf st hg;subst hP hw hK;obtain ⟨xs,hq,hx⟩:=hg;obtain ⟨its,rv,p,hz⟩:=I.tuple hq;obtain ⟨f0,f1,f2,f3,f4,f5⟩:=hf it (by simp);have hl:=rv.length;exact wpAny_pyNext_tuple_end (I.ok.hd hc) st (show s.heap.IsTuple a its.toArray from p) (by simp;omega) fun h' eb=>⟨rfl,I.turned (t':=s.toks) (fun b o hb e=>eb b o hb e) f0 f1 f3 f4 f5⟩
 self:=fun _ _ _ _ _ st h=>wpAny_pyIter_tupleiter st h
def Q9 (it:Addr) (lo:Int) (n:Nat):Turn P w K tg (Itr lo n) [it] it (fun i h=>IsRangeIter h it (lo+(i:Nat) * 1) ((n:Int) - (i:Nat)) 1) where
 mem:=by simp
 obj:=fun i h st b hb=>by
  have e:b=it:=by simpa using hb
  subst e;exact ⟨_,st,fun v z=>by
   have z':Data.fields _=Data.cell v:=z;cases z'⟩
 keep:=fun i h h' st k=>k it (by simp) _ st
 item:=by
  intro X hP hw hK hc i pins s σ H E I hf st hg;subst hP hw hK;obtain ⟨f0,f1,f2,f3,f4,f5⟩:=hf it (by simp);have W:=Walks.range (prog:=X.prog) (w:=X.w) (I.ok.hd hc) it lo 1 n;refine W.item i s _ _ hg st fun v h' tk hv st' kk=>?_
  obtain ⟨t,rfl⟩:=hv;have I1:Inv X pins σ H { s with heap:=h',toks:=tk }:=I.turned (fun b o hb e=>kk b o (by simpa using hb) e) f0 f1 f3 f4 f5;refine ⟨_,rfl,Ib (s:={ s with heap:=h',toks:=tk }) (n:="range_iterator") st' rfl rfl (by decide) ⟨.int (lo+i),H,I1,⟨t,?_⟩,⟨rfl,rfl⟩,st',fun b hb=>(hf b hb).1⟩⟩
  rw [Int.mul_one]
 done:=by
  intro X hP hw hK hc i pins s σ H E I hf st hg;subst hP hw hK;obtain ⟨f0,f1,f2,f3,f4,f5⟩:=hf it (by simp);exact wpAny_pyNext_range_end (I.ok.hd hc) st (by have:n<=i:=hg;omega) fun h' eb=>⟨rfl,I.turned (t':=s.toks) (fun b o hb e=>eb b o hb e) f0 f1 f3 f4 f5⟩
 self:=fun _ _ _ _ _ st h=>wpAny_pyIter_rangeiter st h
variable {l:Expr}{tl:TE}{ta:TA}{p:Pos}{fp:List Addr}{body:zn}
section
variable {X:Cx}{tg:Expr}
def aco (K:zd) (tl:TE):TI:=fun σ H R=>tl σ H fun x H1=>∃ a,x=.ref a/\(∃ xs,SqL K H1 a xs)/\R (Itl K a) H1
def ac0 (K:zd) (tl:TE):TI:=fun σ H R=>tl σ H fun x H1=>∃ a,x=.ref a/\(∃ xs,SqT K H1 a xs)/\R (Itt K a) H1
def Zq (hl:PE X l tl):PI X tg l (aco X.K tl):=by
 intro pins s σ H R I h;refine thn (hl pins s σ H _ I h) fun v s1 ⟨x,H1,I1,r1,q1⟩=>?_
 obtain ⟨a,e,⟨xs,hq⟩,q⟩:=q1;subst e;cases r1;obtain ⟨its,rv,p,hz⟩:=I1.list hq;refine wpAny_pyIter_list p.isList ?_;refine ⟨s1.heap.objs.size,[s1.heap.objs.size],_,_,H1,rfl,I1.kept (t':=s1.toks) fun b o e=>vn _ e,Rj a _,⟨_,vw _ rfl,rfl,rfl⟩,fun b hb=>?_,q⟩;have e:b=s1.heap.objs.size:=by simpa using hb
 subst e;exact I1.fpOk (vy _) (I1.hok.fresh (vy _))
def aay (hl:PE X l tl):PI X tg l (ac0 X.K tl):=by
 intro pins s σ H R I h;refine thn (hl pins s σ H _ I h) fun v s1 ⟨x,H1,I1,r1,q1⟩=>?_
 obtain ⟨a,e,⟨xs,hq⟩,q⟩:=q1;subst e;cases r1;obtain ⟨its,rv,p,hz⟩:=I1.tuple hq;refine wpAny_pyIter_tuple (show s1.heap.IsTuple a its.toArray from p) ?_;refine ⟨s1.heap.objs.size,[s1.heap.objs.size],_,_,H1,rfl,I1.kept (t':=s1.toks) fun b o e=>vn _ e,Pk a _,⟨_,vw _ rfl,rfl,rfl⟩,fun b hb=>?_,q⟩;have e:b=s1.heap.objs.size:=by simpa using hb
 subst e;exact I1.fpOk (vy _) (I1.hok.fresh (vy _))
def Ky {R:It->Hp->Prop}{lo hi:Int}{t u v:Tok}{tk:Nat} (I:Inv X pins σ H s) (h1:-(2 ^ 62)<=lo) (h2:lo < 2 ^ 62) (h3:-(2 ^ 62)<=hi) (h4:hi < 2 ^ 62)
  (q:R (Itr lo (hi - lo).toNat) H):wpAny (model X.prog X.w) X.A (pyIter (.ref s.heap.objs.size)) (PIE X pins σ tg R) E { s with heap:=s.heap.push { cls:=.type "range",data:=.fields #[.int lo t,.int hi u,.int 1 v] },toks:=tk }:=by
 refine wpAny_pyIter_range (IsRange.new ..) (small_one h1 h2 h3 h4) ?_;have I1:Inv X pins σ H { s with heap:=s.heap.push { cls:=.type "range",data:=.fields #[.int lo t,.int hi u,.int 1 v] },toks:=tk }:=I.kept fun b o e=>vn _ e
 refine ⟨(s.heap.push { cls:=.type "range",data:=.fields #[.int lo t,.int hi u,.int 1 v] }).objs.size,[(s.heap.push { cls:=.type "range",data:=.fields #[.int lo t,.int hi u,.int 1 v] }).objs.size],_,_,H,rfl,
  I1.kept (t':=tk) fun b o e=>vn _ e,Q9 _ lo (hi - lo).toNat,?_,fun b hb=>?_,q⟩
 .have e1:lo+((0:Nat):Int) * 1=lo:=by simp
  have e2:(((hi - lo).toNat:Nat):Int) - ((0:Nat):Int)=Builtin.Range.rangeSize lo hi 1:=by rw [rangeSize_one];split <;> omega
  show IsRangeIter _ _ (lo+((0:Nat):Int) * 1) ((((hi - lo).toNat:Nat):Int) - ((0:Nat):Int)) 1
  rw [e1,e2];exact vw _ rfl
 .have e:b=(s.heap.push { cls:=.type "range",data:=.fields #[.int lo t,.int hi u,.int 1 v] }).objs.size:=by simpa using hb
  subst e;exact I1.fpOk (vy _) (I1.hok.fresh (vy _))
def acQ (ta:TA):TI:=fun σ H R=>ta σ H fun vs H1=>∃ j:Int,vs=[.int j]/\-(2 ^ 62)<=j/\j < 2 ^ 62/\R (Itr 0 j.toNat) H1
def acD (ta:TA):TI:=fun σ H R=>ta σ H fun vs H1=>∃ i j:Int,vs=[.int i,.int j]/\(-(2 ^ 62)<=i/\i < 2 ^ 62/\-(2 ^ 62)<=j/\j < 2 ^ 62)/\R (Itr i (j - i).toNat) H1
def SN {a:Expr} (hg:Gl X "range") (hm:X.mg "range"=none) (ha:PA X [a] ta) (hs:starEach [a] X.env=[(false,eval a X.env)]:=by rfl):PI X tg (.Call (.Name "range" p) [a] [] pos) (acQ ta):=by
 intro pins s σ H R I h;refine Call_ (jP I hg hm boot_range (jn (thn (ha pos pins s σ H _ I h) fun us s1 ⟨vs,H1,I1,r1,q1⟩=>?_) hs rfl));obtain ⟨j,e,q1,q2,q⟩:=q1;subst e;cases r1 with
 | cons r rr =>
  cases rr;obtain ⟨t,rfl⟩:=r;exact call_range_1 (Ky I1 (by omega) (by omega) q1 q2 (by simpa using q))
def RZ {a b:Expr} (hg:Gl X "range") (hm:X.mg "range"=none) (ha:PA X [a,b] ta) (hs:starEach [a,b] X.env=[(false,eval a X.env),(false,eval b X.env)]:=by rfl) (hs2:starEach [b] X.env=[(false,eval b X.env)]:=by rfl) :
  PI X tg (.Call (.Name "range" p) [a,b] [] pos) (acD ta):=by
 intro pins s σ H R I h;refine Call_ (jP I hg hm boot_range (jn (thn (ha pos pins s σ H _ I h) fun us s1 ⟨vs,H1,I1,r1,q1⟩=>?_) (by rw [hs,hs2]) (by rw [hs2];rfl)));obtain ⟨i,j,e,⟨q1,q2,q3,q4⟩,q⟩:=q1;subst e;cases r1 with
 | cons r rr =>
  cases rr with
  | cons r' rr =>
   cases rr;obtain ⟨t,rfl⟩:=r;obtain ⟨t',rfl⟩:=r';exact call_range_2 (Ky I1 q1 q2 q3 q4 q)
def adk (wi:TI) (g:TG) (tb:TS):TS:=fun D σ H=>wi σ H fun J H1=>∃ W:Nat->Nat->St->Hp->Prop,(∃ m,W 0 m σ H1)/\∀ i m σ H,W i m σ H ->
 (J.stop i H/\D.nx σ H)\/(J.go i H/\∃ N:St->Hp->Prop,(∀ σ' H',N σ' H'->∃ m',m' < m/\W (i+1) m' σ' H')/\∀ x H',J.yld i H x H'->g x σ H' fun σ2 H2=>tb { D with nx:=N,ct:=N,bk:=D.nx } σ2 H2)
noncomputable def yR (fp:List Addr) (h:Heap):w4:=fp.filterMap fun b=>(h.get? b).map fun o=>(b,o)
theorem pQ {o:Obj} (hb:b∈fp) (e:h.get? b=some o):(b,o)∈yR fp h:=List.mem_filterMap.mpr ⟨b,hb,by rw [e];rfl⟩
def Tr {p:Addr × Obj} (hp:p∈yR fp h):p.1∈fp/\h.get? p.1=some p.2:=by
 obtain ⟨b,hb,e⟩:=List.mem_filterMap.mp hp;cases q:h.get? b with
 | none=>rw [q] at e;cases e
 | some o =>
  rw [q] at e;have e':(b,o)=p:=jr e;subst e';exact ⟨hb,q⟩
theorem Inv.pinned (I:Inv X pins σ H s) (hf:∀ b∈fp,jz X pins H b) (ho:∀ b∈fp,∃ o,s.heap.get? b=some o/\∀ v,o.data≠.cell v):Inv X (pins++yR fp s.heap) σ H s :=
 I.pins_of fun p hp=>(yT.mp hp).elim (fun z=>I.pin p (vk _ z)) fun z=>by
  obtain ⟨hb,e⟩:=Tr z;obtain ⟨f0,f1,f2,_⟩:=hf p.1 hb;obtain ⟨o,e',d⟩:=ho p.1 hb;rw [e] at e';cases e';exact ⟨e,f0,f1,f2,d⟩
theorem Inv.unpinned {pl:w4} (I:Inv X (pins++pl) σ H s):Inv X pins σ H s:=I.pins_of fun p hp=>I.pin p (vk _ (vj _ hp))
def RT {iter:Expr}{wi:TI}{tb:TS} (hp:PassesOwn (model X.prog X.w) X.A X.env X.xe) (hc:X.calm=true) (hi:PI X tg iter wi) (hg:PG X tg g) (hb:PSs X body tb)
  (hs:∀ x,foldedSetIterable iter X.env x=pure x:=by intro _;rfl):PS X (.For tg iter body [] pos) (adk wi g tb):=by
 intro pins s σ H D I h;refine wpAny_For (thn (hi pins s σ H _ I h) fun v s1 h1=>thn h1 fun itv s2 h2=>?_) hs;obtain ⟨it,fp,tn,J,H2,e,I2,T,st2,f2,W,⟨m0,w0⟩,turn⟩:=h2;subst e;have stat:∀ {H':Hp},(∀ b∈fp,H' b=none)->∀ b∈fp,jz X pins H' b:=fun hn b hb=>⟨hn b hb,(f2 b hb).2⟩
 refine codeAny_forLoop_any (fun n s'=>∃ i σ' H',Inv X pins σ' H' s'/\tn i s'.heap/\(∀ b∈fp,H' b=none)/\W i n σ' H') ?_ m0 ⟨0,σ,H2,I2,st2,fun b hb=>(f2 b hb).1,w0⟩;rintro n s3 ⟨i,σ3,H3,I3,st3,fr3,w3⟩;rcases turn i n σ3 H3 w3 with ⟨stop,qn⟩ | ⟨go,N,hN,step⟩
 .refine wpAny_passesOwn hp (thn (T.done X rfl rfl rfl hc i pins s3 σ3 H3 X.xe I3 (stat fr3) st3 stop) fun r s4 ⟨hr,I4⟩=>?_);subst hr;exact wpAny_execs_nil ⟨σ3,H3,I4,qn⟩
 .refine wpAny_passesOwn hp (thn (T.item X rfl rfl rfl hc i pins s3 σ3 H3 X.xe I3 (stat fr3) st3 go) fun r s4 ⟨u,hr,h4⟩=>?_);subst hr;refine wpAny_passesOwn hp (thn h4 fun _ s5 ⟨x,H5,I5,r5,y5,st5,fr5⟩=>?_);have I5':=I5.pinned (stat fr5) (T.obj _ _ st5);refine wpAny_passesOwn hp (thn (hg _ s5 σ3 H5 x u _ I5' r5 (step x H5 y5)) fun _ s6 ⟨σ6,H6,I6,q6⟩=>?_);refine wpAny_passesOwn hp (thn (hb _ s6 σ6 H6 _ I6 q6) fun f s7 q7=>?_);have again:∀ {σ7:St}{H7:Hp},Inv X (pins++yR fp s5.heap) σ7 H7 s7->N σ7 H7->∃ m,m < n/\∃ i σ' H',Inv X pins σ' H' s7/\tn i s7.heap/\(∀ b∈fp,H' b=none)/\W i m σ' H':=fun {σ7 H7} I7 n7=>by
   obtain ⟨m',hm,w7⟩:=hN σ7 H7 n7;refine ⟨m',hm,i+1,σ7,H7,I7.unpinned,T.keep _ _ _ st5 fun b hb o e=>(I7.pin (b,o) (vk _ (vk _ (pQ hb e)))).1,fun b hb=>?_,w7⟩;obtain ⟨o,e,d⟩:=T.obj _ _ st5 b hb;exact (I7.pin (b,o) (vk _ (vk _ (pQ hb e)))).2.1
  cases f with
  | next=>obtain ⟨σ7,H7,I7,n7⟩:=q7;exact again I7 n7
  | cont=>obtain ⟨σ7,H7,I7,n7⟩:=q7;exact again I7 n7
  | brk=>obtain ⟨σ7,H7,I7,q7⟩:=q7;exact ⟨σ7,H7,I7.unpinned,q7⟩
  | ret v=>obtain ⟨x7,σ7,H7,I7,r7,q7⟩:=q7;exact ⟨x7,σ7,H7,I7.unpinned,r7,q7⟩
end
abbrev R2:=V->V->Hp->VK->Prop
def OpR (X:Cx) (f:Value->Value->Sem Value) (r:R2):Prop :=
 ∀ (pins:w4) (s:Shared) (σ:St) (H:Hp) (x y:V) (v u:Value) (Q:VK),Inv X pins σ H s->RelV x v->RelV y u->r x y H Q ->
  wpAny (model X.prog X.w) X.A (f v u) (EP X pins σ Q) X.xe s
def UnR (X:Cx) (f:Value->Sem Value) (r:V->Hp->VK->Prop):Prop :=
 ∀ (pins:w4) (s:Shared) (σ:St) (H:Hp) (x:V) (v:Value) (Q:VK),Inv X pins σ H s->RelV x v->r x H Q ->
  wpAny (model X.prog X.w) X.A (f v) (EP X pins σ Q) X.xe s
def lu (X:Cx) (f:Value) (r:List V->Hp->VK->Prop):Prop :=
 ∀ (pins:w4) (s:Shared) (σ:St) (H:Hp) (xs:List V) (us:zg) (Q:VK),Inv X pins σ H s->Vals xs us->r xs H Q ->
  wpAny (model X.prog X.w) X.A (call f us) (EP X pins σ Q) X.xe s
def ac7 (X:Cx) (r:V->Hp->(Bool->Hp->Prop)->Prop):Prop :=
 ∀ (pins:w4) (s:Shared) (σ:St) (H:Hp) (x:V) (v:Value) (Q:Bool->Hp->Prop),Inv X pins σ H s->RelV x v->r x H Q ->
  wpAny (model X.prog X.w) X.A (truthy v) (TP X pins σ Q) X.xe s
def tOp (r:R2) (ta tb:TE):TE:=fun σ H Q=>ta σ H fun x H1=>tb σ H1 fun y H2=>r x y H2 Q
def tUn (r:V->Hp->VK->Prop) (ta:TE):TE:=fun σ H Q=>ta σ H fun x H1=>r x H1 Q
def rI (C:Int->Int->Prop) (g:Int->Int->V):R2:=fun x y H Q=>∃ i j,x=.int i/\y=.int j/\C i j/\Q (g i j) H
def rI0 (g:Int->Int->V):R2:=fun x y H Q=>∃ i j,x=.int i/\y=.int j/\Q (g i j) H
def rU (g:Int->V):V->Hp->VK->Prop:=fun x H Q=>∃ i,x=.int i/\Q (g i) H
variable {f:Value->Value->Sem Value}{r:R2}
section
variable {X:Cx}{a b c:Expr}{ta tb tc:TE}{pos:Pos}
def W6 (ha:PE X a ta) (hb:PE X b tb) {R:V->V->Hp->Prop} (I:Inv X pins σ H s)
  (h:ta σ H fun x H1=>tb σ H1 fun y H2=>R x y H2) {Q:zb}
  (hf:∀ v u s2 x y H2,Inv X pins σ H2 s2->RelV x v->RelV y u->R x y H2->wpAny (model X.prog X.w) X.A (f v u) Q X.xe s2) :
  wpAny (model X.prog X.w) X.A (eval a X.env) (fun v s₁=>wpAny (model X.prog X.w) X.A (eval b X.env) (fun u s₂=>wpAny (model X.prog X.w) X.A (f v u) Q X.xe s₂) X.xe s₁) X.xe s:=by
 refine thn (ha pins s σ H _ I h) fun v s1 ⟨x,H1,I1,r1,q1⟩=>?_
 refine thn (hb pins s1 σ H1 _ I1 q1) fun u s2 ⟨y,H2,I2,r2,q2⟩=>?_
 exact hf v u s2 x y H2 I2 r1 r2 q2
def Xw {op:Operator} (ho:OpR X (binaryOp op) r) (ha:PE X a ta) (hb:PE X b tb):PE X (.BinOp a op b pos) (tOp r ta tb):=by
 intro pins s σ H Q I h;exact wpAny_BinOp (W6 ha hb I h fun v u s2 x y H2 I2 rx ry q=>ho pins s2 σ H2 x y v u Q I2 rx ry q)
def acg {op:UnaryOp}{r:V->Hp->VK->Prop} (ho:UnR X (unaryOp op) r) (ha:PE X a ta):PE X (.UnaryOp op a pos) (tUn r ta):=by
 intro pins s σ H Q I h;exact UnaryOp_ (thn (ha pins s σ H _ I h) fun v s1 ⟨x,H1,I1,r1,q1⟩=>ho pins s1 σ H1 x v Q I1 r1 q1)
def opI {C:Int->Int->Prop}{g:Int->Int->Int}
  (rule:∀ (i j:Int) (t u:Tok) (s:Shared) (Q:zb) (E:zb),C i j->Q (.int (g i j) s.toks) { s with toks:=s.toks+1 }->wpAny (model X.prog X.w) X.A (f (.int i t) (.int j u)) Q E s) :
  OpR X f (rI C fun i j=>.int (g i j)):=by
 intro pins s σ H x y v u Q I rx ry h;obtain ⟨i,j,rfl,rfl,hc,q⟩:=h;obtain ⟨t,rfl⟩:=rx;obtain ⟨t',rfl⟩:=ry;exact rule i j t t' s _ _ hc ⟨.int (g i j),H,I.tok _,⟨_,rfl⟩,q⟩
def abG {g:Int->Int->Int}
  (rule:∀ (i j:Int) (t u:Tok) (s:Shared) (Q:zb) (E:zb),Q (.int (g i j) s.toks) { s with toks:=s.toks+1 }->wpAny (model X.prog X.w) X.A (f (.int i t) (.int j u)) Q E s) :
  OpR X f (rI0 fun i j=>.int (g i j)):=by
 intro pins s σ H x y v u Q I rx ry h;obtain ⟨i,j,rfl,rfl,q⟩:=h;obtain ⟨t,rfl⟩:=rx;obtain ⟨t',rfl⟩:=ry;exact rule i j t t' s _ _ ⟨.int (g i j),H,I.tok _,⟨_,rfl⟩,q⟩
def Px {g:Int->Int->Bool}
  (rule:∀ (i j:Int) (t u:Tok) (s:Shared) (Q:zb) (E:zb),Q (.bool (g i j)) s->wpAny (model X.prog X.w) X.A (f (.int i t) (.int j u)) Q E s) :
  OpR X f (rI0 fun i j=>.bl (g i j)):=by
 intro pins s σ H x y v u Q I rx ry h;obtain ⟨i,j,rfl,rfl,q⟩:=h;obtain ⟨t,rfl⟩:=rx;obtain ⟨t',rfl⟩:=ry;exact rule i j t t' s _ _ ⟨.bl (g i j),H,I,rfl,q⟩
def QW (i j:Int):Prop:=(-(2 ^ 64) < i/\i < 2 ^ 64)\/(-(2 ^ 64) < j/\j < 2 ^ 64)
theorem QW.ok {i j:Int} (h:QW i j):IntMulOk i j:=by
 rcases h with ⟨h1,h2⟩ | ⟨h1,h2⟩
 .exact .of_left (intBits_le_64 h1 h2)
 .exact .of_right (intBits_le_64 h1 h2)
theorem abX:OpR X (binaryOp .Add) (rI0 fun i j=>.int (i+j)):=abG fun _ _ _ _ _ _ _ q=>add_int q
theorem abo:OpR X (binaryOp .Sub) (rI0 fun i j=>.int (i - j)):=abG fun _ _ _ _ _ _ _ q=>sub_int q
theorem aar:OpR X (binaryOp .Mult) (rI QW fun i j=>.int (i * j)):=opI fun _ _ _ _ _ _ _ hc q=>mul_int q hc.ok
theorem abS:OpR X (binaryOp .Mod) (rI (fun _ j=>0 < j) fun i j=>.int (i % j)):=opI fun i j _ _ _ _ _ hc q=>by
 have h1:(0:Int) < j:=hc;exact mod_int' (by omega) (by rw [Int.fmod_eq_emod_of_nonneg i (by omega)];exact q)
def unI {f:Value->Sem Value}{g:Int->Int}
  (rule:∀ (i:Int) (t:Tok) (s:Shared) (Q:zb) (E:zb),Q (.int (g i) s.toks) { s with toks:=s.toks+1 }->wpAny (model X.prog X.w) X.A (f (.int i t)) Q E s) :
  UnR X f (rU fun i=>.int (g i)):=by
 intro pins s σ H x v Q I rx h;obtain ⟨i,rfl,q⟩:=h;obtain ⟨t,rfl⟩:=rx;exact rule i t s _ _ ⟨.int (g i),H,I.tok _,⟨_,rfl⟩,q⟩
theorem abm:UnR X (unaryOp .USub) (rU fun i=>.int (-i)):=unI fun _ _ _ _ _ q=>neg_int q
end
variable {r':R2}{op':CmpOp}
section
variable {X:Cx}{a b c:Expr}{ta tb tc:TE}{pos:Pos}
theorem ab5:OpR X (compareOp .Lt) (rI0 fun i j=>.bl (decide (i < j))):=Px fun _ _ _ _ _ _ _ q=>lt_int q
theorem ach:OpR X (compareOp .LtE) (rI0 fun i j=>.bl (decide (i<=j))):=Px fun _ _ _ _ _ _ _ q=>le_int q
theorem ab6:OpR X (compareOp .Gt) (rI0 fun i j=>.bl (decide (j < i))):=Px fun _ _ _ _ _ _ _ q=>gt_int q
theorem acR:OpR X (compareOp .GtE) (rI0 fun i j=>.bl (decide (j<=i))):=Px fun _ _ _ _ _ _ _ q=>ge_int q
theorem OpR.or (h:OpR X f r) (h':OpR X f r'):OpR X f (fun x y H Q=>r x y H Q\/r' x y H Q):=by
 intro pins s σ H x y v u Q I rx ry q;rcases q with q | q
 .exact h pins s σ H x y v u Q I rx ry q
 .exact h' pins s σ H x y v u Q I rx ry q
def Y4 (ho:OpR X (compareOp op) r) (ha:PE X a ta) (hb:PE X b tb) (hm:behindInMarks op b=false):PE X (.Compare a [op] [b] pos) (tOp r ta tb):=by
 intro pins s σ H Q I h;exact wpAny_Compare1 (W6 ha hb I h fun v u s2 x y H2 I2 rx ry q=>ho pins s2 σ H2 x y v u Q I2 rx ry q) hm
def XM (t:TE):TT:=fun σ H Q=>t σ H fun x H'=>∃ k,x=.bl k/\Q k H'
def Z5 (ho:OpR X (compareOp op) r) (ha:PE X a ta) (hb:PE X b tb) (hm:behindInMarks op b=false):PT X (.Compare a [op] [b] pos) (XM (tOp r ta tb)):=by
 intro pins s σ H Q I h;refine wpAny_isTrue_Compare1 (thn (ha pins s σ H _ I h) fun v s1 ⟨x,H1,I1,r1,q1⟩=>thn (hb pins s1 σ H1 _ I1 q1) fun u s2 ⟨y,H2,I2,r2,q2⟩ =>
  thn (ho pins s2 σ H2 x y v u _ I2 r1 r2 q2) fun c s3 ⟨z,H3,I3,r3,k,e,q3⟩=>?_) hm
 subst e;cases r3;exact jo ⟨H3,I3,q3⟩
def Kz (r r':R2) (ta tb tc:TE):TE:=fun σ H Q=>ta σ H fun x H1=>tb σ H1 fun y H2=>r x y H2 fun z H3=>∃ k,z=.bl k /\
 (if k=true then tc σ H3 fun w' H4=>r' y w' H4 Q else Q (.bl false) H3)
def WQ (ho:OpR X (compareOp op) r) (ho':OpR X (compareOp op') r') (ha:PE X a ta) (hb:PE X b tb) (hc:PE X c tc)
  (hm:lastMarks [op,op'] [b,c]=false:=by with_unfolding_all rfl):PE X (.Compare a [op,op'] [b,c] pos) (Kz r r' ta tb tc):=by
 intro pins s σ H Q I h;refine Compare_chain (thn (ha pins s σ H _ I h) fun v s1 ⟨x,H1,I1,r1,q1⟩=>chain_link (thn (hb pins s1 σ H1 _ I1 q1) fun u s2 ⟨y,H2,I2,r2,q2⟩ =>
  thn (ho pins s2 σ H2 x y v u _ I2 r1 r2 q2) fun d s3 ⟨z,H3,I3,r3,k,e,q3⟩=>?_)) hm
 subst e;cases r3;refine jo ?_;cases k with
 | false=>exact ite_ff ⟨.bl false,H3,I3,rfl,q3⟩
 | true=>exact ite_tt (chain_last (thn (hc pins s3 σ H3 _ I3 q3) fun w' s4 ⟨z',H4,I4,r4,q4⟩=>ho' pins s4 σ H4 y z' u w' Q I4 r2 r4 q4))
def Xa (ho:OpR X (compareOp op) r) (ho':OpR X (compareOp op') r') (ha:PE X a ta) (hb:PE X b tb) (hc:PE X c tc)
  (hm:lastMarks [op,op'] [b,c]=false:=by with_unfolding_all rfl):PT X (.Compare a [op,op'] [b,c] pos) (XM (Kz r r' ta tb tc)):=by
 intro pins s σ H Q I h;refine isTrue_chain (thn (ha pins s σ H _ I h) fun v s1 ⟨x,H1,I1,r1,q1⟩=>test_link (thn (hb pins s1 σ H1 _ I1 q1) fun u s2 ⟨y,H2,I2,r2,q2⟩ =>
  thn (ho pins s2 σ H2 x y v u _ I2 r1 r2 q2) fun d s3 ⟨z,H3,I3,r3,k,e,q3⟩=>?_)) hm
 subst e;cases r3;refine jo ?_;cases k with
 | false =>
  obtain ⟨k',e',q'⟩:=q3;cases e';exact ite_ff ⟨H3,I3,q'⟩
 | true =>
  refine ite_tt (test_last (thn (hc pins s3 σ H3 _ I3 q3) fun w' s4 ⟨z',H4,I4,r4,q4⟩=>thn (ho' pins s4 σ H4 y z' u w' _ I4 r2 r4 q4) fun d' s5 ⟨z2,H5,I5,r5,k2,e2,q5⟩=>?_));subst e2;cases r5;exact jo ⟨H5,I5,q5⟩
def aaD (K:zd) (x:V) (H:Hp) (k:Bool):Prop :=
 match x with
 | .non=>k=false
 | .bl b=>k=b
 | .int i=>k=(i != 0)
 | .str y=>y.length<=sizeLine/\k=((y.length:Int) != 0)
 | .byt y=>y.size<=sizeLine/\k=((y.size:Int) != 0)
 | .ref p=>(∃ xs,SqL K H p xs/\k=!xs.isEmpty)\/(∃ xs,SqT K H p xs/\k=!xs.isEmpty)\/∃ kvs,H p=some (.dK kvs)/\k=!kvs.isEmpty
 | _=>False
theorem Qw {κ:Type}{kvs:List (κ × V)}{vs:List (κ × Value)} (r:KV kvs vs):(!vs.isEmpty)=!kvs.isEmpty:=by
 cases r <;> rfl
def CQ {its:zg} (r:Vals xs its):(!its.toArray.isEmpty)=!xs.isEmpty:=by
 cases r <;> simp
def DP:(sizeLine:Nat) < 2 ^ 63:=by rw [sizeLine_eq];decide
def abM:ac7 X (fun x H Q=>∃ k,aaD X.K x H k/\Q k H):=by
 intro pins s σ H x v Q I rx h;obtain ⟨k,e,q⟩:=h;have hl:=DP;have hs:sizeLine=16777216:=sizeLine_eq;cases x with
 | non =>
  cases rx;have e':k=false:=e;subst e';exact truthy_none ⟨H,I,q⟩
 | bl b =>
  cases rx;have e':k=b:=e;subst e';exact jo ⟨H,I,q⟩
 | int i =>
  obtain ⟨t,rfl⟩:=rx;have e':k=(i != 0):=e;subst e';exact PySem.P.truthy_int ⟨H,I,q⟩
 | str y =>
  obtain ⟨t,rfl⟩:=rx;obtain ⟨hy,e'⟩:y.length<=sizeLine/\k=((y.length:Int) != 0):=e;subst e';exact PySem.P.truthy_str (by omega) ⟨H,I.tok _,q⟩
 | byt y =>
  obtain ⟨t,rfl⟩:=rx;obtain ⟨hy,e'⟩:y.size<=sizeLine/\k=((y.size:Int) != 0):=e;subst e';exact PySem.W.truthy_bytes (by omega) ⟨H,I.tok _,q⟩
 | ref p =>
  cases rx;have e':(∃ xs,SqL X.K H p xs/\k=!xs.isEmpty)\/(∃ xs,SqT X.K H p xs/\k=!xs.isEmpty)\/∃ kvs,H p=some (.dK kvs)/\k=!kvs.isEmpty:=e;rcases e' with ⟨xs,hx,e'⟩ | ⟨xs,hx,e'⟩ | ⟨kvs,hx,e'⟩
  .subst e';obtain ⟨its,r,pl,hz⟩:=I.list hx;have hlen:=r.length;exact wpAny_truthy_list pl.isList (by simp only [List.size_toArray];omega) ⟨H,I.tok _,by rw [CQ r];exact q⟩
  .subst e';obtain ⟨its,r,pl,hz⟩:=I.tuple hx;have hlen:=r.length;exact truthy_tuple pl (by simp only [List.size_toArray];omega) ⟨H,I.tok _,by rw [CQ r];exact q⟩
  .subst e';obtain ⟨hz,hS,vs,r,m⟩:kvs.length<=sizeLine/\(p == sysModules)=false/\∃ vs,KV kvs vs/\s.heap.DictOf (Fj X.prog X.w) p vs:=I.hok p _ hx;have hlen:kvs.length=vs.length:=Paired.length r;exact wpAny_truthy_dict hS m (by omega) ⟨H,I.tok _,by rw [Qw r];exact q⟩
 | _=>exact (show False from e).elim
def UJ (ha:PE X a ta) (he:∀ whole,isTrue a X.env whole=(do let v <- whole;standAt a.pos;holding [v] (truthy v))) :
  PT X a (fun σ H Q=>ta σ H fun x H'=>∃ k,aaD X.K x H' k/\Q k H'):=by
 intro pins s σ H Q I h;exact isTrue_plain (thn (ha pins s σ H _ I h) fun v s1 ⟨x,H1,I1,r1,q1⟩=>abM pins s1 σ H1 x v Q I1 r1 q1) (he _)
def vals1 {x:V} (r:Vals [x] us):∃ u,us=[u]/\RelV x u:=by
 cases r with
 | cons r1 r2=>cases r2;exact ⟨_,rfl,r1⟩
def vals2 {x:V} (r:Vals [x,y] us):∃ u w',us=[u,w']/\RelV x u/\RelV y w':=by
 cases r with
 | cons r1 r2 =>
  cases r2 with
  | cons r3 r4=>cases r4;exact ⟨_,_,rfl,r1,r3⟩
def Rw (hc:X.calm=true):lu X (.builtin "min") (fun xs H Q=>∃ i j,xs=[.int i,.int j] /\ Q (.int (if j < i then j else i)) H):=by
 intro pins s σ H xs us Q I r h;obtain ⟨i,j,rfl,q⟩:=h;obtain ⟨u,w',rfl,⟨t,rfl⟩,⟨t',rfl⟩⟩:=vals2 r;refine min_two_ints (I.ok.hd hc) fun h' tk k=>⟨_,H,I.kept k,?_,q⟩
 by_cases hj:j < i
 .rw [if_pos hj,if_pos hj];exact ⟨_,rfl⟩
 .rw [if_neg hj,if_neg hj];exact ⟨_,rfl⟩
end
structure ObjM (h:Heap) (x dx C:Addr) (mA:w8):Prop where
 obj:h.get? x=some (PySem.W.instObj C dx)
 ns:h.Ns1 dx mA
 ne:dx≠x
variable {dx:Addr}{mA:w8}
def Ro (n:h.Ns1 dx mA):∃ od,h.get? dx=some od/\∀ name,PySem.W.lookIn name od=some (mA name):=by
 obtain ⟨o,es,ep,ho,hd,hk,_,hm⟩:=n;refine ⟨o,ho,fun name=>?_⟩;have e:=hm name;unfold nsFind findBy at e;rw [<- Array.find?_toList] at e;unfold PySem.W.lookIn;rw [hd];dsimp only;split
 .rename_i y q;rw [q] at e;exact congrArg some e
 .rename_i q;rw [q] at e;have a:es.toList.any (·.refKey)=false:=by
   rw [List.any_eq_false];intro y hy;obtain ⟨z,t,hkey⟩:=hk y (Array.mem_toList_iff.mp hy);simp [DictEntry.refKey,hkey]
  have a':¬ es.toList.any (·.refKey)=true:=by rw [a];exact jC
  rw [if_neg a'];exact congrArg some e
variable {C:Addr}
theorem ObjM.look {x:Addr} (I:ObjM h x dx C mA):∃ od,PySem.W.InstAt h x (PySem.W.instObj C dx) C (some od)/\∀ name,PySem.W.lookIn name od=some (mA name) :=
 let ⟨od,ho,hl⟩:=Ro I.ns
 ⟨od,⟨I.obj,rfl,rfl,ho⟩,hl⟩
section
variable {P:Program}{w:World}{H H':Hp}{h h':Heap}{a C dx:Addr}{fs fs':List (Str × V)}
def Yp (hok:HOk P w H h) (e:H a=some (.ins C dx fs)):∃ mA,ObjM h a dx C mA/\(∀ f,Xo (fs.lookup f) (mA f))/\PySem.Within mA (fs.map (·.1))/\fs.length<=1000/\H dx=some (.own a):=by
 obtain ⟨d,z,ne,ob,mA,n,r,q⟩:=(show cj P w H h a (.ins C dx fs) from hok a _ e);exact ⟨mA,⟨ob,n,ne⟩,r,q,z,d⟩
end
structure Cls (K:zd) (C:Addr):Prop where
 pg:PySem.W.plainGet K C Str.empty=true
 hd:PySem.W.hasDictIn K C=true
 po:PySem.W.plainOver K C=true
 sa:PySem.W.findIn K (.ref C) "__setattr__"=some (some (.builtin "object.__setattr__"))
theorem Cls.get (c:Cls K C) (f:Str):PySem.W.plainGet K C f=true:=c.pg
section
variable {X:Cx}{pins:w4}{σ:St}{H:Hp}{s:Shared}{A:Around}{E:zb}{Q:zb}{c:Value}{b:Bool}
inductive TyOf (K:zd) (H:Hp):V->Value->Prop where
 | non:TyOf K H .non (.type "NoneType")
 | bl (x:Bool):TyOf K H (.bl x) (.type "bool")
 | int (i:Int):TyOf K H (.int i) (.type "int")
 | str (x:Str):TyOf K H (.str x) (.type "str")
 | flt (x:UInt64):TyOf K H (.flt x) (.type "float")
 | lst {a:Addr}{xs:List V} (e:H a=some (.lst xs)):TyOf K H (.ref a) (.type "list")
 | frz {a:Addr}{o:Obj}{xs:List V} (e:H a=some (.frz o (.lst xs))):TyOf K H (.ref a) (.type "list")
 | tup {a:Addr}{xs:List V} (e:H a=some (.tup xs)):TyOf K H (.ref a) (.type "tuple")
 | dK {a:Addr}{kvs:List (Key × V)} (e:H a=some (.dK kvs)):TyOf K H (.ref a) (.type "dict")
 | dT {a:Addr}{kvs:List (List Key × V)} (e:H a=some (.dT kvs)):TyOf K H (.ref a) (.type "dict")
 | ins {a C dx:Addr}{fs:List (Str × V)} (e:H a=some (.ins C dx fs)) (cl:Cls K C) (ha:PySem.W.findIn K (.ref C) "__class__"=some (some (.builtin "object.__class__")))
   (hn:PySem.W.specialIn K (.builtin "object.__class__") "__get__"=some (some (.builtin "getset_descriptor.__get__"))) (htk:PySem.W.takesIn K (.builtin "object.__class__")=some true)
   (hm:PySem.W.mroIn K C (.type "object")=some true):TyOf K H (.ref a) (.ref C)
def ur {x:V}{t:Value} (I:Inv X pins σ H s) (rx:RelV x u) (ty:TyOf X.K H x t) (e:PySem.W.kitOne X.K t c=some b) (h:∀ tk,Q (.bool b) { s with toks:=tk }) :
  wpAny (model X.prog X.w) A (call (.builtin "isinstance") [u,c]) Q E s:=by
 cases ty with
 | non=>cases (show u=Value.none from rx);exact PySem.W.kia_one PySem.W.kitx_none I.kIn True.intro e (fun z=>nomatch z) h
 | bl y=>cases (show u=Value.bool y from rx);exact PySem.W.kia_one PySem.W.kitx_bool I.kIn True.intro e (fun z=>nomatch z) h
 | int i=>obtain ⟨t,q⟩:=(show ∃ t,u=Value.int i t from rx);cases q;exact PySem.W.kia_one PySem.W.kitx_int I.kIn True.intro e (fun z=>nomatch z) h
 | str y=>obtain ⟨t,q⟩:=(show ∃ t,u=Value.str y t from rx);cases q;exact PySem.W.kia_one PySem.W.kitx_str I.kIn True.intro e (fun z=>nomatch z) h
 | flt y=>obtain ⟨t,q⟩:=(show ∃ t,u=Value.float y t from rx);cases q;exact PySem.W.kia_one PySem.W.kitx_float I.kIn True.intro e (fun z=>nomatch z) h
 | @lst a xs ea =>
  cases (show u=Value.ref a from rx);obtain ⟨_,_,n,_,h1⟩:=(show cj X.prog X.w H s.heap a (.lst xs) from I.hok a _ ea);exact PySem.W.kia_one PySem.W.kitx_list I.kIn ⟨_,h1,rfl⟩ e (fun z=>nomatch z) h
 | @frz a ob xs ea =>
  cases (show u=Value.ref a from rx);obtain ⟨_,_,_,n,_,h1⟩:=(show cj X.prog X.w H s.heap a (.frz ob (.lst xs)) from I.hok a _ ea);exact PySem.W.kia_one PySem.W.kitx_list I.kIn ⟨_,h1,rfl⟩ e (fun z=>nomatch z) h
 | @tup a xs ea =>
  cases (show u=Value.ref a from rx);obtain ⟨_,_,_,p⟩:=(show cj X.prog X.w H s.heap a (.tup xs) from I.hok a _ ea);obtain ⟨o,h1,h2,_⟩:=p;exact PySem.W.kia_one PySem.W.kitx_tuple I.kIn ⟨o,h1,h2⟩ e (fun z=>nomatch z) h
 | @dK a kvs ea =>
  cases (show u=Value.ref a from rx);obtain ⟨_,_,vs,_,p⟩:=(show cj X.prog X.w H s.heap a (.dK kvs) from I.hok a _ ea);obtain ⟨o,es,ep,h1,h2,_⟩:=p;exact PySem.W.kia_one PySem.W.kitx_dict I.kIn ⟨o,h1,h2.1⟩ e (fun z=>nomatch z) h
 | @dT a kvs ea =>
  cases (show u=Value.ref a from rx);obtain ⟨_,_,xs,_,o,es,ep,h1,h2,_⟩:=(show cj X.prog X.w H s.heap a (.dT kvs) from I.hok a _ ea);exact PySem.W.kia_one PySem.W.kitx_dict I.kIn ⟨o,h1,h2.1⟩ e (fun z=>nomatch z) h
 | @ins a C dx fs ea cl ha hn htk hm =>
  cases (show u=Value.ref a from rx);obtain ⟨mA,O,_⟩:=Yp I.hok ea;obtain ⟨od,J,_⟩:=O.look;exact PySem.W.kia_one (PySem.W.kitx_own (cl.get _) cl.hd ha hn htk hm) I.kIn J e (fun z=>nomatch z) h
end
structure Room (k:Nat) (A:Around):Prop where
 hd:A.handled=none
 dp:A.depth+3 * k+5 < recursionLimit
 un:A.units+16 * k+200 < cLine
theorem Room.deeper (r:Room (k+1) A) (env:Env):Room k (A.deeper env) :=
 ⟨r.hd,by have:=r.dp;show A.depth+1+3 * k+5 < _;omega,by have:=r.un;show A.units+3+16 * k+200 < _;omega⟩
theorem Room.depth (r:Room k A):A.depth < recursionLimit:=by have:=r.dp;omega
def Vb:TA:=fun _ H Q=>Q [] H
def X4 (ta:TE) (tr:TA):TA:=fun σ H Q=>ta σ H fun x H1=>tr σ H1 fun xs H2=>Q (x::xs) H2
section
variable {X:Cx}{e:Expr}{es:zl}{te:TE}{t:TA}{pos:Pos}
theorem jg:PA X [] Vb:=fun _ _ _ _ H Q I h=>Calls.spliced_nil ⟨[],H,I,.nil,h⟩
def fG (ha:PE X e te) (hr:PA X es t) (hs:starEach (e::es) X.env=(false,eval e X.env)::starEach es X.env:=by rfl):PA X (e::es) (X4 te t):=by
 intro pos pins s σ H Q I h;rw [hs];show wpAny _ _ (spliced ((false,eval e X.env)::backTo pos (starEach es X.env))) _ _ s
 refine Calls.spliced_cons (thn (ha pins s σ H _ I h) fun u s1 ⟨x,H1,I1,r1,q1⟩=>?_);exact thn (hr pos pins s1 σ H1 _ I1 q1) fun us s2 ⟨xs,H2,I2,r2,q2⟩=>⟨x::xs,H2,I2,.cons r1 r2,q2⟩
def adq (t:TA):TE:=fun σ H Q=>t σ H fun xs H1=>xs.length<=sizeLine/\∀ p,H1 p=none->Q (.ref p) (upd H1 p (.tup xs))
def ac1 (t:TA):TE:=fun σ H Q=>t σ H fun xs H1=>xs.length<=sizeLine/\∀ p,H1 p=none->Q (.ref p) (upd H1 p (.lst xs))
def abI {x1} (h:PA X es t):PE X (.Tuple es x1 pos) (adq t):=by
 intro pins s σ H Q I hq;refine wpAny_Tuple_spliced (thn (h pos pins s σ H _ I hq) fun us s1 ⟨xs,H1,I1,r,z,q⟩=>⟨by rw [<- r.length];exact z,?_⟩);have hf:H1 s1.heap.objs.size=none:=I1.hok.fresh (vy _);refine ⟨.ref s1.heap.objs.size,upd H1 s1.heap.objs.size (.tup xs),I1.laid (t':=s1.toks) (fun b u e=>vn _ e) (vy _) ?_,rfl,q _ hf⟩;exact ⟨z,us,r,⟨_,vw _ rfl,rfl,_,rfl⟩⟩
def uW (h:PA X es t):PE X (.List es pos) (ac1 t):=by
 intro pins s σ H Q I hq;refine wpAny_List_spliced (thn (h pos pins s σ H _ I hq) fun us s1 ⟨xs,H1,I1,r,z,q⟩=>⟨by rw [<- r.length];exact z,?_⟩);have hf:H1 s1.heap.objs.size=none:=I1.hok.fresh (vy _);refine ⟨.ref s1.heap.objs.size,upd H1 s1.heap.objs.size (.lst xs),I1.laid (t':=s1.toks) (fun b u e=>vn _ e) (vy _) ?_,rfl,q _ hf⟩;exact ⟨z,us,0,r,vw _ rfl⟩
end
abbrev Sp:=List V->Hp->VK->XK->Prop
abbrev CXT:=List Env->Hp->Shared->XK->zb
structure Env0 (P:Program) (w:World) (K:zd) (mg:w8) (base:Heap) (A:Around) (outer:List Env) (s:Shared) (H:Hp):Prop where
 frames:A.frames=some outer
 mod:Mod K mg base
 bs:∀ b o,base.get? b=some o->s.heap.get? b=some o/\H b=none
 bsz:base.objs.size<=s.heap.objs.size
 funs:s.heap.FunFrames base outer
 frf:∀ b∈frs outer,H b=none
 hok:HOk P w H s.heap
 bare:AllBare s.gens
 tab:ug K mg H
def CE (outer:List Env) (P:Program) (w:World) (H:Hp) (s:Shared) (Q:VK) (u:Value) (s':Shared):Prop :=
 ∃ v H',s'.os=s.os/\AllBare s'.gens/\Un (frs outer) [] H H' s.heap s'.heap/\HOk P w H' s'.heap/\RelV v u/\Q v H'
def CR (CX:CXT) (outer:List Env) (P:Program) (w:World) (H:Hp) (s:Shared) (Q:VK) (E:XK) (r:Result) (s':Shared):Prop :=
 match r with
 | .ok (.ret u)=>CE outer P w H s Q u s'
 | .ok _=>False
 | .error e=>CX outer H s E e s'
structure FnOk (P:Program) (w:World) (K:zd) (mg:w8) (base:Heap) (CX:CXT) (k:Nat) (f:Addr) (fd:FuncData) (ps:zk) (sp:Sp):Prop where
 len:∀ vs H Q E,sp vs H Q E->vs.length=ps.length
 run:∀ (A:Around) (outer:List Env) (s:Shared) (H:Hp) (args:Args) (us:zg) (vs:List V) (Q:VK) (E:XK),Room k A->Env0 P w K mg base A outer s H->BindsTo s fd args (ps.zip us)->Vals vs us->sp vs H Q E ->
  codeAny (model P w) A (.call (.ref f) args) (CR CX outer P w H s Q E) s
variable {base:Heap}{CX:CXT}{fd:FuncData}{ps:zk}{sp:Sp}
theorem FnOk.imp {f:Addr}{sp':Sp} (F:FnOk P w K mg base CX k f fd ps sp)
  (h:∀ vs H Q E,sp' vs H Q E->sp vs H Q E):FnOk P w K mg base CX k f fd ps sp' :=
 ⟨fun vs H Q E q=>F.len vs H Q E (h _ _ _ _ q),fun A outer s H args us vs Q E hr he hb hv hs=>F.run A outer s H args us vs Q E hr he hb hv (h _ _ _ _ hs)⟩
section
variable {X:Cx}{pins:w4}{σ:St}{H:Hp}{s s':Shared}
theorem Inv.env0 (I:Inv X pins σ H s):Env0 X.prog X.w X.K X.mg X.base X.A X.stack s H :=
 ⟨I.ok.frames,I.ok.mod,I.bs,vF I.ok.bsz I.sz,I.stack,I.stkFree,I.hok,I.bare,I.ok.tab.un I.base⟩
theorem Inv.after {Q:VK} (I:Inv X pins σ H s) (h:CE X.stack X.prog X.w H s Q u s'):EP X pins σ Q u s':=by
 obtain ⟨v,H',os,bare,un,hok,r,q⟩:=h;obtain ⟨hh,g,d,t,os'⟩:=s';obtain rfl:os'=s.os:=os;exact ⟨v,H',I.call (h':=hh) (g':=g) (d':=d) (t':=t) (ch:=[]) un hok bare (fun b z=>absurd z (by simp)),r,q⟩
end
def Yc (sp:Sp) (dvs:List V) (E:XK) (t:TA):TE:=fun σ H Q=>t σ H fun vs H1=>sp (vs++dvs) H1 Q E
def Binds (K:zd) (fd:FuncData) (ps:zk) (ds:zg):Prop :=
 ∀ (s:Shared) (us:zg),K.In s.heap->(us++ds).length=ps.length->BindsTo s fd ⟨us,[]⟩ (ps.zip (us++ds))
theorem Binds.all (h:∀ us:zg,us.length=ps.length->bindArgs fd ⟨us,[]⟩=pure (ps.zip us)):Binds K fd ps []:=fun s us _ hl=>by
 rw [List.append_nil] at hl ⊢;exact .of_eq (h us hl)
def Passes (CX:CXT) (X:Cx) (E:XK):Prop:=∀ (pins:w4) (σ:St) (H:Hp) (s:Shared) (e:Value) (s':Shared),Inv X pins σ H s->CX X.stack H s E e s'->X.xe e s'
variable {vs:List V}
section
variable {X:Cx}{CX:CXT}{k:Nat}{f C:Addr}{fd:FuncData}{ps:zk}{sp:Sp}{dvs:List V}{ds:zg}{E:XK}{x m:Str}{p pos apos:Pos}{e o:Expr}{es:zl}{ta:TE}{t:TA}
def Ux {Q:VK} (F:FnOk X.prog X.w X.K X.mg X.base CX k f fd ps sp) (hr:Room k X.A) (hb:Binds X.K fd ps ds) (hd:Vals dvs ds) (hx:Passes CX X E)
  (I:Inv X pins σ H s) (r:Vals vs us) (h:sp (vs++dvs) H Q E):wpAny (model X.prog X.w) X.A (call (.ref f) us) (EP X pins σ Q) X.xe s:=by
 have r2:Vals (vs++dvs) (us++ds):=r.append hd;have hl:(us++ds).length=ps.length:=by rw [<- r2.length];exact F.len _ _ _ _ h
 refine wpAny_call (codeAny_mono (F.run X.A X.stack s H ⟨us,[]⟩ (us++ds) (vs++dvs) Q E hr I.env0 (hb s us I.kIn hl) r2 h) fun r s' hq=>?_);cases r with
 | error e=>exact hx pins σ H s e s' I hq
 | ok fl =>
  cases fl with
  | ret u=>exact I.after hq
  | next=>exact js hq
  | brk=>exact js hq
  | cont=>exact js hq
def N5 (F:FnOk X.prog X.w X.K X.mg X.base CX k f fd ps sp) (hr:Room k X.A) (hg:Gl X x) (hm:X.mg x=some (.ref f)) (hk:PySem.W.keepIn X.K (.ref f)=true) (hb:Binds X.K fd ps ds) (hd:Vals dvs ds) (hx:Passes CX X E)
  (ha:PA X (e::es) t) (hdb:(x == ("__debug__":Str))=false:=by decide) (he:starEach (e::es) X.env=(false,eval e X.env)::starEach es X.env:=by rfl) (hpl:(backTo pos (starEach es X.env)).any (·.1)=false:=by rfl) :
  PE X (.Call (.Name x p) (e::es) [] pos) (Yc sp dvs E t):=by
 intro pins s σ H Q I h;refine wpAny_Call_Name_kw (rD I hg hm ?_ hdb);refine PySem.W.callWith_K (h₀:=X.base) I.ok.mod.kin hk (thn (ha pos pins s σ H _ I h) fun us s1 ⟨vs,H1,I1,r,q⟩=>⟨I1.kIn,?_⟩) he hpl;exact Ux F hr hb hd hx I1 r q
def Wg (F:FnOk X.prog X.w X.K X.mg X.base CX k f fd ps sp) (hr:Room k X.A) (hg:Gl X x) (hm:X.mg x=some (.ref f)) (hk:PySem.W.keepIn X.K (.ref f)=true) (hb:Binds X.K fd ps ds) (hd:Vals dvs ds) (hx:Passes CX X E)
  (hdb:(x == ("__debug__":Str))=false:=by decide):PE X (.Call (.Name x p) [] [] pos) (Yc sp dvs E Vb):=by
 intro pins s σ H Q I h;refine wpAny_Call_Name_kw (rD I hg hm ?_ hdb);exact PySem.W.callWith_K0 I.kIn hk (Ux (us:=[]) F hr hb hd hx I .nil h)
end
structure FnScope (N P:zk) (sc:Scope):Prop where
 kind:sc.kind=.function
 co:sc.isCoroutine=false
 gen:sc.isGenerator=false
 nd:N.Nodup
 pre:N.take P.length=P
 par:∀ x∈P,sc.names.lookup x=some .local\/sc.names.lookup x=some .cell
 nofree:∀ y∈sc.names,y.2≠.free
theorem Gb {kindOf:Str->Option NameKind}{x:Str}:∀ {binds:List (Str × Value)}{m:w8},(∀ v,(x,v) ∉ binds)->bindL kindOf binds m x=m x
 | [],_,_=>rfl
 | (n,v)::r,m,h=>by
  unfold bindL;rw [Gb fun w hw=>h w (List.mem_cons_of_mem _ hw)];split
  .have:x≠n:=by rintro rfl;exact h v vi
   simp [this]
  .rfl
theorem G4 {kindOf:Str->Option NameKind}{x:Str}:∀ {binds:List (Str × Value)}{m:w8},(∀ v,(x,v) ∉ binds)->bindC kindOf binds m x=m x
 | [],_,_=>rfl
 | (n,v)::r,m,h=>by
  unfold bindC;rw [G4 fun w hw=>h w (List.mem_cons_of_mem _ hw)];split
  .rfl
  .have:x≠n:=by rintro rfl;exact h v vi
   simp [this]
theorem Ga {kindOf:Str->Option NameKind}{x:Str}{v:Value}:∀ {P:zk}{vs:zg}{i:Nat}{m:w8},P.Nodup->P[i]?=some x->vs[i]?=some v->kindOf x=some .local ->
  bindL kindOf (P.zip vs) m x=some v
 | [],_,_,_,_,h,_,_=>by simp at h
 | _::_,[],_,_,_,_,h,_=>by simp at h
 | p::P,w::vs,0,m,nd,h1,h2,hk=>by
  simp at h1 h2;subst h1;subst h2;show bindL kindOf ((p,w)::P.zip vs) m p=_
  unfold bindL;rw [Gb fun v hv=>(List.nodup_cons.mp nd).1 (List.of_mem_zip hv).1,if_pos hk];simp
 | p::P,w::vs,i+1,m,nd,h1,h2,hk=>by
  show bindL kindOf ((p,w)::P.zip vs) m x=_
  unfold bindL;exact Ga (i:=i) (List.nodup_cons.mp nd).2 (by simpa using h1) (by simpa using h2) hk
theorem Gz {kindOf:Str->Option NameKind}{x:Str}{v:Value}:∀ {P:zk}{vs:zg}{i:Nat}{m:w8},P.Nodup->P[i]?=some x->vs[i]?=some v->kindOf x≠some .local ->
  bindC kindOf (P.zip vs) m x=some v
 | [],_,_,_,_,h,_,_=>by simp at h
 | _::_,[],_,_,_,_,h,_=>by simp at h
 | p::P,w::vs,0,m,nd,h1,h2,hk=>by
  simp at h1 h2;subst h1;subst h2;show bindC kindOf ((p,w)::P.zip vs) m p=_
  unfold bindC;rw [G4 fun v hv=>(List.nodup_cons.mp nd).1 (List.of_mem_zip hv).1,if_neg hk];simp
 | p::P,w::vs,i+1,m,nd,h1,h2,hk=>by
  show bindC kindOf ((p,w)::P.zip vs) m x=_
  unfold bindC;exact Gz (i:=i) (List.nodup_cons.mp nd).2 (by simpa using h1) (by simpa using h2) hk
noncomputable def start (N:zk) (vs:List V):St:=vs.map some++List.replicate (N.length - vs.length) none
def fY (CX:CXT) (P:Program) (w:World) (K:zd) (mg:w8) (base:Heap) (N:zk) (qual:Str) (scope:Scope) (f:Addr) (cd:Value) (A:Around) (outer:List Env) (s:Shared) (H:Hp) (E:XK):Cx where
 prog:=P
 w:=w
 K:=K
 mg:=mg
 base:=base
 A:=A.deeper (envOfC qual scope s.heap.objs.size f cd)
 N:=N
 s₀:=s
 H₀:=H
 env:=envOfC qual scope s.heap.objs.size f cd
 outer:=outer
 stack:=envOfC qual scope s.heap.objs.size f cd::outer
 ex:=[]
 calm:=true
 fn:=fun _=>true
 pn:=[]
 xe:=fun e s'=>wpAny (model P w) (A.deeper (envOfC qual scope s.heap.objs.size f cd)) (leaving (envOfC qual scope s.heap.objs.size f cd) e) (fun _ s''=>CX outer H s E e s'') (fun e' s''=>CX outer H s E e' s'') s'
def Iz {sc:Scope} (h:sc.names.lookup x=some .cell):∃ c,(cellsFrom n sc.names []).lookup x=some c:=by
 have q:=PySem.W.cellsFrom_some sc.names n [] (.inl h);exact y0.mp q
variable {qual:Str}{scope:Scope}
def Gp {f:Addr}{cd:Value}{outer:List Env}{s1:Shared}{E:XK}
  (S:FnScope N ps scope) (hd:A.handled=none) (e0:Env0 P w K mg base A outer s H) (hl:vs.length=ps.length) (r:Vals vs us)
  (x:InCallC s s.heap.objs.size (bindL (envOfC qual scope s.heap.objs.size f cd).kindOf (ps.zip us) fun _=>none) (cellsFrom (s.heap.objs.size+1) scope.names []) (bindC (envOfC qual scope s.heap.objs.size f cd).kindOf (ps.zip us) fun _=>none) s1) :
  Inv (fY CX P w K mg base N qual scope f cd A outer s H E) [] (start N vs) H s1:=by
 have hpl:ps.length<=N.length:=by have:=congrArg List.length S.pre;rw [List.length_take] at this;omega
 obtain ⟨h1,tk,rfl,hk⟩:=x.done;have noA:∀ b:Addr,b ∉ (fY CX P w K mg base N qual scope f cd A outer s H E).ex:=fun b z=>absurd (show b∈([]:List Addr) from z) (by simp)
 refine ⟨⟨e0.mod,S.kind,rfl,rfl,vy _,fun y z c h1 h2=>?_,fun y hy=>?_,fun y c _ h=>?_,fun _=>hd,Around.frames_deeper e0.frames,.inr ⟨rfl,rfl⟩,fun b z=>absurd z (noA b),e0.bs,e0.bsz,fun b _ _=>noA b,fun b z=>absurd z (noA b),e0.funs,e0.frf,e0.tab⟩,
  rfl,e0.bare,Un.kept hk,⟨_,x.toInCall.ns,fun i y v h1 h2 h3=>?_⟩,fun y c h=>⟨_,x.cell y c h⟩,e0.hok.fresh (vy _),fun y c h=>?_,fun p hp=>absurd (show p∈([]:w4) from hp) (by simp),e0.hok.kept hk,?_⟩
 .exact name_of_addr x.apart (jw h1) (jw h2)
 .have hy:scope.names.lookup y=some .cell\/scope.names.lookup y=some .free:=hy;rcases hy with hy | hy
  .exact Iz hy
  .exact absurd rfl (S.nofree _ (jw hy))
 .exact Nat.le_of_lt (x.above y c (jw h))
 .have hi:i < vs.length:=by
   unfold start at h2;by_cases hi:i < vs.length
   .exact hi
   .rw [List.getElem?_append_right (by simpa using hi)] at h2;rw [List.getElem?_replicate] at h2;split at h2 <;> cases h2
  have ha:vs[i]?=some v:=by
   unfold start at h2;rw [List.getElem?_append_left (by simpa using hi),List.getElem?_map] at h2;cases e:vs[i]? with
   | none=>rw [e] at h2;cases h2
   | some a=>rw [e] at h2;cases h2;rfl
  obtain ⟨u,hu,rv⟩:=r.get ha;have hp:ps[i]?=some y:=by
   rw [<- S.pre,List.getElem?_take_of_lt (by omega)];exact h1
  have ndP:ps.Nodup:=by rw [<- S.pre];exact S.nd.sublist (List.take_sublist _ _)
  refine ⟨u,rv,?_⟩;rcases S.par y (List.mem_of_getElem? hp) with k | k
  .exact .inl ⟨k,Ga ndP hp hu k⟩
  .obtain ⟨c,e⟩:=Iz (n:=s.heap.objs.size+1) k;refine .inr ⟨.inl k,c,e,?_⟩;have q:=x.cell y c e;rw [Gz ndP hp hu (by show scope.names.lookup y≠_;rw [k];decide)] at q;exact q
 .exact e0.hok.fresh (Nat.le_of_lt (x.above y c (jw h)))
 .unfold start;show _=N.length
  rw [List.length_append,List.length_map,List.length_replicate];omega
def Xx {f:Addr}{name:Str}{params:Arguments}{dV kV doc pm cdv ct oc:Value}{an od:zv}
  {osl:zw} (lk:K.lookup f=some ⟨oc,od,.func (PySem.W.fnOf name qual params body scope dV kV doc pm an cdv ct),osl⟩) (hcd:PySem.W.codeIn K cdv qual=true) (S:FnScope N ps scope)
  (len:∀ vs H Q E,sp vs H Q E->vs.length=ps.length)
  (hbody:∀ (A:Around) (outer:List Env) (s:Shared) (H:Hp) (vs:List V) (Q:VK) (E:XK),Room k (A.deeper (envOfC qual scope s.heap.objs.size f cdv))->sp vs H Q E ->
   ∃ t,PSs (fY CX P w K mg base N qual scope f cdv A outer s H E) body t/\t { nx:=fun _ H'=>Q .non H',rt:=Q } (start N vs) H) :
  FnOk P w K mg base CX (k+1) f (PySem.W.fnOf name qual params body scope dV kV doc pm an cdv ct) ps sp:=by
 refine ⟨len,fun A outer s H args us vs Q E hr e0 hb r hsp=>?_⟩;have hl:=len _ _ _ _ hsp;have KX:K.In s.heap:=e0.mod.kin.keeps fun b o e=>(e0.bs b o e).1
 have lim:s.heap.NoLimit:=e0.mod.nolimit.keeps fun b o e=>(e0.bs b o e).1
 have hkind:∀ y∈ps.zip us,scope.names.lookup y.1=some .local\/(scope.names.lookup y.1=some .cell/\((cellsFrom (s.heap.objs.size+1) scope.names []).lookup y.1).isSome=true):=fun ⟨n,v⟩ hy=>by
  rcases S.par n (List.of_mem_zip hy).1 with q | q
  .exact .inl q
  .exact .inr ⟨q,PySem.W.cellsFrom_some _ _ _ (.inl q)⟩
 refine codeAny_call_function hr.depth (KX _ _ lk) rfl S.co S.gen rfl (PySem.W.codeRec_of KX hcd) (hb _ _ _ _ ?_);refine wpAny_newFunctionEnv_cells S.kind hkind fun env he s1 x=>?_
 subst he;refine ⟨lim.keeps x.toInCall.keep,codeAny_func ?_⟩;obtain ⟨t,ht,hq⟩:=hbody A outer s H vs Q E (hr.deeper _) hsp;have I:Inv (fY CX P w K mg base N qual scope f cdv A outer s H E) [] (start N vs) H s1:=Gp S hr.hd e0 hl r x;refine wpAny_mono (ht [] s1 (start N vs) H _ I hq) (fun fl s' hs=>?_) fun e s' hs=>hs
 have fin:∀ {σ':St}{H':Hp}{v:V}{u:Value},Inv (fY CX P w K mg base N qual scope f cdv A outer s H E) [] σ' H' s'->RelV v u->Q v H'->CE outer P w H s Q u s' :=
  fun {σ' H' v u} J rv q=>⟨v,H',J.os,J.bare,J.base,J.hok,rv,q⟩
 cases fl with
 | ret u =>
  obtain ⟨v,σ',H',J,rv,q⟩:=hs;exact fin J rv q
 | next =>
  obtain ⟨σ',H',J,q⟩:=hs;exact fin (v:=V.non) (u:=Value.none) J rfl q
 | brk =>
  obtain ⟨_,_,_,q⟩:=hs;exact js q
 | cont =>
  obtain ⟨_,_,_,q⟩:=hs;exact js q
section
variable {X:Cx}{x:Str}{p pos:Pos}{e:Expr}{es:zl}{t:TA}{id T:String}{r:List V->Hp->VK->Prop}
def tCB (r:List V->Hp->VK->Prop) (t:TA):TE:=fun σ H Q=>t σ H fun vs H1=>r vs H1 Q
def lC (hc:lu X (.builtin id) r) (hg:Gl X x) (hm:X.mg x=none) (hv:bootBuiltins x=some (.builtin id)) (ha:PA X (e::es) t) (hn:x ≠ "__name__":=by decide) (hdb:(x == ("__debug__":Str))=false:=by decide)
  (he:starEach (e::es) X.env=(false,eval e X.env)::starEach es X.env:=by rfl) (hpl:(backTo pos (starEach es X.env)).any (·.1)=false:=by rfl):PE X (.Call (.Name x p) (e::es) [] pos) (tCB r t):=by
 intro pins s σ H Q I h;refine wpAny_Call_Name_kw (jP I hg hm hv ?_ hn hdb);exact PyProof.Rows.callWith_builtin1 (thn (ha pos pins s σ H _ I h) fun us s1 ⟨vs,H1,I1,r1,q1⟩=>hc pins s1 σ H1 vs us Q I1 r1 q1) he hpl
def yJ (hc:lu X (.type T) r) (hg:Gl X x) (hm:X.mg x=none) (hv:bootBuiltins x=some (.type T)) (ha:PA X (e::es) t) (hn:x ≠ "__name__":=by decide) (hdb:(x == ("__debug__":Str))=false:=by decide)
  (he:starEach (e::es) X.env=(false,eval e X.env)::starEach es X.env:=by rfl) (hpl:(backTo pos (starEach es X.env)).any (·.1)=false:=by rfl):PE X (.Call (.Name x p) (e::es) [] pos) (tCB r t):=by
 intro pins s σ H Q I h;refine wpAny_Call_Name_kw (jP I hg hm hv ?_ hn hdb);exact jn (thn (ha pos pins s σ H _ I h) fun us s1 ⟨vs,H1,I1,r1,q1⟩=>hc pins s1 σ H1 vs us Q I1 r1 q1) he hpl
end
end L2
namespace HT
open PySem PyProof.Rows
theorem Wu (A:Around) (s:Shared) (a:Int) (t:Tok) (c:Int) (u:Tok) (prog:Program) (w:World) (E:zb) (Q:zb) (h:Q (.bool (decide (a < c))) s) :
  wpAny (model prog w) A (richCompare .Lt (.int a t) (.int c u)) Q E s :=
 (PyProof.Rows.lt_int h:wpAny (model prog w) A (compareOp .Lt (.int a t) (.int c u)) Q E s)
section
variable {prog:Program}{w:World}{A:Around}{E:zb}{s:Shared}
def Zi {t b:Addr}{vs ws:zg}{Q:zb} (ht:IsTup s.heap t vs.toArray) (hb:IsTup s.heap b ws.toArray) (hv:vs≠[])
  (h1:ws=[] -> Q (.ref t) s) (h2:ws ≠ [] -> Q (.ref s.heap.objs.size) { s with heap:=s.heap.push { cls:=.type "tuple",data:=.seq (vs ++ ws).toArray } })
  (hsz:vs.length+ws.length<=sizeLine):wpAny (model prog w) A (binaryOp .Add (.ref t) (.ref b)) Q E s:=by
 obtain ⟨⟨cls,dd,data,sl⟩,ho,hc,n,hd⟩:=id ht;obtain ⟨⟨cls2,dd2,data2,sl2⟩,ho2,hc2,n2,hd2⟩:=id hb;simp only at hc hd hc2 hd2;subst hc hd hc2 hd2;have e:vs.toArray++ws.toArray=(vs++ws).toArray:=by simp
 by_cases hw:ws=[]
 .exact concat_meets ⟨_,ho,rfl⟩ ⟨_,ho2,rfl⟩ noFill_tuple_add seq_tuple_add PySem.F.slot_tuple_add PySem.F.entry_tuple_add (PySem.F.args_tuple_add_2 _ _)
   (tuple_addW1 t b vs.toArray ws.toArray n n2 dd dd2 sl sl2 (by simpa using hv) (by simp [hw])) ⟨ho,ho2,h1 hw⟩
 .refine concat_meets ⟨_,ho,rfl⟩ ⟨_,ho2,rfl⟩ noFill_tuple_add seq_tuple_add PySem.F.slot_tuple_add PySem.F.entry_tuple_add (PySem.F.args_tuple_add_2 _ _)
   (tuple_addW2 t b vs.toArray ws.toArray n n2 dd dd2 sl sl2 (by simpa using hv) (by simpa using hw) (by rw [List.size_toArray,List.size_toArray];exact hsz)) ⟨ho,ho2,?_⟩
  rw [e];exact h2 hw
noncomputable def sIx (n d:Nat):Option Int->Nat
 | none=>d
 | some v=>if v < 0 then (v+(n:Int)).toNat else min v.toNat n
theorem V9 (n d:Nat):sIx n d none=d:=rfl
def ZS (n d k:Nat):sIx n d (some (k:Int))=min k n:=by
 show (if (k:Int) < 0 then ((k:Int)+(n:Int)).toNat else min (k:Int).toNat n)=min k n
 rw [if_neg (by omega),Int.toNat_natCast]
end
end HT
namespace L2
open PySem PySem.Spec PyProof.Rows
abbrev TO:=St->Hp->(Option Int->Hp->Prop)->Prop
def PO (X:Cx) (e:Option Expr) (t:TO):Prop :=
 ∀ (pins:w4) (s:Shared) (σ:St) (H:Hp) (Q:Option Int->Hp->Prop),Inv X pins σ H s->t σ H Q ->
  wpAny (model X.prog X.w) X.A (evalPart e X.env) (fun u s'=>∃ o H',Inv X pins σ H' s'/\IsPart u o/\Q o H') X.xe s
def Yn:TO:=fun _ H Q=>Q none H
def acA (t:TE):TO:=fun σ H Q=>t σ H fun x H1=>∃ i,x=.int i/\Q (some i) H1
variable {xs:List V}{us:zg}
section
variable {X:Cx}{e:Expr}{te:TE}{lo hi:Option Expr}{tl th:TO}{pos p2:Pos}
def ZR:PO X none Yn:=by
 intro pins s σ H Q I h;rw [evalPart_none];exact z0 ⟨none,H,I,.none,h⟩
def YF (h:PE X e te):PO X (some e) (acA te):=by
 intro pins s σ H Q I hw;rw [evalPart_some];refine thn (h pins s σ H _ I hw) fun u s1 ⟨x,H1,I1,r1,q1⟩=>?_
 obtain ⟨i,rfl,q⟩:=q1;obtain ⟨t,rfl⟩:=r1;exact ⟨some i,H1,I1,.int i t,q⟩
def SlR (X:Cx) (r:V->Option Int->Option Int->Hp->VK->Prop):Prop :=
 ∀ (pins:w4) (s:Shared) (σ:St) (H:Hp) (x:V) (v vl vu:Value) (lo hi:Option Int) (sl:Addr) (Q:VK),Inv X pins σ H s->RelV x v->s.heap.IsSliceOf sl vl vu .none->IsPart vl lo->IsPart vu hi->r x lo hi H Q ->
  ∃ T id,typeLookup (.type T) "__getitem__"=pure (some (.builtin id)) /\ s.TypeIs v T /\ wpAny (model X.prog X.w) X.A (getItem v (.ref sl)) (EP X pins σ Q) X.xe s
def tSl (r:V->Option Int->Option Int->Hp->VK->Prop) (te:TE) (tl th:TO):TE:=fun σ H Q=>te σ H fun x H1=>tl σ H1 fun l H2=>th σ H2 fun u H3=>r x l u H3 Q
theorem VP {r:V->Option Int->Option Int->Hp->VK->Prop} (hr:SlR X r) (he:PE X e te) (hl:PO X lo tl) (hu:PO X hi th):PE X (.Subscript e (.Slice lo hi none p2) pos) (tSl r te tl th):=by
 intro pins s σ H Q I h;refine Subscript_ (thn (he pins s σ H _ I h) fun v s1 ⟨x,H1,I1,r1,q1⟩=>?_);refine wpAny_Slice (thn (hl pins s1 σ H1 _ I1 q1) fun vl s2 ⟨l,H2,I2,pl,q2⟩=>thn (hu pins s2 σ H2 _ I2 q2) fun vu s3 ⟨u,H3,I3,pu,q3⟩=>?_);rw [evalPart_none];refine z0 ?_;have I4:Inv X pins σ H3 { s3 with heap:=s3.heap.push { cls:=.type "slice",data:=.fields #[vl,vu,.none] } }:=I3.kept (t':=s3.toks) fun b ob q=>vn _ q
 obtain ⟨T,id,hT,ht,hg⟩:=hr pins { s3 with heap:=s3.heap.push { cls:=.type "slice",data:=.fields #[vl,vu,.none] } } σ H3 x v vl vu l u s3.heap.objs.size Q I4 r1 (Heap.IsSliceOf.new ..) pl pu q3
 show wpAny (model X.prog X.w) X.A (subscriptTail e (.Slice lo hi none p2) v (.ref s3.heap.objs.size)) (EP X pins σ Q) X.xe { s3 with heap:=s3.heap.push { cls:=.type "slice",data:=.fields #[vl,vu,.none] } }
 exact tail_any (ops:=[.ref s3.heap.objs.size,v]) ht hT hg (by with_unfolding_all rfl)
noncomputable def Kd (xs:List V) (lo hi:Option Int):List V:=(xs.drop (HT.sIx xs.length 0 lo)).take (HT.sIx xs.length xs.length hi - HT.sIx xs.length 0 lo)
def MF (xs:List V) (lo hi:Option Int):(Kd xs lo hi).length<=xs.length:=by
 unfold Kd;rw [List.length_take,List.length_drop];omega
def Xy (K:zd):R2:=fun x y H Q=>∃ a b xs ys,x=.ref a/\y=.ref b/\SqT K H a xs/\SqT K H b ys/\xs≠[]/\xs.length+ys.length<=sizeLine /\
 (ys=[]->Q (.ref a) H)/\(ys≠[]->∀ p,H p=none->Q (.ref p) (upd H p (.tup (xs++ys))))
theorem Vals.nil_iff (r:Vals xs us):us=[]↔xs=[]:=by
 cases r with
 | nil=>simp
 | cons _ _=>simp
def Y7:OpR X (binaryOp .Add) (Xy X.K):=by
 intro pins s σ H x y v u Q I rx ry h;obtain ⟨a,b,xs,ys,rfl,rfl,ha,hb,hx,hz,q1,q2⟩:=h;cases rx;cases ry;obtain ⟨its,r1,p1,_⟩:=I.tuple ha;obtain ⟨its2,r2,p2,_⟩:=I.tuple hb;refine HT.Zi p1 p2 (fun z=>hx (r1.nil_iff.mp z)) (fun z=>⟨.ref a,H,I,rfl,q1 (r2.nil_iff.mp z)⟩) (fun z=>?_) (by rw [<- r1.length,<- r2.length];exact hz);refine ⟨.ref s.heap.objs.size,_,I.laid (t':=s.toks) (o:=.tup (xs++ys)) (fun b ob q=>vn _ q) (vy _) ?_,rfl,q2 (fun w=>z (r2.nil_iff.mpr w)) _ (I.hok.fresh (vy _))⟩;exact ⟨by rw [List.length_append];exact hz,_,r1.append r2,IsTup.new _ _⟩
end
noncomputable def ixN (n:Nat) (i:Int):Option Nat:=if 0<=i then (if i < n then some i.toNat else none) else if -(n:Int)<=i then some (i+n).toNat else none
def atI {α:Type} (xs:List α) (i:Int):Option α:=(ixN xs.length i).bind fun j=>xs[j]?
variable {n:Nat}{i:Int}
def Z2 {j:Nat} (h:ixN n i=some j):seqIndex? i n=some j/\j < n/\-(n:Int)<=i/\i < n:=by
 unfold ixN at h;by_cases h0:0<=i
 .rw [if_pos h0] at h;by_cases h1:i < n
  .rw [if_pos h1] at h;have e:i.toNat=j:=jr h;exact ⟨by rw [seqIndex_of h0 h1,e],by omega,by omega,h1⟩
  .rw [if_neg h1] at h;cases h
 .rw [if_neg h0] at h;by_cases h1:-(n:Int)<=i
  .rw [if_pos h1] at h;have e:(i+n).toNat=j:=jr h;exact ⟨by rw [seqIndex_neg (by omega) h1,e],by omega,h1,by omega⟩
  .rw [if_neg h1] at h;cases h
def N6 {α:Type}{xs:List α}{v:α} (h:atI xs i=some v):∃ j,seqIndex? i xs.length=some j/\xs[j]?=some v/\j < xs.length/\-(xs.length:Int)<=i/\i < xs.length:=by
 unfold atI at h;cases e:ixN xs.length i with
 | none=>rw [e] at h;cases h
 | some j =>
  rw [e] at h;obtain ⟨h1,h2,h3,h4⟩:=Z2 e;exact ⟨j,h1,h,h2,h3,h4⟩
def Oj (b:Expr):Prop:=∀ o i,subscripted b false o i=operate [o,i] (getItem o i)
def IxR (X:Cx) (r:R2):Prop :=
 ∀ (value slice:Expr) (pins:w4) (s:Shared) (σ:St) (H:Hp) (x y:V) (v u:Value) (Q:VK),Inv X pins σ H s->RelV x v->RelV y u->r x y H Q ->
  subscripted slice false v u=operate [v,u] (getItem v u)->wpAny (model X.prog X.w) X.A (subscriptTail value slice v u) (EP X pins σ Q) X.xe s
def MtR (X:Cx) (id:String) (r:V->List V->Hp->VK->Prop):Prop :=
 ∀ (pins:w4) (s:Shared) (σ:St) (H:Hp) (x:V) (xs:List V) (v:Value) (us:zg) (Q:VK),Inv X pins σ H s->RelV x v->Vals xs us->r x xs H Q ->
  wpAny (model X.prog X.w) X.A (call (.builtin id) (v::us)) (EP X pins σ Q) X.xe s
variable {r:R2}
section
variable {X:Cx}{a b:Expr}{ta tb:TE}{pos:Pos}
theorem IxR.or {r':R2} (h:IxR X r) (h':IxR X r'):IxR X (fun x y H Q=>r x y H Q\/r' x y H Q):=by
 intro value slice pins s σ H x y v u Q I rx ry q hs;rcases q with q | q
 .exact h value slice pins s σ H x y v u Q I rx ry q hs
 .exact h' value slice pins s σ H x y v u Q I rx ry q hs
def ab4 (hr:IxR X r) (ha:PE X a ta) (hb:PE X b tb) (hs:Oj b):PE X (.Subscript a b pos) (tOp r ta tb):=by
 intro pins s σ H Q I h;exact Subscript_ (W6 ha hb I h fun v u s2 x y H2 I2 rx ry q=>hr a b pins s2 σ H2 x y v u Q I2 rx ry q (hs _ _))
def aaE (K:zd):R2:=fun x y H Q=>∃ p xs i v,x=.ref p/\y=.int i/\SqL K H p xs/\atI xs i=some v/\Q v H
def aam (K:zd):R2:=fun x y H Q=>∃ p xs i v,x=.ref p/\y=.int i/\SqT K H p xs/\atI xs i=some v/\Q v H
def Yt:IxR X (aaE X.K):=by
 intro value slice pins s σ H x y v u Q I rx ry h hs;obtain ⟨p,xs,i,z,rfl,rfl,hq,he,q⟩:=h;cases rx;obtain ⟨t,rfl⟩:=ry;obtain ⟨its,r,pl,hz⟩:=I.list hq;obtain ⟨j,h1,h2,h3,h4,h5⟩:=N6 he;obtain ⟨w,ew,rw'⟩:=r.get h2;have hl:=r.length;have hn:=DP;have fin:EP X pins σ Q w s:=⟨z,H,I,rw',q⟩;by_cases h0:0<=i
 .have hj:i.toNat=j:=by
   rw [seqIndex_of h0 h5] at h1;exact jr h1
  exact item_listR pl.isList h0 (by omega) (by rw [hj];simpa using ew) fin hs
 .have hj:(i+(its.toArray.size:Int)).toNat=j:=by
   rw [seqIndex_neg (by omega) h4] at h1;rw [List.size_toArray,<- hl];exact jr h1
  exact subscriptTail_builtinR (x:=w) pl.isList.typeIs slot_list_getitem.lookup
   (wpAny_getItem_list_neg (Q:=fun r s'=>r=w/\EP X pins σ Q r s') pl.isList (by omega) (by rw [List.size_toArray] <;> omega) (by omega) (by rw [hj];simpa using ew) ⟨rfl,fin⟩) hs
def aal:IxR X (aam X.K):=by
 intro value slice pins s σ H x y v u Q I rx ry h hs;obtain ⟨p,xs,i,z,rfl,rfl,hq,he,q⟩:=h;cases rx;obtain ⟨t,rfl⟩:=ry;obtain ⟨its,r,pl,hz⟩:=I.tuple hq;obtain ⟨j,h1,h2,h3,h4,h5⟩:=N6 he;obtain ⟨w,ew,rw'⟩:=r.get h2;have hl:=r.length;have hn:=DP;have fin:EP X pins σ Q w s:=⟨z,H,I,rw',q⟩;exact subscriptTail_builtinR (x:=w) pl.typeIs slot_tuple_getitem.lookup
  (getItem_tuple (j:=j) (Q:=fun r s'=>r=w/\EP X pins σ Q r s') pl (by omega) (by omega) (by rw [List.size_toArray,<- hl];exact h1) (by simpa using ew) ⟨rfl,fin⟩) hs
def Km (lo hi:Option Int) (n:Nat):(sliceBounds lo hi none n).1=((HT.sIx n 0 lo:Nat):Int)/\(sliceBounds lo hi none n).2.1=((HT.sIx n n hi:Nat):Int)/\(sliceBounds lo hi none n).2.2=1:=by
 refine ⟨?_,?_,rfl⟩
 .cases lo with
  | none=>simp [sliceBounds,HT.sIx]
  | some i =>
   simp only [sliceBounds,HT.sIx,Option.getD_none,show (1:Int) > 0 by decide,if_true];by_cases h:i < 0
   .simp only [h,if_true] <;> omega
   .simp only [h,if_false] <;> omega
 .cases hi with
  | none=>simp [sliceBounds,HT.sIx]
  | some i =>
   simp only [sliceBounds,HT.sIx,Option.getD_none,show (1:Int) > 0 by decide,if_true];by_cases h:i < 0
   .simp only [h,if_true] <;> omega
   .simp only [h,if_false] <;> omega
theorem G9 (its:zg) (lo hi:Option Int):slicePick its.toArray lo hi none=((its.drop (HT.sIx its.length 0 lo)).take (HT.sIx its.length its.length hi - HT.sIx its.length 0 lo)).toArray:=by
 obtain ⟨h1,h2,h3⟩:=Km lo hi its.toArray.size;unfold slicePick;rw [h1,h2,h3];simp only [sliceRange_one,pick_run,List.size_toArray] <;> rfl
def aap (K:zd):V->Option Int->Option Int->Hp->VK->Prop:=fun x lo hi H Q=>∃ a xs,x=.ref a/\SqL K H a xs/\∀ p,H p=none->Q (.ref p) (upd H p (.lst (Kd xs lo hi)))
def YS:SlR X (aap X.K):=by
 intro pins s σ H x v vl vu lo hi sl Q I rx hs pl pu h;obtain ⟨a,xs,rfl,hx,q⟩:=h;cases rx;obtain ⟨its,r,ht,hz⟩:=I.list hx;have hlen:=r.length;refine ⟨"list",_,slot_list_getitem.lookup,ht.isList.typeIs,?_⟩
 refine wpAny_getItem_list_slice ht.isList hs pl pu .none (by simp) ?_ (by rw [List.size_toArray] <;> omega);rw [G9,<- hlen];refine ⟨.ref s.heap.objs.size,_,I.laid (t':=s.toks) (o:=.lst (Kd xs lo hi)) (fun b ob q=>vn _ q) (vy _) ?_,rfl,q _ (I.hok.fresh (vy _))⟩;exact ⟨vF (MF xs lo hi) hz,_,0,(r.drop (HT.sIx xs.length 0 lo)).take (HT.sIx xs.length xs.length hi - HT.sIx xs.length 0 lo),vw _ rfl⟩
def Jf:lu X (.builtin "len") (fun xs H Q=>∃ p ys,xs=[.ref p] /\ (SqL X.K H p ys \/ SqT X.K H p ys) /\ Q (.int ys.length) H):=by
 intro pins s σ H xs us Q I r h;obtain ⟨p,ys,rfl,hq,q⟩:=h;obtain ⟨u,rfl,rx⟩:=vals1 r;cases rx;have hn:=DP;rcases hq with hq | hq
 .obtain ⟨its,r',pl,hz⟩:=I.list hq;have hlen:=r'.length;exact Calls.call_len_list pl.isList (by simp only [List.size_toArray] <;> omega) ⟨.int ys.length,H,I.tok _,⟨s.toks+1,by rw [List.size_toArray,hlen]⟩,q⟩
 .obtain ⟨its,r',pl,hz⟩:=I.tuple hq;have hlen:=r'.length;exact len_tuple pl (by simp only [List.size_toArray] <;> omega) ⟨.int ys.length,H,I.tok _,⟨s.toks+1,by rw [List.size_toArray,hlen]⟩,q⟩
def Ls:lu X (.type "list") (fun xs H Q=>∃ p ys,xs=[.ref p] /\ (SqL X.K H p ys \/ SqT X.K H p ys) /\ ∀ l,H l=none -> Q (.ref l) (upd H l (.lst ys))):=by
 intro pins s σ H xs us Q I r h;obtain ⟨p,ys,rfl,hq,q⟩:=h;obtain ⟨u,rfl,rx⟩:=vals1 r;cases rx;have fin:∀ (its:zg),Vals ys its->ys.length<=sizeLine->∀ (h':Heap) (c':Nat),(∀ b o',s.heap.get? b=some o'->h'.get? b=some o') ->
   h'.get? s.heap.objs.size=some { cls:=.type "list",dict:=none,data:=.seq its.toArray c',slots:=#[] } -> EP X pins σ Q (.ref s.heap.objs.size) { s with heap:=h' }:=fun its r' hz h' c' kp e =>
  ⟨.ref s.heap.objs.size,_,I.laid (t':=s.toks) kp (vy _) (show cj X.prog X.w _ h' _ (.lst ys) from ⟨hz,its,c',r',e⟩),rfl,q _ (I.hok.fresh (vy _))⟩
 rcases hq with hq | hq
 .obtain ⟨its,r',pl,hz⟩:=I.list hq;have hlen:=r'.length;obtain ⟨o,ho,hc,n,hd⟩:=pl.isList;exact call_list_seq p (.inl rfl) ho hc hd (fun h' c' kp e=>fin its r' hz h' c' kp e) (by simp only [List.size_toArray] <;> omega)
 .obtain ⟨its,r',pl,hz⟩:=I.tuple hq;have hlen:=r'.length;obtain ⟨o,ho,hc,n,hd⟩:=pl;exact call_list_seq p (.inr rfl) ho hc hd (fun h' c' kp e=>fin its r' hz h' c' kp e) (by simp only [List.size_toArray] <;> omega)
def Ht:lu X (.type "tuple") (fun xs H Q=>∃ p ys,xs=[.ref p] /\ ((SqL X.K H p ys /\ ∀ l,H l=none -> Q (.ref l) (upd H l (.tup ys))) \/ (SqT X.K H p ys /\ Q (.ref p) H))):=by
 intro pins s σ H xs us Q I r h;obtain ⟨p,ys,rfl,h⟩:=h;obtain ⟨u,rfl,rx⟩:=vals1 r;cases rx;rcases h with ⟨hq,q⟩ | ⟨hq,q⟩
 .obtain ⟨its,r',pl,hz⟩:=I.list hq;have hlen:=r'.length;refine call_tuple_list pl.isList (fun h' kp=>?_) (by simp only [List.size_toArray] <;> omega);have I1:Inv X pins σ H { s with heap:=h' }:=I.kept (t':=s.toks) kp;have I2:Inv X pins σ (upd H h'.objs.size (.tup ys)) { s with heap:=h'.push { cls:=.type "tuple",data:=.seq its.toArray } } :=
   I1.laid (t':=s.toks) (fun b o e=>vn _ e) (vy _) (show cj X.prog X.w _ _ _ (.tup ys) from ⟨hz,its,r',IsTup.new _ _⟩)
  exact ⟨.ref h'.objs.size,_,I2,rfl,q _ (I1.hok.fresh (vy _))⟩
 .obtain ⟨its,r',pl,hz⟩:=I.tuple hq;exact call_tuple_same pl ⟨.ref p,H,I,rfl,q⟩
def tyV (K:zd) (T:String) (x:V) (H:Hp):Prop:=match x with
 | .str _=>T="str"
 | .int _=>T="int"
 | .ref p=>(T="list" /\ ∃ xs,SqL K H p xs) \/ (T="tuple" /\ ∃ o,K.lookup p=some o /\ o.cls=.type "tuple" /\ o.dict=none) \/
   (T="dict" /\ ((∃ kvs,H p=some (.dK kvs)) \/ ∃ kvs,H p=some (.dT kvs))) \/ (T="set" /\ ∃ S n,H p=some (.set S n))
 | _=>False
def abF {pins:w4}{σ:St}{H:Hp}{s:Shared}{T:String}{x:V}{v:Value} (I:Inv X pins σ H s) (r:RelV x v) (ty:tyV X.K T x H) :
  s.TypeIs v T/\∀ a,v=.ref a->∃ ob,s.heap.get? a=some ob/\ob.dict=none:=by
 cases x with
 | str z =>
  obtain ⟨t,rfl⟩:=r;cases (show T="str" from ty)
  exact ⟨typeIs_str s z t,fun _ e=>nomatch e⟩
 | int i =>
  obtain ⟨t,rfl⟩:=r;cases (show T="int" from ty)
  exact ⟨typeIs_int s i t,fun _ e=>nomatch e⟩
 | ref p =>
  cases r;rcases ty with ⟨rfl,xs,hq⟩ | ⟨rfl,o,hk,hc,hd⟩ | ⟨rfl,hk⟩ | ⟨rfl,S,n,hk⟩
  .obtain ⟨its,_,pl,_⟩:=I.list hq;refine ⟨pl.isList.typeIs,fun a e=>?_⟩;cases e;obtain ⟨o,n,e,c,hd,_⟩:=pl;exact ⟨o,e,hd⟩
  .refine ⟨⟨o,I.kIn p o hk,hc⟩,fun a e=>?_⟩;cases e;exact ⟨o,I.kIn _ o hk,hd⟩
  .have z:∃ o,s.heap.get? p=some o/\o.ExactDict:=by
    rcases hk with ⟨kvs,hk⟩ | ⟨kvs,hk⟩
    .obtain ⟨_,_,_,_,o,_,_,e,ex,_⟩:=I.hok p _ hk;exact ⟨o,e,ex⟩
    .obtain ⟨_,_,_,_,o,_,_,e,ex,_⟩:=I.hok p _ hk;exact ⟨o,e,ex⟩
   obtain ⟨o,e,ex⟩:=z;refine ⟨⟨o,e,ex.1⟩,fun a e2=>?_⟩;cases e2;exact ⟨o,e,ex.2.1⟩
  .obtain ⟨o,_,_,_,e,ex,_⟩:=I.hok p _ hk;refine ⟨⟨o,e,ex.1⟩,fun a e2=>?_⟩;cases e2;exact ⟨o,e,ex.2.1⟩
 | _=>exact js ty
def tBM (K:zd) (T:String) (r:V->List V->Hp->VK->Prop) (to:TE) (t:TA):TE:=fun σ H Q=>to σ H fun x H1=>tyV K T x H1/\t σ H1 fun xs H2=>r x xs H2 Q
variable {o e:Expr}{es:zl}{to:TE}{t:TA}{name:Str}{apos cpos:Pos}{T id:String}{r:V->List V->Hp->VK->Prop}
def QT (pa:PlainAttrs T) (slot:Slot T name id) (hty:typeOf (.builtin id)=pure (.type "method_descriptor")) (hm:MtR X id r) (ho:PE X o to) (ha:PA X (e::es) t)
  (hbase:attributeBase o name X.env (eval o X.env)=eval o X.env:=by rfl)
  (hfew:((backTo cpos (starEach (e::es) X.env)).all (fun x=>!x.1) && (backToKw cpos (keywordEach [] X.env)).all (fun x=>x.1.isSome)
   && decide ((e::es).length+([]:List Keyword).length+(if ([]:List Keyword).isEmpty then 0 else 1) < 30))=true:=by rfl)
  (hline:(apos.endLine == cpos.line)=true:=by rfl) (hs:starEach (e::es) X.env=(false,eval e X.env)::starEach es X.env:=by rfl) (hplain:(backTo cpos (starEach es X.env)).any (·.1)=false:=by rfl) :
  PE X (.Call (.Attribute o name apos) (e::es) [] cpos) (tBM X.K T r to t):=by
 intro pins s σ H Q I h;refine wpAny_Call_method_late hbase hfew hline rfl (thn (ho pins s σ H _ I h) fun v s1 ⟨x,H1,I1,r1,ty,q1⟩=>?_);obtain ⟨h1,h2⟩:=abF I1 r1 ty;refine ⟨T,id,pa,slot,hty,h1,h2,?_⟩;have hA:=ha cpos pins s1 σ H1 _ I1 q1;rw [hs] at hA ⊢;refine Calls.callWith_builtin (by show (false || (backTo cpos (starEach es X.env)).any (·.1))=false;rw [hplain] <;> rfl) (Calls.evalArgs_plain ?_);exact thn hA fun us s2 ⟨vs,H2,I2,r2,q2⟩=>hm pins s2 σ H2 x vs v us Q I2 r1 r2 q2
end
def MtM (X:Cx) (id:String) (r:V->List V->Hp->VK->Prop):Prop :=
 ∀ (pins:w4) (s:Shared) (σ:St) (H:Hp) (x:V) (xs:List V) (v:Value) (us:zg) (Q:VK),Inv X pins σ H s->RelV x v->Vals xs us->r x xs H Q ->
  wpAny (model X.prog X.w) X.A (call (.builtin id) (v::us)) (EP X pins σ Q) X.xe s
theorem Vals.one:∀ {x:V}{us:zg},Vals [x] us->∃ u,us=[u]/\RelV x u
 | _,_,.cons r .nil=>⟨_,rfl,r⟩
theorem Vals.rep {xs:List V}{us:zg} (h:Vals xs us):∀ k:Nat,Vals (List.replicate k xs).flatten (List.replicate k us).flatten
 | 0=>.nil
 | k+1=>by
  rw [List.replicate_succ,List.replicate_succ,List.flatten_cons,List.flatten_cons];exact Vals.append h (Vals.rep h k)
theorem foldl_rep (its:zg):∀ (k:Nat) (acc:zg),
  List.foldl (fun x1 x2=>x1++x2) acc.toArray (List.replicate k its.toArray)=(acc++(List.replicate k its).flatten).toArray
 | 0,acc=>by simp
 | k+1,acc=>by
  have e:acc.toArray++its.toArray=(acc++its).toArray:=by simp
  have e2:(acc++its)++(List.replicate k its).flatten=acc++(List.replicate (k+1) its).flatten:=by
   rw [List.replicate_succ,List.flatten_cons,List.append_assoc]
  rw [<- e2,<- foldl_rep its k (acc++its),<- e,List.replicate_succ,List.foldl_cons]
variable {its:zg}
section
variable {X:Cx}{pins:w4}{σ:St}{H:Hp}{s:Shared}{l b:Addr}{xs ys zs:List V}
theorem Inv.lset {its':zg}{f:zt->zt}{t':Nat} (I:Inv X pins σ H s) (hH:H l=some (.lst xs))
  (e:s.heap.get? l=some { cls:=.type "list",data:=.seq its.toArray n }) (hf:f its.toArray=its'.toArray) (hv:Vals ys its') (hz:ys.length <= sizeLine) :
  Inv X pins σ (upd H l (.lst ys)) { s with heap:=s.heap.update l (Obj.mapSeq f),toks:=t' }:=by
 have q:=PySem.IsL.update e f;rw [hf] at q;refine I.write (x:=l) (e:=l) (by rw [hH];exact trivial) (.inl rfl) (fun b' u hb hu=>(v6 s.heap (Obj.mapSeq f) (Ne.symm hb)).trans hu) ⟨_,q⟩ ?_;exact ⟨hz,its',_,hv,q⟩
theorem Inv.lnew {t':Nat} (I:Inv X pins σ H s) (hv:Vals ys its) (hz:ys.length<=sizeLine) :
  Inv X pins σ (upd H s.heap.objs.size (.lst ys)) { s with heap:=s.heap.push { cls:=.type "list",data:=.seq its.toArray },toks:=t' } :=
 I.laid (fun _ _ q=>vn _ q) (vy _) ⟨hz,its,0,hv,vw _ rfl⟩
theorem Inv.fresh (I:Inv X pins σ H s):H s.heap.objs.size=none:=I.hok.fresh (vy _)
theorem Inv.lstM (I:Inv X pins σ H s) (hH:H l=some (.lst xs)):xs.length <= sizeLine /\ ∃ (its:zg) (n:Nat),Vals xs its /\ xs.length=its.length /\ s.heap.get? l=some { cls:=.type "list",data:=.seq its.toArray n }:=by
 obtain ⟨z,its,n,r,e⟩:=I.hok l _ hH;exact ⟨z,its,n,r,r.length,e⟩
def Jz (h:n<=sizeLine):Builtin.List.listTooLong n=false:=by
 unfold Builtin.List.listTooLong;exact v4 (by omega)
end
variable {α:Type}
section
variable {X:Cx}
def Oo:V->List V->Hp->VK->Prop:=fun x vs H Q=>∃ l xs y,x=.ref l/\vs=[y]/\H l=some (.lst xs)/\xs.length < sizeLine/\Q .non (upd H l (.lst (xs++[y])))
def yc:MtM X "list.append" Oo:=by
 intro pins s σ H x vs v us Q I rx rv h;obtain ⟨l,xs,y,rfl,rfl,hH,hz,q⟩:=h;cases rx;obtain ⟨u,rfl,ru⟩:=rv.one;obtain ⟨z,its,n,r,hl,e⟩:=I.lstM hH;refine call_meets F.slot_list_append ⟨_,e,rfl⟩ F.entry_list_append (F.args_list_append_2 _ _) (PySem.list_append l its.toArray n u (by rw [List.size_toArray];omega)) ⟨e,?_⟩;refine ⟨.non,_,I.lset (its':=its++[u]) hH e (by simp) (r.append (.cons ru .nil)) ?_,rfl,q⟩;rw [List.length_append,List.length_singleton];omega
def len_rep (xs:List α) (k:Nat):(List.replicate k xs).flatten.length=k * xs.length:=by
 induction k with
 | zero=>simp
 | succ k ih=>rw [List.replicate_succ,List.flatten_cons,List.length_append,ih,Nat.succ_mul,Nat.add_comm]
end
section
variable {X:Cx}{pins:w4}{σ:St}{H:Hp}{s:Shared}{a:Addr}{y v:V}{u r:Value}{o:Option V}{A:Around}{E:zb}
theorem Inv.big (I:Inv X pins σ H s):sysModules < s.heap.objs.size:=by
 have h:mainGlobals < s.heap.objs.size:=(I.mod.glob.keeps I.bk).lt;exact Nat.lt_trans (by decide) h
end
structure M2 (X:Cx) (o:Expr) (m:Str) (apos:Pos) (e f:Expr) (cpos:Pos):Prop where
 base:attributeBase o m X.env (eval o X.env)=eval o X.env
 few:((backTo cpos (starEach [e,f] X.env)).all (fun x=>!x.1) && (backToKw cpos (keywordEach [] X.env)).all (fun x=>x.1.isSome)
  && decide (([e,f]:zl).length+([]:List Keyword).length+(if ([]:List Keyword).isEmpty then 0 else 1) < 30))=true
 line:(apos.endLine == cpos.line)=true
 trees:backTo cpos (starEach [e,f] X.env)=[(false,eval e X.env),(false,eval f X.env)]
end L2
namespace Att
open PySem PySem.W PySem.Calls PyProof.Rows
variable {P:Params}{h:Heap}
def DK :∀ (ns:List Int) (vs:zg),WellAll P h vs (ns.map WData.int)->IntsAre vs ns:=by
 intro ns;induction ns with
 | nil =>
  intro vs w;rw [List.map_nil] at w;cases w;exact .nil
 | cons n ns ih =>
  intro vs w;rw [List.map_cons] at w;cases w with
  | cons a b =>
   cases a;exact .cons _ _ (ih _ b)
variable {l:OpenLaw}{n:Nat}
def TJ (hn:l.most=some n) {args:List WData}{vals:zg}
  (hpre:l.row.toRowW.claim.pre args=true) (hwl:WellAll P h vals args) :
  ∃ a vs ns,vals=[Value.ref a] /\ args=[WData.list (ns.map WData.int)] /\ h.get? a=some { cls:=.type "list",data:=.seq vs.toArray } /\ IntsAre vs ns /\ ns.length <= n:=by
 have hsh:WShape.hasAll [] args [.list .int]=true:=(pre_splitW hpre).1;have hc:l.pre.holds [] { args:=args }=true:=(pre_splitW hpre).2;obtain ⟨d,r,rfl,h1,h2⟩:=hasAllW_cons hsh;obtain rfl:=hasAllW_nil h2;obtain ⟨xs,rfl,h3⟩:=hasW_list h1;obtain ⟨ns,rfl⟩:=items_int h3;have hlen:ns.length<=n:=by
  unfold OpenLaw.pre at hc;have h4:(WTm.not (.lt (.lit (.int (n:Int))) (.len (.arg 0)))).holds [] { args:=[.list (ns.map .int)] }=true:=by
   have h4:=(holds_andW hc).1;rw [hn] at h4;exact h4
  have h5:=condW_of h4 (w_not (w_lt w_lit (w_len_list (w_arg rfl))));rw [List.length_map] at h5;refine Nat.le_of_not_lt fun q=>?_
  have q':(n:Int) < ((ns.length:Nat):Int):=by omega
  first
   | (rw [decide_eq_true q'] at h5;exact absurd h5 (by decide))
   | (simp at h5;omega)
 cases hwl with
 | cons w1 w2 =>
  cases w2;cases w1 with
  | list ho hall=>exact ⟨_,_,ns,rfl,rfl,ho,DK ns _ hall,hlen⟩
theorem Ri (l:OpenLaw) (args:List WData):l.row.toRowW.claim.post args (.bool true) args=true :=
 postW_of (r:=l.row.toRowW) (X:=(true == true))
  (show WShape.has [] (.bool true) .bool=true by first | rfl | decide | simp [WShape.has,WShape.arms,WShape.armsAll])
  (show (WTm.eq .res (.lit (.bool true))).value [] { args:=args,res:=some (.bool true),after:=args }=some (.bool (true == true)) from w_eq_bool (w_res rfl) w_lit) rfl
def MN {q:Program}{loose:zk}{XP:(w8)->Heap->Prop}{YP:World->Heap->Prop}{d:DefRec}
  (hn:l.most=some n) (hdf:d.params.defaults=[])
  (call:∀ (w:World) (s₀ s₁:Shared) (mg mb:w8) (fa:Addr) (o:Obj) (pm cd doc:Value) (a:Addr) (vs:zg) (ns:List Int),
   Ground q loose [] XP w s₀ mg mb s₁.heap->YP w s₁.heap ->
   s₁.heap.get? fa=some o->o.data=.func (docDef d.name d.params d.body d.scope pm cd doc)->s₁.heap.CodeRec cd d.name->mg d.name=some (.ref fa) ->
   s₁.heap.get? a=some { cls:=.type "list",data:=.seq vs.toArray } -> IntsAre vs ns -> ns.length <= n -> s₁.gens=#[] ->
   codeAny (model l.prog w) callerA (.call (.ref fa) ⟨[.ref a],[]⟩) (fun r s'=>r=.ok (.ret (.bool true))/\OldK s₁.heap s'.heap/\s'.os=s₁.os/\AllBare s'.gens) s₁) :
  WalkO q loose XP YP l.row.toRowW d [] (fun f vs=>PySem.call f vs):=by
 intro w s₀ s₁ mg mb G Y fa o pm cd doc dV kV ho hd hcd hD hmg hg args vals as hpre hlay hrd hwl hlo;obtain rfl:dV=.none:=Dflts.none hD hdf;obtain rfl:kV=.none:=Dflts.noKw hD;obtain ⟨a,vs,ns,rfl,rfl,hobj,hints,hlen⟩:=TJ hn hpre hwl;refine enter_call (codeAny_mono (call w s₀ s₁ mg mb fa o pm cd doc a vs ns G Y ho (fd_plain hd) hcd hmg hobj hints hlen hg) fun r s' hq=>?_);obtain ⟨rfl,h2,h3,h4⟩:=hq;exact ⟨.inl ⟨.bool true,.bool true,[],rfl,fun _=>rfl,.bool true,Ri l _,fun _=>⟨List.Pairwise.nil,fun _ hm=>(nomatch hm)⟩⟩,h2,h3,h4⟩
end Att
namespace L2
open PySem PySem.Spec PyProof.Rows
theorem GJ:∀ {vs:zg}{ns:List Int},IntsAre vs ns->Vals (ns.map V.int) vs
 | _,_,.nil=>.nil
 | _,_,.cons n t h=>.cons ⟨t,rfl⟩ (GJ h)
def Only (H:Hp):Prop:=∀ b,H b=none\/(∃ o xs,H b=some (.frz o (.lst xs)))\/H b=some (.tbl #[])
def Dq (mg:w8) (h:Heap) (tP:zv):Prop:=match tP with
 | none=>∀ a,mg "check_tests" ≠ some (.ref a)
 | some P=>∃ zX ot fdt ct,mg "check_tests"=some (.ref zX) /\ h.get? zX=some ot /\ ot.data=.func fdt /\ fdt.code=.ref ct /\ h.TableAt ct P #[]
variable {K:zd}{k:Nat}{a:Addr}{fd:FuncData}{x:Str}{sp:Sp}
def UW {P:Program}{w:World}{mg mb:w8}{CX:CXT}{fa:Addr}{s₁:Shared}{vs:zg}{ns:List Int}{tP:zv}
  (KX:K.In s₁.heap) (hns:s₁.heap.Ns mainGlobals mg) (hb:s₁.heap.Ns builtinsNs mb) (hbb:∀ x:Str,x ≠ "__name__" -> mb x=bootBuiltins x) (hlim:s₁.heap.NoLimit) (hg:s₁.gens=#[])
  (hbm:∃ bm ob,mg "__builtins__"=some (.ref bm) /\ bm ≠ builtinsNs /\ s₁.heap.get? bm=some ob /\ ob.cls=.type "module" /\ ob.dict=some builtinsNs /\ ob.data=.plain) (hT:Dq mg s₁.heap tP) (hKc:∀ b o,K.lookup b=some o -> Pn o)
  (ha:s₁.heap.get? a=some { cls:=.type "list",data:=.seq vs.toArray }) (hi:IntsAre vs ns) (hl:ns.length <= sizeLine) (hr:Room k callerA)
  (F:∀ base:Heap,K.In base->base.Ns mainGlobals mg->FnOk P w K mg base CX k fa fd [x] sp) (hbind:∀ (s:Shared) (u:Value),BindsTo s fd ⟨[u],[]⟩ [(x,u)])
  (hsp:∀ H:Hp,Only H->SqL K H a (ns.map V.int)->sp [.ref a] H (fun v _=>v=.bl true) fun _ _ _=>False)
  (hCX:∀ H e s',CX [] H s₁ (fun _ _ _=>False) e s'->False) :
  codeAny (model P w) callerA (.call (.ref fa) ⟨[.ref a],[]⟩) (fun r s'=>r=.ok (.ret (.bool true))/\OldK s₁.heap s'.heap/\s'.os=s₁.os/\AllBare s'.gens) s₁:=by
 have rv:=GJ hi;have lenV:=hi.length;have tabP:∀ p,tP=some p->∃ ct,s₁.heap.TableAt ct p #[]:=fun p e=>by
  subst e;obtain ⟨_,_,_,ct,_,_,_,_,q⟩:=hT;exact ⟨ct,q⟩
 have tne:∀ p,tP=some p->p≠a:=fun p e z=>by
  obtain ⟨ct,_,q⟩:=tabP p e;rw [z,ha] at q;cases q
 have core:∀ H:Hp,Only H -> SqL K H a (ns.map V.int) -> (∀ b,H b ≠ none -> b=a \/ (tP=some b /\ H b=some (.tbl #[]))) -> (H a ≠ none -> K.lookup a=none /\ ∃ xs:List V,xs.length <= sizeLine /\ Vals xs vs /\ H a=some (.frz { cls:=.type "list",data:=.seq vs.toArray } (.lst xs))) -> (∀ p,tP=some p -> H p=some (.tbl #[])) ->
   codeAny (model P w) callerA (.call (.ref fa) ⟨[.ref a],[]⟩) (fun r s'=>r=.ok (.ret (.bool true))/\OldK s₁.heap s'.heap/\s'.os=s₁.os/\AllBare s'.gens) s₁:=by
  intro H hO hS hA hK hTb;have hok:HOk P w H s₁.heap:=fun b u z=>by
   rcases hA b (by rw [z];simp) with rfl | ⟨e,e2⟩
   .obtain ⟨_,xs,h1,h2,h3⟩:=hK (by rw [z];simp);rw [z] at h3;cases h3;exact ⟨ha,h1,vs,_,h2,ha⟩
   .rw [z] at e2;cases e2;obtain ⟨ct,_,q⟩:=tabP b e;exact ⟨#[],q,trivial,fun pos v hc=>by cases hc⟩
  have base_of:∀ {b:Addr}{o:Obj},s₁.heap.get? b=some o->H b=none->(uH s₁.heap H).get? b=some o:=fun e n=>Xr e n
  have noT:∀ {b:Addr}{o:Obj},s₁.heap.get? b=some o->(∀ us n,o.data≠.seq us n)->(∀ us,o.data≠.fields us)->H b=none:=fun {b o} e d1 d2=>by
   cases q:H b with
   | none=>rfl
   | some u =>
    rcases hA b (by rw [q];simp) with e' | ⟨e',_⟩
    .subst e';rw [ha] at e;cases e;exact absurd rfl (d1 _ _)
    .obtain ⟨ct,_,q'⟩:=tabP b e';rw [q'] at e;cases e;exact absurd rfl (d2 _)
  have noA:∀ {b:Addr}{o:Obj}{es:Array DictEntry}{ep:Nat},s₁.heap.get? b=some o->o.data=.dict es ep->H b=none:=fun {b o es ep} e d=>noT e (fun us n z=>by rw [d] at z;cases z) fun us z=>by rw [d] at z;cases z
  have nsK:∀ {b:Addr}{m:w8},s₁.heap.Ns b m->(uH s₁.heap H).Ns b m:=fun {b m} ⟨o,es,ep,e,d,r⟩=>⟨o,es,ep,base_of e (noA e d),d,r⟩
  have hKb:K.In (uH s₁.heap H):=fun b o e=>base_of (KX b o e) (by
   cases q:H b with
   | none=>rfl
   | some u =>
    rcases hA b (by rw [q];simp) with e' | ⟨e',_⟩
    .subst e';rw [(hK (by rw [q];simp)).1] at e;cases e
    .obtain ⟨ct,_,q'⟩:=tabP b e';have e2:=KX b o e;rw [q'] at e2;cases e2;exact absurd rfl (hKc b _ e _ rfl))
  have hB:∃ bm ob,mg "__builtins__"=some (.ref bm) /\ bm ≠ builtinsNs /\ bm ≠ mainGlobals /\ (uH s₁.heap H).get? bm=some ob /\ ob.cls=.type "module" /\ ob.dict=some builtinsNs /\ ob.data=.plain:=by
   obtain ⟨bm,ob,b1,b2,b3,b4,b5,b6⟩:=hbm;refine ⟨bm,ob,b1,b2,fun q=>?_,base_of b3 (noT b3 (fun us n z=>by rw [b6] at z;cases z) fun us z=>by rw [b6] at z;cases z),b4,b5,b6⟩;obtain ⟨o,es,ep,e,hd,_⟩:=hns;rw [q,e] at b3;cases b3;rw [hd] at b6;cases b6
  have hM:Mod K mg (uH s₁.heap H):=⟨hKb,nsK hns,⟨mb,nsK hb,hbb⟩,let ⟨mc,h1,h2⟩:=hlim;⟨mc,nsK h1,h2⟩,hB⟩;have hTI:ug K mg H:=fun a' o fd' c oc us p e1 e2 e3 e4 e5 e6 e7=>by
   cases tP with
   | none=>exact absurd e1 (hT a')
   | some p' =>
    obtain ⟨zX,ot,fdt,ct,t1,t2,t3,t4,⟨o',vs',t5,_,t6,t7⟩,_⟩:=hT;rw [e1] at t1;cases t1;rw [KX _ _ e2] at t2;cases t2;rw [e3] at t3;cases t3;rw [e4] at t4;cases t4;rw [KX _ _ e5] at t5;cases t5;rw [e6] at t6;cases t6;rw [e7] at t7;cases t7;exact ⟨_,hTb _ rfl⟩
  have e0:Env0 P w K mg (uH s₁.heap H) callerA [] s₁ H:=⟨rfl,hM,fun b o e=>Y6 e,Nat.le_of_eq (Ug _ _),trivial,fun b hb=>absurd (show b∈([]:List Addr) from hb) (by simp),hok,.of_eq hg,hTI⟩;refine codeAny_mono ((F _ hKb (nsK hns)).run callerA [] s₁ H ⟨[.ref a],[]⟩ [.ref a] [.ref a] _ _ hr e0 (hbind s₁ (.ref a)) (.cons rfl .nil) (hsp H hO hS)) fun r s' h=>?_
  cases r with
  | error e=>exact (hCX H e s' h).elim
  | ok fl =>
   cases fl with
   | next=>exact js h
   | brk=>exact js h
   | cont=>exact js h
   | ret u =>
    obtain ⟨v,H',os,bare,un,hok',r',q⟩:=h;have q':v=.bl true:=q;subst q';obtain rfl:u=Value.bool true:=r';refine ⟨rfl,⟨fun b o e=>?_,fun b o e=>un.there b o e (by simp)⟩,os,bare⟩;cases q:H b with
    | none=>exact .inl (un.keep b o e q (by intro z;exact absurd (show b∈([]:List Addr) from z) (by simp)) (by simp))
    | some u =>
     rcases hO b with z | ⟨ob,xs,z⟩ | z
     .rw [q] at z;cases z
     .have z2:=un.frzs b ob _ z;obtain ⟨e1,_⟩:=hok b _ z;obtain ⟨e2,_⟩:=hok' b _ z2;rw [e] at e1;cases e1;exact .inl e2
     .rcases hA b (by rw [z];simp) with rfl | ⟨e',_⟩
      .obtain ⟨_,xs,_,_,h3⟩:=hK (by rw [z];simp);rw [z] at h3;cases h3
      .obtain ⟨m,z2⟩:=un.tbls b _ z;obtain ⟨ps,e2,_⟩:=hok' b _ z2;obtain ⟨ct,qt⟩:=tabP b e';have e3:=qt.2;rw [e] at e3;cases e3;exact .inr (.inl ⟨qt.isCodeTable,rfl,#[],ps,rfl,by simpa using e2⟩)
 cases hk:K.lookup a with
 | some o =>
  have e:=KX a o hk;rw [ha] at e;cases e;refine core (fun b=>if tP=some b then some (.tbl #[]) else none) (fun b=>?_) (.inr ⟨_,vs.toArray,_,hk,rfl,rfl,rfl,by rw [List.size_toArray,lenV];exact hl,by simpa using rv⟩) (fun b z=>?_) (fun z=>?_) fun p e=>if_pos e
  .by_cases hb:tP=some b
   .exact .inr (.inr (if_pos hb))
   .exact .inl (if_neg hb)
  .by_cases hb:tP=some b
   .exact .inr ⟨hb,if_pos hb⟩
   .exact absurd (if_neg hb) z
  .exact absurd (if_neg fun e=>tne a e rfl) z
 | none =>
  refine core (fun b=>if b=a then some (.frz { cls:=.type "list",data:=.seq vs.toArray } (.lst (ns.map V.int))) else if tP=some b then some (.tbl #[]) else none) (fun b=>?_) (.inl (.inr ⟨{ cls:=.type "list",data:=.seq vs.toArray },if_pos rfl⟩)) (fun b z=>?_) (fun z=>⟨hk,ns.map V.int,by rw [List.length_map]; exact hl,rv,if_pos rfl⟩) fun p e=>?_
  .by_cases hb:b=a
   .exact .inr (.inl ⟨_,_,if_pos hb⟩)
   .by_cases hb2:tP=some b
    .exact .inr (.inr ((if_neg hb).trans (if_pos hb2)))
    .exact .inl ((if_neg hb).trans (if_neg hb2))
  .by_cases hb:b=a
   .exact .inl hb
   .by_cases hb2:tP=some b
    .exact .inr ⟨hb2,(if_neg hb).trans (if_pos hb2)⟩
    .exact absurd ((if_neg hb).trans (if_neg hb2)) z
  .exact (if_neg (tne p e)).trans (if_pos e)
def Zj {l:PySem.W.OpenLaw}{n:Nat}{q:Program}{loose:zk}{XP:(w8)->Heap->Prop}{YP:World->Heap->Prop}{d:DefRec}{K:Params->zd}{CX:World->CXT}{sp:World->Sp}
  (hn:l.most=some n) (hn2:n<=sizeLine) (hdf:d.params.defaults=[]) (hr:Room k callerA)
  (hY:∀ (w:World) (h:Heap),YP w h->(K w.params).In h) (hKc:∀ (p:Params) (b:Addr) (o:Obj),(K p).lookup b=some o->Pn o) (hT:∀ (w:World) (s₀:Shared) (mg mb:w8) (h:Heap),PySem.W.Ground q loose [] XP w s₀ mg mb h->YP w h->∃ tP,Dq mg h tP)
  (F:∀ (w:World) (mg:w8) (fa:Addr) (h:Heap),(K w.params).In h->h.Ns mainGlobals mg->mg d.name=some (.ref fa) ->
   ∃ fd:FuncData,(∀ (s:Shared) (u:Value),BindsTo s fd ⟨[u],[]⟩ [(x,u)]) /\
    ∀ base:Heap,(K w.params).In base->base.Ns mainGlobals mg->FnOk l.prog w (K w.params) mg base (CX w) k fa fd [x] (sp w))
  (hsp:∀ (w:World) (H:Hp) (a:Addr) (ns:List Int),ns.length<=n->Only H->SqL (K w.params) H a (ns.map V.int)->sp w [.ref a] H (fun v _=>v=.bl true) fun _ _ _=>False)
  (hCX:∀ (w:World) (H:Hp) (s:Shared) (e:Value) (s':Shared),CX w [] H s (fun _ _ _=>False) e s'->False) :
  PySem.W.WalkO q loose XP YP l.row.toRowW d [] (fun f vs=>PySem.call f vs):=by
 refine Att.MN hn hdf fun w s₀ s₁ mg mb fa o pm cd doc a vs ns G Y ho hd hcd hmg hobj hints hlen hg=>?_
 have KX:=hY w _ Y;obtain ⟨fd,hb,hF⟩:=F w mg fa _ KX G.T.g hmg;obtain ⟨tP,hTP⟩:=hT w s₀ mg mb _ G Y;exact UW KX G.T.g G.T.b G.T.builtins G.T.nolimit hg G.T.bmain hTP (hKc w.params) hobj hints (vF hlen hn2) hr hF hb (fun H hO hS=>hsp w H a ns hlen hO hS) fun H e s'=>hCX w H s₁ e s'
abbrev CX0:CXT:=fun _ _ _ _ _ _=>False
abbrev E0:XK:=fun _ _ _=>False
theorem X8 {X:Cx}:Passes CX0 X E0:=fun _ _ _ _ _ _ _ h=>h.elim
structure Fun (K:zd) (x qual:Str) (st:Stmt) (f:Addr) (fd:FuncData):Prop where
 ex:∃ (oc:Value) (od:zv) (kV doc pm:Value) (an:zv) (cdv ct:Value) (osl:zw),
  fd=PySem.W.fnOf x qual (dI st) (cI st) (aL st) .none kV doc pm an cdv ct/\K.lookup f=some ⟨oc,od,.func fd,osl⟩/\PySem.W.codeIn K cdv qual=true
 kp:PySem.W.keepIn K (.ref f)=true
variable {qual:Str}{st:Stmt}{f:Addr}{ps:zk}
section
variable {P:Program}{w:World}{K:zd}{mg:w8}{base:Heap}
theorem Fun.ok {N:zk} (F:Fun K x qual st f fd) (S:FnScope N ps (aL st)) (len:∀ vs H Q E,sp vs H Q E->vs.length=ps.length)
  (hbody:∀ (cdv:Value) (A:Around) (outer:List Env) (s:Shared) (H:Hp) (vs:List V) (Q:VK) (E:XK),Room k (A.deeper (envOfC qual (aL st) s.heap.objs.size f cdv))->sp vs H Q E ->
   ∃ t,PSs (fY CX0 P w K mg base N qual (aL st) f cdv A outer s H E).nox (cI st) t/\t { nx:=fun _ H'=>Q .non H',rt:=Q } (start N vs) H):FnOk P w K mg base CX0 (k+1) f fd ps sp:=by
 obtain ⟨oc,od,kV,doc,pm,an,cdv,ct,osl,rfl,lk,hcd⟩:=F.ex;refine Xx lk hcd S len fun A outer s H vs Q E hr hsp=>?_
 obtain ⟨t,h,q⟩:=hbody cdv A outer s H vs Q E hr hsp;exact ⟨t,h.nox,q⟩
theorem Fun.binds (F:Fun K x qual st f fd)
  (h:∀ (kV doc pm:Value) (an:zv) (cdv ct:Value) (us:zg),us.length=ps.length->bindArgs (PySem.W.fnOf x qual (dI st) (cI st) (aL st) .none kV doc pm an cdv ct) ⟨us,[]⟩=pure (ps.zip us)):Binds K fd ps []:=by
 obtain ⟨oc,od,kV,doc,pm,an,cdv,ct,osl,rfl,lk,hcd⟩:=F.ex;exact .all (h kV doc pm an cdv ct)
theorem TF {oc:Value}{od an:zv}{osl:zw}{kV doc pm cdv ct:Value} (l:K.lookup f=some ⟨oc,od,.func (PySem.W.fnOf x qual (dI st) (cI st) (aL st) .none kV doc pm an cdv ct),osl⟩)
  (c:PySem.W.codeIn K cdv qual=true) (k:PySem.W.keepIn K (.ref f)=true):Fun K x qual st f (PySem.W.fnOf x qual (dI st) (cI st) (aL st) .none kV doc pm an cdv ct):=⟨⟨oc,od,kV,doc,pm,an,cdv,ct,osl,rfl,l,c⟩,k⟩
end
def Same (H H':Hp):Prop:=∀ b o,H b=some o->H' b=some o
theorem Same.refl (H:Hp):Same H H:=fun _ _ h=>h
variable {H:Hp}
theorem Same.trans {H1 H2:Hp} (a:Same H H1) (b:Same H1 H2):Same H H2:=fun c o h=>b c o (a c o h)
variable {H':Hp}
theorem Same.free (e:Same H H') {l:Addr} (h:H' l=Option.none):H l=Option.none:=by
 cases q:H l with
 | none=>rfl
 | some o =>
  rw [e l o q] at h;cases h
theorem Same.seq {xs:List V} (e:Same H H') (h:SqL K H a xs):SqL K H' a xs:=by
 rcases h with (h | ⟨o,h⟩) | h
 .exact .inl (.inl (e _ _ h))
 .exact .inl (.inr ⟨o,e _ _ h⟩)
 .exact .inr h
end L2
set_option genInjectivity true
set_option genSizeOfSpec true
namespace Mi
open PySem L2 PyProof.Rows
inductive D where
 | non | bl (b:Bool) | int (i:Int) | str (x:Str) | tup (ds:List D) | lst (ds:List D) | dct (ks vs:List D)
mutual
noncomputable def uI:D->D->Bool
 | .non,.non=>true
 | .bl a,.bl b=>a == b
 | .int a,.int b=>a == b
 | .str a,.str b=>decide (a=b)
 | .tup a,.tup b=>pK a b
 | .lst a,.lst b=>pK a b
 | .dct a b,.dct c d=>pK a c && pK b d
 | _,_=>false
noncomputable def pK:List D->List D->Bool
 | [],[]=>true
 | a::as,b::bs=>uI a b && pK as bs
 | _,_=>false
end
mutual
theorem Fd:∀ (a b:D),uI a b=true↔a=b
 | .non,b=>by cases b <;> simp [uI]
 | .bl x,b=>by cases b <;> simp [uI]
 | .int x,b=>by cases b <;> simp [uI]
 | .str x,b=>by cases b <;> simp [uI]
 | .tup x,b=>by cases b <;> simp [uI,tD x]
 | .lst x,b=>by cases b <;> simp [uI,tD x]
 | .dct x y,b=>by cases b <;> simp [uI,tD x,tD y]
theorem tD:∀ (a b:List D),pK a b=true↔a=b
 | [],b=>by cases b <;> simp [pK]
 | x::xs,b=>by
  cases b with
  | nil=>simp [pK]
  | cons y ys=>simp [pK,Fd x y,tD xs ys]
end
noncomputable instance:DecidableEq D:=fun a b=>if h:uI a b=true then isTrue ((Fd a b).mp h) else isFalse fun e=>h ((Fd a b).mpr e)
noncomputable def b2i (b:Bool):Int:=if b then 1 else 0
mutual
noncomputable def aH:D->D->Bool
 | .non,.non=>true
 | .bl a,.bl b=>a == b
 | .bl a,.int b=>b2i a == b
 | .int a,.bl b=>a == b2i b
 | .int a,.int b=>a == b
 | .str a,.str b=>a == b
 | .tup a,.tup b=>dD a b
 | .lst a,.lst b=>dD a b
 | _,_=>false
noncomputable def dD:List D->List D->Bool
 | [],[]=>true
 | a::as,b::bs=>aH a b && dD as bs
 | _,_=>false
end
mutual
noncomputable def dep:D->Nat
 | .tup ds=>deps ds+1
 | .lst ds=>deps ds+1
 | .dct _ _=>1000
 | _=>0
noncomputable def deps:List D->Nat
 | []=>0
 | d::ds=>max (dep d) (deps ds)
end
mutual
noncomputable def RpV (h:Heap):D->Value->Prop
 | .non,u=>u=.none
 | .bl b,u=>u=.bool b
 | .int i,u=>∃ t,u=.int i t
 | .str x,u=>∃ t,u=.str x t
 | .tup ds,u=>∃ a its,u=.ref a/\h.IsTuple a (List.toArray its)/\aF h ds its
 | .lst ds,u=>∃ a its,u=.ref a/\h.IsList a (List.toArray its)/\aF h ds its
 | .dct _ _,_=>False
noncomputable def aF (h:Heap):List D->zg->Prop
 | [],us=>us=[]
 | d::ds,us=>∃ y ys,us=y::ys/\RpV h d y/\aF h ds ys
end
theorem aF.length {h:Heap}:∀ {ds:List D}{us:zg},aF h ds us->ds.length=us.length
 | [],us,r=>by rw [aF] at r;subst r;rfl
 | d::ds,us,r=>by
  rw [aF] at r;obtain ⟨y,ys,rfl,_,r⟩:=r;simp [aF.length r]
theorem aF.get {h:Heap}:∀ {ds:List D}{us:zg}{i:Nat} (h1:i < ds.length) (h2:i < us.length),aF h ds us->RpV h ds[i] us[i]
 | [],us,i,h1,h2,r=>by simp at h1
 | d::ds,us,i,h1,h2,r=>by
  rw [aF] at r;obtain ⟨y,ys,rfl,r0,r⟩:=r;cases i with
  | zero=>exact r0
  | succ i=>exact aF.get (ds:=ds) (us:=ys) (i:=i) (by simpa using h1) (by simpa using h2) r
theorem gj:∀ {ds:List D}{i:Nat} (h:i < ds.length),dep ds[i]<=deps ds
 | [],i,h=>by simp at h
 | d::ds,0,h=>by simp only [deps,List.getElem_cons_zero];omega
 | d::ds,i+1,h=>by
  have:=gj (ds:=ds) (i:=i) (by simpa using h);simp only [deps,List.getElem_cons_succ];omega
theorem o8:∀ (as bs:List D),dD as bs=((List.range (min as.length bs.length)).all (fun j=>aH (as.getD j .non) (bs.getD j .non)) && as.length == bs.length)
 | [],[]=>by simp [dD]
 | [],b::bs=>by simp [dD]
 | a::as,[]=>by simp [dD]
 | a::as,b::bs=>by
  rw [dD,o8 as bs];have e:min (a::as).length (b::bs).length=min as.length bs.length+1:=by simp only [List.length_cons];omega
  rw [e,List.range_succ_eq_map,List.all_cons,List.all_map];simp [Function.comp_def,Bool.and_assoc]
mutual
theorem RpV.inj {h:Heap}:∀ {d e:D}{u:Value},RpV h d u->RpV h e u->d=e
 | .non,e,u,r,q=>by
  rw [RpV] at r;subst r;cases e <;> simp [RpV] at q ⊢
 | .bl b,e,u,r,q=>by
  rw [RpV] at r;subst r;cases e <;> simp [RpV] at q ⊢;exact q
 | .int b,e,u,r,q=>by
  rw [RpV] at r;obtain ⟨t,rfl⟩:=r;cases e <;> simp [RpV] at q ⊢;exact q
 | .str b,e,u,r,q=>by
  rw [RpV] at r;obtain ⟨t,rfl⟩:=r;cases e <;> simp [RpV] at q ⊢;exact q
 | .tup ds,e,u,r,q=>by
  rw [RpV] at r;obtain ⟨a,its,rfl,⟨o,ho,hc,n,hd⟩,rs⟩:=r;cases e <;> simp only [RpV] at q
  .cases q
  .cases q
  .obtain ⟨_,q⟩:=q;cases q
  .obtain ⟨_,q⟩:=q;cases q
  .obtain ⟨a',its',z,⟨o',ho',hc',n',hd'⟩,qs⟩:=q;cases z;rw [ho] at ho';cases ho';rw [hd] at hd';injection hd' with z _;have z':its=its':=by simpa using z
   subst z';rw [aF.inj rs qs]
  .obtain ⟨a',its',z,⟨o',ho',hc',n',hd'⟩,qs⟩:=q;cases z;rw [ho] at ho';cases ho';rw [hc] at hc';exact absurd hc' (by simp)
 | .lst ds,e,u,r,q=>by
  rw [RpV] at r;obtain ⟨a,its,rfl,⟨o,ho,hc,n,hd⟩,rs⟩:=r;cases e <;> simp only [RpV] at q
  .cases q
  .cases q
  .obtain ⟨_,q⟩:=q;cases q
  .obtain ⟨_,q⟩:=q;cases q
  .obtain ⟨a',its',z,⟨o',ho',hc',n',hd'⟩,qs⟩:=q;cases z;rw [ho] at ho';cases ho';rw [hc] at hc';exact absurd hc' (by simp)
  .obtain ⟨a',its',z,⟨o',ho',hc',n',hd'⟩,qs⟩:=q;cases z;rw [ho] at ho';cases ho';rw [hd] at hd';injection hd' with z _;have z':its=its':=by simpa using z
   subst z';rw [aF.inj rs qs]
 | .dct ks vs,e,u,r,q=>by rw [RpV] at r;exact r.elim
theorem aF.inj {h:Heap}:∀ {ds es:List D}{us:zg},aF h ds us->aF h es us->ds=es
 | [],es,us,r,q=>by
  rw [aF] at r;subst r;cases es with
  | nil=>rfl
  | cons e es=>rw [aF] at q;obtain ⟨_,_,z,_⟩:=q;cases z
 | d::ds,es,us,r,q=>by
  rw [aF] at r;obtain ⟨y,ys,rfl,r0,rs⟩:=r;cases es with
  | nil=>rw [aF] at q;cases q
  | cons e es =>
   rw [aF] at q;obtain ⟨y',ys',z,q0,qs⟩:=q;cases z;rw [RpV.inj r0 q0,aF.inj rs qs]
end
mutual
theorem Uv {h:Heap}:∀ {d:D}{u:Value},RpV h d u->aH d d=true
 | .non,_,_=>by simp [aH]
 | .bl b,_,_=>by simp [aH]
 | .int b,_,_=>by simp [aH]
 | .str b,_,_=>by simp [aH]
 | .tup ds,_,r=>by
  rw [RpV] at r;obtain ⟨_,_,_,_,rs⟩:=r;rw [aH];exact pR rs
 | .lst ds,_,r=>by
  rw [RpV] at r;obtain ⟨_,_,_,_,rs⟩:=r;rw [aH];exact pR rs
 | .dct _ _,_,r=>by rw [RpV] at r;exact r.elim
theorem pR {h:Heap}:∀ {ds:List D}{us:zg},aF h ds us->dD ds ds=true
 | [],_,_=>by simp [dD]
 | d::ds,_,r=>by
  rw [aF] at r;obtain ⟨_,_,_,r0,rs⟩:=r;rw [dD,Uv r0,pR rs];rfl
end
variable {h:Heap}
def Dn (ds es:List D) {us:zg} (r:aF h ds us) (q:aF h es us):dD ds es=true:=by
 rw [aF.inj r q];exact pR q
variable {A:Around}{s:Shared}
section
open PySem.SeqAt
theorem sI:∀ (d e:D) {A:Around}{s:Shared}{u v:Value},RpV s.heap d u->RpV s.heap e v->A.units+dep d < cLine->A.units+dep e < cLine->EqAt A s u v (aH d e)
 | .non,e,A,s,u,v,r,q,hd,he=>by
  rw [RpV] at r;subst r;have hu:A.units < cLine:=by omega
  cases e <;> simp only [RpV] at q
  .subst q;rw [aH];exact EqAt.same _
  .subst q;rw [aH];exact EqAt.none_bool _;all_goals simp
  .obtain ⟨t,rfl⟩:=q;rw [aH];exact EqAt.none_int _ _;all_goals simp
  .obtain ⟨t,rfl⟩:=q;rw [aH];exact EqAt.none_str _ _;all_goals simp
  .obtain ⟨a,its,rfl,q,_⟩:=q;rw [aH];exact EqAt.none_tuple q hu;all_goals simp
  .obtain ⟨a,its,rfl,q,_⟩:=q;rw [aH];exact EqAt.none_list q hu;all_goals simp
 | .bl b,e,A,s,u,v,r,q,hd,he=>by
  rw [RpV] at r;subst r;have hu:A.units < cLine:=by omega
  cases e <;> simp only [RpV] at q
  .subst q;rw [aH];exact EqAt.bool_none _;all_goals simp
  .subst q;rw [aH];exact EqAt.bool_bool _ _
  .obtain ⟨t,rfl⟩:=q;rw [aH];exact EqAt.bool_int _ _ _
  .obtain ⟨t,rfl⟩:=q;rw [aH];exact EqAt.bool_str _ _ _;all_goals simp
  .obtain ⟨a,its,rfl,q,_⟩:=q;rw [aH];exact EqAt.bool_tuple _ q hu;all_goals simp
  .obtain ⟨a,its,rfl,q,_⟩:=q;rw [aH];exact EqAt.bool_list _ q hu;all_goals simp
 | .int b,e,A,s,u,v,r,q,hd,he=>by
  rw [RpV] at r;obtain ⟨t0,rfl⟩:=r;have hu:A.units < cLine:=by omega
  cases e <;> simp only [RpV] at q
  .subst q;rw [aH];exact EqAt.int_none _ _;all_goals simp
  .subst q;rw [aH];exact EqAt.int_bool _ _ _
  .obtain ⟨t,rfl⟩:=q;rw [aH];exact EqAt.int_int _ _ _ _
  .obtain ⟨t,rfl⟩:=q;rw [aH];exact EqAt.int_str _ _ _ _;all_goals simp
  .obtain ⟨a,its,rfl,q,_⟩:=q;rw [aH];exact EqAt.int_tuple _ _ q hu;all_goals simp
  .obtain ⟨a,its,rfl,q,_⟩:=q;rw [aH];exact EqAt.int_list _ _ q hu;all_goals simp
 | .str b,e,A,s,u,v,r,q,hd,he=>by
  rw [RpV] at r;obtain ⟨t0,rfl⟩:=r;have hu:A.units < cLine:=by omega
  cases e <;> simp only [RpV] at q
  .subst q;rw [aH];exact EqAt.str_none _ _;all_goals simp
  .subst q;rw [aH];exact EqAt.str_bool _ _ _;all_goals simp
  .obtain ⟨t,rfl⟩:=q;rw [aH];exact EqAt.str_int _ _ _ _;all_goals simp
  .obtain ⟨t,rfl⟩:=q;rw [aH];exact EqAt.str_str _ _ _ _
  .obtain ⟨a,its,rfl,q,_⟩:=q;rw [aH];exact EqAt.str_tuple _ _ q hu;all_goals simp
  .obtain ⟨a,its,rfl,q,_⟩:=q;rw [aH];exact EqAt.str_list _ _ q hu;all_goals simp
 | .tup ds,e,A,s,u,v,r,q,hd,he=>by
  rw [RpV] at r;obtain ⟨a0,its0,rfl,r,rs⟩:=r;rw [dep] at hd;have hu:A.units < cLine:=by omega
  cases e <;> simp only [RpV] at q
  .subst q;rw [aH];exact EqAt.tuple_none r hu;all_goals simp
  .subst q;rw [aH];exact EqAt.tuple_bool _ r hu;all_goals simp
  .obtain ⟨t,rfl⟩:=q;rw [aH];exact EqAt.tuple_int _ _ r hu;all_goals simp
  .obtain ⟨t,rfl⟩:=q;rw [aH];exact EqAt.tuple_str _ _ r hu;all_goals simp
  .rename_i es;obtain ⟨a,its,rfl,q,qs⟩:=q;rw [dep] at he;have l1:=rs.length;have l2:=qs.length;rw [aH];have items:∀ j (h1:j < its0.toArray.size) (h2:j < its.toArray.size),EqAt A.in1 s its0.toArray[j] its.toArray[j] (aH (ds.getD j .non) (es.getD j .non)):=fun j h1 h2=>by
    have k1:j < ds.length:=by simp at h1;omega
    have k2:j < es.length:=by simp at h2;omega
    have e1:ds.getD j .non=ds[j]:=by simp [k1]
    have e2:es.getD j .non=es[j]:=by simp [k2]
    rw [e1,e2];have w1:=gj k1;have w2:=gj k2;have hin:A.in1.units=A.units+1:=rfl;exact sI ds[j] es[j] (aF.get k1 (by omega) rs) (aF.get k2 (by omega) qs) (by omega) (by omega)
   by_cases hab:a0=a
   .subst hab;have ei:its0=its:=by
     obtain ⟨o,ho,_,n,hd1⟩:=r;obtain ⟨o',ho',_,n',hd2⟩:=q;rw [ho] at ho';cases ho';rw [hd1] at hd2;injection hd2 with z _;simpa using z
    subst ei;have hQ:dD ds es=true:=by
     exact Dn ds es rs qs
    rw [hQ];exact EqAt.same _
   .refine EqAt.of_refs hab ?_;have rc:=RcAt.tuples (e:=fun j=>aH (ds.getD j .non) (es.getD j .non)) r q hu items;rw [o8,l1,l2];simpa using rc
  .obtain ⟨a,its,rfl,q,_⟩:=q;rw [aH];exact EqAt.tuple_list r q hu;all_goals simp
 | .lst ds,e,A,s,u,v,r,q,hd,he=>by
  rw [RpV] at r;obtain ⟨a0,its0,rfl,r,rs⟩:=r;rw [dep] at hd;have hu:A.units < cLine:=by omega
  cases e <;> simp only [RpV] at q
  .subst q;rw [aH];exact EqAt.list_none r hu;all_goals simp
  .subst q;rw [aH];exact EqAt.list_bool _ r hu;all_goals simp
  .obtain ⟨t,rfl⟩:=q;rw [aH];exact EqAt.list_int _ _ r hu;all_goals simp
  .obtain ⟨t,rfl⟩:=q;rw [aH];exact EqAt.list_str _ _ r hu;all_goals simp
  .obtain ⟨a,its,rfl,q,_⟩:=q;rw [aH];exact EqAt.list_tuple r q hu;all_goals simp
  .rename_i es;obtain ⟨a,its,rfl,q,qs⟩:=q;rw [dep] at he;have l1:=rs.length;have l2:=qs.length;rw [aH];have items:∀ j (h1:j < its0.toArray.size) (h2:j < its.toArray.size),EqAt A.in1 s its0.toArray[j] its.toArray[j] (aH (ds.getD j .non) (es.getD j .non)):=fun j h1 h2=>by
    have k1:j < ds.length:=by simp at h1;omega
    have k2:j < es.length:=by simp at h2;omega
    have e1:ds.getD j .non=ds[j]:=by simp [k1]
    have e2:es.getD j .non=es[j]:=by simp [k2]
    rw [e1,e2];have w1:=gj k1;have w2:=gj k2;have hin:A.in1.units=A.units+1:=rfl;exact sI ds[j] es[j] (aF.get k1 (by omega) rs) (aF.get k2 (by omega) qs) (by omega) (by omega)
   by_cases hab:a0=a
   .subst hab;have ei:its0=its:=by
     obtain ⟨o,ho,_,n,hd1⟩:=r;obtain ⟨o',ho',_,n',hd2⟩:=q;rw [ho] at ho';cases ho';rw [hd1] at hd2;injection hd2 with z _;simpa using z
    subst ei;rw [Dn ds es rs qs];exact EqAt.same _
   .refine EqAt.of_refs hab ?_;rw [o8];by_cases hs:ds.length=es.length
    .have rc:=RcAt.lists (e:=fun j=>aH (ds.getD j .non) (es.getD j .non)) r q (by simp;omega) hu items;have e1:min ds.length es.length=its0.toArray.size:=by simp;omega
     rw [e1];simpa [hs] using rc
    .have rc:=RcAt.lists_lengths r q (by simp;omega) hu;have e0:(ds.length == es.length)=false:=by simpa using hs
     rw [e0,Bool.and_false];exact rc
 | .dct ks vs,e,A,s,u,v,r,q,hd,he=>by rw [RpV] at r;exact r.elim
termination_by d=>sizeOf d
decreasing_by
 all_goals
  have:=List.sizeOf_lt_of_mem (List.getElem_mem (by assumption:j < ds.length));simp only [D.tup.sizeOf_spec,D.lst.sizeOf_spec];omega
noncomputable def like:D->D->Bool
 | .int _,.int _=>true
 | .tup _,.tup _=>true
 | .lst _,.lst _=>true
 | _,_=>false
def Oq {ds es:List D}{its0 its:zg} (rs:aF s.heap ds its0) (qs:aF s.heap es its) (hd:A.units+(deps ds+1) < cLine) (he:A.units+(deps es+1) < cLine):∀ j (h1:j < its0.toArray.size) (h2:j < its.toArray.size),EqAt A.in1 s its0.toArray[j] its.toArray[j] (aH (ds.getD j .non) (es.getD j .non)):=fun j h1 h2=>by
 have l1:=rs.length;have l2:=qs.length;have k1:j < ds.length:=by simp at h1;omega
 have k2:j < es.length:=by simp at h2;omega
 have e1:ds.getD j .non=ds[j]:=by simp [k1]
 have e2:es.getD j .non=es[j]:=by simp [k2]
 rw [e1,e2];have w1:=gj k1;have w2:=gj k2;have hin:A.in1.units=A.units+1:=rfl;exact sI ds[j] es[j] (aF.get k1 (by omega) rs) (aF.get k2 (by omega) qs) (by omega) (by omega)
def abJ:∀ (d e:D) {A:Around}{s:Shared}{u v:Value},like d e=true->RpV s.heap d u->RpV s.heap e v->A.units+dep d < cLine->A.units+dep e < cLine->RcAt A s u v (aH d e):=by
 intro d e A s u v k r q hd he;have hu:A.units < cLine:=by omega
 cases d <;> cases e <;> try (cases k;done)
 .rw [RpV] at r q;obtain ⟨t0,rfl⟩:=r;obtain ⟨t,rfl⟩:=q;rw [aH];exact RcAt.int_int _ _ _ _
 all_goals
  rw [RpV] at r q;obtain ⟨a0,its0,rfl,r,rs⟩:=r;obtain ⟨a,its,rfl,q,qs⟩:=q;rw [dep] at hd he;have l1:=rs.length;have l2:=qs.length;rw [aH,o8];have items:=Oq rs qs hd he
 .rename_i ds es;have rc:=RcAt.tuples (e:=fun j=>aH (ds.getD j .non) (es.getD j .non)) r q hu items;rw [l1,l2];simpa using rc
 .rename_i ds es;by_cases hs:ds.length=es.length
  .have rc:=RcAt.lists (e:=fun j=>aH (ds.getD j .non) (es.getD j .non)) r q (by simp;omega) hu items;have e1:min ds.length es.length=its0.toArray.size:=by simp;omega
   rw [e1];simpa [hs] using rc
  .have rc:=RcAt.lists_lengths r q (by simp;omega) hu;have e0:(ds.length == es.length)=false:=by simpa using hs
   rw [e0,Bool.and_false];exact rc
def Zf:∀ (d e:D) {A:Around}{s:Shared}{u v:Value},like d e=true->RpV s.heap d u->RpV s.heap e v->A.units+dep d < cLine->A.units+dep e < cLine->RcNeAt A s u v (!aH d e):=by
 intro d e A s u v k r q hd he;have hu:A.units < cLine:=by omega
 cases d <;> cases e <;> try (cases k;done)
 .rw [RpV] at r q;obtain ⟨t0,rfl⟩:=r;obtain ⟨t,rfl⟩:=q;rw [aH];exact RcNeAt.int_int _ _ _ _
 all_goals
  rw [RpV] at r q;obtain ⟨a0,its0,rfl,r,rs⟩:=r;obtain ⟨a,its,rfl,q,qs⟩:=q;rw [dep] at hd he;have l1:=rs.length;have l2:=qs.length;rw [aH,o8];have items:=Oq rs qs hd he
 .rename_i ds es;have rc:=RcNeAt.tuples (e:=fun j=>aH (ds.getD j .non) (es.getD j .non)) r q hu items;rw [l1,l2];simpa using rc
 .rename_i ds es;by_cases hs:ds.length=es.length
  .have rc:=RcNeAt.lists (e:=fun j=>aH (ds.getD j .non) (es.getD j .non)) r q (by simp;omega) hu items;have e1:min ds.length es.length=its0.toArray.size:=by simp;omega
   rw [e1];simpa [hs] using rc
  .have rc:=RcNeAt.lists_lengths r q (by simp;omega) hu;have e0:(ds.length == es.length)=false:=by simpa using hs
   rw [e0,Bool.and_false];exact rc
end
mutual
noncomputable def vX (w:World):D->Int
 | .int i=>hashInt i
 | .str x=>hashStr w x
 | .bl b=>hashInt (b2i b)
 | .tup ds=>reduceHash (Builtin.Tuple.tupleHashOf (iM w ds))
 | _=>0
noncomputable def iM (w:World):List D->List Int
 | []=>[]
 | d::ds=>vX w d::iM w ds
end
mutual
noncomputable def rK:D->Nat
 | .int _=>1
 | .str _=>1
 | .bl _=>1
 | .tup ds=>iH ds+1
 | _=>0
noncomputable def iH:List D->Nat
 | []=>0
 | d::ds=>rK d+iH ds
end
mutual
noncomputable def keyOk:D->Bool
 | .int _=>true
 | .str _=>true
 | .tup ds=>bL ds
 | _=>false
noncomputable def bL:List D->Bool
 | []=>true
 | d::ds=>keyOk d && bL ds
end
mutual
noncomputable def fP:D->Bool
 | .int _=>true
 | .str _=>true
 | .bl _=>true
 | .tup ds=>fC ds
 | _=>false
noncomputable def fC:List D->Bool
 | []=>true
 | d::ds=>fP d && fC ds
end
noncomputable def uO:D->Bool
 | .bl _=>true
 | _=>false
def sH:D->Bool
 | .tup ds=>ds.all uO
 | _=>false
mutual
theorem aah:∀ {d:D},keyOk d=true->fP d=true
 | .non,h=>by simp [keyOk] at h
 | .bl _,h=>by simp [keyOk] at h
 | .int _,h=>rfl
 | .str _,h=>rfl
 | .tup ds,h=>by
  rw [keyOk] at h;rw [fP];exact X5 h
 | .lst _,h=>by simp [keyOk] at h
 | .dct _ _,h=>by simp [keyOk] at h
theorem X5:∀ {ds:List D},bL ds=true->fC ds=true
 | [],h=>rfl
 | d::ds,h=>by
  rw [bL,Bool.and_eq_true] at h;rw [fC,aah h.1,X5 h.2];rfl
end
theorem Js:∀ {ds:List D},ds.all uO=true->fC ds=true/\deps ds=0
 | [],h=>⟨rfl,rfl⟩
 | d::ds,h=>by
  rw [List.all_cons,Bool.and_eq_true] at h;obtain ⟨h1,h2⟩:=Js h.2;cases d <;> simp [uO] at h;exact ⟨by rw [fC,h1];rfl,by rw [deps,h2];rfl⟩
theorem Jt:∀ {ds es:List D},ds.all uO=true->es.all uO=true->dD ds es=decide (ds=es)
 | [],es,h,g=>by cases es <;> simp [dD]
 | d::ds,[],h,g=>by simp [dD]
 | d::ds,e::es,h,g=>by
  rw [List.all_cons,Bool.and_eq_true] at h g;rw [dD,Jt h.2 g.2];cases d <;> cases e <;> simp [uO] at h g;rw [aH,Bool.eq_iff_iff];simp
def JH (b:Bool) (d:D):Bool:=if b then sH d else keyOk d
variable {b:Bool}{d:D}
def RW (h:JH b d=true):fP d=true:=by
 cases b with
 | false=>exact aah h
 | true =>
  cases d <;> try (cases h;done)
  rw [fP];exact (Js h).1
mutual
theorem rO:∀ {d e:D},keyOk d=true->keyOk e=true->aH d e=decide (d=e)
 | .non,e,h,_=>by simp [keyOk] at h
 | .bl _,e,h,_=>by simp [keyOk] at h
 | .int a,e,h,g=>by cases e <;> simp [keyOk] at g <;> simp [aH];rw [Bool.eq_iff_iff];simp
 | .str a,e,h,g=>by cases e <;> simp [keyOk] at g <;> simp [aH];rw [Bool.eq_iff_iff];simp
 | .tup ds,e,h,g=>by
  cases e <;> simp [keyOk] at g <;> simp [aH];exact yx (by simpa [keyOk] using h) g
 | .lst _,e,h,_=>by simp [keyOk] at h
 | .dct _ _,e,h,_=>by simp [keyOk] at h
theorem yx:∀ {ds es:List D},bL ds=true->bL es=true->dD ds es=decide (ds=es)
 | [],es,h,g=>by cases es <;> simp [dD]
 | d::ds,[],h,g=>by simp [dD]
 | d::ds,e::es,h,g=>by
  rw [bL,Bool.and_eq_true] at h g;rw [dD,rO h.1 g.1,yx h.2 g.2];rw [Bool.eq_iff_iff];simp
end
theorem o9 (w:World):∀ (a b:List D),iM w (a++b)=iM w a++iM w b
 | [],b=>rfl
 | d::ds,b=>by rw [List.cons_append,iM,iM,o9 w ds b,List.cons_append]
theorem nJ:∀ (a b:List D),iH (a++b)=iH a+iH b
 | [],b=>by simp [iH]
 | d::ds,b=>by rw [List.cons_append,iH,iH,nJ ds b];omega
theorem vd:∀ (a b:List D),fC (a++b)=(fC a && fC b)
 | [],b=>by simp [fC]
 | d::ds,b=>by rw [List.cons_append,fC,fC,vd ds b,Bool.and_assoc]
variable {w:World}
def T3 {prog:Program}{E:zb}{Q:Int->Shared->Prop} (h:Q (hashInt (b2i b)) { s with toks:=s.toks+1 }):wpAny (model prog w) A (pyHash (.bool b)) Q E s:=by
 have hr:=rawHash_range (b2i b);have hT:s.TypeIs (.bool b) "bool":=PySem.typeIs_bool s b
 unfold pyHash;unfold pyHashByItsType;have hv:[Value.bool b].any Value.onHeap=false:=rfl;refine zz ?_;rw [cRoomFor,if_neg (by rw [hv];exact Bool.false_ne_true)];refine z0 ?_;refine zz (wpAny_specialOf hT F.slot_bool_hash.lookup ?_);show wpAny _ _ (if (some (Value.builtin "int.__hash__") == some Value.none)=true then _ else _) Q E s
 rw [if_neg (by rw [beq_builtin_none];exact Bool.false_ne_true)];refine zz (wpAny_specialOf hT F.slot_bool_hash.lookup ?_);show wpAny _ _ (callSpecialIfBoundUnlessNone? (.bool b) "__hash__" _ >>= _) Q E s
 refine zz (wpAny_callSpecialIfBoundUnlessNone?_slot hT F.slot_bool_hash
  (ja F.slot_bool_hash hT entry_int_hash
   (show wpAny _ _ (do ret (<- mkInt (rawHash (b2i b)))) _ _ s from wpAny_ret_mkInt ?_) (args_int_hash _)))
 show wpAny _ _ (if (decide (-(2:Int) ^ 63<=rawHash (b2i b)) && decide (rawHash (b2i b) < 2 ^ 63))=true then _ else _) Q E _
 rw [if_pos (by rw [decide_eq_true hr.1,decide_eq_true hr.2];rfl)];exact z0 h
theorem Ud {P:Program}{w:World}:∀ (d:D) {A:Around}{E:zb}{s:Shared}{u:Value}{Q:Int->Shared->Prop},fP d=true->RpV s.heap d u->A.units+dep d < cLine ->
  Q (vX w d) { s with toks:=s.toks+rK d }->wpAny (model P w) A (pyHash u) Q E s
 | .non,A,E,s,u,Q,hk,r,hu,h=>by simp [fP] at hk
 | .bl b,A,E,s,u,Q,hk,r,hu,h=>by
  rw [RpV] at r;subst r;rw [vX,rK] at h;exact T3 h
 | .int i,A,E,s,u,Q,hk,r,hu,h=>by
  rw [RpV] at r;obtain ⟨t,rfl⟩:=r;rw [vX,rK] at h;exact wpAny_pyHash_int h
 | .str x,A,E,s,u,Q,hk,r,hu,h=>by
  rw [RpV] at r;obtain ⟨t,rfl⟩:=r;rw [vX,rK] at h;exact wpAny_pyHash_str h
 | .lst _,A,E,s,u,Q,hk,r,hu,h=>by simp [fP] at hk
 | .dct _ _,A,E,s,u,Q,hk,r,hu,h=>by simp [fP] at hk
 | .tup ks,A,E,s,u,Q,hk,r,hu,h=>by
  rw [RpV] at r;obtain ⟨a,its,rfl,⟨o,ho,hc,n,hd⟩,hi⟩:=r;rw [fP] at hk;rw [vX,rK] at h;rw [dep] at hu;have hT:s.TypeIs (.ref a) "tuple":=⟨o,ho,hc⟩
  unfold pyHash
  first | unfold pyHashByItsType | skip
  first | refine zz (wpAny_cRoomFor_or (.inr (by omega)) ?_) | skip
  refine zz (wpAny_specialOf hT F.slot_tuple_hash.lookup ?_);show wpAny _ _ (if (some (Value.builtin "tuple.__hash__") == some Value.none)=true then _ else _) Q E s
  rw [if_neg (by rw [beq_builtin_none];exact Bool.false_ne_true)];refine zz (wpAny_specialOf hT F.slot_tuple_hash.lookup ?_);show wpAny _ _ (callSpecialIfBoundUnlessNone? (.ref a) "__hash__" _ >>= _) Q E s
  refine zz (wpAny_callSpecialIfBoundUnlessNone?_slot hT F.slot_tuple_hash (ja F.slot_tuple_hash hT F.entry_tuple_hash ?_ (F.args_tuple_hash_1 _)));show wpAny _ _ (Builtin.Tuple.tupleItemsOf (.ref a) >>= _) _ _ s
  refine zz (wpAny_tupleItemsOf ho hd ?_);refine zz ?_;rw [<- Array.forIn_toList];refine wpAny_forIn_list _
   (fun rest (b:Array Int) s'=>∃ done left,ks=done++left/\aF s.heap left rest/\b.toList=iM w done/\s'={ s with toks:=s.toks+iH done })
   _ ?_ ?_ _ _ ⟨[],ks,rfl,by simpa using hi,rfl,rfl⟩
  .rintro x rest b s' ⟨done,left,hks,hl,hb,rfl⟩;cases left with
   | nil=>rw [aF] at hl;cases hl
   | cons k ks' =>
    rw [aF] at hl;obtain ⟨y,ys,z,h1,hl'⟩:=hl;cases z;have hmem:k∈ks:=by rw [hks];simp
    have hlt:=List.sizeOf_lt_of_mem hmem;have hko:fP k=true:=by
     rw [hks,vd,fC] at hk;simp at hk;exact hk.2.1
    have hdep:dep k<=deps ks:=by
     obtain ⟨i,hi2,e⟩:=List.getElem_of_mem hmem;rw [<- e];exact gj hi2
    refine zz (Ud k (s:={ s with toks:=s.toks+iH done }) hko h1 (by first | (show A.in1.units+dep k < cLine;show A.units+1+dep k < cLine;omega) | (show A.in1.in1.units+dep k < cLine;show A.units+1+1+dep k < cLine;omega)) ?_)
    first
     | exact z0 ⟨done++[k],ks',by simp [hks],hl',by simp [hb,o9,iM],by simp [nJ,iH,Nat.add_assoc]⟩
     | exact zz (z0 (z0 ⟨done++[k],ks',by simp [hks],hl',by simp [hb,o9,iM],by simp [nJ,iH,Nat.add_assoc]⟩))
  .rintro b s' ⟨done,left,hks,hl,hb,rfl⟩;cases left with
   | cons k ks'=>rw [aF] at hl;obtain ⟨y,ys,z,_⟩:=hl;cases z
   | nil =>
    rw [List.append_nil] at hks;subst hks;show wpAny _ _ (retInt (Builtin.Tuple.tupleHashOf b.toList)) _ _ _
    rw [hb];refine wpAny_ret_mkInt ?_;show wpAny _ _ (if (decide (-(2:Int) ^ 63<=Builtin.Tuple.tupleHashOf (iM w ks)) && decide (Builtin.Tuple.tupleHashOf (iM w ks) < 2 ^ 63))=true then _ else _) Q E _
    unfold reduceHash at h;by_cases hr:(decide (-(2:Int) ^ 63<=Builtin.Tuple.tupleHashOf (iM w ks)) && decide (Builtin.Tuple.tupleHashOf (iM w ks) < 2 ^ 63))=true
    .rw [if_pos hr];rw [if_pos hr] at h;exact z0 (by simpa [Nat.add_assoc] using h)
    .rw [if_neg hr];rw [if_neg hr] at h;exact zz (wpAny_rule (z0 (by simpa [Nat.add_assoc] using h)))
termination_by d=>sizeOf d
decreasing_by
 simp only [D.tup.sizeOf_spec];omega
variable {P:Program}
def Zh :∀ (m:Nat) (d:D) {A:Around}{E:zb}{s:Shared}{u:Value}{Q:Bool->Shared->Prop},fP d=true->dep d<=m->RpV s.heap d u->Q true s ->
  wpAny (model P w) A (eqIsQuiet m u) Q E s:=by
 intro m;induction m with
 | zero =>
  intro d A E s u Q hk hm r h;cases d <;> simp [fP,dep] at hk hm
  .rw [RpV] at r;subst r;rw [eqIsQuiet_byValue _ (by rfl)];exact z0 h
  .rw [RpV] at r;obtain ⟨t,rfl⟩:=r;rw [eqIsQuiet_byValue _ (by rfl)];exact z0 h
  .rw [RpV] at r;obtain ⟨t,rfl⟩:=r;rw [eqIsQuiet_byValue _ (by rfl)];exact z0 h
 | succ m ih =>
  intro d A E s u Q hk hm r h;cases d with
  | non=>simp [fP] at hk
  | bl _ =>
   rw [RpV] at r;subst r;rw [eqIsQuiet_byValue _ (by rfl)];exact z0 h
  | lst _=>simp [fP] at hk
  | dct _ _=>simp [fP] at hk
  | int _ =>
   rw [RpV] at r;obtain ⟨t,rfl⟩:=r;rw [eqIsQuiet_byValue _ (by rfl)];exact z0 h
  | str _ =>
   rw [RpV] at r;obtain ⟨t,rfl⟩:=r;rw [eqIsQuiet_byValue _ (by rfl)];exact z0 h
  | tup ks =>
   rw [RpV] at r;obtain ⟨a,its,rfl,⟨o,ho,hc,n,hd⟩,hi⟩:=r;rw [fP] at hk;rw [dep] at hm;have hT:s.TypeIs (.ref a) "tuple":=⟨o,ho,hc⟩
   unfold eqIsQuiet;refine zz (wpAny_specialOf hT F.slot_tuple_eq.lookup ?_);show wpAny _ _ (isInstance (.ref a) (.type "tuple") >>= _) _ _ s
   refine zz (wpAny_isInstance hT isSubtype_tuple_tuple ?_);simp only [Bool.not_true,Bool.false_eq_true,if_false];refine zz (wpAny_seqItems ho hd ?_);refine zz ?_;show wpAny _ _ (forIn its.toArray _ _) _ _ s
   rw [<- Array.forIn_toList];refine wpAny_forIn_list _ (fun rest r s'=>r.1=none/\s'=s/\∃ left,aF s.heap left rest/\fC left=true/\deps left<=m) _ ?_ ?_ _ _ ⟨rfl,rfl,ks,by simpa using hi,hk,by omega⟩
   .rintro v rest r s' ⟨hr,rfl,left,hl,hok,hdp⟩;cases left with
    | nil=>rw [aF] at hl;cases hl
    | cons k ks' =>
     rw [aF] at hl;obtain ⟨y,ys,z,h1,hl'⟩:=hl;cases z;rw [fC,Bool.and_eq_true] at hok;rw [deps] at hdp;refine zz (ih k hok.1 (by omega) h1 ?_);simp only [Bool.not_true,Bool.false_eq_true,if_false];exact z0 ⟨rfl,rfl,ks',hl',hok.2,by omega⟩
   .rintro ⟨r1,r2⟩ s' ⟨hr,rfl,_⟩;simp only at hr;subst hr;exact z0 h
mutual
theorem RpV.keep {h h':Heap}:∀ {d:D}{u:Value},(∀ a o,h.get? a=some o->(∀ es ep,o.data≠.dict es ep)->h'.get? a=some o)->RpV h d u->RpV h' d u
 | .non,u,k,r=>by rw [RpV] at r ⊢;exact r
 | .bl _,u,k,r=>by rw [RpV] at r ⊢;exact r
 | .int _,u,k,r=>by rw [RpV] at r ⊢;exact r
 | .str _,u,k,r=>by rw [RpV] at r ⊢;exact r
 | .tup ds,u,k,r=>by
  rw [RpV] at r ⊢;obtain ⟨a,its,rfl,⟨o,ho,hc,n,hd⟩,rs⟩:=r;exact ⟨a,its,rfl,⟨o,k a o ho (by intro es ep z;rw [hd] at z;cases z),hc,n,hd⟩,aF.keep k rs⟩
 | .lst ds,u,k,r=>by
  rw [RpV] at r ⊢;obtain ⟨a,its,rfl,⟨o,ho,hc,n,hd⟩,rs⟩:=r;exact ⟨a,its,rfl,⟨o,k a o ho (by intro es ep z;rw [hd] at z;cases z),hc,n,hd⟩,aF.keep k rs⟩
 | .dct _ _,u,k,r=>by rw [RpV] at r;exact r.elim
theorem aF.keep {h h':Heap}:∀ {ds:List D}{us:zg},(∀ a o,h.get? a=some o->(∀ es ep,o.data≠.dict es ep)->h'.get? a=some o)->aF h ds us->aF h' ds us
 | [],us,k,r=>by rw [aF] at r ⊢;exact r
 | d::ds,us,k,r=>by
  rw [aF] at r ⊢;obtain ⟨y,ys,rfl,r0,rs⟩:=r;exact ⟨y,ys,rfl,RpV.keep k r0,aF.keep k rs⟩
end
def acP (b:Bool) (h:Heap) (d:D) (a:Addr):Prop:=JH b d=true/\dep d<=6/\RpV h d (.ref a)
def RM {e:D} (hd:JH b d=true) (he:JH b e=true):aH d e=decide (d=e):=by
 cases b with
 | false=>exact rO hd he
 | true =>
  cases d <;> try (cases hd;done)
  cases e <;> try (cases he;done)
  rw [aH,Jt hd he,Bool.eq_iff_iff];simp
def lB (b:Bool) (P:Program) (w:World):HeapKind P w D where
 is:=acP b
 hash:=vX w
 draws:=rK
 room:=fun A=>A.units+10 < cLine
 inj:=fun hx hy=>RpV.inj hx.2.2 hy.2.2
 keeps:=fun x ho hd hs=>⟨x.1,x.2.1,x.2.2.keep fun b ob hb hnd=>(hs.2 b (by
  rintro rfl;rw [ho] at hb;cases hb;exact hnd _ _ hd)).trans hb⟩
 pyHash:=fun hu hk h=>Ud _ (RW hk.1) hk.2.2 (by have:=hk.2.1;omega) h
 eqBool:=fun hu hx hy h=>by
  have e:=RM hx.1 hy.1;exact sI _ _ hx.2.2 hy.2.2 (by have:=hx.2.1;omega) (by have:=hy.2.1;omega) _ _ _ _ (by rw [e];exact h)
 quiet:=fun hk h=>Zh 8 _ (RW hk.1) (by have:=hk.2.1;omega) hk.2.2 h
def isKey (d:D):Bool:=keyOk d && decide (dep d<=6) && (match d with | .tup _=>true | _=>false)
def yL (b:Bool) (d:D):Bool:=if b then sH d else isKey d
def kOk (ks:List D) (k:D):Bool:=(isKey k && ks.all isKey) || (sH k && ks.all sH)
def Zm {ks:List D}{k:D} (h:kOk ks k=true):∃ b,yL b k=true/\∀ c∈ks,yL b c=true:=by
 unfold kOk at h;rw [Bool.or_eq_true] at h;rcases h with h | h <;> rw [Bool.and_eq_true] at h
 .exact ⟨false,h.1,fun c hc=>y4.mp h.2 c hc⟩
 .exact ⟨true,h.1,fun c hc=>y4.mp h.2 c hc⟩
def j9 (h:yL b d=true):JH b d=true/\dep d<=6/\∃ ds,d=.tup ds:=by
 cases b with
 | true =>
  have h':sH d=true:=h;cases d <;> try (cases h';done)
  rename_i ds;exact ⟨h',by rw [dep,(Js (show ds.all uO=true from h')).2];decide,ds,rfl⟩
 | false =>
  have h':isKey d=true:=h;unfold isKey at h';simp only [Bool.and_eq_true,decide_eq_true_eq] at h';refine ⟨h'.1.1,h'.1.2,?_⟩;cases d <;> simp at h';exact ⟨_,rfl⟩
end Mi
namespace L2
open PySem PySem.Spec PyProof.Rows
section
variable {X:Cx}
def Ms:lu X (.type "int") (fun xs H Q=>∃ b,xs=[.bl b] /\ Q (.int (if b=true then 1 else 0)) H):=by
 intro pins s σ H xs us Q I r h;obtain ⟨b,rfl,q⟩:=h;obtain ⟨u,rfl,rx⟩:=vals1 r;cases rx;exact PySem.call_int_bool ⟨.int _,H,I.tok _,⟨_,rfl⟩,q⟩
end
end L2
namespace Mi
open PySem L2 PyProof.Rows
structure Xc where
 cls:Str
 val:D
inductive R (α:Type) where
 | ok (a:α) | exc (x:Xc) | stuck
noncomputable def R.bind {α β:Type}:R α->(α->R β)->R β
 | .ok a,f=>f a
 | .exc x,_=>.exc x
 | .stuck,_=>.stuck
noncomputable instance:Monad R where
 pure:=R.ok
 bind:=R.bind
@[simp] theorem qP {α β:Type} (a:α) (f:α->R β):(R.ok a >>= f)=f a:=rfl
@[simp] theorem Vx {α β:Type} (x:Xc) (f:α->R β):((R.exc x:R α) >>= f)=.exc x:=rfl
@[simp] theorem PX {α β:Type} (f:α->R β):((R.stuck:R α) >>= f)=.stuck:=rfl
@[simp] theorem adw {α:Type} (a:α):(pure a:R α)=.ok a:=rfl
inductive BO where | add | sub | mul | mod
inductive CO where | eq | ne | lt | le | gt | ge
 deriving DecidableEq
inductive Ty where | int | bool | str | tuple | list
inductive BI where | len | min2 | all | any | sorted | list | tuple | listEnum | int
 deriving DecidableEq
inductive IK where | seq | rng | enum | zip
inductive Tg where
 | one (i:Nat) | two (i j:Nat)
abbrev En:=List (Option D)
noncomputable def lim:Nat:=100000
def jt:lim<=sizeLine:=by decide
def kI:D->D->R D
 | .int a,.int b=>.ok (.int (a+b))
 | .lst a,.lst b=>if a.length+b.length<=lim then .ok (.lst (a++b)) else .stuck
 | .tup a,.tup b=>if a.length+b.length<=lim then .ok (.tup (a++b)) else .stuck
 | _,_=>.stuck
noncomputable def lQ:Int->Bool
 | .ofNat n=>Nat.ble n 18446744073709551615
 | .negSucc n=>Nat.ble n 18446744073709551614
def ji:BO->D->D->R D
 | .add,a,b=>kI a b
 | .sub,.int a,.int b=>.ok (.int (a - b))
 | .mul,.int a,.int b=>if lQ a || lQ b then .ok (.int (a * b)) else .stuck
 | .mul,.lst ds,.int k=>if 0<=k/\k<=1000/\ds.length<=1000 then .ok (.lst (List.replicate k.toNat ds).flatten) else .stuck
 | .mod,.int a,.int b=>if 0 < b then .ok (.int (a % b)) else .stuck
 | _,_,_=>.stuck
def bw (a b:D):Bool:=decide (dep a<=30) && decide (dep b<=30) && like a b
def aY:CO->D->D->R Bool
 | .eq,a,b=>if bw a b then .ok (aH a b) else .stuck
 | .ne,a,b=>if bw a b then .ok (!aH a b) else .stuck
 | .lt,.int a,.int b=>.ok (decide (a < b))
 | .le,.int a,.int b=>.ok (decide (a<=b))
 | .gt,.int a,.int b=>.ok (decide (b < a))
 | .ge,.int a,.int b=>.ok (decide (b<=a))
 | _,_,_=>.stuck
noncomputable def cT:List D->List D->D->Option D
 | k'::ks,v::vs,k=>if k'=k then some v else cT ks vs k
 | _,_,_=>none
def ixD:D->D->R D
 | .dct ks vs,k=>if kOk ks k then (match cT ks vs k with | some d=>.ok d | none=>.stuck) else .stuck
 | .lst ds,.int i=>match ixN ds.length i with | some k=>(match ds[k]? with | some d=>.ok d | none=>.stuck) | none=>.stuck
 | .tup ds,.int i=>match ixN ds.length i with | some k=>(match ds[k]? with | some d=>.ok d | none=>.stuck) | none=>.stuck
 | _,_=>.stuck
noncomputable def intD:D->R D
 | .bl b=>.ok (.int (if b=true then 1 else 0))
 | _=>.stuck
noncomputable def DW:D->R (List D)
 | .lst ds=>.ok ds
 | .tup ds=>.ok ds
 | .dct ks _=>.ok ks
 | _=>.stuck
noncomputable def aU (n:Nat):List D->List D
 | []=>[]
 | d::ds=>.tup [.int n,d]::aU (n+1) ds
noncomputable def uy:List D->List D->List D
 | a::as,b::bs=>.tup [a,b]::uy as bs
 | _,_=>[]
def itemsOf:IK->List D->R (List D)
 | .seq,[.lst ds]=>.ok ds
 | .seq,[.tup ds]=>.ok ds
 | .seq,[.dct ks _]=>.ok ks
 | .enum,[.tup ds]=>.ok (aU 0 ds)
 | .enum,[.lst ds]=>.ok (aU 0 ds)
 | .zip,[.tup as,.tup bs]=>.ok (uy as bs)
 | .rng,[.int n]=>if -(lim:Int)<=n/\n<=lim then .ok ((List.range n.toNat).map fun (k:Nat)=>D.int (k:Int)) else .stuck
 | .rng,[.int a,.int b]=>if -(lim:Int)<=a/\a<=lim/\-(lim:Int)<=b/\b<=lim then .ok ((List.range (b - a).toNat).map fun (k:Nat)=>D.int (a+(k:Int))) else .stuck
 | _,_=>.stuck
noncomputable def boolsOf:List D->Option (List Bool)
 | []=>some []
 | .bl b::ds=>(boolsOf ds).map (b::·)
 | _=>none
mutual
noncomputable def ltD:D->D->Bool
 | .int a,.int b=>decide (a < b)
 | .tup a,.tup b=>aW a b
 | .lst a,.lst b=>aW a b
 | _,_=>false
noncomputable def aW:List D->List D->Bool
 | [],[]=>false
 | [],_::_=>true
 | _::_,[]=>false
 | a::as,b::bs=>if a=b then aW as bs else ltD a b
end
end Mi
namespace Mi
open PySem L2
open PyProof.Rows hiding St
def jq (env:Env):List (Str × NameKind)->List (Str × Addr)->List (Str × Addr)
 | [],acc=>acc
 | (n,k)::r,acc=>if k == .free then (match env.cells.lookup n with | some a=>jq env r ((n,a)::acc) | none=>jq env r acc) else jq env r acc
theorem Fz (env:Env) (f:Str × NameKind->List (Str × Addr)->Sem (ForInStep (List (Str × Addr))))
  (hf:∀ n k cs,f (n,k) cs=if k == .free then (do let a <- cellOf env n;pure (.yield ((n,a)::cs))) else pure (.yield cs)) :
  ∀ (l:List (Str × NameKind)) (acc:List (Str × Addr)),(∀ x∈l,x.2=.free->∃ c,env.cells.lookup x.1=some c)->forIn l acc f=(pure (jq env l acc):Sem _)
 | [],acc,_=>by rw [List.forIn_nil];rfl
 | (n,k)::r,acc,h=>by
  rw [List.forIn_cons,hf];have ih:=fun acc=>Fz env f hf r acc fun x hx=>h x (ve _ hx)
  unfold jq;by_cases hk:(k == NameKind.free)=true
  .obtain ⟨c,hc⟩:=h (n,k) vi (by simpa using hk);have hc':env.cells.lookup n=some c:=hc;rw [if_pos hk,if_pos hk,hc'];have e:cellOf env n=pure c:=by unfold cellOf;rw [hc']
   rw [e];simp only [pure_bind];exact ih _
  .rw [if_neg hk,if_neg hk];simp only [pure_bind];exact ih _
variable {scope:Scope}
theorem QV {env:Env} (h:∀ x∈scope.names,x.2=.free->∃ c,env.cells.lookup x.1=some c):closureFor scope env=pure (jq env scope.names []):=by
 simp only [closureFor];rw [Fz env _ (fun n k cs=>by cases hk:k == NameKind.free <;> simp [hk]) scope.names [] h];rfl
theorem uc {env:Env}:∀ {l:List (Str × NameKind)}{acc:List (Str × Addr)}{p:Str × Addr},p∈jq env l acc->p∈acc\/((p.1,NameKind.free)∈l/\env.cells.lookup p.1=some p.2)
 | [],acc,p,h=>.inl h
 | (n,k)::r,acc,p,h=>by
  unfold jq at h;split at h
  .rename_i hk;split at h
   .rename_i a ha;rcases uc h with h | h
    .rcases vR.mp h with e | h
     .right;subst e;have:k=.free:=by simpa using hk
      subst this;exact ⟨vi,ha⟩
     .exact .inl h
    .exact .inr ⟨ve _ h.1,h.2⟩
   .rcases uc h with h | h
    .exact .inl h
    .exact .inr ⟨ve _ h.1,h.2⟩
  .rcases uc h with h | h
   .exact .inl h
   .exact .inr ⟨ve _ h.1,h.2⟩
theorem mO {env:Env}{x:Str}{c:Addr} (hc:env.cells.lookup x=some c):∀ {l:List (Str × NameKind)}{acc:List (Str × Addr)},((x,NameKind.free)∈l\/acc.lookup x=some c)->(jq env l acc).lookup x=some c
 | [],acc,h=>by
  rcases h with h | h
  .simp at h
  .exact h
 | (n,k)::r,acc,h=>by
  unfold jq;split
  .rename_i hk;have hk':k=.free:=by simpa using hk
   split
   .rename_i a ha;apply mO hc;by_cases hx:x=n
    .subst hx;rw [hc] at ha;cases ha;right;simp [List.lookup_cons]
    .rcases h with h | h
     .rcases vR.mp h with e | h
      .cases e;exact absurd rfl hx
      .exact .inl h
     .right;have:(x == n)=false:=beq_eq_false_iff_ne.mpr hx;rw [List.lookup_cons,this];exact h
   .rename_i ha;apply mO hc;rcases h with h | h
    .rcases vR.mp h with e | h
     .cases e;rw [hc] at ha;cases ha
     .exact .inl h
    .exact .inr h
  .rename_i hk;apply mO hc;rcases h with h | h
   .rcases vR.mp h with e | h
    .cases e;exact absurd (by rfl) hk
    .exact .inl h
   .exact .inr h
def fu (scope:Scope) (C:Addr) (env:Env):Env :=
 { scope:=relabel scope env,locals:=C,globals:=env.globals,cells:=cellsFrom (C+1) scope.names (jq env scope.names []),qual:=env.qual,func:=none,code:=env.code,frame:=env.frame,builtins:=env.builtins }
variable {s:Shared}
def aae {M:Model}{A:Around}{E:zb}{env:Env}{cl:List (Str × Addr)}{Q:Env->Shared->Prop}
  (h:Q { scope:=scope,locals:=s.heap.objs.size,globals:=env.globals,cells:=cellsFrom (s.heap.objs.size+1) scope.names cl,qual:=env.qual,func:=none,code:=env.code,frame:=env.frame,builtins:=env.builtins }
   { s with heap:=pushCells (s.heap.push { cls:=.type "dict",data:=.dict #[] }) scope.names }) :
  wpAny M A (newFunctionEnv scope env.globals cl [] env.qual none .none (some env)) Q E s:=by
 simp only [newFunctionEnv,Option.isSome_some,if_true];refine zz (wpAny_alloc ?_);refine zz (wpAny_layCells _ (fun name kind cells=>by cases hkc:kind == NameKind.cell <;> simp [hkc]) _ _ _ _ ?_);rw [show ({ s with heap:=s.heap.push { cls:=.type "dict",data:=.dict #[] } }:Shared).heap.objs.size=s.heap.objs.size+1 from Heap.size_push ..]
 simp only [List.forIn_nil,pure_bind];exact z0 h
theorem pA:∀ {l:List (Str × NameKind)}{n:Nat}{acc:List (Str × Addr)}{p:Str × Addr},p∈cellsFrom n l acc->p∈acc\/(n<=p.2/\(p.1,NameKind.cell)∈l)
 | [],n,acc,p,h=>.inl h
 | (x,k)::r,n,acc,p,h=>by
  unfold cellsFrom at h;split at h
  .rename_i hk;have hk':k=.cell:=by simpa using hk
   subst hk';rcases pA h with h | h
   .rcases vR.mp h with e | h
    .subst e;exact .inr ⟨vy _,vi⟩
    .exact .inl h
   .exact .inr ⟨by omega,ve _ h.2⟩
  .rcases pA h with h | h
   .exact .inl h
   .exact .inr ⟨h.1,ve _ h.2⟩
theorem pF:∀ {l:List (Str × NameKind)}{n:Nat}{acc:List (Str × Addr)},(∀ p∈acc,p.2 < n)->(∀ p∈acc,∀ q∈acc,p.2=q.2->p.1=q.1)->∀ p∈cellsFrom n l acc,∀ q∈cellsFrom n l acc,p.2=q.2->p.1=q.1
 | [],n,acc,h1,h2=>h2
 | (x,k)::r,n,acc,h1,h2=>by
  unfold cellsFrom;split
  .refine pF (fun p hp=>?_) fun p hp q hq e=>?_
   .rcases vR.mp hp with e | hp
    .subst e;exact Nat.lt_succ_self _
    .exact Nat.lt_succ_of_lt (h1 p hp)
   .rcases vR.mp hp with e1 | hp
    .rcases vR.mp hq with e2 | hq
     .rw [e1,e2]
     .subst e1;have:=h1 q hq;have e':n=q.2:=e;exact absurd (e' ▸ this) (yf _)
    .rcases vR.mp hq with e2 | hq
     .subst e2;have:=h1 p hp;have e':p.2=n:=e;exact absurd (e' ▸ this) (yf _)
     .exact h2 p hp q hq e
  .exact pF h1 h2
theorem lG {x:Str}:∀ {l:List (Str × NameKind)}{n:Nat}{acc:List (Str × Addr)},(x,NameKind.cell) ∉ l->(cellsFrom n l acc).lookup x=acc.lookup x
 | [],n,acc,h=>rfl
 | (y,k)::r,n,acc,h=>by
  have h':(x,NameKind.cell) ∉ r:=fun z=>h (ve _ z)
  unfold cellsFrom;split
  .rename_i hk;have hk':k=.cell:=by simpa using hk
   subst hk';rw [lG h'];have hne:x≠y:=fun e=>h (by rw [e];exact vi)
   have:(x == y)=false:=beq_eq_false_iff_ne.mpr hne;rw [List.lookup_cons,this]
  .exact lG h'
theorem nu:∀ {l:List (Str × NameKind)}{h:Heap}{acc:List (Str × Addr)}{p:Str × Addr},p∈cellsFrom h.objs.size l acc->p∈acc\/(pushCells h l).IsCell p.2 none
 | [],h,acc,p,q=>.inl q
 | (y,k)::r,h,acc,p,q=>by
  unfold cellsFrom at q;unfold pushCells;split at q
  .rename_i hk;rw [if_pos hk];have e:(h.push { cls:=.type "cell",data:=.cell none }).objs.size=h.objs.size+1:=Heap.size_push ..
   rw [<- e] at q;rcases nu q with q | q
   .rcases vR.mp q with z | q
    .subst z;right;exact Heap.IsCell.keeps ⟨_,vw _ rfl,rfl⟩ (pushCells_keeps r _)
    .exact .inl q
   .exact .inr q
  .rename_i hk;rw [if_neg hk];exact nu q
theorem iG {α:Type}:∀ {l:List (Str × α)}{x:Str}{k:α},(l.map (·.1)).Nodup->(x,k)∈l->l.lookup x=some k
 | (y,j)::r,x,k,nd,h=>by
  rw [List.map_cons,List.nodup_cons] at nd;rcases vR.mp h with e | h
  .cases e;simp [List.lookup_cons]
  .have hne:x≠y:=fun e=>nd.1 (by rw [<- e];exact yI.mpr ⟨_,h,rfl⟩)
   have:(x == y)=false:=beq_eq_false_iff_ne.mpr hne;rw [List.lookup_cons,this];exact iG nd.2 h
theorem CV {env:Env}{x:Str}:∀ {names:List (Str × NameKind)},
  (names.map fun (n,k)=>if (k == NameKind.free && env.scope.kind == .function && env.kindOf n == some .cell) then (n,NameKind.cell) else (n,k)).lookup x =
   (names.lookup x).map fun k=>if (k == NameKind.free && env.scope.kind == .function && env.kindOf x == some .cell) then NameKind.cell else k
 | []=>rfl
 | (n,k)::r=>by
  have ih:=CV (env:=env) (x:=x) (names:=r);rw [List.map_cons];cases hx:x == n with
  | true =>
   have e:x=n:=by simpa using hx
   subst e;by_cases hc:(k == NameKind.free && env.scope.kind == .function && env.kindOf x == some .cell)=true
   .simp only [hc,if_true,List.lookup_cons,hx,Option.map_some]
   .simp only [hc,Bool.false_eq_true,if_false,List.lookup_cons,hx,Option.map_some]
  | false =>
   by_cases hc:(k == NameKind.free && env.scope.kind == .function && env.kindOf n == some .cell)=true
   .simp only [hc,if_true,List.lookup_cons,hx];exact ih
   .simp only [hc,Bool.false_eq_true,if_false,List.lookup_cons,hx];exact ih
theorem rY (scope:Scope) (env:Env) (x:Str):(relabel scope env).names.lookup x=(scope.names.lookup x).map fun k=>if (k == NameKind.free && env.scope.kind == .function && env.kindOf x == some .cell) then NameKind.cell else k:=CV
structure ScOk (around:Scope) (scope:Scope):Prop where
 kind:scope.kind=.function
 nd:(scope.names.map (·.1)).Nodup
 cap:∀ x,scope.names.lookup x=some .free->around.names.lookup x=some .cell\/around.names.lookup x=some .free
noncomputable def cU (N:zk) (scope:Scope):List Bool:=N.map fun x=>decide (scope.names.lookup x=some .free)
noncomputable def bA {α:Type}:List Bool->List (Option α)->List (Option α)
 | b::bs,v::vs=>(if b then v else none)::bA bs vs
 | [],vs=>vs.map fun _=>none
 | _,[]=>[]
theorem lU {α:Type}:∀ (bs:List Bool) (vs:List (Option α)),(bA bs vs).length=vs.length
 | [],vs=>by simp [bA]
 | _::_,[]=>rfl
 | _::bs,_::vs=>by simp [bA,lU bs vs]
theorem tQ {α:Type}:∀ {bs:List Bool}{vs:List (Option α)}{i:Nat}{v:α},(bA bs vs)[i]?=some (some v)->bs[i]?=some true/\vs[i]?=some (some v)
 | [],vs,i,v,h=>by
  simp only [bA,List.getElem?_map] at h;cases e:vs[i]? <;> simp [e] at h
 | _::_,[],i,v,h=>by simp [bA] at h
 | b::bs,w::vs,0,v,h=>by
  cases b <;> simp [bA] at h ⊢;exact h
 | b::bs,w::vs,i+1,v,h=>by
  simp only [bA,List.getElem?_cons_succ] at h ⊢;exact tQ h
theorem Gm {α:Type}:∀ {bs:List Bool}{vs:List (Option α)}{i:Nat}{v:α},bs[i]?=some true->vs[i]?=some (some v)->(bA bs vs)[i]?=some (some v)
 | b::bs,w::vs,0,v,h,g=>by
  simp at h g;subst h g;simp [bA]
 | b::bs,w::vs,i+1,v,h,g=>by
  simp only [bA,List.getElem?_cons_succ] at h g ⊢;exact Gm h g
 | [],vs,i,v,h,g=>by simp at h
 | _::_,[],i,v,h,g=>by simp at g
def dg (X:Cx) (scope:Scope) (s₃:Shared) (H₃:Hp) (fp:List Addr) (xe:zb):Cx :=
 { X with s₀:=s₃,H₀:=H₃,env:=fu scope s₃.heap.objs.size X.env,outer:=X.stack,stack:=X.stack,ex:=fp,fn:=fun x=>decide (scope.names.lookup x=some .cell),pn:=[],xe:=xe }
variable {fp:List Addr}{xe:zb}{h':Heap}
section
variable {X:Cx}{pins:w4}{σ:St}{H:Hp}{s:Shared}
def Yx (I:Inv X pins σ H s) (S:ScOk X.env.scope scope) (hf:∀ b∈fp,jz X pins H b) (ho:∀ b∈fp,∃ o,s.heap.get? b=some o) :
  Inv (dg X scope s H fp xe) [] (bA (cU X.N scope) σ) H { s with heap:=pushCells (s.heap.push { cls:=.type "dict",data:=.dict #[] }) scope.names }:=by
 have keep:∀ b o,s.heap.get? b=some o -> (pushCells (s.heap.push { cls:=.type "dict",data:=.dict #[] }) scope.names).get? b=some o:=fun b o e=>pushCells_keeps _ _ b o (vn _ e)
 have hsz:(s.heap.push { cls:=.type "dict",data:=.dict #[] }).objs.size=s.heap.objs.size+1:=Heap.size_push ..
 have clo:∀ p∈jq X.env scope.names [],scope.names.lookup p.1=some .free/\X.env.cells.lookup p.1=some p.2:=fun p hp=>by
  rcases uc hp with h | h
  .simp at h
  .exact ⟨iG S.nd h.1,h.2⟩
 have clt:∀ p∈jq X.env scope.names [],p.2 < s.heap.objs.size:=fun p hp=>by
  obtain ⟨v,q⟩:=I.cell _ _ (clo p hp).2;exact q.lt
 have memc:∀ {x c},(fu scope s.heap.objs.size X.env).cells.lookup x=some c->(x,c)∈cellsFrom (s.heap.objs.size+1) scope.names (jq X.env scope.names []):=fun h=>mem_of_lookup h
 have cases2:∀ {x c},(fu scope s.heap.objs.size X.env).cells.lookup x=some c->(scope.names.lookup x=some .free/\X.env.cells.lookup x=some c)\/(s.heap.objs.size+1<=c/\scope.names.lookup x=some .cell):=fun {x c} h=>by
  rcases pA (memc h) with q | q
  .exact .inl (clo _ q)
  .exact .inr ⟨q.1,iG S.nd q.2⟩
 have free_has:∀ {x},scope.names.lookup x=some .free->∃ c,X.env.cells.lookup x=some c:=fun {x} h=>I.ok.has x (S.cap x h)
 have lookF:∀ {x c},scope.names.lookup x=some .free->X.env.cells.lookup x=some c->(fu scope s.heap.objs.size X.env).cells.lookup x=some c:=fun {x c} h1 h2=>by
  have ncell:(x,NameKind.cell) ∉ scope.names:=fun z=>by
   have:=iG S.nd z;rw [h1] at this;cases this
  show (cellsFrom (s.heap.objs.size+1) scope.names (jq X.env scope.names [])).lookup x=some c
  rw [lG ncell];exact mO h2 (.inl (mem_of_lookup h1))
 have kindB:∀ {x},(Env.kindOf (fu scope s.heap.objs.size X.env) x=some .cell\/Env.kindOf (fu scope s.heap.objs.size X.env) x=some .free)->scope.names.lookup x=some .cell\/scope.names.lookup x=some .free:=fun {x} h=>by
  have e:Env.kindOf (fu scope s.heap.objs.size X.env) x=_:=rY scope X.env x;rw [e] at h;cases q:scope.names.lookup x with
  | none=>rw [q] at h;simp at h
  | some k =>
   rw [q] at h;cases k <;> simp at h ⊢
 have ok:(dg X scope s H fp xe).Ok:=by
  refine ⟨I.ok.mod,S.kind,I.ok.glob,I.ok.blt,vy _,fun x y c h1 h2=>?_,fun x h=>?_,fun x c h1 h2=>?_,I.ok.hd,I.ok.frames,.inl rfl,fun b hb=>⟨?_,fun x c h=>?_⟩,I.bs,vF I.ok.bsz I.sz,fun b o e hb=>?_,fun b hb z=>?_,I.stack,I.stkFree,I.ok.tab.un I.base⟩
  .exact pF (fun p hp=>Nat.lt_succ_of_lt (clt p hp)) (fun p hp q hq e=>I.ok.inj _ _ _ (clo p hp).2 (by rw [e];exact (clo q hq).2)) _ (memc h1) _ (memc h2) rfl
  .rcases kindB h with h | h
   .exact y0.mp (PySem.W.cellsFrom_some scope.names (s.heap.objs.size+1) _ (.inl h))
   .obtain ⟨c,hc⟩:=free_has h;exact ⟨c,lookF h hc⟩
  .rcases cases2 h2 with ⟨q,_⟩ | ⟨q,_⟩
   .have h1':scope.names.lookup x=some .cell:=of_decide_eq_true h1;rw [q] at h1';cases h1'
   .exact Nat.le_of_succ_le q
  .obtain ⟨o,e⟩:=ho b hb;exact vz (vx e)
  .rcases cases2 h with ⟨_,q⟩ | ⟨q,_⟩
   .exact (hf b hb).2.2.2.2.1 x c q
   .obtain ⟨o,e⟩:=ho b hb;have:=vx e;intro z;subst z;exact yf _ (Nat.lt_trans this (Nat.lt_of_succ_le q))
  .obtain ⟨_,_,_,q,_⟩:=hf b hb;rcases q with q | q
   .exact I.ok.noex b o e q
   .exact absurd (vT (vx e) (vF I.ok.bsz q)) (yf _)
  .obtain ⟨_,q1,q2,_⟩:=hf b hb;rcases vR.mp (I.stkSub b z) with e | e
   .exact q1 e
   .exact q2 e
 refine ⟨ok,rfl,I.bare,Un.kept keep,⟨fun _=>none,(Heap.Ns.new s.heap (.type "dict")).keeps (pushCells_keeps _ _),fun i x v h1 h2 h3=>?_⟩,fun x c h=>?_,I.hok.fresh (vy _),fun x c h=>?_,fun p hp=>absurd (show p ∈ ([]:w4) from hp) (by simp),I.hok.kept keep,?_⟩
 .obtain ⟨g1,g2⟩:=tQ h2;have hx:X.N[i]?=some x:=h1;have hfr:scope.names.lookup x=some .free:=by
   unfold cU at g1;rw [List.getElem?_map,hx] at g1;simpa using g1
  have hcap:=S.cap x hfr;obtain ⟨m,hn,hl⟩:=I.loc;obtain ⟨u,r,l⟩:=hl i x v hx g2 (by rcases hcap with h | h;exact .inr (.inl h);exact .inr (.inr h));refine ⟨u,r,?_⟩;rcases l with ⟨hk,_⟩ | ⟨_,c,hc,hcell⟩
  .have hk':X.env.scope.names.lookup x=some .local:=hk;rcases hcap with h | h <;> rw [hk'] at h <;> cases h
  .refine .inr ⟨?_,c,lookF hfr hc,hcell.keeps keep⟩;have e:Env.kindOf (fu scope s.heap.objs.size X.env) x=_:=rY scope X.env x;show Env.kindOf (fu scope s.heap.objs.size X.env) x=some .cell\/Env.kindOf (fu scope s.heap.objs.size X.env) x=some .free
   rw [e,hfr];simp only [Option.map_some];split
   .exact .inl rfl
   .exact .inr rfl
 .rcases cases2 h with ⟨_,q⟩ | ⟨_,q⟩
  .obtain ⟨v,z⟩:=I.cell x c q;exact ⟨v,z.keeps keep⟩
  .have hm:=memc h;rw [<- hsz] at hm;rcases nu hm with z | z
   .have:=(clo _ z).1;rw [q] at this;cases this
   .exact ⟨none,z⟩
 .rcases cases2 h with ⟨_,q⟩ | ⟨q,_⟩
  .exact I.freeC x c q
  .exact I.hok.fresh (Nat.le_of_succ_le q)
 .rw [lU];exact I.len
def OJ {pins':w4}{σ':St}{H':Hp}{s':Shared} (I:Inv X pins σ H s) (hf:∀ b∈fp,jz X pins H b)
  (J:Inv (dg X scope s H fp xe) pins' σ' H' s') (hs:Heap.SameBut s.heap.objs.size s'.heap h'):Inv X pins σ H' { s' with heap:=h' }:=by
 have ne:∀ b o,s.heap.get? b=some o->b≠s.heap.objs.size:=fun b o e=>vz (vx e)
 have eq:∀ b,b≠s.heap.objs.size->h'.get? b=s'.heap.get? b:=fun b hb=>hs.2 b hb
 have U:Un (frs X.stack) fp H H' s.heap s'.heap:=J.base;have U':Un (frs X.stack) fp H H' s.heap h' :=
  ⟨fun b o e n hb hx=>by rw [eq b (ne b o e)];exact U.keep b o e n hb hx,fun b o e n hb hx=>by rw [eq b (ne b o e)];exact U.slot b o e n hb hx,U.free,fun b o e hx=>by rw [eq b (ne b o e)];exact U.there b o e hx,U.tups,U.frzs,U.tbls⟩
 have hC:H' s.heap.objs.size=none:=J.free;have hok:HOk X.prog X.w H' h':=fun a o e=>by
  have neH:∀ {b u},H' b=some u->b≠s.heap.objs.size:=fun {b u} q z=>by rw [z,hC] at q;cases q
  refine (J.hok a o e).stay (fun b u hb q=>?_) (fun _ q=>q) fun _ _ q=>q
  have hbn:b≠s.heap.objs.size:=by
   rcases hb with rfl | hb
   .exact neH e
   .exact neH hb
  rw [eq b hbn];exact q
 refine I.call' (s':={ s' with heap:=h' }) (ch:=fp) J.os U' hok J.bare fun b hb=>?_
 obtain ⟨_,f1,f2,f3,f4,f5⟩:=hf b hb;exact ⟨f3,f1,f4,f5⟩
end
def PTs (X:Cx) (ifs:zl) (tt:TT):Prop :=
 ∀ (pins:w4) (s:Shared) (σ:St) (H:Hp) (Q:Bool->Hp->Prop),Inv X pins σ H s->tt σ H Q ->
  wpAny (model X.prog X.w) X.A (forIn ifs true fun c r=>if r=true then do let ok <- isTrue c X.env (eval c X.env);pure (ForInStep.yield ok) else pure (ForInStep.yield r)) (TP X pins σ Q) X.xe s
variable {X:Cx}
theorem Ob :PTs X [] (fun _ H Q=>Q true H):=fun _ _ _ H _ I h=>wpAny_tests_nil ⟨H,I,h⟩
variable {tt:TT}
theorem Ov {c:Expr} (h:PT X c tt):PTs X [c] tt:=fun pins s σ H Q I q=>wpAny_tests_one (h pins s σ H Q I q)
def abe (a b:St):Prop:=b.length=a.length/\∀ (i:Nat) v,a[i]?=some (some v)->b[i]?=some (some v)
def Dz (wi:TI) (g:TG) (tt:TT) (te:TE) (mk:St->St):TE:=fun σ H Q=>wi σ H fun J H1=>∀ D,H1 D=none ->
 ∃ W:Nat->Nat->List V->Hp->Prop,(∃ m,W 0 m [] (upd H1 D (.lst [])))/\∀ i m ys H',W i m ys H' ->
  (J.stop i H'/\Q (.ref D) H')\/(J.go i H'/\∀ x H2,J.yld i H' x H2->g x (mk σ) H2 fun σ2 H3=>abe (mk σ) σ2/\tt σ2 H3 fun b H4 =>
   if b=true then te σ2 H4 fun y H5=>H5 D=some (.lst ys)/\ys.length < sizeLine/\∃ m',m' < m/\W (i+1) m' (ys++[y]) (upd H5 D (.lst (ys++[y])))
   else ∃ m',m' < m/\W (i+1) m' ys H4)
variable {elt tg iter:Expr}{ifs:zl}{pos pos':Pos}{wi:TI}{g:TG}{te:TE}{pins:w4}{σ:St}{H:Hp}
theorem xH {Pb:Cx->Prop}{use:Option (Value->Sem Unit)}{Qv:zb}{Q:VK}
  (I:Inv X pins σ H s) (h:Dz wi g tt te (bA (cU X.N scope)) σ H Q)
  (hfin:∀ {s3:Shared}{H3:Hp}{fp:List Addr}{xe:zb}{s6:Shared}{H5:Hp}{D:Addr},Inv X pins σ H3 s3->(∀ b∈fp,jz X pins H3 b)->Inv (dg X scope s3 H3 fp xe) [] (bA (cU X.N scope) σ) H5 s6->Q (.ref D) H5->compPost (model X.prog X.w) X.A X.xe use Qv (.ref D) s3.heap.objs.size (.ok .next) s6)
  (hc:X.calm=true) (hi:PI X tg iter wi) (S:ScOk X.env.scope scope)
  (hP:∀ s₃ H₃ fp acc,Inv X pins σ H₃ s₃->(∀ b∈fp,jz X pins H₃ b)->Pb (dg X scope s₃ H₃ fp (fun e s'=>notedBy (model X.prog X.w) X.A (fu scope s₃.heap.objs.size X.env) (fun e s'=>compPost (model X.prog X.w) X.A X.xe use Qv acc s₃.heap.objs.size (.error e) s') e s')))
  (hblk:∀ s₃ H₃ fp xe,Pb (dg X scope s₃ H₃ fp xe)->PG (dg X scope s₃ H₃ fp xe) tg g/\PTs (dg X scope s₃ H₃ fp xe) ifs tt/\PE (dg X scope s₃ H₃ fp xe) elt te)
  (hs:∀ x,foldedSetIterable iter X.env x=pure x:=by intro _;rfl) :
  wpAny (model X.prog X.w) X.A (comprehension (.ListComp elt [⟨tg,iter,ifs,0⟩] scope pos) scope X.env pos' (newList []) false (eval iter X.env) use) Qv X.xe s:=by
 have hcl:=QV (env:=X.env) (scope:=scope) fun x hx hk=>I.ok.has x.1 (S.cap x.1 (iG S.nd (by rw [<- hk];exact hx)))
 refine wpAny_comprehension_free (use:=use) rfl hs hcl S.kind (fun x hx hk=>iG S.nd (by rw [<- hk];exact hx)) ?_;refine thn (hi pins s σ H _ I h) fun v s1 h1=>thn h1 fun itv s2 h2=>?_
 obtain ⟨it,fp,tn,J,H2,rfl,I2,T,st2,f2,hR⟩:=h2;refine wpAny_newList ?_;have hD:H2 s2.heap.objs.size=none:=I2.hok.fresh (vy _);obtain ⟨W,⟨m0,w0⟩,turn⟩:=hR s2.heap.objs.size hD;have keep3:∀ b o,s2.heap.get? b=some o -> (s2.heap.push { cls:=.type "list",data:=.seq ([]:zg).toArray }).get? b=some o:=fun b o e=>vn _ e
 have I3:Inv X pins σ (upd H2 s2.heap.objs.size (.lst [])) { s2 with heap:=s2.heap.push { cls:=.type "list",data:=.seq ([]:zg).toArray } } :=
  I2.laid (t':=s2.toks) keep3 (vy _) ⟨by simp,[],0,.nil,vw _ rfl⟩
 generalize hs3:({ s2 with heap:=s2.heap.push { cls:=.type "list",data:=.seq ([]:zg).toArray } }:Shared)=s3 at I3
 have h3:s3.heap=s2.heap.push { cls:=.type "list",data:=.seq ([]:zg).toArray }:=by rw [<- hs3]
 have obj2:∀ b∈fp,∃ o,s2.heap.get? b=some o:=fun b hb=>by
  obtain ⟨o,e,_⟩:=T.obj 0 _ st2 b hb;exact ⟨o,e⟩
 have obj3:∀ b∈fp,∃ o,s3.heap.get? b=some o:=fun b hb=>by
  obtain ⟨o,e⟩:=obj2 b hb;exact ⟨o,by rw [h3];exact keep3 b o e⟩
 have neD:∀ b∈fp,b≠s2.heap.objs.size:=fun b hb=>by
  obtain ⟨o,e⟩:=obj2 b hb;exact vz (vx e)
 have f3:∀ b∈fp,jz X pins (upd H2 s2.heap.objs.size (.lst [])) b:=fun b hb=>by
  obtain ⟨g0,g1⟩:=f2 b hb;exact ⟨by rw [ao (neD b hb)];exact g0,g1⟩
 refine aae ?_;have hPb:=hP s3 (upd H2 s2.heap.objs.size (.lst [])) fp (.ref s2.heap.objs.size) I3 f3;generalize hE:(fun e s'=>notedBy (model X.prog X.w) X.A (fu scope s3.heap.objs.size X.env) (fun e s'=>compPost (model X.prog X.w) X.A X.xe use Qv (.ref s2.heap.objs.size) s3.heap.objs.size (.error e) s') e s')=xe at hPb;have J4:Inv (dg X scope s3 (upd H2 s2.heap.objs.size (.lst [])) fp xe) [] (bA (cU X.N scope) σ) (upd H2 s2.heap.objs.size (.lst [])) { s3 with heap:=pushCells (s3.heap.push { cls:=.type "dict",data:=.dict #[] }) scope.names }:=Yx I3 S f3 obj3
 obtain ⟨hg,ht,he⟩:=hblk s3 (upd H2 s2.heap.objs.size (.lst [])) fp xe hPb;generalize hX:dg X scope s3 (upd H2 s2.heap.objs.size (.lst [])) fp xe=X' at J4 hg ht he;have eP:X'.prog=X.prog:=by rw [<- hX];rfl
 have eW:X'.w=X.w:=by rw [<- hX];rfl
 have eK:X'.K=X.K:=by rw [<- hX];rfl
 have eA:X'.A=X.A:=by rw [<- hX];rfl
 have eC:X'.calm=true:=by rw [<- hX];exact hc
 have eEnv:X'.env=fu scope s3.heap.objs.size X.env:=by rw [<- hX];rfl
 have eX:X'.xe=xe:=by rw [<- hX];rfl
 have eFp:∀ {pins':w4}{H':Hp},(∀ b∈fp,H' b=none)->pins'=[]->∀ b∈fp,jz X' pins' H' b:=fun {pins' H'} hn hp b hb=>by
  subst hp;have q:=(J4.ok.exf b (by rw [<- hX];exact hb));refine ⟨hn b hb,q.1,J4.ok.exfs b (by rw [<- hX];exact hb),.inl (by rw [<- hX];exact hb),q.2,fun p hp=>?_⟩;rw [<- hX] at hp;exact absurd (show p∈([]:w4) from hp) (by simp)
 have tn4:tn 0 (pushCells (s3.heap.push { cls:=.type "dict",data:=.dict #[] }) scope.names):=T.keep _ _ _ st2 fun b hb o e=>pushCells_keeps _ _ b o (vn _ (by rw [h3]; exact keep3 b o e))
 have loop:∀ s5:Shared,s5={ s3 with heap:=pushCells (s3.heap.push { cls:=.type "dict",data:=.dict #[] }) scope.names } ->
   codeAny (model X.prog X.w) X.A (.compLoop (.ListComp elt [⟨tg,iter,ifs,0⟩] scope pos) 0 (.ref it) (.ref s2.heap.objs.size) (fu scope s3.heap.objs.size X.env))
    (compPost (model X.prog X.w) X.A X.xe use Qv (.ref s2.heap.objs.size) s3.heap.objs.size) s5:=by
  rintro s5 rfl;refine codeAny_loop rfl (fun n s'=>∃ i ys H',Inv X' [] (bA (cU X.N scope) σ) H' s'/\tn i s'.heap/\(∀ b∈fp,H' b=none)/\W i n ys H') (fun n s5 hI=>?_) m0
   ⟨0,[],_,J4,tn4,fun b hb=>by rw [ao (neD b hb)];exact (f2 b hb).1,w0⟩
  obtain ⟨i,ys,H5,I5,st5,fr5,w5⟩:=hI;show wpAny _ X.A ((compTurn (.ListComp elt [⟨tg,iter,ifs,0⟩] scope pos) 0 (.ref it) (.ref s2.heap.objs.size) (fu scope s3.heap.objs.size X.env)).onRaise (fun x=>do noteFrame x (fu scope s3.heap.objs.size X.env);theTreesLotGoes x)) _ _ s5
  refine wpAny_noted ?_;rw [compTurn_list];refine zz (wpAny_standAt (zz ?_));have eN:notedBy (model X.prog X.w) X.A (fu scope s3.heap.objs.size X.env) (fun e s'=>compPost (model X.prog X.w) X.A X.xe use Qv (.ref s2.heap.objs.size) s3.heap.objs.size (.error e) s')=X'.xe:=by rw [eX,<- hE]
  rw [eN];rcases turn i n ys H5 w5 with ⟨stop,qn⟩ | ⟨go,step⟩
  .have dn:=T.done X' eP eW eK eC i [] s5 _ H5 X'.xe I5 (eFp fr5 rfl) st5 stop;rw [eA] at dn;refine thn dn fun r s6 ⟨hr,I6⟩=>?_
   subst hr;refine z0 ?_;rw [<- hX] at I6;exact hfin I3 f3 I6 qn
  .have itm:=T.item X' eP eW eK eC i [] s5 _ H5 X'.xe I5 (eFp fr5 rfl) st5 go;rw [eA] at itm;refine thn itm fun r s6 ⟨u,hr,h6⟩=>?_
   subst hr;refine zz (thn h6 fun _ s7 ⟨x,H7,I7,r7,y7,st7,fr7⟩=>?_);have I7':=I7.pinned (eFp fr7 rfl) (T.obj _ _ st7);have as7:=hg _ s7 _ H7 x u _ I7' r7 (step x H7 y7);rw [eP,eW,eA,eEnv] at as7;refine zz (thn as7 fun _ s8 ⟨σ8,H8,I8,ex8,q8⟩=>?_);have again:∀ {s9:Shared}{H9:Hp}{ys':List V},Inv X' ([]++yR fp s7.heap) σ8 H9 s9->(∃ m',m' < n/\W (i+1) m' ys' H9) ->
     ∃ m,m < n/\∃ i ys H',Inv X' [] (bA (cU X.N scope) σ) H' s9/\tn i s9.heap/\(∀ b∈fp,H' b=none)/\W i m ys H':=fun {s9 H9 ys'} I9 ⟨m',hm,w9⟩=>by
    refine ⟨m',hm,i+1,ys',H9,?_,T.keep _ _ _ st7 fun b hb o e=>(I9.pin (b,o) (vk _ (vk _ (pQ hb e)))).1,fun b hb=>?_,w9⟩
    .exact (I9.weak ex8.1.symm ex8.2).unpinned
    .obtain ⟨o,e,d⟩:=T.obj _ _ st7 b hb;exact (I9.pin (b,o) (vk _ (vk _ (pQ hb e)))).2.1
   have te8:=ht _ s8 σ8 H8 _ I8 q8;rw [eP,eW,eA,eEnv] at te8;refine zz (thn te8 fun ok s9 ⟨H9,I9,q9⟩=>?_);cases ok with
   | false =>
    rw [if_neg Bool.false_ne_true] at q9;exact z0 ⟨rfl,again I9 q9⟩
   | true =>
    rw [if_pos rfl] at q9;have el9:=he _ s9 σ8 H9 _ I9 q9;rw [eP,eW,eA,eEnv] at el9;refine zz (zz (thn el9 fun y s10 ⟨v10,H10,I10,r10,hl10,hz10,q10⟩=>?_));have ap:=yc (X:=X') _ s10 σ8 H10 (.ref s2.heap.objs.size) [v10] (.ref s2.heap.objs.size) [y] (fun _ H'=>H'=upd H10 s2.heap.objs.size (.lst (ys++[v10]))) I10 rfl (.cons r10 .nil) ⟨s2.heap.objs.size,ys,v10,rfl,rfl,hl10,hz10,rfl⟩;rw [eP,eW,eA] at ap;refine zz (thn ap fun _ s11 ⟨_,H11,I11,_,e11⟩=>?_);subst e11;exact z0 (z0 ⟨rfl,again I11 q10⟩)
 refine codeAny_compStart_list (loop _ rfl) ?_;have tself:=T.self X.A 0 { s3 with heap:=pushCells (s3.heap.push { cls:=.type "dict",data:=.dict #[] }) scope.names }
  (fun it' s'=>codeAny (model X.prog X.w) X.A (.compLoop (.ListComp elt [⟨tg,iter,ifs,0⟩] scope pos) 0 it' (.ref s2.heap.objs.size) (fu scope s3.heap.objs.size X.env)) (compPost (model X.prog X.w) X.A X.xe use Qv (.ref s2.heap.objs.size) s3.heap.objs.size) s')
 exact tself _ tn4 (loop _ rfl)
def Bk 
  (hc:X.calm=true) (hi:PI X tg iter wi) (S:ScOk X.env.scope scope)
  (hblk:∀ s₃ H₃ fp xe,PG (dg X scope s₃ H₃ fp xe) tg g/\PTs (dg X scope s₃ H₃ fp xe) ifs tt/\PE (dg X scope s₃ H₃ fp xe) elt te)
  (hs:∀ x,foldedSetIterable iter X.env x=pure x:=by intro _;rfl) :
  PE X (.ListComp elt [⟨tg,iter,ifs,0⟩] scope pos) (Dz wi g tt te (bA (cU X.N scope))):=by
 intro pins s σ H Q I h;rw [eval_ListComp];refine xH (use:=none) I h (fun {s3 H3 fp xe s6 H5 D} I3 f3 I6 qn=>?_) hc hi S (Pb:=fun _=>True) (fun _ _ _ _ _ _=>trivial) (fun s₃ H₃ fp xe _=>hblk s₃ H₃ fp xe) hs;obtain ⟨m,hn,_⟩:=id I6.loc;exact ⟨m,hn,fun h' hsb=>⟨.ref D,H5,OJ I3 f3 I6 hsb,rfl,qn⟩⟩
def Xg {C:Addr} (I:Inv X pins σ H s) (hC:H C=none) (hb:X.s₀.heap.objs.size<=C) (hl:C≠X.env.locals) (hcl:∀ x c,X.env.cells.lookup x=some c->c≠C) (hp:∀ p∈X.pn++pins,p.1≠C)
  (hs:Heap.SameBut C s.heap h'):Inv X pins σ H { s with heap:=h' }:=by
 have hok:HOk X.prog X.w H h':=fun b ob e=>by
  refine (I.hok b ob e).stay (fun c w' hc q=>(hs.2 c ?_).trans q) (fun _ q=>q) fun _ _ q=>q
  rintro rfl;rcases hc with rfl | hc
  .rw [hC] at e;cases e
  .rw [hC] at hc;cases hc
 refine I.call' (s':={ s with heap:=h' }) (ch:=[C]) rfl ⟨fun b o e n hb hx=>?_,fun b o e n hb hx=>?_,fun b o e n hx=>n,fun b o e hx=>?_,fun b xs q=>q,fun b o u q=>q,fun b ps q=>⟨#[],by rw [Array.append_empty];exact q⟩⟩ hok I.bare fun b hbm=>?_
 .exact (hs.2 b fun z=>hx (by rw [z];simp)).trans e
 .exact ⟨o.slots,(hs.2 b fun z=>hx (by rw [z];simp)).trans e⟩
 .exact ⟨o,(hs.2 b fun z=>hx (by rw [z];simp)).trans e⟩
 .rw [List.mem_singleton.mp hbm];exact ⟨.inr hb,hl,hcl,hp⟩
variable {x:Str}
def QB {spos:Pos}{i:Nat}
  (hN:X.N.Nodup) (hi':X.N[i]?=some x) (hx:L2.Loc X.env.scope x) (hf:X.fn x=true\/X.env.scope.names.lookup x=some .local)
  (hsw:X.env.scope.kind=.function->swapsWith (.ListComp elt [⟨tg,iter,ifs,0⟩] scope pos) (some (.Name x pos')) spos.line X.env=pure true)
  (hc:X.calm=true) (hi:PI X tg iter wi) (S:ScOk X.env.scope scope)
  (hblk:∀ s₃ H₃ fp xe,PG (dg X scope s₃ H₃ fp xe) tg g/\PTs (dg X scope s₃ H₃ fp xe) ifs tt/\PE (dg X scope s₃ H₃ fp xe) elt te)
  (hs:∀ x,foldedSetIterable iter X.env x=pure x:=by intro _;rfl) :
  PS X (.Assign [.Name x pos'] (.ListComp elt [⟨tg,iter,ifs,0⟩] scope pos) spos) (WY (Dz wi g tt te (bA (cU X.N scope))) (Ec i)):=by
 intro pins s σ H D I h;rw [exec_Assign_Name_used x pos' _ spos (hsw I.ok.kind)];refine zz (wpAny_standAt (zz ?_));show wpAny _ _ (do let _ <- comprehension (.ListComp elt [⟨tg,iter,ifs,0⟩] scope pos) scope X.env iter.pos (newList []) false (eval iter X.env) (some (assign (.Name x pos') X.env));pure ()) _ _ s
 refine zz (xH (use:=some (assign (.Name x pos') X.env)) I h (fun {s3 H3 fp xe s6 H5 Da} I3 f3 I6 qn=>?_) hc hi S (Pb:=fun _=>True) (fun _ _ _ _ _ _=>trivial) (fun s₃ H₃ fp xe _=>hblk s₃ H₃ fp xe) hs);have I':Inv X pins σ H5 s6:=OJ I3 f3 I6 (h':=s6.heap) ⟨rfl,fun _ _=>rfl⟩;have hlt:X.env.locals < s3.heap.objs.size:=I3.lt;have cells:∀ y c,X.env.cells.lookup y=some c->c < s3.heap.objs.size:=fun y c e=>by
  obtain ⟨v,q⟩:=I3.cell y c e;exact q.lt
 refine wpAny_assign_Name (Gj I' hN hi' hx (v:=.ref Da) rfl (fun s'' I'' ⟨a,sb,ha⟩=>?_) hf);obtain ⟨m,hn,_⟩:=id I6.loc;have hCa:s3.heap.objs.size≠a:=by
  rcases ha with rfl | ha
  .exact vE hlt
  .exact vE (cells x a ha)
 refine ⟨m,hn.sameBut sb hCa,fun h' hsb=>?_⟩;refine z0 (z0 ⟨_,H5,?_,qn⟩);exact Xg I'' (C:=s3.heap.objs.size) I6.free I3.sz (vE hlt) (fun y c e=>vz (cells y c e)) (fun p hp=>vz (vx (I3.pin p hp).1)) hsb
end Mi
namespace Mi
open PySem
variable {h:Heap}{d it:Addr}{es:Array DictEntry}{ep i:Nat}{Q:Option Value->Shared->Prop}
section
variable {prog:Program}{w:World}{A:Around}{E:zb}{s:Shared}
def fX (h:Heap) (d:Addr) (es:Array DictEntry) (ep:Nat):Prop:=∃ o,h.get? d=some o/\o.ExactDict/\o.data=.dict es ep
theorem fX.keep {h':Heap} (x:fX h d es ep) (k:∀ o,h.get? d=some o->h'.get? d=some o):fX h' d es ep :=
 let ⟨o,e,r⟩:=x;⟨o,k o e,r⟩
theorem fX.lt (x:fX h d es ep):d < h.objs.size:=let ⟨_,e,_⟩:=x;vx e
theorem fX.ty (x:fX s.heap d es ep):s.TypeIs (.ref d) "dict":=let ⟨o,e,c,_⟩:=x; ⟨o,e,c.1⟩
def Kg {Q:zb} (hd:(d == sysModules)=false) (hm:fX s.heap d es ep)
  (hQ:Q (.ref s.heap.objs.size) { s with heap:=s.heap.push { cls:=.type "dict_keyiterator",data:=.fields #[.ref d,.int 0 0,.int es.size 0,.int ep 0] } }) :
  wpAny (model prog w) A (pyIter (.ref d)) Q E s:=by
 have hT:=hm.ty;obtain ⟨o,ho,hc,hdat⟩:=id hm;refine wpAny_pyIter_slot hT F.slot_dict_iter (ja F.slot_dict_iter hT F.entry_dict_iter ?_ (F.args_dict_iter_1 _));unfold Builtin.«dict.__iter__»;refine zz ?_;unfold Builtin.Dict.dictSlotNone;refine zz (wpAny_notOrdered_dict hT ?_);show wpAny _ _ (pure (Value.ref d)) _ _ s
 refine z0 ?_;show wpAny _ _ (Builtin.Dict.showsAll d >>= _) _ _ s
 unfold Builtin.Dict.showsAll;rw [if_neg (by rw [hd];exact Bool.false_ne_true)];refine zz (z0 ?_);refine zz (jK ho hdat ?_);refine zz (jN ho hdat ?_);refine zz (jI (z0 ⟨_,rfl,"dict_keyiterator",_,⟨_,vw _ rfl,rfl⟩,F.slot_dict_keyiterator_next.lookup,?_⟩))
 simpa [rawInt] using hQ
def Kh (hit:s.heap.IsKeyIter it d i es.size ep)
  (hm:fX s.heap d es ep) (hlt':i < es.size)
  (hQ:∀ h',h'.IsKeyIter it d (i+1) es.size ep->Heap.SameBut it s.heap h'->Q (some es[i].key) { s with heap:=h' }) :
  wpAny (model prog w) A (pyNext (.ref it)) Q E s:=by
 obtain ⟨o,ho,hc,hd⟩:=id hit;obtain ⟨od,hod,hcd,hdd⟩:=id hm;unfold pyNext;refine zz (wpAny_attempt (jb (name:=Str.ofString "__next__") hit.typeIs F.slot_dict_keyiterator_next
  (ja F.slot_dict_keyiterator_next hit.typeIs F.entry_dict_keyiterator_next ?_ (F.args_dict_keyiterator_next_1 _))))
 refine zz (z0 ?_);refine zz ?_;refine zz ?_
 first | refine zz (wpAny_typeNameOfWhole_keyiter hit.typeIs (z0 ?_)) | refine zz (wpAny_typeNameOf_keyiter hit.typeIs (z0 ?_))
 refine zz (wpAny_fieldsOf ho hd ?_);have hown:Builtin.Dict_items.ownsTuple "dict_keyiterator"=false:=by decide
 simp only [hown,Bool.false_eq_true,if_false];show wpAny _ _ (if (Value.ref d == Value.none)=true then _ else _) _ _ s
 rw [if_neg (show ¬ ((Value.ref d == Value.none)=true) from Bool.false_ne_true)];refine zz (z0 ?_);refine zz (jK hod hdd ?_);rw [if_neg (by simp)];refine zz (z0 ?_);refine zz (jN hod hdd ?_);rw [if_neg (by simp)];refine z0 ?_;simp only [show ¬ ((i:Int) < 0) from by omega,if_false,Int.toNat_natCast,Array.getElem?_eq_getElem hlt'];refine zz ?_
 first | refine zz (wpAny_typeNameOfWhole_keyiter hit.typeIs (z0 ?_)) | refine zz (wpAny_typeNameOf_keyiter hit.typeIs (z0 ?_))
 refine zz (wpAny_isOneOf_keyiter hit.typeIs ?_);show wpAny _ _ (setField (.ref it) 1 (rawInt ((i:Int)+1)) >>= _) _ _ s
 refine zz (jy ho hd (by simp) ?_);have hit':(s.heap.update it (Obj.mapFields (·.setIfInBounds 1 (rawInt ((i:Int)+1))))).IsKeyIter it d (i+1) es.size ep :=
  ⟨_,ya _ ho (Obj.isFreed_of_fields (Obj.data_mapFields hd _)),(Obj.cls_mapFields ..).trans hc,by rw [Obj.data_mapFields hd];simp [rawInt]⟩
 refine zz (wpAny_holding ?_);refine zz (wpAny_isOneOf_keyiter (s:={ s with heap:=s.heap.update it (Obj.mapFields (·.setIfInBounds 1 (rawInt ((i:Int)+1)))) }) hit'.typeIs ?_);show wpAny _ _ (pure es[i].key) _ _ _
 exact z0 (z0 ⟨_,rfl,z0 (hQ _ hit' (jv ..))⟩)
def Nx (hh:A.handled=none) (hit:s.heap.IsKeyIter it d i es.size ep)
  (hm:fX s.heap d es ep) (hge:es.size<=i)
  (hQ:∀ h',Heap.ExtBut it s.heap h'->Q none { s with heap:=h' }):wpAny (model prog w) A (pyNext (.ref it)) Q E s:=by
 obtain ⟨o,ho,hc,hd⟩:=id hit;obtain ⟨od,hod,hcd,hdd⟩:=id hm;unfold pyNext;refine zz (wpAny_attempt (jb (name:=Str.ofString "__next__") hit.typeIs F.slot_dict_keyiterator_next
  (ja F.slot_dict_keyiterator_next hit.typeIs F.entry_dict_keyiterator_next ?_ (F.args_dict_keyiterator_next_1 _))))
 refine zz (z0 ?_);refine zz ?_;refine zz ?_
 first | refine zz (wpAny_typeNameOfWhole_keyiter hit.typeIs (z0 ?_)) | refine zz (wpAny_typeNameOf_keyiter hit.typeIs (z0 ?_))
 refine zz (wpAny_fieldsOf ho hd ?_);have hown:Builtin.Dict_items.ownsTuple "dict_keyiterator"=false:=by decide
 simp only [hown,Bool.false_eq_true,if_false];show wpAny _ _ (if (Value.ref d == Value.none)=true then _ else _) _ _ s
 rw [if_neg (show ¬ ((Value.ref d == Value.none)=true) from Bool.false_ne_true)];refine zz (z0 ?_);refine zz (jK hod hdd ?_);rw [if_neg (by simp)];refine zz (z0 ?_);refine zz (jN hod hdd ?_);rw [if_neg (by simp)];refine z0 ?_;simp only [show ¬ ((i:Int) < 0) from by omega,if_false,Int.toNat_natCast,Array.getElem?_eq_none hge];refine zz ?_
 first | refine zz (wpAny_typeNameOfWhole_keyiter hit.typeIs (z0 ?_)) | refine zz (wpAny_typeNameOf_keyiter hit.typeIs (z0 ?_))
 show wpAny _ _ (setField (.ref it) 0 .none >>= _) _ _ s
 refine zz (jy ho hd (by simp) ?_);show wpAny _ _ (newExc (.type "StopIteration") [] >>= _) _ _ _
 refine zz ?_;simp only [newExc,newTuple];refine zz (jI ?_ (by size_fits));refine zz (m:=firstArgMember _ _) (wpAny_of_eq (a:=Value.none) (by first | rfl | (simp only [firstArgMember];rfl)) ?_);refine jI ?_ (by size_fits);simp only [raiseNew];refine zz (wpAny_handled ?_);rw [show A.in1.handled=none from hh];refine zz (z0 (wpAny_throw ?_));refine zz (wpAny_isInstance (T:="StopIteration") (b:=true) ⟨_,vw _ rfl,rfl⟩ isSubtype_stop ?_)
 exact z0 (hQ _ (((jv ..).extBut.push _).push _))
theorem V3 (hh:A.handled=none) (I d:Addr) (hne:d≠I) (es:Array DictEntry) (ep:Nat) :
  Walks prog w A I [I,d] [I] es.size (fun i v=>∃ h:i < es.size,v=es[i].key) (fun i h=>h.IsKeyIter I d i es.size ep/\fX h d es ep) where
 sub:=fun b hb=>by simp at hb;simp [hb]
 frame:=fun _ _ _ st hk=>⟨st.1.at fun o e=>hk I (by simp) o e,st.2.keep fun o e=>hk d (by simp) o e⟩
 item:=fun i s Q E hi st hQ=>by
  refine Kh st.1 st.2 hi fun h' hit' hs'=>?_
  exact hQ _ h' s.toks ⟨hi,rfl⟩ ⟨hit',st.2.keep fun o e=>hs'.extBut d o hne e⟩ fun b o hb e=>hs'.extBut b o (fun h=>hb (by simp [h])) e
 done:=fun s Q E st hQ=>Nx hh st.1 st.2 (vy _) fun h' he'=>hQ h' s.toks fun b o hb e=>he' b o (fun h=>hb (by simp [h])) e
 self:=fun _ _ _ _ st hQ=>wpAny_pyIter_keyiter st.1 hQ
def YJ (lo:(d == sysModules)=false):PySem.W.KdlSrc prog w "dict" d d es.size (fun i v=>∃ h:i < es.size,v=es[i].key) (fun h=>fX h d es ep) where
 type:=fun _ hm=>hm.ty
 there:=fun _ hm=>⟨hm.lt,hm.lt⟩
 keep:=fun _ _ hm hk=>hm.keep fun o e=>hk d (.inl rfl) o e
 notList:=by decide
 notTuple:=by decide
 hint:=fun _ _ _ _ hm hq=>PySem.W.kdl_hint_dict hm.ty hq
 iter:=fun _ _ hh hm=>⟨_,_,(fun _ _ hq=>Kg lo hm hq),V3 hh _ d (vz hm.lt) es ep,⟨⟨_,vw _ rfl,rfl,rfl⟩,hm.keep fun _ e=>vn _ e⟩⟩
end
end Mi
namespace Mi
open PySem L2
open PyProof.Rows hiding St
open PySem.AutoSeq1 (wpAny_loadPart')
variable {it l:Addr}{i:Nat}{Q:zb}
section
variable {prog:Program}{w:World}{A:Around}{E:zb}{s:Shared}
def pU {items}{x:Value} (hit:s.heap.IsTupleIter it l i)
  (hl:s.heap.IsTuple l items) (hx:items[i]?=some x)
  (hQ:∀ h',h'.IsTupleIter it l (i+1)->Heap.SameBut it s.heap h'->Q x { s with heap:=h' }) :
  wpAny (model prog w) A (Builtin.SmallTypes.nextOf (.ref it)) Q E s:=by
 obtain ⟨o,ho,hc,hd⟩:=id hit;obtain ⟨ol,hol,_,nl,hdl⟩:=hl;unfold Builtin.SmallTypes.nextOf;refine zz (jb (name:=Str.ofString "__next__") hit.typeIs F.slot_tuple_iterator_next
  (ja F.slot_tuple_iterator_next hit.typeIs F.entry_tuple_iterator_next ?_ (F.args_tuple_iterator_next_1 _)))
 show wpAny _ _ (field (.ref it) 0 >>= _) _ _ s
 refine zz (jp ho hd (x:=.ref l) rfl ?_);show wpAny _ _ (if (Value.ref l == Value.none)=true then _ else _) _ _ s
 rw [if_neg (show ¬ ((Value.ref l == Value.none)=true) from Bool.false_ne_true)];show wpAny _ _ (field (.ref it) 1 >>= _) _ _ s
 refine zz (jp ho hd (x:=.int i 0) rfl ?_);show wpAny _ _ (seqItems? (.ref l) >>= _) _ _ s
 refine zz (wpAny_seqItems hol hdl ?_);simp only [Int.toNat_natCast,hx];refine zz (jy ho hd (by simp) (z0 ⟨x,rfl,z0 (hQ _ ?_ (jv ..))⟩));exact ⟨_,ya _ ho (Obj.isFreed_of_fields (Obj.data_mapFields hd _)),(Obj.cls_mapFields ..).trans hc,by
  rw [Obj.data_mapFields hd];simp [rawInt]⟩
def xY {items} (hh:A.handled=none)
  (hit:s.heap.IsTupleIter it l i) (hl:s.heap.IsTuple l items) (hx:items[i]?=none)
  (hE:∀ h' e,Heap.ExtBut it s.heap h' -> (∃ o,h'.get? e=some o /\ o.cls=.type "StopIteration") -> E (.ref e) { s with heap:=h' }) :
  wpAny (model prog w) A (Builtin.SmallTypes.nextOf (.ref it)) Q E s:=by
 obtain ⟨o,ho,hc,hd⟩:=id hit;obtain ⟨ol,hol,_,nl,hdl⟩:=hl;unfold Builtin.SmallTypes.nextOf;refine zz (jb (name:=Str.ofString "__next__") hit.typeIs F.slot_tuple_iterator_next
  (ja F.slot_tuple_iterator_next hit.typeIs F.entry_tuple_iterator_next ?_ (F.args_tuple_iterator_next_1 _)))
 show wpAny _ _ (field (.ref it) 0 >>= _) _ _ s
 refine zz (jp ho hd (x:=.ref l) rfl ?_);show wpAny _ _ (if (Value.ref l == Value.none)=true then _ else _) _ _ s
 rw [if_neg (show ¬ ((Value.ref l == Value.none)=true) from Bool.false_ne_true)];show wpAny _ _ (field (.ref it) 1 >>= _) _ _ s
 refine zz (jp ho hd (x:=.int i 0) rfl ?_);show wpAny _ _ (seqItems? (.ref l) >>= _) _ _ s
 refine zz (wpAny_seqItems hol hdl ?_);simp only [Int.toNat_natCast,hx];refine zz (wpAny_rule (zz (jy ho hd (by simp) ?_)));show wpAny _ _ (newExc (.type "StopIteration") [] >>= _) _ _ _
 refine zz ?_;simp only [newExc,newTuple];refine zz (jI ?_ (by size_fits));refine zz (m:=firstArgMember _ _) (wpAny_of_eq (a:=Value.none) (by first | rfl | (simp only [firstArgMember];rfl)) ?_);refine jI ?_ (by size_fits);simp only [raiseNew];refine zz (wpAny_handled ?_)
 first | rw [show A.in1.handled=none from hh] | rw [hh]
 refine zz (z0 (wpAny_throw ?_));exact hE _ _ (((jv ..).extBut.push _).push _) ⟨_,vw _ rfl,rfl⟩
theorem JQ (hh:A.handled=none) (it l:Addr) (hne:l≠it) (items:zt) :
  Draws prog w A it [it,l] items.size (fun i v=>items[i]?=some v) (fun i h=>h.IsTupleIter it l i/\h.IsTuple l items) where
 live:=fun _ _ st=>let ⟨o,ho,_⟩:=st.1;⟨o,ho⟩
 frame:=fun _ _ _ st hk=>⟨let ⟨o,e,r⟩:=st.1;⟨o,hk it (by simp) o e,r⟩,let ⟨o,e,r⟩:=st.2;⟨o,hk l (by simp) o e,r⟩⟩
 item:=fun i s Q E hi st hQ=>by
  refine pU st.1 st.2 (x:=items[i]) (by simp [hi]) fun h' hit' hs'=>?_
  exact hQ _ h' s.toks (by simp [hi]) ⟨hit',st.2.extBut hs'.extBut hne⟩ hs'
 done:=fun s Q E st hE=>xY hh st.1 st.2 (by simp) hE
end
theorem Sy (l:Addr) (items:zt) (n:Nat) (dct:zv) (sl:zw) :
  Meets (Builtin.«enumerate.__new__» ⟨[.type "enumerate",.ref l],[]⟩) (fun _ R s=>s.heap.get? l=some { cls:=.type "tuple",dict:=dct,data:=.seq items n,slots:=sl } /\
   R (.ok (.ret (.ref (s.heap.push { cls:=.type "tuple_iterator",data:=.fields #[.ref l,.int 0 0] }).objs.size)))
    { s with heap:=(s.heap.push { cls:=.type "tuple_iterator",data:=.fields #[.ref l,.int 0 0] }).push { cls:=.type "enumerate",data:=.fields #[.none,.bool false,.ref s.heap.objs.size,rawInt 0,.none,.none] } }) :=
 .of_wp fun prog w A R s h=>by
  obtain ⟨hp,g,d,tk,os⟩:=s;obtain ⟨hl,h⟩:=h;have hsub:=sub_enumerate;have hL:Heap.IsTuple (Shared.heap ⟨hp,g,d,tk,os⟩) l items:=⟨_,hl,rfl,n,rfl⟩
  wp_walk using wpAny_loadPart' hl
  refine wpAny_stack_any fun st=>z0 ?_
  split
  .rename_i c _ _ _ _ _;cases (c == Value.type "enumerate")
   .wp_walk using wpAny_loadPart' hl,wpAny_pyIter_tuple hL
    exact ⟨_,rfl,h⟩
   .wp_walk using wpAny_loadPart' hl,wpAny_pyIter_tuple hL
    exact ⟨_,rfl,h⟩
  .wp_walk using wpAny_loadPart' hl,wpAny_pyIter_tuple hL
   exact ⟨_,rfl,h⟩
section
variable {prog:Program}{w:World}{A:Around}{E:zb}{s:Shared}
def DN {items:zt} (hL:s.heap.IsTuple l items)
  (h:∀ h',IsEnum h' (s.heap.objs.size+1) s.heap.objs.size 0 .none->h'.IsTupleIter s.heap.objs.size l 0->h'.objs.size=s.heap.objs.size+2 ->
   (∀ b o,s.heap.get? b=some o->h'.get? b=some o)->Q (.ref (s.heap.objs.size+1)) { s with heap:=h' }) :
  wpAny (model prog w) A (call (.type "enumerate") [.ref l]) Q E s:=by
 obtain ⟨⟨c,dct,dt,sl⟩,hl,hc,n,hd⟩:=hL;replace hc:c=.type "tuple":=hc
 replace hd:dt=.seq items n:=hd;subst hc hd;refine callType_new F.called_enumerate (by decide) (F.typeCall_enumerate_1 _) (F.newCall_enumerate_1 _) (fun obj=>F.args_object_init_2 obj _) F.entry_enumerate_new
  (Sy l items n dct sl) ⟨hl,?_⟩
 have hz:(s.heap.push { cls:=.type "tuple_iterator",data:=.fields #[.ref l,.int 0 0] }).objs.size=s.heap.objs.size+1:=Heap.size_push ..
 show _/\_
 rw [hz];have he:IsEnum ((s.heap.push { cls:=.type "tuple_iterator",data:=.fields #[.ref l,.int 0 0] }).push
   { cls:=.type "enumerate",data:=.fields #[.none,.bool false,.ref s.heap.objs.size,rawInt 0,.none,.none] }) (s.heap.objs.size+1) s.heap.objs.size 0 .none:=by
  have:=vw (s.heap.push { cls:=.type "tuple_iterator",data:=.fields #[.ref l,.int 0 0] })
   (o:={ cls:=.type "enumerate",data:=.fields #[.none,.bool false,.ref s.heap.objs.size,rawInt 0,.none,.none] }) rfl
  rw [hz] at this;exact this
 refine ⟨⟨_,he,rfl⟩,h _ he ⟨_,vn _ (vw _ rfl),rfl,rfl⟩ (by rw [Heap.size_push,hz]) fun b o x=>vn _ (vn _ x)⟩
end
def yH:bootBuiltins "enumerate"=some (.type "enumerate"):=by decide +kernel
def Ite (Sq:Hp->List V->Prop):It :=
 ⟨fun i H=>∃ xs x,Sq H xs/\xs[i]?=some x,
  fun i H x H'=>∃ p y,H p=none/\x=.ref p/\H'=upd H p (.tup [.int i,y])/\∀ xs,Sq H xs->xs[i]?=some y,
  fun i H=>∃ xs,Sq H xs/\xs.length=i⟩
variable {P:Program}{w:World}{K:zd}{els:zl}{x1:Nat}{tpos:Pos}
def GQ {Sq:Hp->List V->Prop}{Ir:Nat->Heap->Prop}{Sh:Heap->zt->Prop} (a e it:Addr) (hei:e≠it)
  (h1:∀ i h,Ir i h->∃ o,h.get? it=some o/\(∀ v,o.data≠.cell v)/\∀ h',h'.get? it=some o->Ir i h')
  (h2:∀ (X:Cx) pins σ H s xs,X.K=K->Inv X pins σ H s->Sq H xs->∃ its:zg,Vals xs its/\Sh s.heap its.toArray/\∀ ys,Sq H ys->ys=xs)
  (h3:∀ i h its old,Ir i h->Sh h its->IsEnum h e it i old->a≠it/\e≠a)
  (h4:∀ (A:Around),A.handled=none->a≠it->∀ its:zt,Draws P w A it [it,a] its.size (fun i v=>its[i]?=some v) (fun i h=>Ir i h/\Sh h its)) :
  Turn P w K (.Tuple els x1 tpos) (Ite Sq) [e,it] e (fun i h=>(∃ old,IsEnum h e it i old)/\Ir i h) where
 mem:=by simp
 obj:=fun i h st b hb=>by
  obtain ⟨⟨old,he⟩,st⟩:=st;obtain ⟨o,e1,d,_⟩:=h1 i h st;rcases vR.mp hb with z | z
  .subst z;exact ⟨_,he,fun v q=>by cases q⟩
  .have z':=yY.mp z;subst z';exact ⟨o,e1,d⟩
 keep:=fun i h h' st k=>by
  obtain ⟨⟨old,he⟩,st⟩:=st;obtain ⟨o,e1,_,d⟩:=h1 i h st;exact ⟨⟨old,k e (by simp) _ he⟩,d _ (k it (by simp) _ e1)⟩
 item:=by
  intro X hP hw hK hc i pins s σ H E I hf st hg;subst hP hw hK;obtain ⟨xs,x,hq,hx⟩:=hg;obtain ⟨its,rv,p',inj⟩:=h2 X pins σ H s xs rfl I hq;obtain ⟨u,hu,ru⟩:=rv.get hx;obtain ⟨⟨old,he⟩,hb⟩:=st;obtain ⟨o1,q1,_,_⟩:=h1 i _ hb;obtain ⟨hai,hea⟩:=h3 i _ _ _ hb p' he;have hil:i < its.toArray.size:=by
   have h1:=(yB.mp hu).1;simpa using h1
  have D:=h4 X.A.in1 (I.ok.hd hc) hai its.toArray;refine wpAny_pyNext_enum_itemD D he ⟨hb,p'⟩ hil hei (by simp [hei,hea]) fun x' h' tk hPx hout hst' hT hsz hk=>?_
  have ex:x'=u:=by
   have z:its.toArray[i]?=some u:=by simpa using hu
   have hPx':its.toArray[i]?=some x':=hPx;rw [z] at hPx';exact (jr hPx').symm
  subst ex;refine ⟨.ref s.heap.objs.size,rfl,wpAny_letOwnedTupleGo_enum (s:={ s with heap:=h',toks:=tk+1 }) hout fun h2 hEn hSame=>?_⟩;have hSame':Heap.SameBut e h' h2:=hSame;have elt:e < s.heap.objs.size:=vx he;have ilt:it < s.heap.objs.size:=vx q1;have kp:∀ b o,b≠e->b≠it->s.heap.get? b=some o->h2.get? b=some o:=fun b o n1 n2 q=>hSame'.extBut b o n1 (hk b o n1 n2 q)
  obtain ⟨fe0,fe1,fe2,fe3,fe4,fe5⟩:=hf e (by simp);obtain ⟨fi0,fi1,fi2,fi3,fi4,fi5⟩:=hf it (by simp);have hTn:H s.heap.objs.size=none:=I.hok.fresh (vy _);have nT:∀ b o,s.heap.get? b=some o->b≠s.heap.objs.size:=fun b o q=>vz (vx q)
  have hTo:h2.get? s.heap.objs.size=some { cls:=.type "tuple",data:=.seq #[.int i tk,x'] }:=hSame'.extBut _ _ (vE elt) hT
  have nch:∀ b,b ∉ ([e,it]:List Addr)->b≠e/\b≠it:=fun b hb=>by simp at hb;exact hb
  have I2:Inv X pins σ (upd H s.heap.objs.size (.tup [.int i,x])) { s with heap:=h2,toks:=tk+1 }:=by
   refine I.step (g':=s.gens) (d':=s.drawn) (ch:=[e,it]) (fun b hb=>?_) (fun b o _ _ hc q _=>kp b o (nch b hc).1 (nch b hc).2 q) (fun b o _ _ hc q _=>⟨o.slots,kp b o (nch b hc).1 (nch b hc).2 q⟩) (fun b o _ q n=>by rw [ao (nT b o q)];exact n)
    (fun b o hc q=>⟨o,kp b o (nch b hc).1 (nch b hc).2 q⟩) (fun b ys q=>by rw [ao (ak q hTn)];exact q) (fun b o u q=>by rw [ao (ak q hTn)];exact q) (fun b ps q=>⟨#[],by rw [ao (ak q hTn),q];simp⟩) (fun m hm=>?_) (fun b u q=>?_) I.bare
   .rcases vR.mp hb with z | z
    .subst z;exact ⟨fe3,fe1,fe4,fe5⟩
    .have z':=yY.mp z;subst z';exact ⟨fi3,fi1,fi4,fi5⟩
   .obtain ⟨o,es,ep,ho,r⟩:=hm;exact ⟨o,es,ep,kp _ o (Ne.symm fe1) (Ne.symm fi1) ho,r⟩
   .by_cases hbT:b=s.heap.objs.size
    .subst hbT;rw [aA] at q;cases q;exact ⟨by show 2<=sizeLine;decide,[.int i tk,x'],.cons ⟨tk,rfl⟩ (.cons ru .nil),⟨_,hTo,rfl,_,rfl⟩⟩
    .rw [ao hbT] at q;have nb:∀ c v,H c=some v->c≠e/\c≠it:=fun c v z=>⟨ak z fe0,ak z fi0⟩
     refine (I.hok b u q).stay (fun c v hc r=>?_) (fun c r=>by rw [ao (ak r hTn)];exact r) (fun c ys r=>by rw [ao (ak r hTn)];exact r) (fun c _ r _=>by rw [ao (ak r hTn)];exact r);have nc:c≠e/\c≠it:=by
      rcases hc with z | z
      .rw [z];exact nb b u q
      .exact nb c _ z
     exact kp c v nc.1 nc.2 r
  refine ⟨.ref s.heap.objs.size,_,I2,rfl,⟨s.heap.objs.size,x,hTn,rfl,rfl,fun ys hy=>by rw [inj ys hy];exact hx⟩,⟨⟨x',by simpa using hEn⟩,?_⟩,fun b hb=>?_⟩
  .obtain ⟨o,q,_,k⟩:=h1 _ _ hst'.1;exact k _ (hSame'.extBut _ _ (Ne.symm hei) q)
  .rcases vR.mp hb with z | z
   .subst z;rw [ao (Nat.ne_of_lt elt)];exact fe0
   .have z':=yY.mp z;subst z';rw [ao (Nat.ne_of_lt ilt)];exact fi0
 done:=by
  intro X hP hw hK hc i pins s σ H E I hf st hg;subst hP hw hK;obtain ⟨xs,hq,hx⟩:=hg;obtain ⟨its,rv,p',_⟩:=h2 X pins σ H s xs rfl I hq;obtain ⟨⟨old,he⟩,hb⟩:=st;have hai:=(h3 i _ _ _ hb p' he).1;obtain ⟨fi0,fi1,fi2,fi3,fi4,fi5⟩:=hf it (by simp);have D:=h4 X.A.in1 (I.ok.hd hc) hai its.toArray;have hl:=rv.length;have en:i=its.toArray.size:=by simp;omega
  subst en;exact wpAny_pyNext_enum_endD D he ⟨hb,p'⟩ fun h' eb=>⟨rfl,I.turned (t':=s.toks) (fun b o hb e=>eb b o hb e) fi0 fi1 fi3 fi4 fi5⟩
 self:=fun _ _ _ _ _ st h=>by
  obtain ⟨⟨old,he⟩,_⟩:=st;exact wpAny_pyIter_enum he h
variable {a:Addr}
theorem Dl {e:Addr}{h:Heap}{old:Value}{o1 o2:Obj} (q1:h.get? it=some o1) (q2:h.get? a=some o2) (he:IsEnum h e it i old) (c:o2.cls ≠ o1.cls) (c':o2.cls ≠ .type "enumerate"):a ≠ it /\ e ≠ a :=
 ⟨fun z=>by subst z;rw [q1] at q2;cases q2;exact c rfl,fun z=>by
  subst z;have he':h.get? e=some _:=he;rw [q2] at he';exact c' (congrArg Obj.cls (jr he'))⟩
def Q8 (K:zd) (a:Addr):It:=Ite fun H xs=>SqT K H a xs
theorem Ql (a e it:Addr) (hei:e≠it):Turn P w K (.Tuple els x1 tpos) (Q8 K a) [e,it] e (fun i h=>(∃ old,IsEnum h e it i old)/\h.IsTupleIter it a i) :=
 GQ (Sh:=fun h its=>h.IsTuple a its) a e it hei (fun i h ⟨o,e1,c,d⟩=>⟨o,e1,fun v q=>(by rw [d] at q;cases q),fun h' z=>⟨o,z,c,d⟩⟩)
  (fun X pins σ H s xs k I q=>by
   subst k;obtain ⟨its,rv,p,_⟩:=I.tuple q;exact ⟨its,rv,p,fun ys z=>I.tuple_inj z q⟩)
  (fun i h its old ⟨o1,q1,c1,_⟩ ⟨o2,q2,c2,_⟩ he=>Dl q1 q2 he (by rw [c1,c2];simp) (by rw [c2];simp))
  fun A hh hai its=>JQ hh it a hai its
variable {pins:w4}{σ:St}{H:Hp}{s:Shared}{xs:List V}{E:zb}{ta:TA}{p pos:Pos}
section
variable {X:Cx}
def abn (K:zd) (ta:TA):TI:=fun σ H R=>ta σ H fun vs H1=>∃ a xs,vs=[.ref a]/\SqT K H1 a xs/\R (Q8 K a) H1
def Wa {R:It->Hp->Prop} (I:Inv X pins σ H s) (hq:SqT X.K H a xs) (q:R (Q8 X.K a) H) :
  wpAny (model X.prog X.w) X.A (call (.type "enumerate") [.ref a]) (fun v s1=>wpAny (model X.prog X.w) X.A (pyIter v) (PIE X pins σ (.Tuple els x1 tpos) R) E s1) E s:=by
 obtain ⟨its,rv,p,hz⟩:=I.tuple hq;have p':s.heap.IsTuple a its.toArray:=p;refine DN p' fun h' he hit hsz hk=>?_
 refine wpAny_pyIter_enum (s:={ s with heap:=h' }) he ?_;have I1:Inv X pins σ H { s with heap:=h' }:=I.kept (t':=s.toks) hk;refine ⟨s.heap.objs.size+1,[s.heap.objs.size+1,s.heap.objs.size],_,_,H,rfl,I1,Ql a (s.heap.objs.size+1) s.heap.objs.size (by exact Nat.succ_ne_self _),⟨⟨_,he⟩,hit⟩,fun b hb=>?_,q⟩;rcases vR.mp hb with z | z
 .subst z;exact I.fpOk (Nat.le_succ _) (I.hok.fresh (Nat.le_succ _))
 .have z':=yY.mp z;subst z';exact I.fpOk (vy _) (I.hok.fresh (vy _))
def W8 {a:Expr} (hg:Gl X "enumerate") (hm:X.mg "enumerate"=none) (ha:PA X [a] ta) (hs:starEach [a] X.env=[(false,eval a X.env)]:=by rfl) :
  PI X (.Tuple els x1 tpos) (.Call (.Name "enumerate" p) [a] [] pos) (abn X.K ta):=by
 intro pins s σ H R I h;refine Call_ (jP I hg hm yH (jn (thn (ha pos pins s σ H _ I h) fun us s1 ⟨vs,H1,I1,r1,q1⟩=>?_) hs rfl));obtain ⟨b,xs,rfl,hq,q⟩:=q1;obtain ⟨u,rfl,ru⟩:=vals1 r1;cases ru;exact Wa I1 hq q
end
def Qh (K:zd) (a:Addr):It:=Ite fun H xs=>SqL K H a xs
theorem QF (a e it:Addr) (hei:e≠it):Turn P w K (.Tuple els x1 tpos) (Qh K a) [e,it] e (fun i h=>(∃ old,IsEnum h e it i old)/\h.IsListIter it a i) :=
 GQ (Sh:=fun h its=>h.IsList a its) a e it hei (fun i h ⟨o,e1,c,d⟩=>⟨o,e1,fun v q=>(by rw [d] at q;cases q),fun h' z=>⟨o,z,c,d⟩⟩)
  (fun X pins σ H s xs k I q=>by
   subst k;obtain ⟨its,rv,p,_⟩:=I.list q;exact ⟨its,rv,p.isList,fun ys z=>I.list_inj z q⟩)
  (fun i h its old ⟨o1,q1,c1,_⟩ ⟨o2,q2,c2,_⟩ he=>Dl q1 q2 he (by rw [c1,c2];simp) (by rw [c2];simp))
  fun A hh hai its=>PySem.Draws.list hh it a hai its
section
variable {X:Cx}
def abq (K:zd) (ta:TA):TI:=fun σ H R=>ta σ H fun vs H1=>∃ a xs,vs=[.ref a]/\SqL K H1 a xs/\R (Qh K a) H1
def Wh {R:It->Hp->Prop} (I:Inv X pins σ H s) (hq:SqL X.K H a xs) (q:R (Qh X.K a) H) :
  wpAny (model X.prog X.w) X.A (call (.type "enumerate") [.ref a]) (fun v s1=>wpAny (model X.prog X.w) X.A (pyIter v) (PIE X pins σ (.Tuple els x1 tpos) R) E s1) E s:=by
 obtain ⟨its,rv,p,hz⟩:=I.list hq;have p':s.heap.IsList a its.toArray:=p.isList;refine call_enumerate_list p' fun h' he hit hsz hk=>?_
 refine wpAny_pyIter_enum (s:={ s with heap:=h' }) he ?_;have I1:Inv X pins σ H { s with heap:=h' }:=I.kept (t':=s.toks) hk;refine ⟨s.heap.objs.size+1,[s.heap.objs.size+1,s.heap.objs.size],_,_,H,rfl,I1,QF a (s.heap.objs.size+1) s.heap.objs.size (by exact Nat.succ_ne_self _),⟨⟨_,he⟩,hit⟩,fun b hb=>?_,q⟩;rcases vR.mp hb with z | z
 .subst z;exact I.fpOk (Nat.le_succ _) (I.hok.fresh (Nat.le_succ _))
 .have z':=yY.mp z;subst z';exact I.fpOk (vy _) (I.hok.fresh (vy _))
def Va {a:Expr} (hg:Gl X "enumerate") (hm:X.mg "enumerate"=none) (ha:PA X [a] ta) (hs:starEach [a] X.env=[(false,eval a X.env)]:=by rfl) :
  PI X (.Tuple els x1 tpos) (.Call (.Name "enumerate" p) [a] [] pos) (abq X.K ta):=by
 intro pins s σ H R I h;refine Call_ (jP I hg hm yH (jn (thn (ha pos pins s σ H _ I h) fun us s1 ⟨vs,H1,I1,r1,q1⟩=>?_) hs rfl));obtain ⟨b,xs,rfl,hq,q⟩:=q1;obtain ⟨u,rfl,ru⟩:=vals1 r1;cases ru;exact Wh I1 hq q
end
end Mi
namespace Mi
open PySem L2
open PyProof.Rows hiding St
theorem Mt {M:Model}{A:Around}{E:zb}{s:Shared}{a:Addr}{Q:Option Obj->Shared->Prop} (h:Q (s.heap.get? a) s):wpAny M A (loadIfAlive a) Q E s:=fun _ _ _=>h
abbrev jd (h:Heap) (e it:Addr) (i:Int) (T:Addr) (b:Bool) (old:Value):Prop :=
 h.get? e=some { cls:=.type "enumerate",dict:=none,data:=.fields #[rawInt T,.bool b,.ref it,rawInt i,.none,old],slots:=#[] }
variable {e it T0:Addr}{fp:List Addr}{n i:Nat}{P:Nat->Value->Prop}{Sx:Nat->Heap->Prop}{old:Value}{b0:Bool}{Q:Option Value->Shared->Prop}
section
variable {prog:Program}{w:World}{A:Around}{E:zb}{s:Shared}
def Pz {o0:Obj}{Q:zb}
  (D:Draws prog w A it fp n P Sx) (he:jd s.heap e it i T0 b0 old) (hT0:s.heap.get? T0=some o0) (nT0e:T0≠e) (nT0i:T0≠it) (hst:Sx i s.heap) (hlt:i < n) (hne:e≠it) (hef:e ∉ fp)
  (hQ:∀ x h' tk,P i x->jd h' e it ((i:Int)+1) T0 true old->Sx (i+1) h' ->
   h'.get? s.heap.objs.size=some { cls:=.type "tuple",data:=.seq #[.int i tk,x] } -> h'.objs.size=s.heap.objs.size+1 ->
   (∀ b o,b≠e->b≠it->s.heap.get? b=some o->h'.get? b=some o)->Q (.ref s.heap.objs.size) { s with heap:=h',toks:=tk+1 }) :
  wpAny (model prog w) A (Builtin.«enumerate.__next__» ⟨[.ref e],[]⟩) (fun fin s'=>∃ v,fin=.done (.ret v)/\Q v s') E s:=by
 obtain ⟨hp,g,d,tk₀,os⟩:=s;show wpAny _ _ (field (.ref e) 2 >>= _) _ _ _
 refine zz (jp he rfl (x:=.ref it) rfl ?_);refine zz (D.item i _ _ _ hlt hst fun x h₁ tk hPx hit₁ hs₁=>?_);replace hs₁:Heap.SameBut it hp h₁:=hs₁;have he₁:jd h₁ e it i T0 b0 old:=(hs₁.2 e hne).trans he;show wpAny _ _ (field (.ref e) 3 >>= _) _ _ ⟨h₁,g,d,tk,os⟩
 refine zz (jp he₁ rfl (x:=rawInt i) rfl ?_);show wpAny _ _ (field (.ref e) 4 >>= _) _ _ ⟨h₁,g,d,tk,os⟩
 refine zz (jp he₁ rfl (x:=.none) rfl ?_);show wpAny _ _ (mkInt i >>= _) _ _ ⟨h₁,g,d,tk,os⟩
 refine zz (wpAny_mkInt ?_);show wpAny _ _ (setField (.ref e) 3 (rawInt ((i:Int)+1)) >>= _) _ _ ⟨h₁,g,d,tk+1,os⟩
 refine zz (wpAny_setField_rec he₁ (by simp) fun h₂ he₂ hs₂=>?_);replace hs₂:Heap.SameBut e h₁ h₂:=hs₂;replace he₂:jd h₂ e it ((i:Int)+1) T0 b0 old:=he₂;show wpAny _ _ (setField (.ref e) 4 .none >>= _) _ _ ⟨h₂,g,d,tk+1,os⟩
 refine zz (wpAny_setField_rec he₂ (by simp) fun h₃ he₃ hs₃=>?_);replace hs₃:Heap.SameBut e h₂ h₃:=hs₃;replace he₃:jd h₃ e it ((i:Int)+1) T0 b0 old:=he₃;show wpAny _ _ (newTuple [.int i tk,x] >>= _) _ _ ⟨h₃,g,d,tk+1,os⟩
 refine zz (wpAny_newTuple ?_);have he₄:jd (h₃.push { cls:=.type "tuple",data:=.seq #[.int i tk,x] }) e it ((i:Int)+1) T0 b0 old:=vn _ he₃
 generalize hh₄:h₃.push { cls:=.type "tuple",data:=.seq #[.int i tk,x] }=h₄ at he₄
 have hsz:h₃.objs.size=hp.objs.size:=by rw [hs₃.1,hs₂.1,hs₁.1]
 have hel:e < hp.objs.size:=vx he;have ht₄:h₄.get? hp.objs.size=some { cls:=.type "tuple",data:=.seq #[.int i tk,x] }:=by rw [<- hh₄,<- hsz]; exact vw _ rfl
 have hz₄:h₄.objs.size=hp.objs.size+1:=by rw [<- hh₄,Heap.size_push,hsz]
 have hk₄:∀ b o,b≠e->b≠it->hp.get? b=some o->h₄.get? b=some o:=fun b o hbe hbi hb=>by
  rw [<- hh₄];exact vn _ (hs₃.extBut b o hbe (hs₂.extBut b o hbe (hs₁.extBut b o hbi hb)))
 have hit₄:Sx (i+1) h₄:=D.frame _ _ _ hit₁ fun b hb o y=>by
  have hbe:b≠e:=fun q=>hef (q ▸ hb)
  rw [<- hh₄];exact vn _ (hs₃.extBut b o hbe (hs₂.extBut b o hbe y))
 show wpAny _ _ (Builtin.SmallTypes.ownedTupleIsFree (.ref e) >>= _) _ _ ⟨h₄,g,d,tk+1,os⟩
 rw [hsz];clear hh₄ he₃ hs₃ he₂ hs₂ he₁ hs₁ hit₁ hsz h₃ h₂ h₁;have alive:h₄.get? T0=some o0:=hk₄ T0 o0 nT0e nT0i hT0;refine zz ?_
 .unfold Builtin.SmallTypes.ownedTupleIsFree;refine zz (jp he₄ rfl (x:=rawInt T0) rfl ?_);show wpAny _ _ (loadIfAlive (Int.toNat (T0:Int)) >>= _) _ _ ⟨h₄,g,d,tk+1,os⟩
  refine zz (Mt ?_);rw [show Int.toNat (T0:Int)=T0 from Int.toNat_natCast _];show wpAny _ _ (if (Option.isNone (h₄.get? T0))=true then _ else _) _ _ ⟨h₄,g,d,tk+1,os⟩
  rw [alive,if_neg (by simp)];refine zz (jp he₄ rfl (x:=.bool b0) rfl ?_);cases b0 with
  | true =>
   rw [if_neg (by simp)];refine z0 ?_;simp only [Bool.false_eq_true,if_false];exact z0 ⟨_,rfl,hQ x h₄ tk hPx he₄ hit₄ ht₄ hz₄ hk₄⟩
  | false =>
   rw [if_pos (by simp)];refine zz (wpAny_setField_rec he₄ (by simp) fun h₅ he₅ hs₅=>?_);replace hs₅:Heap.SameBut e h₄ h₅:=hs₅;replace he₅:jd h₅ e it ((i:Int)+1) T0 true old:=he₅;refine z0 ?_;simp only [Bool.false_eq_true,if_false];refine z0 ⟨_,rfl,hQ x h₅ tk hPx he₅ ?_ ?_ ?_ ?_⟩
   .exact D.frame _ _ _ hit₄ fun b hb o y=>hs₅.extBut b o (fun q=>hef (q ▸ hb)) y
   .exact hs₅.extBut _ _ (vE hel) ht₄
   .rw [hs₅.1,hz₄]
   .exact fun b o hbe hbi hb=>hs₅.extBut b o hbe (hk₄ b o hbe hbi hb)
def Qe {o0:Obj}
  (D:Draws prog w A.in1 it fp n P Sx) (he:jd s.heap e it i T0 b0 old) (hT0:s.heap.get? T0=some o0) (nT0e:T0≠e) (nT0i:T0≠it) (hst:Sx i s.heap) (hlt:i < n) (hne:e≠it) (hef:e ∉ fp)
  (hQ:∀ x h' tk,P i x->jd h' e it ((i:Int)+1) T0 true old->Sx (i+1) h' ->
   h'.get? s.heap.objs.size=some { cls:=.type "tuple",data:=.seq #[.int i tk,x] } -> h'.objs.size=s.heap.objs.size+1 ->
   (∀ b o,b≠e->b≠it->s.heap.get? b=some o->h'.get? b=some o)->Q (some (.ref s.heap.objs.size)) { s with heap:=h',toks:=tk+1 }) :
  wpAny (model prog w) A (pyNext (.ref e)) Q E s:=by
 have hT:s.TypeIs (.ref e) "enumerate":=⟨_,he,rfl⟩
 unfold pyNext;exact zz (wpAny_attempt (jb (name:=Str.ofString "__next__") hT F.slot_enumerate_next
  (ja F.slot_enumerate_next hT F.entry_enumerate_next
   (Pz D he hT0 nT0e nT0i hst hlt hne hef fun x h' tk a b c d k q=>z0 (hQ x h' tk a b c d k q)) (F.args_enumerate_next_1 _))))
def T9 {i:Int}
  (D:Draws prog w A.in1 it fp n P Sx) (he:jd s.heap e it i T0 b0 old) (hst:Sx n s.heap)
  (hQ:∀ h',Heap.ExtBut it s.heap h'->Q none { s with heap:=h' }):wpAny (model prog w) A (pyNext (.ref e)) Q E s:=by
 have hT:s.TypeIs (.ref e) "enumerate":=⟨_,he,rfl⟩
 unfold pyNext;refine zz (wpAny_attempt (jb (name:=Str.ofString "__next__") hT F.slot_enumerate_next
  (ja F.slot_enumerate_next hT F.entry_enumerate_next ?_ (F.args_enumerate_next_1 _))))
 show wpAny _ _ (field (.ref e) 2 >>= _) _ _ _
 refine zz (jp he rfl (x:=.ref it) rfl ?_);refine zz (D.done _ _ _ hst fun h' x he' hx'=>?_);obtain ⟨o,ho,hc⟩:=hx';refine zz (wpAny_isInstance (T:="StopIteration") (b:=true) ⟨o,ho,hc⟩ isSubtype_stop ?_)
 exact z0 (hQ _ he')
end
theorem Mq:typeLookup (.type "enumerate") "__len__"=pure none:=by rw [typeLookup_type,builtinLookup_eq_fast]; kernel_rfl
theorem KJ:typeLookup (.type "enumerate") "__length_hint__"=pure none:=by rw [typeLookup_type,builtinLookup_eq_fast]; kernel_rfl
end Mi
namespace Mi
open PySem L2
open PyProof.Rows hiding St
variable {e it a:Addr}{xs:List V}
section
variable {X:Cx}{pins:w4}{σ:St}{H:Hp}{s:Shared}
def Vj {h2:Heap}{i:Int}{tk tk':Nat}{x:V}{u:Value} (I:Inv X pins σ H s) (fe:jz X pins H e) (fi:jz X pins H it)
  (kp:∀ b o,b ≠ e -> b ≠ it -> s.heap.get? b=some o -> h2.get? b=some o) (hTo:h2.get? s.heap.objs.size=some { cls:=.type "tuple",data:=.seq #[.int i tk,u] }) (ru:RelV x u) :
  Inv X pins σ (upd H s.heap.objs.size (.tup [.int i,x])) { s with heap:=h2,toks:=tk' }:=by
 obtain ⟨fe0,fe1,fe2,fe3,fe4,fe5⟩:=fe;obtain ⟨fi0,fi1,fi2,fi3,fi4,fi5⟩:=fi;have hTn:H s.heap.objs.size=none:=I.hok.fresh (vy _);have nT:∀ b o,s.heap.get? b=some o->b≠s.heap.objs.size:=fun b o q=>vz (vx q)
 have nch:∀ b,b ∉ ([e,it]:List Addr)->b≠e/\b≠it:=fun b hb=>by simp at hb;exact hb
 refine I.step (g':=s.gens) (d':=s.drawn) (ch:=[e,it]) (fun b hb=>?_) (fun b o _ _ hc q _=>kp b o (nch b hc).1 (nch b hc).2 q) (fun b o _ _ hc q _=>⟨o.slots,kp b o (nch b hc).1 (nch b hc).2 q⟩) (fun b o _ q n=>by rw [ao (nT b o q)];exact n)
  (fun b o hc q=>⟨o,kp b o (nch b hc).1 (nch b hc).2 q⟩) (fun b ys q=>by rw [ao (ak q hTn)];exact q) (fun b o u q=>by rw [ao (ak q hTn)];exact q) (fun b ps q=>⟨#[],by rw [ao (ak q hTn),q];simp⟩) (fun m hm=>?_) (fun b u q=>?_) I.bare
 .rcases vR.mp hb with z | z
  .subst z;exact ⟨fe3,fe1,fe4,fe5⟩
  .have z':=yY.mp z;subst z';exact ⟨fi3,fi1,fi4,fi5⟩
 .obtain ⟨o,es,ep,ho,r⟩:=hm;exact ⟨o,es,ep,kp _ o (Ne.symm fe1) (Ne.symm fi1) ho,r⟩
 .by_cases hbT:b=s.heap.objs.size
  .subst hbT;rw [aA] at q;cases q;exact ⟨by show 2<=sizeLine;decide,_,.cons ⟨tk,rfl⟩ (.cons ru .nil),⟨_,hTo,rfl,_,rfl⟩⟩
  .rw [ao hbT] at q;have nb:∀ c v,H c=some v->c≠e/\c≠it:=fun c v z=>⟨ak z fe0,ak z fi0⟩
   refine (I.hok b u q).stay (fun c v hc r=>?_) (fun c r=>by rw [ao (ak r hTn)];exact r) (fun c ys r=>by rw [ao (ak r hTn)];exact r) (fun c _ r _=>by rw [ao (ak r hTn)];exact r);have nc:c≠e/\c≠it:=by
    rcases hc with z | z
    .rw [z];exact nb b u q
    .exact nb c _ z
   exact kp c v nc.1 nc.2 r
def EnS (e it:Addr) (H:Hp) (h:Heap) (i:Nat):Prop:=(∃ old,IsEnum h e it i old)\/∃ T0 b ys old,H T0=some (.tup ys)/\jd h e it i T0 b old
def Bx {K:zd}{H':Hp} (h:SqT K H a xs) (k:∀ o,(∀ ys,o≠.lst ys)->H a=some o->H' a=some o):SqT K H' a xs:=by
 rcases h with (h | ⟨o,h⟩) | h
 .exact .inl (.inl (k _ (by intro ys z;cases z) h))
 .exact .inl (.inr ⟨o,k _ (by intro ys z;cases z) h⟩)
 .exact .inr h
def Hv {A:Around}{R:Result->Shared->Prop}{S:Addr}{res:Value}{n0:Nat} (hA:A.handled=none) (hei:e≠it) :
  ∀ (k i:Nat) (s:Shared) (H:Hp) (ps:List Addr),n0<=s.heap.objs.size->(∀ p∈ps,n0<=p)->xs.length - i=k->i<=xs.length->Inv X pins σ H s->EnS e it H s.heap i->s.heap.IsTupleIter it a i->jz X pins H e->jz X pins H it->SqT X.K H a xs ->
   H S=some (.lst (ps.map V.ref))->ps.length=i->(∀ (j:Nat) p x,ps[j]?=some p->xs[j]?=some x->H p=some (.tup [.int j,x])) ->
   (∀ (s':Shared) (H':Hp) (ps':List Addr),Inv X pins σ H' s'->(∀ b o,b≠S->H b=some o->H' b=some o)->H' S=some (.lst (ps'.map V.ref))->ps'.length=xs.length->(∀ (j:Nat) p x,ps'[j]?=some p->xs[j]?=some x->H' p=some (.tup [.int j,x]))->(∀ p∈ps',n0<=p)->R (.ok (.ret res)) s') ->
   codeAny (model X.prog X.w) A (.builtin "list.extend.loop" ⟨[.ref S,.ref e,res],[]⟩) R s:=by
 intro k;induction k with
 | zero =>
  intro i s H ps hn0 hpn hk hi I st hit fe fi hq hS hl hps hR;have hin:i=xs.length:=by omega
  subst hin;refine codeAny_builtin PySem.F.entry_extend_loop ?_;rw [Around.under_plainId PySem.F.plain_extend_loop _];show wpAny _ A.in1 (pyNext (.ref e) >>= _) _ _ s
  obtain ⟨its,rv,p',hz⟩:=I.tuple hq;have p:s.heap.IsTuple a its.toArray:=p';have hlen:=rv.length;obtain ⟨o1,q1,c1,d1⟩:=id hit;obtain ⟨o2,q2,c2,n2,d2⟩:=id p;have hai:a≠it:=fun z=>by
   subst z;rw [q1] at q2;cases q2;rw [c1] at c2;exact absurd c2 (by simp)
  have D:=JQ (prog:=X.prog) (w:=X.w) (A:=A.in1.in1) hA it a hai its.toArray;have hsz:its.toArray.size=xs.length:=by simp;omega
  have hst:s.heap.IsTupleIter it a its.toArray.size/\s.heap.IsTuple a its.toArray:=by rw [hsz];exact ⟨hit,p⟩
  have fin:∀ h',Heap.ExtBut it s.heap h'->R (.ok (.ret res)) { s with heap:=h' }:=fun h' eb=>by
   obtain ⟨fi0,fi1,fi2,fi3,fi4,fi5⟩:=fi;exact hR { s with heap:=h' } H ps (I.turned (t':=s.toks) (fun b o hb e=>eb b o hb e) fi0 fi1 fi3 fi4 fi5) (fun _ _ _ q=>q) hS hl hps hpn
  rcases st with ⟨old,he⟩ | ⟨T0,b,ys,old,hT0,he⟩
  .exact zz (wpAny_pyNext_enum_endD D he hst fun h' eb=>z0 (fin h' eb))
  .exact zz (T9 D he hst fun h' eb=>z0 (fin h' eb))
 | succ k ih =>
  intro i s H ps hn0 hpn hk hi I st hit fe fi hq hS hl hps hR;have hlt:i < xs.length:=by omega
  refine codeAny_builtin PySem.F.entry_extend_loop ?_;rw [Around.under_plainId PySem.F.plain_extend_loop _];show wpAny _ A.in1 (pyNext (.ref e) >>= _) _ _ s
  obtain ⟨its,rv,p',hz⟩:=I.tuple hq;have p:s.heap.IsTuple a its.toArray:=p';have hlen:=rv.length;obtain ⟨o1,q1,c1,d1⟩:=id hit;obtain ⟨o2,q2,c2,n2,d2⟩:=id p;have hai:a≠it:=fun z=>by
   subst z;rw [q1] at q2;cases q2;rw [c1] at c2;exact absurd c2 (by simp)
  have heo:∃ oe,s.heap.get? e=some oe /\ oe.cls=.type "enumerate":=by
   rcases st with ⟨old,he⟩ | ⟨T0,b,ys,old,hT0,he⟩
   .exact ⟨_,he,rfl⟩
   .exact ⟨_,he,rfl⟩
  obtain ⟨oe,qe,ce⟩:=heo;have hea:e≠a:=fun z=>by
   subst z;rw [qe] at q2;cases q2;rw [ce] at c2;exact absurd c2 (by simp)
  have D:=JQ (prog:=X.prog) (w:=X.w) (A:=A.in1.in1) hA it a hai its.toArray;have hil:i < its.toArray.size:=by simp;omega
  have hx:xs[i]?=some xs[i]:=by simp [hlt]
  obtain ⟨u,hu,ru⟩:=rv.get hx;have hSn:S≠e:=ak hS fe.1;have hSi:S≠it:=ak hS fi.1;have go:∀ (x':Value) (h':Heap) (tk:Nat),its.toArray[i]?=some x'->EnS e it (upd H s.heap.objs.size (.tup [.int i,xs[i]])) h' (i+1)->h'.IsTupleIter it a (i+1) ->
    h'.get? s.heap.objs.size=some { cls:=.type "tuple",data:=.seq #[.int i tk,x'] } -> h'.objs.size=s.heap.objs.size+1 -> (∀ b o,b ≠ e -> b ≠ it -> s.heap.get? b=some o -> h'.get? b=some o) ->
    wpAny (model X.prog X.w) A.in1 (Builtin.List.listUpdate (.ref S) (·.push (.ref s.heap.objs.size)) >>= fun _=>again (.builtin "list.extend.loop" ⟨[.ref S,.ref e,res],[]⟩))
     (fun fin s'=>match fin with | .done f=>R (.ok f) s' | .again c'=>c'.quiet=true/\codeAny (model X.prog X.w) A c' R s') (fun e s'=>R (.error e) s') { s with heap:=h',toks:=tk+1 }:=by
   intro x' h' tk hx' hEn hit' hT hsz' hkp;have ex:x'=u:=by
    have z:its.toArray[i]?=some u:=by simpa using hu
    rw [z] at hx';exact (jr hx').symm
   subst ex;have hTn:H s.heap.objs.size=none:=I.hok.fresh (vy _);have I2:=Vj (tk':=tk+1) I fe fi hkp hT ru;have hST:S≠s.heap.objs.size:=ak hS hTn;have hS2:(upd H s.heap.objs.size (.tup [.int i,xs[i]])) S=some (.lst (ps.map V.ref)):=by rw [ao hST];exact hS
   obtain ⟨z,its2,n2,r2,hl2,e2⟩:=I2.lstM hS2;refine zz ?_;show wpAny _ _ (updateSeq S (·.push (.ref s.heap.objs.size))) _ _ _
   have lenps:its2.length=i:=by rw [<- hl2,List.length_map];exact hl
   refine wpAny_updateSeq e2 rfl ?_ (by rw [List.size_toArray];omega) (by show (its2.toArray.push _).size<=sizeLine+1;rw [Array.size_push,List.size_toArray];omega);refine z0 ⟨plainId_quiet PySem.F.plain_extend_loop _,?_⟩;have I3:=I2.lset (t':=tk+1) (its':=its2++[.ref s.heap.objs.size]) (ys:=(ps++[s.heap.objs.size]).map V.ref) (f:=(·.push (.ref s.heap.objs.size))) hS2 e2 (by simp) (by rw [List.map_append];exact r2.append (.cons rfl .nil)) (by rw [List.length_map,List.length_append,List.length_singleton];omega);have hnS:∀ b,b≠S->(upd (upd H s.heap.objs.size (.tup [.int i,xs[i]])) S (.lst ((ps++[s.heap.objs.size]).map V.ref))) b=(upd H s.heap.objs.size (.tup [.int i,xs[i]])) b:=fun b hb=>ao hb
   have elt:e < s.heap.objs.size:=vx qe;have ilt:it < s.heap.objs.size:=vx q1;have oldK:∀ b o,b≠S->H b=some o->(upd (upd H s.heap.objs.size (.tup [.int i,xs[i]])) S (.lst ((ps++[s.heap.objs.size]).map V.ref))) b=some o:=fun b o hb q=>by
    rw [hnS b hb,ao (ak q hTn)];exact q
   refine ih (i+1) _ _ (ps++[s.heap.objs.size]) (by show n0<=(h'.update S _).objs.size;rw [Heap.size_update,hsz'];omega) (fun p hp=>(yT.mp hp).elim (hpn p) fun z=>by rw [List.mem_singleton.mp z];exact hn0) (by omega) hlt I3 ?_ ?_ ?_ ?_ ?_ aA (by rw [List.length_append,List.length_singleton];omega) ?_ fun s' H' ps' I' k' hS' hl' hp' ho'=>?_
   ·-- the enumerate object
    rcases hEn with ⟨old,he⟩ | ⟨T0,b,ys,old,hT0,he⟩
    .exact .inl ⟨old,(v6 _ _ hSn).trans he⟩
    .exact .inr ⟨T0,b,ys,old,by rw [ao (QL hT0 hS2 (by intro z;cases z))];exact hT0,(v6 _ _ hSn).trans he⟩
   .obtain ⟨o,q,r⟩:=hit';exact ⟨o,(v6 _ _ hSi).trans q,r⟩
   .exact ⟨by rw [hnS e (Ne.symm hSn),ao (Nat.ne_of_lt elt)];exact fe.1,fe.2⟩
   .exact ⟨by rw [hnS it (Ne.symm hSi),ao (Nat.ne_of_lt ilt)];exact fi.1,fi.2⟩
   .refine Bx hq fun o hno q=>oldK a o ?_ q
    exact QL q hS (hno _)
   .intro j pp x hj hxj;by_cases hji:j < ps.length
    .rw [List.getElem?_append_left hji] at hj;have q:=hps j pp x hj hxj;exact oldK pp _ (QL q hS (by intro z;cases z)) q
    .have hje:j=i:=by
      have:=(yB.mp hj).1;rw [List.length_append,List.length_singleton] at this;omega
     subst hje;rw [List.getElem?_append_right (by omega),hl] at hj;simp at hj;subst hj;rw [hx] at hxj;cases hxj;rw [hnS _ (Ne.symm hST),aA]
   .exact hR s' H' ps' I' (fun b o hb q=>k' b o hb (oldK b o hb q)) hS' hl' hp' ho'
  rcases st with ⟨old,he⟩ | ⟨T0,b,ys,old,hT0,he⟩
  .refine zz (wpAny_pyNext_enum_itemD D he ⟨hit,p⟩ hil hei (by simp [hei,hea]) fun x' h' tk hPx hout hst' hT hsz hk=>?_);exact go x' h' tk hPx (.inr ⟨s.heap.objs.size,false,_,x',aA,by simpa using hout⟩) hst'.1 hT hsz hk
  .obtain ⟨o0,q0⟩:∃ o0,s.heap.get? T0=some o0:=by
    obtain ⟨_,_,_,o0,q0,_⟩:=(show cj X.prog X.w H s.heap T0 (.tup ys) from I.hok T0 _ hT0);exact ⟨o0,q0⟩
   have hTn:H s.heap.objs.size=none:=I.hok.fresh (vy _);refine zz (Qe D he q0 (ak hT0 fe.1) (ak hT0 fi.1) ⟨hit,p⟩ hil hei (by simp [hei,hea]) fun x' h' tk hPx hout hst' hT hsz hk=>?_);exact go x' h' tk hPx (.inr ⟨T0,true,ys,old,by rw [ao (ak hT0 hTn)];exact hT0,by simpa using hout⟩) hst'.1 hT hsz hk
def tLE (K:zd) (ta:TA):TE:=fun σ H Q=>ta σ H fun vs H1=>∃ a xs,vs=[.ref a]/\SqT K H1 a xs /\
 ∀ (S:Addr) (H':Hp) (ps:List Addr),H1 S=none->(∀ p∈ps,H1 p=none)->(∀ b o,H1 b=some o->H' b=some o)->H' S=some (.lst (ps.map V.ref))->ps.length=xs.length ->
  (∀ (j:Nat) p x,ps[j]?=some p->xs[j]?=some x->H' p=some (.tup [.int j,x]))->Q (.ref S) H'
def Nh {a:Expr}{ta:TA}{p pos p2 pos2:Pos} (hc:X.calm=true) (hg:Gl X "enumerate") (hm:X.mg "enumerate"=none) (hgl:Gl X "list") (hml:X.mg "list"=none) (ha:PA X [a] ta) (hs:starEach [a] X.env=[(false,eval a X.env)]:=by rfl) :
  PE X (.Call (.Name "list" p) [.Call (.Name "enumerate" p2) [a] [] pos2] [] pos) (tLE X.K ta):=by
 intro pins s σ H Q I h;refine Call_ (jP I hgl hml boot_list (jn (Calls.spliced_cons ?_) rfl rfl));refine Call_ (jP I hg hm yH (jn (thn (ha pos2 pins s σ H _ I h) fun us s1 ⟨vs,H1,I1,r1,q1⟩=>?_) hs rfl));obtain ⟨b,xs,rfl,hq,q⟩:=q1;obtain ⟨u,rfl,ru⟩:=vals1 r1;cases ru;obtain ⟨its,rv,p0,hz⟩:=I1.tuple hq;refine DN (show s1.heap.IsTuple b its.toArray from p0) fun h' he hit hsz hk=>?_
 refine Calls.spliced_nil ?_;have I2:Inv X pins σ H1 { s1 with heap:=h' }:=I1.kept (t':=s1.toks) hk;have fe:jz X pins H1 (s1.heap.objs.size+1):=I1.fpOk (Nat.le_succ _) (I1.hok.fresh (Nat.le_succ _));have fi:jz X pins H1 s1.heap.objs.size:=I1.fpOk (vy _) (I1.hok.fresh (vy _));refine callType_codes (Q₁:=fun obj s₁=>obj=.ref h'.objs.size /\ s₁={ s1 with heap:=h'.push { cls:=.type "list",data:=.seq #[] } }) PySem.F.called_list (PySem.F.typeCall_list_1 _) PySem.F.entry_list_init
  (code_list_new _ ⟨rfl,rfl⟩) fun obj s₁ h₁=>?_
 obtain ⟨rfl,rfl⟩:=h₁;have hS:(h'.push { cls:=.type "list",data:=.seq #[] }).get? h'.objs.size=some { cls:=.type "list",data:=.seq #[] }:=vw _ rfl
 have hSn:H1 h'.objs.size=none:=I2.hok.fresh (vy _);have I3:Inv X pins σ (upd H1 h'.objs.size (.lst [])) { s1 with heap:=h'.push { cls:=.type "list",data:=.seq #[] } } :=
  I2.laid (t':=s1.toks) (fun b o e=>vn _ e) (vy _) ⟨by simp,[],0,.nil,hS⟩
 refine ⟨⟨_,hS,rfl⟩,PySem.F.args_list_init_2 _ _,?_⟩;have elt:s1.heap.objs.size+1 < h'.objs.size:=by rw [hsz];exact Nat.lt_succ_self _
 have ilt:s1.heap.objs.size < h'.objs.size:=Nat.lt_trans (Nat.lt_succ_self _) elt;have hSe:h'.objs.size≠s1.heap.objs.size+1:=vE elt;have hSi:h'.objs.size≠s1.heap.objs.size:=vE ilt;show wpAny _ _ (do let old <- Builtin.List.listItems (.ref h'.objs.size);Builtin.List.listUpdate (.ref h'.objs.size) (fun _=>#[]);letGo old.toList.reverse;Builtin.List.listExtendWith (.ref h'.objs.size) (.ref (s1.heap.objs.size+1)) .none) _ _ _
 refine zz ?_;unfold Builtin.List.listItems;refine zz (wpAny_seqItems hS rfl (z0 ?_));show wpAny _ _ (updateSeq h'.objs.size (fun _=>#[]) >>= fun _=>letGo (#[]:zt).toList.reverse >>= fun _=>Builtin.List.listExtendWith (.ref h'.objs.size) (.ref (s1.heap.objs.size+1)) .none) _ _ _
 refine zz (wpAny_updateSeq hS rfl ?_);have I4:=I3.lset (t':=s1.toks) (its':=[]) (ys:=[]) (f:=fun _=>#[]) aA (its:=[]) hS rfl .nil (by simp);rw [Eh] at I4;have hS2:=ya (Obj.mapSeq (fun _=>(#[]:zt))) hS rfl;have he1:IsEnum (h'.push { cls:=.type "list",data:=.seq #[] }) (s1.heap.objs.size+1) s1.heap.objs.size 0 .none:=vn _ he
 have he2:IsEnum ((h'.push { cls:=.type "list",data:=.seq #[] }).update h'.objs.size (Obj.mapSeq (fun _=>(#[]:zt)))) (s1.heap.objs.size+1) s1.heap.objs.size 0 .none:=(v6 _ _ hSe).trans he1
 have hit2:((h'.push { cls:=.type "list",data:=.seq #[] }).update h'.objs.size (Obj.mapSeq (fun _=>(#[]:zt)))).IsTupleIter s1.heap.objs.size b 0:=by
  obtain ⟨o,e,r⟩:=hit;exact ⟨o,(v6 _ _ hSi).trans (vn _ e),r⟩
 refine zz (wpAny_letGo ?_);unfold Builtin.List.listExtendWith;have hT2:Shared.TypeIs { s1 with heap:=(h'.push { cls:=.type "list",data:=.seq #[] }).update h'.objs.size (Obj.mapSeq (fun _=>(#[]:zt))) } (.ref (s1.heap.objs.size+1)) "enumerate":=⟨_,he2,rfl⟩
 refine zz (wpAny_typeOf hT2 ?_);have h1:Builtin.List.listSameRef (.ref h'.objs.size) (.ref (s1.heap.objs.size+1))=false:=by simp [Builtin.List.listSameRef,hSe]
 have h2:(Value.type "enumerate" == Value.type "list")=false:=by decide
 have h3:(Value.type "enumerate" == Value.type "tuple")=false:=by decide
 simp only [h1,h2,h3,Bool.or_false,Bool.false_eq_true,if_false];refine zz (wpAny_pyIter_enum he2 ?_);refine zz (wpAny_holding ?_);unfold Builtin.List.listLengthHint;refine zz (wpAny_specialOf hT2 Mq ?_);show wpAny _ _ (specialOf (Value.ref (s1.heap.objs.size+1)) (Str.ofString "__length_hint__") >>= _) _ _ _
 refine zz (wpAny_specialOf hT2 KJ ?_);refine z0 ?_;simp only [Bool.true_or,if_true];refine zz (wpAny_rule ?_);refine zz ?_;show wpAny _ _ (updateSeq h'.objs.size (·.push .none) >>= fun _=>updateSeq h'.objs.size (·.pop)) _ _ _
 refine zz (wpAny_updateSeq hS2 rfl ?_);have hS3:=ya (Obj.mapSeq (·.push Value.none)) hS2 rfl;refine wpAny_updateSeq (hz:=by seq_fits) hS3 rfl ?_;obtain ⟨z4,its4,n4,r4,hl4,e4⟩:=I4.lstM aA;have en4:its4=[]:=by
  cases its4 with
  | nil=>rfl
  | cons a l=>simp at hl4
 subst en4;have I5:=I4.lset (t':=s1.toks) (its':=[.none]) (ys:=[.non]) (f:=(·.push Value.none)) aA e4 (by simp) (.cons rfl .nil) (by show 1<=sizeLine;decide);rw [Eh] at I5;obtain ⟨z5,its5,n5,r5,hl5,e5⟩:=I5.lstM aA;obtain ⟨u5,e5',ru5⟩:=r5.one;subst e5';have I6:=I5.lset (t':=s1.toks) (its':=[]) (ys:=[]) (f:=(·.pop)) aA e5 (by simp) .nil (by simp);rw [Eh] at I6;refine z0 ⟨plainId_quiet PySem.F.plain_extend_loop _,?_⟩;refine Hv (A:=X.A.in1) (a:=b) (e:=s1.heap.objs.size+1) (it:=s1.heap.objs.size) (S:=h'.objs.size) (xs:=xs) (n0:=s1.heap.objs.size) (I1.ok.hd hc) (Nat.succ_ne_self _) xs.length 0 _ (upd H1 h'.objs.size (.lst [])) [] ?_ (fun _ z=>by simp at z) rfl (vS _) I6 ?_ ?_ ?_ ?_ ?_ aA rfl (fun j p x z=>by simp at z) fun s' H' ps' I' k' hS' hl' hp' hn'=>?_
 .exact Nat.le_of_lt (Nat.lt_trans ilt (vx (show Heap.get? _ h'.objs.size=some _ from ya (Obj.mapSeq (·.pop)) hS3 rfl)))
 .exact .inl ⟨.none,(v6 _ _ hSe).trans ((v6 _ _ hSe).trans he2)⟩
 .obtain ⟨o,e,r⟩:=hit2;exact ⟨o,(v6 _ _ hSi).trans ((v6 _ _ hSi).trans e),r⟩
 .exact ⟨by rw [ao (Ne.symm hSe)];exact fe.1,fe.2⟩
 .exact ⟨by rw [ao (Ne.symm hSi)];exact fi.1,fi.2⟩
 .exact Bx hq fun o hno e=>by rw [ao (ak e hSn)];exact e
 .refine ⟨rfl,.ref h'.objs.size,H',I',rfl,q _ H' ps' hSn (fun p hp=>I1.hok.fresh (hn' p hp)) (fun c o e=>k' c o (ak e hSn) (by rw [ao (ak e hSn)];exact e)) hS' hl' hp'⟩
end
end Mi
namespace Mi
open PySem PySem.W PyProof.Rows
def fH {α:Type} (r:Nat->Int) (N:Nat):KasT α->(α->Prop)->Prop
 | .ret a,Q=>Q a
 | .ask i j k,Q=>i < N/\j < N/\fH r N (k (decide (r i < r j))) Q
theorem fH.bind {α β:Type}{r:Nat->Int}{N:Nat}{f:α->KasT β}{Q:β->Prop}:∀ {t:KasT α},fH r N t (fun a=>fH r N (f a) Q)->fH r N (t.bind f) Q
 | .ret a,h=>h
 | .ask i j k,h=>⟨h.1,h.2.1,fH.bind (t:=k _) h.2.2⟩
theorem fH.wp {α:Type}{r:Nat->Int}{N:Nat}{cmp:Nat->Nat->(Bool->Shared->Prop)->Shared->Prop}{s:Shared} (hc:∀ i j C,i < N->j < N->C (decide (r i < r j)) s->cmp i j C s) {Q:α->Shared->Prop} :
  ∀ {t:KasT α},fH r N t (fun a=>Q a s)->t.kasWp cmp Q s
 | .ret a,h=>h
 | .ask i j k,h=>hc i j _ h.1 h.2.1 (fH.wp hc (t:=k _) h.2.2)
theorem Gv {α:Type}{r:Nat->Int}{N:Nat}{Q Q':α->Prop}:∀ {t:KasT α},fH r N t Q->(∀ a,Q a->Q' a)->fH r N t Q'
 | .ret a,h,k=>k a h
 | .ask i j f,h,k=>⟨h.1,h.2.1,Gv (t:=f _) h.2.2 k⟩
noncomputable def Kp (r:Nat->Int) (p:Array Nat) (i:Nat):Int:=match p[i]? with
 | some x=>r x
 | none=>0
def mG (r:Nat->Int) (p:Array Nat) (k:Nat):Prop:=∀ i j,i<=j->j < k->Kp r p i<=Kp r p j
def Df (r:Nat->Int) (p:Array Nat) (k:Nat):Prop:=∀ i j,i<=j->j < k->Kp r p j<=Kp r p i
structure PB (N:Nat) (p:Array Nat):Prop where
 perm:p.Perm (List.range N).toArray
variable {N:Nat}{p:Array Nat}
theorem PB.size (h:PB N p):p.size=N:=by rw [h.perm.size_eq];simp
variable {i:Nat}
theorem PB.lt (h:PB N p)  (hi:i < N):p.getD i 0 < N:=by
 have hs:=h.size;have e:p.getD i 0=p[i]:=by simp [Array.getD,hs,hi]
 have hm:p[i]∈(List.range N):=by
  have:=(Array.perm_iff_toList_perm.mp h.perm).mem_iff (a:=p[i]);simp at this;simpa using this
 rw [e];simpa using hm
theorem PB.mir (h:PB N p) (i j d:Nat):PB N (mirror p i j d):=⟨(mirror_perm _ _ _ _).trans h.perm⟩
theorem PB.bub (h:PB N p) (i d:Nat):PB N (bubble p i d):=⟨(bubble_perm _ _ _).trans h.perm⟩
variable {r:Nat->Int}{N:Nat}
def NT (hi:i < p.size):r (p.getD i 0)=Kp r p i:=by
 unfold Kp;simp [Array.getD,hi]
variable {j:Nat}
def sZ {q:Array Nat} (h:p[i]?=q[j]?):Kp r p i=Kp r q j:=by unfold Kp;rw [h]
variable {xs:Array Nat}
def GZ {src d:Nat} (hs:src < xs.size) (hd:d<=src) (k:Nat) :
  Kp r (bubble xs src d) k=if k=src - d then Kp r xs src else if src - d < k/\k<=src then Kp r xs (k - 1) else Kp r xs k:=by
 have e:=getElem?_bubble hs d hd k;by_cases h1:k=src - d
 .rw [if_pos h1] at e ⊢;exact sZ e
 .rw [if_neg h1] at e ⊢;by_cases h2:src - d < k/\k<=src
  .rw [if_pos h2] at e ⊢;exact sZ e
  .rw [if_neg h2] at e ⊢;exact sZ e
def yP (hj:j<=xs.size) (k:Nat) :
  Kp r (mirror xs i j ((j - i) / 2)) k=if i<=k/\k < j then Kp r xs (i+j - 1 - k) else Kp r xs k:=by
 have e:=getElem?_mirror_all (i:=i) hj k;by_cases h1:i<=k/\k < j
 .rw [if_pos h1] at e ⊢;exact sZ e
 .rw [if_neg h1] at e ⊢;exact sZ e
theorem iW (hj:j<=xs.size) (heq:∀ k,i<=k->k < j->Kp r xs k=Kp r xs (j - 1)) (k:Nat) :
  Kp r (mirror xs i j ((j - i) / 2)) k=Kp r xs k:=by
 rw [yP hj];split
 .rw [heq _ (by omega) (by omega),heq k (by omega) (by omega)]
 .rfl
def K9 {α:Type}{k:Bool->KasT α}{Q:α->Prop} (hB:PB N p) (hi:i < N) (hj:j < N) (h:fH r N (k (decide (Kp r p i < Kp r p j))) Q):fH r N (.ask (p.getD i 0) (p.getD j 0) k) Q:=by
 refine ⟨hB.lt hi,hB.lt hj,?_⟩;rw [NT (r:=r) (p:=p) (i:=i) (by rw [hB.size];exact hi),NT (r:=r) (p:=p) (i:=j) (by rw [hB.size];exact hj)];exact h
theorem Vi {p:Array Nat}{nrem:Nat} (hB:PB N p) (hz:nrem<=N):∀ (f a:Nat) {Q:Nat->Prop},nrem - a=f->1<=a->a<=nrem->mG r p a ->
  (∀ n,a<=n->n<=nrem->mG r p n->(n=nrem\/Kp r p n < Kp r p (n - 1))->Q n)->fH r N (kas_asc p f a) Q
 | 0,a,Q,hf,h1,ha,hs,h=>h a (vy _) ha hs (.inl (by omega))
 | f+1,a,Q,hf,h1,ha,hs,h=>by
  refine K9 hB (by omega) (by omega) ?_;by_cases hless:Kp r p a < Kp r p (a - 1)
  .simp only [hless,decide_true,if_true];exact h a (vy _) ha hs (.inr hless)
  .simp only [hless,decide_false,Bool.false_eq_true,if_false];refine Vi hB hz f (a+1) (by omega) (by omega) (by omega) (fun i j hij hj=>?_) fun n h1 h2 h3 h4=>h n (by omega) h2 h3 h4
   by_cases hjx:j < a
   .exact hs i j hij hjx
   .have hj':j=a:=by omega
    subst hj';by_cases hi':i=j
    .subst hi';exact Int.le_refl _
    .exact Int.le_trans (hs i (j - 1) (by omega) (by omega)) (Int.not_lt.mp hless)
variable {n nrem:Nat}{Q:Nat × Array Nat->Prop}
def Sv (hB:PB N p) (hz:nrem<=N) (h1:1<=n) (hn:n<=nrem) (hs:Df r p n)
  (h:∀ m p',PB N p'->1<=m->m<=nrem->mG r p' m->Q (m,p')):fH r N (kas_tail3 n nrem p) Q:=by
 unfold kas_tail3 kas_rev;have hsz:n<=p.size:=by rw [hB.size];omega
 refine fH.bind (Vi (hB.mir _ _ _) hz _ n rfl h1 hn (fun i j hij hj=>?_) fun m hm1 hm2 hsm _=>h m _ (hB.mir _ _ _) (by omega) hm2 hsm);rw [yP hsz,yP hsz,if_pos (by omega),if_pos (by omega)];exact hs _ _ (by omega) (by omega)
theorem HF {nrem:Nat} (hz:nrem<=N):∀ (f:Nat) (p:Array Nat) (x q:Nat) {Q:Array Nat × Nat × Nat->Prop},PB N p->nrem - x=f->1<=x->x<=nrem->Df r p x->q+1<=x ->
  (∀ i,x - (q+1)<=i->i < x->Kp r p i=Kp r p (x - 1)) ->
  (∀ p' m neq,PB N p'->x<=m->m<=nrem->Df r p' m->neq+1<=m->(∀ i,m - (neq+1)<=i->i < m->Kp r p' i=Kp r p' (m - 1))->Q (p',m,neq))->fH r N (kas_desc f p x q) Q
 | 0,p,x,q,Q,hB,hf,h1,hx,hs,hq,he,h=>h p x q hB (vy _) hx hs hq he
 | f+1,p,x,q,Q,hB,hf,h1,hx,hs,hq,he,h=>by
  have hsz:x<=p.size:=by rw [hB.size];omega
  refine K9 hB (by omega) (by omega) ?_;by_cases hless:Kp r p x < Kp r p (x - 1)
  .simp only [hless,decide_true,if_true];have step1:∀ xs:Array Nat,(∀ k,Kp r xs k=Kp r p k)->Df r xs (x+1):=by
    intro xs hk i j hij hj;rw [hk,hk];by_cases hjx:j < x
    .exact hs i j hij hjx
    .have hj':j=x:=by omega
     subst hj';by_cases hi':i=j
     .subst hi';exact Int.le_refl _
     .exact Int.le_trans (Int.le_of_lt hless) (hs i (j - 1) (by omega) (by omega))
   by_cases hneq:q > 0
   .rw [if_pos hneq];refine HF hz f _ (x+1) 0 (hB.mir _ _ _) (by omega) (by omega) (by omega) (step1 _ (iW hsz he)) (by omega) (fun i h1 h2=>by congr 1;omega) fun p' m neq a b c d e g=>h p' m neq a (by omega) c d e g
   .rw [if_neg hneq];exact HF hz f _ (x+1) 0 hB (by omega) (by omega) (by omega) (step1 _ fun _=>rfl) (by omega) (fun i h1 h2=>by congr 1;omega) fun p' m neq a b c d e g=>h p' m neq a (by omega) c d e g
  .simp only [hless,decide_false,Bool.false_eq_true,if_false];refine K9 hB (by omega) (by omega) ?_;by_cases hlarger:Kp r p (x - 1) < Kp r p x
   .simp only [hlarger,decide_true,if_true];exact h p x q hB (vy _) (by omega) hs hq he
   .simp only [hlarger,decide_false,Bool.false_eq_true,if_false];have heqx:Kp r p x=Kp r p (x - 1):=by omega
    refine HF hz f _ (x+1) (q+1) hB (by omega) (by omega) (by omega) (fun i j hij hj=>?_) (by omega) (fun i h1 h2=>?_) fun p' m neq a b c d e g=>h p' m neq a (by omega) c d e g
    .by_cases hjx:j < x
     .exact hs i j hij hjx
     .have hj':j=x:=by omega
      subst hj';by_cases hi':i=j
      .subst hi';exact Int.le_refl _
      .rw [heqx];exact hs i (j - 1) (by omega) (by omega)
    .rw [show x+1 - 1=x by omega];by_cases hix:i=x
     .subst hix;rfl
     .rw [heqx];exact he i (by omega) (by omega)
def Gi (hB:PB N p) (hz:nrem<=N) (hnn:n+1<=nrem) (hs:Df r p (n+1))
  (h:∀ m p',PB N p'->1<=m->m<=nrem->mG r p' m->Q (m,p')):fH r N (kas_descPart n nrem p) Q:=by
 unfold kas_descPart;refine fH.bind (HF hz _ p (n+1) 0 hB rfl (by omega) hnn hs (by omega) (fun i h1 h2=>by congr 1;omega) fun p' m neq hB' hm1 hm2 hs' hq he=>?_);dsimp only;have hsz:m<=p'.size:=by rw [hB'.size];omega
 by_cases hneq:neq > 0
 .rw [if_pos hneq];refine Sv (hB'.mir _ _ _) hz (by omega) hm2 (fun i j hij hj=>?_) h;have e1:=iW (r:=r) hsz he i;have e2:=iW (r:=r) hsz he j;show Kp r (mirror p' _ _ _) j<=Kp r (mirror p' _ _ _) i
  rw [e1,e2];exact hs' i j hij hj
 .rw [if_neg hneq];exact Sv hB' hz (by omega) hm2 hs' h
def aaz (hB:PB N p) (hz:nrem<=N) (h1:1<=nrem)
  (h:∀ m p',PB N p'->1<=m->m<=nrem->mG r p' m->Q (m,p')):fH r N (kas_count nrem p) Q:=by
 unfold kas_count;refine fH.bind (Vi hB hz _ 1 rfl (vy 1) h1 (fun i j hij hj=>by have:i=j:=(by omega);subst this;exact Int.le_refl _) fun n hn1 hn2 hsn hor=>?_);by_cases hnn:n=nrem
 .rw [if_pos (by simpa using hnn)];exact h n p hB hn1 hn2 hsn
 .rw [if_neg (by simpa using hnn)];have hlt:Kp r p n < Kp r p (n - 1):=hor.resolve_left hnn;by_cases hgt:n > 1
  .rw [if_pos hgt];refine K9 hB (by omega) (by omega) ?_;by_cases hrose:Kp r p 0 < Kp r p (n - 1)
   .simp only [hrose,decide_true,if_true];exact h n p hB hn1 hn2 hsn
   .simp only [hrose,decide_false,Bool.false_eq_true,if_false];have hsz:n<=p.size:=by rw [hB.size];omega
    have hall:∀ k,0<=k->k < n->Kp r p k=Kp r p (n - 1):=by
     intro k _ hk;have a1:=hsn 0 k (by omega) hk;have a2:=hsn k (n - 1) (by omega) (by omega);omega
    refine Gi (hB.mir _ _ _) hz (by omega) (fun i j hij hj=>?_) h;have e1:=iW (r:=r) hsz hall i;have e2:=iW (r:=r) hsz hall j;show Kp r (mirror p _ _ _) j<=Kp r (mirror p _ _ _) i
    rw [e1,e2];by_cases hjn:j < n
    .rw [hall i (by omega) (by omega),hall j (by omega) hjn];exact Int.le_refl _
    .have hj':j=n:=by omega
     subst hj';by_cases hi':i=j
     .subst hi';exact Int.le_refl _
     .rw [hall i (by omega) (by omega)];exact Int.le_of_lt hlt
  .rw [if_neg hgt];have hn1':n=1:=by omega
   subst hn1';refine Gi hB hz (by omega) (fun i j hij hj=>?_) h;by_cases hi':i=j
   .subst hi';exact Int.le_refl _
   .have hi0:i=0:=by omega
    have hj1:j=1:=by omega
    subst hi0;subst hj1;exact Int.le_of_lt hlt
theorem Jl {p:Array Nat}{k:Nat} (hB:PB N p) (hk:k < N) (hs:mG r p k):∀ (f l rr:Nat) {Q:Nat->Prop},l<=rr->rr<=k->rr - l<=f->(∀ i,i < l->Kp r p i<=Kp r p k)->(∀ i,rr<=i->i < k->Kp r p k < Kp r p i) ->
  (∀ l,l<=k->(∀ i,i < l->Kp r p i<=Kp r p k)->(∀ i,l<=i->i < k->Kp r p k < Kp r p i)->Q l)->fH r N (kas_place p k f l rr) Q
 | 0,l,rr,Q,hlr,hrk,hm,hlo,hhi,h=>h l (by omega) hlo fun i h1 h2=>hhi i (by omega) h2
 | f+1,l,rr,Q,hlr,hrk,hm,hlo,hhi,h=>by
  unfold kas_place;by_cases hge:l ≥ rr
  .rw [if_pos hge];exact h l (by omega) hlo fun i h1 h2=>hhi i (by omega) h2
  .rw [if_neg hge];refine K9 hB hk (by omega) ?_;by_cases hless:Kp r p k < Kp r p ((l+rr) / 2)
   .simp only [hless,decide_true,if_true];refine Jl hB hk hs f l _ (by omega) (by omega) (by omega) hlo (fun i h1 h2=>?_) h;exact Int.lt_of_lt_of_le hless (hs _ _ h1 h2)
   .simp only [hless,decide_false,Bool.false_eq_true,if_false];refine Jl hB hk hs f _ rr (by omega) (by omega) (by omega) (fun i h1=>?_) hhi h;exact Int.le_trans (hs i ((l+rr) / 2) (by omega) (by omega)) (Int.not_lt.mp hless)
theorem aad {nrem:Nat} (hz:nrem<=N):∀ (f:Nat) (p:Array Nat) (k:Nat) {Q:Array Nat->Prop},PB N p->nrem - k=f->k<=nrem->mG r p k->(∀ p',PB N p'->mG r p' nrem->Q p')->fH r N (kas_bin f p k) Q
 | 0,p,k,Q,hB,hf,hk,hs,h=>h p hB (by rw [show nrem=k by omega];exact hs)
 | f+1,p,k,Q,hB,hf,hk,hs,h=>by
  refine fH.bind (Jl hB (by omega) hs k 0 k (by omega) (by omega) (by omega) (fun i h=>by omega) (fun i h1 h2=>by omega) fun l hlk hlo hhi=>?_);refine aad hz f _ (k+1) (hB.bub _ _) (by omega) (by omega) (fun i j hij hj=>?_) h;have hks:k < p.size:=by rw [hB.size];omega
  rw [GZ hks (by omega),GZ hks (by omega),show k - (k - l)=l by omega]
  repeat' split
  all_goals first
   | (exfalso;omega)
   | exact Int.le_refl _
   | exact hlo _ (by omega)
   | exact Int.le_of_lt (hhi _ (by omega) (by omega))
   | exact hs _ _ (by omega) (by omega)
def acs (h1:1<=N):fH r N (kas_sort N) (fun p=>PB N p/\mG r p N):=by
 unfold kas_sort;refine fH.bind (aaz (p:=(List.range N).toArray) ⟨Array.Perm.refl _⟩ (vy _) h1 fun m p' hB hm1 hm2 hs=>?_);dsimp only;by_cases hlt:m < N
 .rw [if_pos hlt];rw [show max m 1=m by omega];exact aad (vy _) _ p' m hB rfl (by omega) hs fun p' a b=>⟨a,b⟩
 .rw [if_neg hlt];exact ⟨hB,by rw [show N=m by omega];exact hs⟩
end Mi
namespace Mi
open PySem L2
open PyProof.Rows hiding St
mutual
noncomputable def bJ:D->D->Bool
 | .int _,.int _=>true
 | .tup a,.tup b=>cW a b
 | .lst a,.lst b=>cW a b
 | _,_=>false
noncomputable def cW:List D->List D->Bool
 | a::as,b::bs=>if a=b then cW as bs else bJ a b
 | [],_=>true
 | _::_,[]=>true
end
theorem mR:∀ {ds:List D}{d:D},bL ds=true->d∈ds->keyOk d=true
 | x::ds,d,h,hd=>by
  rw [bL,Bool.and_eq_true] at h;rcases vR.mp hd with e | hd
  .rw [e];exact h.1
  .exact mR h.2 hd
def Rf (A:Around) (s:Shared) (u v:Value) (b:Bool):Prop :=
 ∀ (prog:Program) (w:World) (E:zb) (Q:zb),Q (.bool b) s->wpAny (model prog w) A (richCompare .Lt u v) Q E s
section
open PySem.SeqAt
open PySem.AutoSeq1 (wpAny_loadPart')
open PySem.MeetsSeq PySem.MeetsSeq2 PySem.MeetsSeq3
def Ur (l b:Addr) (items items2:zt) (n n2:Nat) (dd dd2:zv) (sl sl2:zw) (ds es:List D) (hk:bL ds=true) (hk2:bL es=true) (hc:cW ds es=true) :
  Meets (Builtin.«tuple.__lt__» ⟨[.ref l,.ref b],[]⟩)
   (fun A R s=>s.heap.get? l=some { cls:=.type "tuple",dict:=dd,data:=.seq items n,slots:=sl } /\ s.heap.get? b=some { cls:=.type "tuple",dict:=dd2,data:=.seq items2 n2,slots:=sl2 } /\
    aF s.heap ds items.toList/\aF s.heap es items2.toList/\A.units+1+deps ds < cLine/\A.units+1+deps es < cLine /\
    (∀ d∈ds,∀ e∈es,∀ u v,bJ d e=true->RpV s.heap d u->RpV s.heap e v->Rf A.in1 s u v (ltD d e)) /\
    R (.ok (.ret (.bool (aW ds es)))) s) :=
 .of_wp fun prog w A R s h=>by
  obtain ⟨hp,g,d,tk,os⟩:=s;obtain ⟨hl,hb,hi,hj,hu1,hu2,hrc,h⟩:=h;have f2:=AutoSeq1.sub_tuple_tuple;have z1:items.size=ds.length:=by rw [hi.length];simp
  have z2:items2.size=es.length:=by rw [hj.length];simp
  have hin:A.in1.units=A.units+1:=rfl
  wp_walk using wpAny_loadPart' hl,wpAny_loadPart' hb,wpAny_forIn_list _ (fun rest b s'=>b.1=none/\s'=⟨hp,g,d,tk,os⟩/\∃ (vs ws:zg) (ns' ms':List D),rest=vs.zip ws /\
   aF hp ns' vs/\aF hp ms' ws/\bL ns'=true/\bL ms'=true/\cW ns' ms'=true/\(∀ x∈ns',x∈ds)/\(∀ x∈ms',x∈es)/\ns'.length+items2.size=ms'.length+items.size/\R (.ok (.ret (.bool (aW ns' ms')))) ⟨hp,g,d,tk,os⟩) _
  case turn =>
   rintro ⟨y,x⟩ rest b s' ⟨hb',rfl,vs,ws,ns',ms',hz,hvi,hwi,k1,k2,cc,m1,m2,hlen,hR⟩;cases ns' with
   | nil=>rw [aF] at hvi;subst hvi;rw [List.zip_nil_left] at hz;cases hz
   | cons a as =>
    cases ms' with
    | nil=>rw [aF] at hwi;subst hwi;rw [List.zip_nil_right] at hz;cases hz
    | cons c cs =>
     rw [aF] at hvi hwi;obtain ⟨va,vas,rfl,ra,hvi'⟩:=hvi;obtain ⟨vc,vcs,rfl,rc,hwi'⟩:=hwi;rw [List.zip_cons_cons] at hz;injection hz with hyx hrest;injection hyx with hy hx;subst hy hx;rw [bL,Bool.and_eq_true] at k1 k2;rw [aW] at hR;rw [cW] at cc;simp only [List.length_cons] at hlen;have hda:dep a<=deps ds:=by
      obtain ⟨i,hi2,e⟩:=List.getElem_of_mem (m1 a vi);rw [<- e];exact gj hi2
     have hdc:dep c<=deps es:=by
      obtain ⟨i,hi2,e⟩:=List.getElem_of_mem (m2 c vi);rw [<- e];exact gj hi2
     have he:=sI a c (A:=A.in1) (s:=⟨hp,g,d,tk,os⟩) ra rc (by omega) (by omega);rw [rO k1.1 k2.1] at he;refine zz (he prog w _ _ ?_);by_cases hac:a=c
     .rw [if_pos hac] at hR cc;rw [decide_eq_true hac]
      wp_walk
      exact ⟨rfl,rfl,_,_,_,_,hrest,hvi',hwi',k1.2,k2.2,cc,fun x hx=>m1 x (ve _ hx),fun x hx=>m2 x (ve _ hx),by omega,hR⟩
     .rw [if_neg hac] at hR cc;rw [decide_eq_false hac];have hri:=hrc a (m1 a vi) c (m2 c vi) _ _ cc ra rc prog w
      wp_walk using hri
      exact ⟨_,rfl,by simpa using hR⟩
  case fin =>
   rintro ⟨b1,b2⟩ s' ⟨hb',rfl,vs,ws,ns',ms',hz,hvi,hwi,k1,k2,cc,m1,m2,hlen,hR⟩;simp only at hb';subst hb';have hv:aW ns' ms'=decide (items.size < items2.size):=by
    cases ns' with
    | nil =>
     cases ms' with
     | nil =>
      simp only [List.length_nil] at hlen;rw [aW];exact (v4 (by omega)).symm
     | cons c cs =>
      simp only [List.length_nil,List.length_cons] at hlen;rw [aW];exact (v3 (by omega)).symm
    | cons a as =>
     cases ms' with
     | nil =>
      simp only [List.length_nil,List.length_cons] at hlen;rw [aW];exact (v4 (by omega)).symm
     | cons c cs =>
      rw [aF] at hvi hwi;obtain ⟨va,vas,rfl,ra,hvi'⟩:=hvi;obtain ⟨vc,vcs,rfl,rc,hwi'⟩:=hwi;rw [List.zip_cons_cons] at hz;cases hz
   rw [hv] at hR
   wp_walk
   exact ⟨_,rfl,by simpa [Builtin.Tuple.tupleCompareSizes] using hR⟩
  case h =>
   exact ⟨rfl,rfl,items.toList,items2.toList,ds,es,rfl,hi,hj,hk,hk2,hc,fun _ x=>x,fun _ x=>x,by omega,h⟩
theorem J2:∀ (d e:D) {A:Around}{s:Shared}{u v:Value},keyOk d=true->keyOk e=true->bJ d e=true->RpV s.heap d u->RpV s.heap e v->A.units+dep d < cLine->A.units+dep e < cLine->Rf A s u v (ltD d e)
 | .int a,.int b,A,s,u,v,k1,k2,c,r,q,h1,h2=>by
  rw [RpV] at r q;obtain ⟨t,rfl⟩:=r;obtain ⟨t',rfl⟩:=q;rw [ltD];exact fun prog w E Q h=>HT.Wu A s a t b t' prog w E Q h
 | .tup ds,.tup es,A,s,u,v,k1,k2,c,r,q,h1,h2=>by
  rw [RpV] at r q;obtain ⟨l,its,rfl,⟨⟨cls,dd,data,sl⟩,ho,hc,n,hd⟩,rs⟩:=r;obtain ⟨b,its2,rfl,⟨⟨cls2,dd2,data2,sl2⟩,ho2,hc2,n2,hd2⟩,qs⟩:=q;simp only at hc hd hc2 hd2;subst hc hd hc2 hd2;rw [keyOk] at k1 k2;rw [bJ] at c;rw [dep] at h1 h2;rw [ltD];intro prog w E Q h;refine richCompare_meets_room (op:=.Lt) ⟨_,ho,rfl⟩ ⟨_,ho2,rfl⟩ PySem.F.slot_tuple_lt PySem.F.entry_tuple_lt (PySem.F.args_tuple_lt_2 _ _) (Ur l b its.toArray its2.toArray n n2 dd dd2 sl sl2 ds es k1 k2 c)
   ⟨ho,ho2,by simpa using rs,by simpa using qs,by omega,by omega,fun d hd e he u v hce rd re=>?_,show Value.bool (aW ds es)≠Value.notImplemented/\Q (.bool (aW ds es)) s from ⟨(fun x=>nomatch x),h⟩⟩ (by omega)
  have hin:A.in1.units=A.units+1:=rfl;have kd:keyOk d=true:=mR k1 hd;have ke:keyOk e=true:=mR k2 he;have s1:=List.sizeOf_lt_of_mem hd;have dd1:dep d<=deps ds:=by
   obtain ⟨i,hi2,e⟩:=List.getElem_of_mem hd;rw [<- e];exact gj hi2
  have dd2:dep e<=deps es:=by
   obtain ⟨i,hi2,e⟩:=List.getElem_of_mem he;rw [<- e];exact gj hi2
  exact J2 d e kd ke hce rd re (by show A.units+1+_ < _;omega) (by show A.units+1+_ < _;omega)
 | .non,e,A,s,u,v,k1,k2,c,r,q,h1,h2=>by simp [keyOk] at k1
 | .bl _,e,A,s,u,v,k1,k2,c,r,q,h1,h2=>by simp [keyOk] at k1
 | .lst _,e,A,s,u,v,k1,k2,c,r,q,h1,h2=>by simp [keyOk] at k1
 | .dct _ _,e,A,s,u,v,k1,k2,c,r,q,h1,h2=>by simp [keyOk] at k1
 | .str _,e,A,s,u,v,k1,k2,c,r,q,h1,h2=>by simp [bJ] at c
 | .int _,.non,A,s,u,v,k1,k2,c,r,q,h1,h2=>by simp [bJ] at c
 | .int _,.bl _,A,s,u,v,k1,k2,c,r,q,h1,h2=>by simp [bJ] at c
 | .int _,.str _,A,s,u,v,k1,k2,c,r,q,h1,h2=>by simp [bJ] at c
 | .int _,.tup _,A,s,u,v,k1,k2,c,r,q,h1,h2=>by simp [bJ] at c
 | .int _,.lst _,A,s,u,v,k1,k2,c,r,q,h1,h2=>by simp [bJ] at c
 | .int _,.dct _ _,A,s,u,v,k1,k2,c,r,q,h1,h2=>by simp [bJ] at c
 | .tup _,.non,A,s,u,v,k1,k2,c,r,q,h1,h2=>by simp [bJ] at c
 | .tup _,.bl _,A,s,u,v,k1,k2,c,r,q,h1,h2=>by simp [bJ] at c
 | .tup _,.str _,A,s,u,v,k1,k2,c,r,q,h1,h2=>by simp [bJ] at c
 | .tup _,.int _,A,s,u,v,k1,k2,c,r,q,h1,h2=>by simp [bJ] at c
 | .tup _,.lst _,A,s,u,v,k1,k2,c,r,q,h1,h2=>by simp [bJ] at c
 | .tup _,.dct _ _,A,s,u,v,k1,k2,c,r,q,h1,h2=>by simp [bJ] at c
termination_by d=>sizeOf d
decreasing_by
 simp only [D.tup.sizeOf_spec];omega
def Xj (l b:Addr) (items items2:zt) (n n2:Nat) (dd dd2:zv) (sl sl2:zw) (ns:List D) :
  ∀ (ms:List D) (i:Nat),bL ns=true->bL ms=true->cW ns ms=true->i<=items.size->i<=items2.size->Meets (Builtin.«list.__eq__.loop» ⟨[.ref l,.ref b,rawInt i,rawInt 0],[]⟩)
   (fun A R s=>s.heap.get? l=some { cls:=.type "list",dict:=dd,data:=.seq items n,slots:=sl } /\ s.heap.get? b=some { cls:=.type "list",dict:=dd2,data:=.seq items2 n2,slots:=sl2 } /\
    aF s.heap ns (items.toList.drop i)/\aF s.heap ms (items2.toList.drop i)/\A.units+1+deps ns < cLine/\A.units+1+deps ms < cLine /\
    R (.ok (.ret (.bool (aW ns ms)))) s):=by
 induction ns with
 | nil =>
  intro ms i k1 k2 cc i1 i2 prog w A R s h;obtain ⟨hp,g,d,tk,os⟩:=s;obtain ⟨hl,hb,ri,rj,u1,u2,h⟩:=h;have l1:=ri.length;have l2:=rj.length;simp only [List.length_nil,List.length_drop,Array.length_toList] at l1 l2
  wp_walk using wpAny_loadPart' hl,wpAny_loadPart' hb
  have hi1:items[((i:Nat):Int).toNat]?=none:=by simp;omega
  rw [hi1]
  wp_walk using wpAny_loadPart' hl,wpAny_loadPart' hb
  show R (.ok (.ret (.bool (decide (items.size < items2.size))))) _
  have e:decide (items.size < items2.size)=aW [] ms:=by
   cases ms with
   | nil=>rw [aW];exact v4 (by simp only [List.length_nil] at l2;omega)
   | cons _ _=>rw [aW];exact v3 (by simp only [List.length_cons] at l2;omega)
  rw [e];exact h
 | cons a as ih =>
  intro ms i k1 k2 cc i1 i2 prog w A R s h;obtain ⟨hp,g,d,tk,os⟩:=s;obtain ⟨hl,hb,ri,rj,u1,u2,h⟩:=h;have l1:=ri.length;have l2:=rj.length;simp only [List.length_cons,List.length_drop,Array.length_toList] at l1;simp only [List.length_drop,Array.length_toList] at l2;have hlt:i < items.size:=by omega
  have hi1:items[((i:Nat):Int).toNat]?=some items[i]:=by simp [hlt]
  wp_walk using wpAny_loadPart' hl,wpAny_loadPart' hb
  cases ms with
  | nil =>
   simp only [List.length_nil] at l2;have hi2:items2[((i:Nat):Int).toNat]?=none:=by simp;omega
   rw [hi1,hi2]
   wp_walk using wpAny_loadPart' hl,wpAny_loadPart' hb
   show R (.ok (.ret (.bool (decide (items.size < items2.size))))) _
   have e:decide (items.size < items2.size)=aW (a::as) []:=by
    rw [aW];exact v4 (by omega)
   rw [e];exact h
  | cons c cs =>
   simp only [List.length_cons] at l2;have hlt2:i < items2.size:=by omega
   have hi2:items2[((i:Nat):Int).toNat]?=some items2[i]:=by simp [hlt2]
   have hc:((i:Int)+1)=((i+1:Nat):Int):=by push_cast;rfl
   have d1:items.toList.drop i=items[i]::items.toList.drop (i+1):=by rw [List.drop_eq_getElem_cons (by simpa using hlt)];simp
   have d2:items2.toList.drop i=items2[i]::items2.toList.drop (i+1):=by rw [List.drop_eq_getElem_cons (by simpa using hlt2)];simp
   rw [d1,aF] at ri;rw [d2,aF] at rj;obtain ⟨va,vas,ea,ra,rias⟩:=ri;obtain ⟨vc,vcs,ec,rc,rjcs⟩:=rj;injection ea with ea1 ea2;injection ec with ec1 ec2;subst ea1 ea2 ec1 ec2;rw [bL,Bool.and_eq_true] at k1 k2;rw [cW] at cc;rw [deps] at u1 u2;rw [aW] at h;rw [hi1,hi2];have hin:A.in1.units=A.units+1:=rfl;have he:=sI a c (A:=A.in1) (s:=⟨hp,g,d,tk,os⟩) ra rc (by omega) (by omega);rw [rO k1.1 k2.1] at he;refine zz (he prog w _ _ ?_);by_cases hac:a=c
   .rw [if_pos hac] at h cc;rw [decide_eq_true hac]
    wp_walk
    rw [hc];exact ⟨plainId_quiet plain_eq_loop _,codeAny_builtin entry_eq_loop (by
     rw [Around.under_plainId plain_eq_loop _];exact ih cs (i+1) k1.2 k2.2 cc hlt hlt2 prog w A R _ ⟨hl,hb,rias,rjcs,by omega,by omega,h⟩)⟩
   .rw [if_neg hac] at h cc;rw [decide_eq_false hac];have hri:=J2 a c (A:=A.in1) (s:=⟨hp,g,d,tk,os⟩) k1.1 k2.1 cc ra rc (by omega) (by omega) prog w
    wp_walk using wpAny_loadPart' hl,wpAny_loadPart' hb
    rw [hi1,hi2]
    wp_walk using hri
    exact h
def Vu (l b:Addr) (items items2:zt) (n n2:Nat) (dd dd2:zv) (sl sl2:zw) (ds es:List D) (k1:bL ds=true) (k2:bL es=true) (cc:cW ds es=true) :
  Meets (Builtin.«list.__lt__» ⟨[.ref l,.ref b],[]⟩)
   (fun A R s=>s.heap.get? l=some { cls:=.type "list",dict:=dd,data:=.seq items n,slots:=sl } /\ s.heap.get? b=some { cls:=.type "list",dict:=dd2,data:=.seq items2 n2,slots:=sl2 } /\
    aF s.heap ds items.toList/\aF s.heap es items2.toList/\A.units+1+deps ds < cLine/\A.units+1+deps es < cLine /\
    R (.ok (.ret (.bool (aW ds es)))) s):=by
 intro prog w A R s h;obtain ⟨hp,g,d,tk,os⟩:=s;obtain ⟨hl,hb,ri,rj,u1,u2,h⟩:=h;have f3:=AutoSeq1.sub_list_list
 wp_walk using wpAny_loadPart' hl,wpAny_loadPart' hb
 exact ⟨plainId_quiet plain_eq_loop _,codeAny_builtin entry_eq_loop (by
  rw [Around.under_plainId plain_eq_loop _];exact Xj l b items items2 n n2 dd dd2 sl sl2 ds es 0 k1 k2 cc (vS _) (vS _) prog w A R _ ⟨hl,hb,by simpa using ri,by simpa using rj,u1,u2,h⟩)⟩
def Rv {prog:Program}{w:World}{A:Around}{E:zb}{s:Shared}{ds es:List D}{u v:Value}{Q:Bool->Shared->Prop} (k1:bL ds=true) (k2:bL es=true) (cc:cW ds es=true) (r:RpV s.heap (.lst ds) u) (q:RpV s.heap (.lst es) v)
  (h1:A.units+dep (.lst ds)+2 < cLine) (h2:A.units+dep (.lst es)+2 < cLine) (h:Q (aW ds es) s):wpAny (model prog w) A (oneLt' true u v) Q E s:=by
 rw [RpV] at r q;obtain ⟨l,its,rfl,⟨⟨cls,dd,data,sl⟩,ho,hc,n,hd⟩,rs⟩:=r;obtain ⟨b,its2,rfl,⟨⟨cls2,dd2,data2,sl2⟩,ho2,hc2,n2,hd2⟩,qs⟩:=q;simp only at hc hd hc2 hd2;subst hc hd hc2 hd2;rw [dep] at h1 h2;rw [oneLt'_eq];simp only [if_true];refine zz (PySem.wpAny_cRoomFor (by omega) ?_);refine zz (wpAny_callSpecialIfBound?_slot (T:="list") ⟨_,ho,rfl⟩ PySem.F.slot_list_lt (call_meets PySem.F.slot_list_lt ⟨_,ho,rfl⟩ PySem.F.entry_list_lt (PySem.F.args_list_lt_2 _ _) (Vu l b its.toArray its2.toArray n n2 dd dd2 sl sl2 ds es k1 k2 cc)
  ⟨ho,ho2,by simpa using rs,by simpa using qs,by omega,by omega,?_⟩))
 exact jo h
end
end Mi
namespace Mi
open PySem
mutual
theorem Ae:∀ (a:D),ltD a a=false
 | .int a=>by simp [ltD]
 | .tup a=>by rw [ltD];exact Bt a
 | .non=>by simp [ltD]
 | .bl _=>by simp [ltD]
 | .str _=>by simp [ltD]
 | .lst a=>by rw [ltD];exact Bt a
 | .dct _ _=>by simp [ltD]
theorem Bt:∀ (a:List D),aW a a=false
 | []=>by simp [aW]
 | a::as=>by rw [aW,if_pos rfl];exact Bt as
end
mutual
theorem yw:∀ {a b c:D},ltD a b=true->ltD b c=true->ltD a c=true
 | .int a,b,c,h1,h2=>by
  cases b <;> simp [ltD] at h1;cases c <;> simp [ltD] at h2 ⊢;omega
 | .tup a,b,c,h1,h2=>by
  cases b <;> simp [ltD] at h1;cases c <;> simp [ltD] at h2 ⊢;exact Ej h1 h2
 | .non,b,c,h1,h2=>by simp [ltD] at h1
 | .bl _,b,c,h1,h2=>by simp [ltD] at h1
 | .str _,b,c,h1,h2=>by simp [ltD] at h1
 | .lst a,b,c,h1,h2=>by
  cases b <;> simp [ltD] at h1;cases c <;> simp [ltD] at h2 ⊢;exact Ej h1 h2
 | .dct _ _,b,c,h1,h2=>by simp [ltD] at h1
theorem Ej:∀ {a b c:List D},aW a b=true->aW b c=true->aW a c=true
 | [],b,c,h1,h2=>by
  cases c with
  | nil=>cases b <;> simp [aW] at h2
  | cons _ _=>simp [aW]
 | a::as,[],c,h1,h2=>by simp [aW] at h1
 | a::as,b::bs,[],h1,h2=>by simp [aW] at h2
 | a::as,b::bs,c::cs,h1,h2=>by
  rw [aW] at h1 h2 ⊢;by_cases hab:a=b
  .subst hab;rw [if_pos rfl] at h1;by_cases hbc:a=c
   .rw [if_pos hbc] at h2 ⊢;exact Ej h1 h2
   .rw [if_neg hbc] at h2 ⊢;exact h2
  .rw [if_neg hab] at h1;by_cases hbc:b=c
   .subst hbc;rw [if_neg hab];exact h1
   .rw [if_neg hbc] at h2;have h3:=yw h1 h2;by_cases hac:a=c
    .subst hac;rw [Ae] at h3;cases h3
    .rw [if_neg hac];exact h3
end
variable {a b:D}
def Bv (h:ltD a b=true):ltD b a=false:=by
 cases e:ltD b a with
 | false=>rfl
 | true =>
  have:=yw h e;rw [Ae] at this;cases this
mutual
theorem zx:∀ {a b:D},bJ a b=true->a=b\/ltD a b=true\/ltD b a=true
 | .int a,b,h=>by
  cases b <;> simp [bJ] at h;simp [ltD];omega
 | .tup a,b,h=>by
  cases b <;> simp [bJ] at h;rcases Bo h with e | e | e
  .exact .inl (by rw [e])
  .exact .inr (.inl (by rw [ltD];exact e))
  .exact .inr (.inr (by rw [ltD];exact e))
 | .non,b,h=>by simp [bJ] at h
 | .bl _,b,h=>by simp [bJ] at h
 | .str _,b,h=>by simp [bJ] at h
 | .lst a,b,h=>by
  cases b <;> simp [bJ] at h;rcases Bo h with e | e | e
  .exact .inl (by rw [e])
  .exact .inr (.inl (by rw [ltD];exact e))
  .exact .inr (.inr (by rw [ltD];exact e))
 | .dct _ _,b,h=>by simp [bJ] at h
theorem Bo:∀ {a b:List D},cW a b=true->a=b\/aW a b=true\/aW b a=true
 | [],[],h=>.inl rfl
 | [],_::_,h=>.inr (.inl (by simp [aW]))
 | _::_,[],h=>.inr (.inr (by simp [aW]))
 | a::as,b::bs,h=>by
  rw [cW] at h;by_cases hab:a=b
  .subst hab;rw [if_pos rfl] at h;rcases Bo h with e | e | e
   .exact .inl (by rw [e])
   .exact .inr (.inl (by rw [aW,if_pos rfl];exact e))
   .exact .inr (.inr (by rw [aW,if_pos rfl];exact e))
  .rw [if_neg hab] at h;rcases zx h with e | e | e
   .exact absurd e hab
   .exact .inr (.inl (by rw [aW,if_neg hab];exact e))
   .exact .inr (.inr (by rw [aW,if_neg (Ne.symm hab)];exact e))
end
def kY (ds:List D):Prop:=∀ a∈ds,∀ b∈ds,bJ a b=true
def leD (a b:D):Prop:=ltD b a=false
def aaj {c:D} (h:bJ b c=true) (h1:leD a b) (h2:leD b c):leD a c:=by
 unfold leD at *
 cases e:ltD c a with
 | false=>rfl
 | true =>
  rcases zx h with z | z | z
  .subst z;rw [h1] at e;cases e
  .have:=yw z e;rw [h1] at this;cases this
  .rw [h2] at z;cases z
def Ve (h:bJ a b=true) (h1:leD a b) (h2:leD b a):a=b:=by
 unfold leD at *
 rcases zx h with z | z | z
 .exact z
 .rw [h2] at z;cases z
 .rw [h1] at z;cases z
def Fo (d:D):List D->List D
 | []=>[d]
 | e::es=>if ltD e d=true then e::Fo d es else d::e::es
def nU:List D->List D
 | []=>[]
 | d::ds=>Fo d (nU ds)
theorem xV (d:D):∀ (es:List D),(Fo d es).Perm (d::es)
 | []=>List.Perm.refl _
 | e::es=>by
  unfold Fo;split
  .exact ((xV d es).cons e).trans (List.Perm.swap d e es)
  .exact List.Perm.refl _
theorem pL:∀ (ds:List D),(nU ds).Perm ds
 | []=>List.Perm.refl _
 | d::ds=>(xV d (nU ds)).trans ((pL ds).cons d)
theorem Ay {d:D}:∀ {es:List D},(∀ a∈d::es,∀ b∈d::es,bJ a b=true)->es.Pairwise leD->(Fo d es).Pairwise leD
 | [],_,_=>List.pairwise_singleton _ _
 | e::es,hc,hs=>by
  obtain ⟨h1,h2⟩:=List.pairwise_cons.mp hs;unfold Fo;split
  .rename_i hlt;refine List.pairwise_cons.mpr ⟨fun x hx=>?_,Ay (fun a ha b hb=>hc a ?_ b ?_) h2⟩
   .rcases vR.mp ((xV d es).mem_iff.mp hx) with z | z
    .rw [z];exact Bv hlt
    .exact h1 x z
   .rcases vR.mp ha with z | z
    .rw [z];simp
    .simp [z]
   .rcases vR.mp hb with z | z
    .rw [z];simp
    .simp [z]
  .rename_i hlt;have hle:leD d e:=by unfold leD;simpa using hlt
   refine List.pairwise_cons.mpr ⟨fun x hx=>?_,hs⟩;rcases vR.mp hx with z | z
   .rw [z];exact hle
   .exact aaj (hc e (by simp) x (by simp [z])) hle (h1 x z)
theorem yQ:∀ {ds:List D},kY ds->(nU ds).Pairwise leD
 | [],_=>List.Pairwise.nil
 | d::ds,h=>by
  refine Ay (fun a ha b hb=>h a ?_ b ?_) (yQ fun a ha b hb=>h a (ve _ ha) b (ve _ hb))
  .rcases vR.mp ha with z | z
   .rw [z];simp
   .exact ve _ ((pL ds).mem_iff.mp z)
  .rcases vR.mp hb with z | z
   .rw [z];simp
   .exact ve _ ((pL ds).mem_iff.mp z)
theorem xu:∀ {as bs:List D},kY as->as.Perm bs->as.Pairwise leD->bs.Pairwise leD->as=bs
 | [],bs,_,p,_,_=>(List.Perm.nil_eq p)
 | a::as,[],_,p,_,_=>absurd p.length_eq (by simp)
 | a::as,b::bs,hc,p,s1,s2=>by
  obtain ⟨h1,h2⟩:=List.pairwise_cons.mp s1;obtain ⟨g1,g2⟩:=List.pairwise_cons.mp s2;have hb:b∈a::as:=p.mem_iff.mpr vi;have ha:a∈b::bs:=p.mem_iff.mp vi;have e:a=b:=by
   rcases vR.mp hb with z | z
   .exact z.symm
   .rcases vR.mp ha with y | y
    .exact y
    .exact Ve (hc a (by simp) b hb) (h1 b z) (g1 a y)
  subst e;rw [xu (fun a ha b hb=>hc a (List.mem_cons_of_mem _ ha) b (List.mem_cons_of_mem _ hb)) (List.Perm.cons_inv p) h2 g2]
variable {ds:List D}
def Cm {es:List D} (hc:kY ds) (p:es.Perm ds) (s:es.Pairwise leD):nU ds=es:=by
 have hc':kY es:=fun a ha b hb=>hc a (p.mem_iff.mp ha) b (p.mem_iff.mp hb)
 exact (xu hc' (p.trans (pL ds).symm) s (yQ hc)).symm
theorem countP_le {α:Type}{p q:α->Bool}:∀ (l:List α),(∀ x∈l,p x=true->q x=true)->l.countP p<=l.countP q
 | [],_=>vy _
 | x::l,h=>by
  have ih:=countP_le l fun y hy=>h y (ve _ hy)
  have hx:=h x vi;rw [List.countP_cons,List.countP_cons];cases e:p x <;> cases f:q x <;> simp_all <;> omega
theorem Gn {α:Type}{p q:α->Bool}:∀ (l:List α),(∀ x∈l,p x=true->q x=true)->(∃ x∈l,q x=true/\p x=false)->l.countP p < l.countP q
 | [],_,h=>by obtain ⟨x,hx,_⟩:=h;simp at hx
 | x::l,h,⟨y,hy,h1,h2⟩=>by
  rw [List.countP_cons,List.countP_cons];rcases vR.mp hy with e | hy
  .subst e;have:=countP_le l fun z hz=>h z (ve _ hz)
   rw [h1,h2];simp;omega
  .have ih:=Gn l (fun z hz=>h z (ve _ hz)) ⟨y,hy,h1,h2⟩;have hx:=h x vi;cases e:p x <;> cases f:q x <;> simp_all <;> omega
def j7 (ds:List D) (i:Nat):Int:=(((List.range ds.length).countP fun k=>ltD (ds.getD k .non) (ds.getD i .non):Nat):Int)
def Ox (hc:kY ds) {i j:Nat} (hi:i < ds.length) (hj:j < ds.length):decide (j7 ds i < j7 ds j)=ltD (ds.getD i .non) (ds.getD j .non):=by
 have mem:∀ {k},k < ds.length->ds.getD k .non∈ds:=fun {k} hk=>by
  have e:ds.getD k .non=ds[k]:=by simp [hk]
  rw [e];exact List.getElem_mem hk
 unfold j7;cases e:ltD (ds.getD i .non) (ds.getD j .non) with
 | true =>
  have:=Gn (p:=fun k=>ltD (ds.getD k .non) (ds.getD i .non)) (q:=fun k=>ltD (ds.getD k .non) (ds.getD j .non)) (List.range ds.length) (fun x _ hx=>yw hx e) ⟨i,by simpa using hi,e,Ae _⟩;exact v3 (by omega)
 | false =>
  have:(List.range ds.length).countP (fun k=>ltD (ds.getD k .non) (ds.getD j .non))<=(List.range ds.length).countP (fun k=>ltD (ds.getD k .non) (ds.getD i .non)):=by
   refine countP_le _ fun x hx h=>?_
   rcases zx (hc _ (mem hi) _ (mem hj)) with z | z | z
   .rw [z];exact h
   .rw [e] at z;cases z
   .exact yw h z
  exact v4 (by omega)
end Mi
namespace Mi
open PySem L2 PySem.W
open PyProof.Rows hiding St
noncomputable def isInt:D->Bool
 | .int _=>true
 | _=>false
noncomputable def uU:D->Bool
 | .tup (.tup _::_)=>true
 | _=>false
def lstK:D->Bool
 | .lst ds=>bL ds
 | _=>false
def oU (ds:List D):Bool :=
 decide (ds.length < 64) && decide (deps ds<=20) && (ds.all fun a=>ds.all fun b=>bJ a b) && ((bL ds && (decide (ds.length < 2) || ds.all uU)) || ds.all lstK)
structure SortOk (ds:List D):Prop where
 len:ds.length < 64
 dp:deps ds<=20
 cmp:kY ds
 kind:(bL ds=true/\(ds.length < 2\/ds.all uU=true))\/ds.all lstK=true
variable {ds:List D}
def vV (h:oU ds=true):SortOk ds:=by
 unfold oU at h;simp only [Bool.and_eq_true,Bool.or_eq_true,decide_eq_true_eq] at h;obtain ⟨⟨⟨h1,h3⟩,h4⟩,h5⟩:=h;refine ⟨h1,h3,fun a ha b hb=>?_,?_⟩
 .exact y4.mp (y4.mp h4 a ha) b hb
 .rcases h5 with ⟨k,h5⟩ | h5
  .refine .inl ⟨k,?_⟩;exact h5
  .exact .inr h5
variable {h:Heap}{i:Nat}
theorem aF.getD {us:zg} (r:aF h ds us)  (hi:i < ds.length):RpV h (ds.getD i .non) (us.getD i .none):=by
 have hl:=r.length;have e1:ds.getD i .non=ds[i]:=by simp [hi]
 have e2:us.getD i .none=us[i]:=by simp [show i < us.length by omega]
 rw [e1,e2];exact aF.get hi (by omega) r
def mem_getD (hi:i < ds.length):ds.getD i .non∈ds:=by
 have e1:ds.getD i .non=ds[i]:=by simp [hi]
 rw [e1];exact List.getElem_mem hi
def Ad {d:D} (h:d∈ds):dep d<=deps ds:=by
 obtain ⟨i,hi2,e⟩:=List.getElem_of_mem h;rw [<- e];exact gj hi2
variable {vs:zg}{j:Nat}{C:Bool->Shared->Prop}{b:Bool}
section
variable {prog:Program}{w:World}{A:Around}{E:zb}{s:Shared}
theorem Kc {b fin:Bool}{Q:Bool->Shared->Prop}:∀ {ds es:List D}{us vs:zg} (i:Nat),aF s.heap ds us->aF s.heap es vs->bL ds=true->bL es=true->cW ds es=true ->
  A.units+deps ds < cLine->A.units+deps es < cLine->(b=true->i=0->∀ d∈ds.head?,isInt d=true)->(b=true->i=0->∀ d∈es.head?,isInt d=true)->(ds=[]\/es=[]->fin=aW ds es)->(∀ ds' es',ds'.length+es.length=es'.length+ds.length->(ds'=[]\/es'=[])->fin=aW ds' es') ->
  Q (aW ds es) s->KatLex prog w A b fin Q (us.zip vs) i s
 | [],es,us,vs,i,r,q,k1,k2,c,h1,h2,f1,f2,hf,hg,h=>by
  rw [aF] at r;subst r;rw [List.zip_nil_left];refine kat_nil ?_;rw [hf (.inl rfl)];exact h
 | d::ds,[],us,vs,i,r,q,k1,k2,c,h1,h2,f1,f2,hf,hg,h=>by
  rw [aF] at q;subst q;rw [List.zip_nil_right];refine kat_nil ?_;rw [hf (.inr rfl)];exact h
 | d::ds,e::es,us,vs,i,r,q,k1,k2,c,h1,h2,f1,f2,hf,hg,h=>by
  rw [aF] at r q;obtain ⟨u,us',rfl,r0,rs⟩:=r;obtain ⟨v,vs',rfl,q0,qs⟩:=q;rw [bL,Bool.and_eq_true] at k1 k2;rw [cW] at c;rw [deps] at h1 h2;rw [aW] at h;rw [List.zip_cons_cons];refine kat_cons ?_;have he:=sI d e (A:=A) (s:=s) r0 q0 (by omega) (by omega);rw [rO k1.1 k2.1] at he;refine he prog w _ _ ?_;by_cases hde:d=e
  .rw [decide_eq_true hde];rw [if_pos hde] at h c;refine kat_yes (Kc (i+1) rs qs k1.2 k2.2 c (by omega) (by omega) (fun _ z=>by omega) (fun _ z=>by omega) (fun z=>hg ds es (by simp only [List.length_cons];omega) z) (fun ds' es' hl z=>hg ds' es' (by simp only [List.length_cons];omega) z) h)
  .rw [decide_eq_false hde];rw [if_neg hde] at h c;refine kat_no ?_;have lt:=J2 d e (A:=A) (s:=s) k1.1 k2.1 c r0 q0 (by omega) (by omega);by_cases hb:(b && i == 0)=true
   .rw [hb];rw [Bool.and_eq_true] at hb;have i0:i=0:=by simpa using hb.2
    have d1:=f1 hb.1 i0 d (by simp);have e1:=f2 hb.1 i0 e (by simp);cases d <;> simp [isInt] at d1;cases e <;> simp [isInt] at e1;rw [RpV] at r0 q0;obtain ⟨t,rfl⟩:=r0;obtain ⟨t',rfl⟩:=q0;rw [ltD] at h;exact oneLt_int h
   .have hb':(b && i == 0)=false:=by simpa using hb
    rw [hb'];exact kat_one u v (lt prog w _ (PySem.W.BoolBack Q) h)
def Za (r:aF s.heap ds vs) (hall:ds.all lstK=true) (hc:kY ds) (hu:A.units+deps ds+2 < cLine)  (hi:i < ds.length) (hj:j < ds.length) (h:C (ltD (ds.getD i .non) (ds.getD j .non)) s) :
  kas_ask prog w A oneType' vs i j C s:=by
 unfold kas_ask;have r1:=r.getD hi;have r2:=r.getD hj;have m1:=mem_getD hi;have m2:=mem_getD hj;have t1:=y4.mp hall _ m1;have t2:=y4.mp hall _ m2;have c:=hc _ m1 _ m2;have d1:=Ad m1;have d2:=Ad m2
 revert r1 r2 t1 t2 c d1 d2 h
 generalize ds.getD i D.non=d;generalize ds.getD j D.non=e;generalize vs.getD i Value.none=u;generalize vs.getD j Value.none=v;intro h r1 r2 t1 t2 c d1 d2;cases d <;> try (cases t1;done)
 cases e <;> try (cases t2;done)
 rw [ltD] at h;rw [bJ] at c;rw [keyLt'_oneType];exact Rv t1 t2 c r1 r2 (by omega) (by omega) h
def Z9 (r:aF s.heap ds vs) (hk:bL ds=true) (hc:kY ds) (hu:A.units+deps ds < cLine) (hall:∀ d∈ds,∃ x xs,d=.tup (x::xs)/\(b=true->isInt x=true))  (hi:i < ds.length) (hj:j < ds.length) (h:C (ltD (ds.getD i .non) (ds.getD j .non)) s) :
  kas_ask prog w A (tuples' b) vs i j C s:=by
 unfold kas_ask;have r1:=r.getD hi;have r2:=r.getD hj;have m1:=mem_getD hi;have m2:=mem_getD hj;have t1:=hall _ m1;have t2:=hall _ m2;have c:=hc _ m1 _ m2;have k1:=mR hk m1;have k2:=mR hk m2;have d1:=Ad m1;have d2:=Ad m2
 revert r1 r2 t1 t2 c k1 k2 d1 d2 h
 generalize ds.getD i D.non=d;generalize ds.getD j D.non=e;generalize vs.getD i Value.none=u;generalize vs.getD j Value.none=v;intro h r1 r2 t1 t2 c k1 k2 d1 d2;obtain ⟨x,xs,rfl,f1⟩:=t1;obtain ⟨y,ys,rfl,f2⟩:=t2;rw [RpV] at r1 r2;obtain ⟨a,its,rfl,⟨o,ho,_,n,hd⟩,rs⟩:=r1;obtain ⟨a2,its2,rfl,⟨o2,ho2,_,n2,hd2⟩,qs⟩:=r2;rw [keyOk] at k1 k2;rw [bJ] at c;rw [dep] at d1 d2;rw [ltD] at h;refine kat_lt ho hd ho2 hd2 ?_;have l1:=rs.length;have l2:=qs.length;have key:∀ ds' es':List D,ds'.length+(y::ys).length=es'.length+(x::xs).length->(ds'=[]\/es'=[])->decide (its.toArray.size < its2.toArray.size)=aW ds' es':=by
  intro ds' es' hl z;have e1:its.toArray.size=(x::xs).length:=by simp only [List.size_toArray];omega
  have e2:its2.toArray.size=(y::ys).length:=by simp only [List.size_toArray];omega
  rw [e1,e2];rcases z with z | z
  .subst z;cases es' with
   | nil=>rw [aW];exact v4 (by simp only [List.length_nil] at hl;omega)
   | cons _ _=>rw [aW];exact v3 (by simp only [List.length_nil,List.length_cons] at hl ⊢;omega)
  .subst z;cases ds' with
   | nil=>rw [aW];exact v4 (by simp only [List.length_nil] at hl;omega)
   | cons _ _=>rw [aW];exact v4 (by simp only [List.length_nil,List.length_cons] at hl ⊢;omega)
 exact Kc 0 rs qs k1 k2 c (by omega) (by omega) (fun hb _ z hz=>by simp at hz;subst hz;exact f1 hb) (fun hb _ z hz=>by simp at hz;subst hz;exact f2 hb) (fun z=>key _ _ (by omega) z) key h
theorem Nv:∀ {ds:List D}{vs:zg},aF s.heap ds vs->(∀ d∈ds,∃ x xs,d=.tup (x::xs))->∃ fs,KatTups s.heap vs fs/\aF s.heap (ds.map fun d=>match d with | .tup (x::_)=>x | _=>.non) fs
 | [],vs,r,_=>by
  rw [aF] at r;subst r;exact ⟨[],KatTups.nil,by simp [aF]⟩
 | d::ds,vs,r,h=>by
  rw [aF] at r;obtain ⟨y,ys,rfl,r0,rs⟩:=r;obtain ⟨fs,t,q⟩:=Nv rs fun d hd=>h d (ve _ hd)
  obtain ⟨x,xs,rfl⟩:=h d vi;rw [RpV] at r0;obtain ⟨a,its,rfl,⟨o,ho,hc,n,hd⟩,is⟩:=r0;rw [aF] at is;obtain ⟨f,its',rfl,rf,is'⟩:=is;refine ⟨f::fs,KatTups.cons ho hc hd (by simp) t,?_⟩;rw [List.map_cons,aF];exact ⟨f,fs,rfl,rf,q⟩
theorem type_of {M:Model}{h:Heap}{p:D->Bool}{T:Value} (hT:∀ d u,p d=true->RpV h d u->Looks M h (typeOf u) T):∀ {ds:List D}{vs:zg},aF h ds vs->ds.all p=true->∀ v∈vs,Looks M h (typeOf v) T
 | [],vs,r,_,v,hv=>by rw [aF] at r;subst r;simp at hv
 | d::ds,vs,r,hp,v,hv=>by
  rw [aF] at r;obtain ⟨y,ys,rfl,r0,rs⟩:=r;rw [List.all_cons,Bool.and_eq_true] at hp;rcases vR.mp hv with e | hv
  .rw [e];exact hT d y hp.1 r0
  .exact type_of (ds:=ds) (vs:=ys) hT rs hp.2 v hv
noncomputable def isTup:D->Bool
 | .tup _=>true
 | _=>false
def Wr {M:Model} (d:D) (u:Value) (p:isTup d=true) (r:RpV h d u):Looks M h (typeOf u) (.type "tuple"):=by
 cases d <;> simp [isTup] at p;rw [RpV] at r;obtain ⟨a,its,rfl,⟨o,ho,hc,n,hd⟩,is⟩:=r;have l:Looks M h (typeOf (.ref a)) o.cls:=(Looks.ld ho).andThen .now;rw [hc] at l;exact l
def W0 {M:Model} (d:D) (u:Value) (p:lstK d=true) (r:RpV h d u):Looks M h (typeOf u) (.type "list"):=by
 cases d <;> try (cases p;done)
 rw [RpV] at r;obtain ⟨a,its,rfl,⟨o,ho,hc,n,hd⟩,is⟩:=r;have l:Looks M h (typeOf (.ref a)) o.cls:=(Looks.ld ho).andThen .now;rw [hc] at l;exact l
def R9 {G:Array Nat->Shared->Prop} (S:SortOk ds) (h2:2<=ds.length) (r:aF s.heap ds vs) (hu:A.units+40 < cLine)
  (hG:∀ p,PB ds.length p->mG (j7 ds) p ds.length->G p s) :
  wpAny (model prog w) A (keyKind' vs.toArray) (fun κ s'=>(kas_sort vs.length).kasWp (kas_ask prog w A κ vs) G s') E s:=by
 have hl:=r.length;have fin:∀ κ:SortKind,(∀ (i j:Nat) (C:Bool->Shared->Prop),i < ds.length->j < ds.length->C (ltD (ds.getD i .non) (ds.getD j .non)) s->kas_ask prog w A κ vs i j C s)->(kas_sort vs.length).kasWp (kas_ask prog w A κ vs) G s:=by
  intro κ hk;rw [<- hl];refine fH.wp (r:=j7 ds) (N:=ds.length) (fun i j C hi hj hc=>hk i j C hi hj ?_) (Gv (acs (by omega)) fun p hp=>hG p hp.1 hp.2);rw [Ox S.cmp hi hj] at hc;exact hc
 have hdp:=S.dp;rcases S.kind with ⟨key,k⟩ | k
 rotate_left
 .refine kas_kind (by omega) (type_of (p:=lstK) W0 r k) (by decide) (by decide) ?_;exact fin _ fun i j C hi hj hc=>Za r k S.cmp (by omega) hi hj hc
 rcases k with k | k
 .omega
 .have hall:∀ d∈ds,∃ x xs,d=.tup (x::xs)/\isTup x=true:=fun d hd=>by
   have:=y4.mp k d hd;cases d <;> simp [uU] at this;rename_i l;cases l with
   | nil=>simp [uU] at this
   | cons x xs=>exact ⟨x,xs,rfl,by cases x <;> simp [uU,isTup] at this ⊢⟩
  obtain ⟨fs,t,q⟩:=Nv (ds:=ds) (vs:=vs) r fun d hd=>let ⟨x,xs,e,_⟩:=hall d hd;⟨x,xs,e⟩
  have ql:=q.length;rw [List.length_map] at ql;refine kat_kind (T:=.type "tuple") t (by omega) (type_of (p:=isTup) Wr q ?_) (by decide) ?_
  .rw [List.all_map,List.all_eq_true];intro d hd;obtain ⟨x,xs,rfl,hx⟩:=hall d hd;exact hx
  .exact fin _ fun i j C hi hj hc=>Z9 r key S.cmp (by omega) (fun d hd=>let ⟨x,xs,e,z⟩:=hall d hd;⟨x,xs,e,fun hb=>by simp at hb⟩) hi hj hc
def Rz {a:Addr}{n:Nat}{P:PySem.Fin -> Shared -> Prop} (ho:s.heap.get? a=some (seqObj "list" vs.toArray n)) (S:SortOk ds) (hkp:∀ h':Heap,(∀ b o,b ≠ a -> s.heap.get? b=some o -> h'.get? b=some o) -> aF h' ds vs) (hu:A.units+40 < cLine)
  (h:∀ p:Array Nat,PB ds.length p->mG (j7 ds) p ds.length->P (.done (.ret .none)) { s with heap:=sortedHeap s.heap a vs (List.toArray (p.toList.map fun i=>vs.getD i Value.none)) }) :
  wpAny (model prog w) A (Builtin.«list.sort» ⟨[.ref a],[]⟩) P E s:=by
 have r:=hkp s.heap fun _ _ _ e=>e
 have hl:=r.length;have h64:vs.length < 64:=by have:=S.len;omega
 rw [list_sort_plain];have ha:a < s.heap.objs.size:=vx ho;refine zz (listItems_at ho rfl ?_);refine zz (listUpdate_at ho rfl ?_ (by rw [List.size_toArray,sizeLine_eq];omega) (vS _));obtain ⟨e1,ho1⟩:∃ e1,(s.heap.update a (Obj.mapSeq fun _=>(#[]:zt))).get? a=some (seqObj "list" #[] e1):=⟨_,get?_update_seq ho fun _=>#[]⟩
 refine zz (seqEpoch_at ho1 rfl ?_);refine zz (wpAny_newTuple ?_ (by show vs.length<=_;rw [sizeLine_eq];omega));refine zz (wpAny_newList ?_ (vS _));refine wpAny_holding ?_;have ho6:(((s.heap.update a (Obj.mapSeq fun _=>(#[]:zt))).push (seqObj "tuple" vs.toArray 0)).push (seqObj "list" #[] 0)).get? a=some (seqObj "list" #[] e1):=by
  rw [Heap.get?_push_ne _ _ _ (by rw [size_push',Heap.size_update];exact Nat.ne_of_lt (Nat.lt_succ_of_lt ha)),Heap.get?_push_ne _ _ _ (by rw [Heap.size_update];exact Nat.ne_of_lt ha)];exact ho1
 show wpAny (model prog w) A _ P E { s with heap:=((s.heap.update a (Obj.mapSeq fun _=>(#[]:zt))).push (seqObj "tuple" vs.toArray 0)).push (seqObj "list" #[] 0) }
 dsimp only;have hsz:vs.toArray.size=vs.length:=by simp
 have tail:∀ (p:Array Nat) (st':SortSt),p.size=vs.length->(arrOf st').map (·.2)=List.toArray (p.toList.map fun i=>vs.getD i Value.none)->failedOf st'=none->PB ds.length p->mG (j7 ds) p ds.length ->
   wpAny (model prog w) A (do
    let touched:=(<- seqEpoch a) != e1
    Builtin.List.listUpdate (.ref a) fun _=>(arrOf st').map (·.2)
    if let some e:=failedOf st' then rule "list.sort.comparison-raised"; throw e
    if touched then rule "list.sort.modified"; raiseError "ValueError" "list modified during sort"
    ret .none) P E { s with heap:=((s.heap.update a (Obj.mapSeq fun _=>(#[]:zt))).push (seqObj "tuple" vs.toArray 0)).push (seqObj "list" #[] 0) }:=by
  intro p st' hp hout hf pb so;refine zz (seqEpoch_at ho6 rfl ?_);rw [hout];refine zz (listUpdate_at ho6 rfl ?_ (vS _) (by rw [List.size_toArray,List.length_map,Array.length_toList,hp,sizeLine_eq];omega));rw [hf];simp only [bne_self_eq_false,Bool.false_eq_true,if_false];exact z0 (h p pb so)
 by_cases h2:vs.toArray.size < 2
 .rw [if_pos h2,if_pos h2];refine zz (z0 ?_);rw [StateT.run_pure];refine zz (z0 ?_);dsimp only;have hp:(List.toArray (List.range ds.length)).size=vs.length:=by simp;omega
  refine tail (List.toArray (List.range ds.length)) (SortSt.mk' general' (vs.toArray.zip vs.toArray) #[] 7 none) hp ?_ rfl ⟨Array.Perm.refl _⟩ fun i j hij hj=>?_
  .show (vs.toArray.zip vs.toArray).map (·.2)=_
   rw [hl];apply Array.toList_inj.mp;rw [hsz] at h2
   match vs,h2 with
   | [],_=>simp
   | [v],_=>simp [List.range_succ]
  .have:i=j:=by rw [hsz] at h2;omega
   subst this;exact Int.le_refl _
 .rw [if_neg h2,if_neg h2];have r2:=hkp (((s.heap.update a (Obj.mapSeq fun _=>(#[]:zt))).push (seqObj "tuple" vs.toArray 0)).push (seqObj "list" #[] 0)) fun b o hba q=>vn _ (vn _ ((v6 _ _ (Ne.symm hba)).trans q))
  refine zz (wpAny_mono (R9 (E:=fun _ _=>False) (s:={ s with heap:=((s.heap.update a (Obj.mapSeq fun _=>(#[]:zt))).push (seqObj "tuple" vs.toArray 0)).push (seqObj "list" #[] 0) })
   (G:=fun p s'=>(PB ds.length p /\ mG (j7 ds) p ds.length) /\ s'={ s with heap:=((s.heap.update a (Obj.mapSeq fun _=>(#[]:zt))).push (seqObj "tuple" vs.toArray 0)).push (seqObj "list" #[] 0) })
   S (by rw [hsz] at h2;omega) r2 hu fun p p1 p2=>⟨⟨p1,p2⟩,rfl⟩) (fun κ s0 hk=>?_) fun _ _ x=>x.elim)
  refine zz (wpAny_mono (kat_run (Q:=fun st' s'=>∃ p:Array Nat,p.size=vs.length /\ arrOf st'=p.map (kas_item (vs.toArray.zip vs.toArray)) /\ failedOf st'=none /\ (PB ds.length p /\ mG (j7 ds) p ds.length) /\ s'={ s with heap:=((s.heap.update a (Obj.mapSeq fun _=>(#[]:zt))).push (seqObj "tuple" vs.toArray 0)).push (seqObj "list" #[] 0) })
   rfl (by rw [hsz] at h2;omega) h64 (fun p' st' s' a1 a2 a3 a4=>⟨p',a1,a2,a3,a4⟩) hk) ?_ fun _ _ e=>e)
  rintro ⟨⟨⟩,st'⟩ s' ⟨p,hp,har,hf,⟨pb,so⟩,rfl⟩;dsimp only;exact tail p st' hp (kat_snds rfl har) hf pb so
end
end Mi
namespace Mi
open PySem L2
open PyProof.Rows hiding St
structure G where
 P:Program
 w:World
 K:zd
def DAt (g:G) (a:Addr) (xs:List (D × Addr × Value)) (ys:List V) (ep:Nat) (h:Heap):Prop :=
 (a == sysModules)=false/\xs.length<=sizeLine/\Vals ys (xs.map (·.2.2)) /\
  ∃ o es,h.get? a=some o/\o.ExactDict/\o.data=.dict es ep/\es.toList=xs.map (entryOfKey (lB false g.P g.w))/\(xs.map (·.1)).Nodup
mutual
noncomputable def Rp (g:G) (H:Hp):D->V->Prop
 | .non,v=>v=.non
 | .bl b,v=>v=.bl b
 | .int i,v=>v=.int i
 | .str x,v=>v=.str x
 | .tup ds,v=>∃ a xs,v=.ref a/\SqT g.K H a xs/\Rps g H ds xs
 | .lst ds,v=>∃ a xs,v=.ref a/\SqL g.K H a xs/\Rps g H ds xs
 | .dct ks vs,v=>∃ a xs ys ep,v=.ref a/\H a=some (.ext (DAt g a xs ys ep))/\ks=xs.map (·.1)/\Rps g H ks (xs.map fun x=>V.ref x.2.1)/\Rps g H vs ys
noncomputable def Rps (g:G) (H:Hp):List D->List V->Prop
 | [],xs=>xs=[]
 | d::ds,xs=>∃ y ys,xs=y::ys/\Rp g H d y/\Rps g H ds ys
end
variable {K:zd}{H H':Hp}{a:Addr}{xs:List V}
theorem bD (e:Same H H') (h:SqL K H a xs):SqL K H' a xs:=e.seq h
theorem aR (e:Same H H') (h:SqT K H a xs):SqT K H' a xs:=Bx h fun o _ q=>e a o q
mutual
theorem Rp.mono {g:G}{H H':Hp}:∀ {d:D}{v:V},Same H H'->Rp g H d v->Rp g H' d v
 | .non,v,e,r=>by rw [Rp] at r ⊢;exact r
 | .bl _,v,e,r=>by rw [Rp] at r ⊢;exact r
 | .int _,v,e,r=>by rw [Rp] at r ⊢;exact r
 | .str _,v,e,r=>by rw [Rp] at r ⊢;exact r
 | .tup ds,v,e,r=>by
  rw [Rp] at r ⊢;obtain ⟨a,xs,rfl,q,rs⟩:=r;exact ⟨a,xs,rfl,aR e q,Rps.mono e rs⟩
 | .lst ds,v,e,r=>by
  rw [Rp] at r ⊢;obtain ⟨a,xs,rfl,q,rs⟩:=r;exact ⟨a,xs,rfl,bD e q,Rps.mono e rs⟩
 | .dct ks vs,v,e,r=>by
  rw [Rp] at r ⊢;obtain ⟨a,xs,ys,ep,rfl,q,ek,r1,r2⟩:=r;exact ⟨a,xs,ys,ep,rfl,e a _ q,ek,Rps.mono e r1,Rps.mono e r2⟩
theorem Rps.mono {g:G}{H H':Hp}:∀ {ds:List D}{vs:List V},Same H H'->Rps g H ds vs->Rps g H' ds vs
 | [],vs,e,r=>by rw [Rps] at r ⊢;exact r
 | d::ds,vs,e,r=>by
  rw [Rps] at r ⊢;obtain ⟨y,ys,rfl,r0,rs⟩:=r;exact ⟨y,ys,rfl,Rp.mono e r0,Rps.mono e rs⟩
end
theorem Rps.length {g:G}{H:Hp}:∀ {ds:List D}{vs:List V},Rps g H ds vs->ds.length=vs.length
 | [],vs,r=>by rw [Rps] at r;subst r;rfl
 | d::ds,vs,r=>by
  rw [Rps] at r;obtain ⟨y,ys,rfl,_,r⟩:=r;simp [Rps.length r]
theorem Rps.getD {g:G}{H:Hp}:∀ {ds:List D}{vs:List V}{i:Nat}{d:D},Rps g H ds vs->ds[i]?=some d->∃ v,vs[i]?=some v/\Rp g H d v
 | [],vs,i,d,r,h=>by simp at h
 | d0::ds,vs,i,d,r,h=>by
  rw [Rps] at r;obtain ⟨y,ys,rfl,r0,rs⟩:=r;cases i with
  | zero=>simp at h;subst h;exact ⟨y,rfl,r0⟩
  | succ i =>
   simp only [List.getElem?_cons_succ] at h;obtain ⟨v,e,q⟩:=Rps.getD rs h;exact ⟨v,by simpa using e,q⟩
variable {g:G}
theorem Rps.append :∀ {ds es:List D}{vs ws:List V},Rps g H ds vs->Rps g H es ws->Rps g H (ds++es) (vs++ws)
 | [],es,vs,ws,r,q=>by rw [Rps] at r;subst r;exact q
 | d::ds,es,vs,ws,r,q=>by
  rw [Rps] at r;obtain ⟨y,ys,rfl,r0,rs⟩:=r;rw [List.cons_append,Rps];exact ⟨y,ys++ws,rfl,r0,rs.append q⟩
theorem Rps.nil :Rps g H [] []:=by rw [Rps]
variable {d:D}{v:V}{ds:List D}{vs:List V}
theorem Rps.cons (r:Rp g H d v) (rs:Rps g H ds vs):Rps g H (d::ds) (v::vs):=by
 rw [Rps];exact ⟨v,vs,rfl,r,rs⟩
theorem Rps.one (r:Rp g H d v):Rps g H [d] [v]:=Rps.cons r Rps.nil
theorem Rps.cons_inv (r:Rps g H (d::ds) vs):∃ v ws,vs=v::ws/\Rp g H d v/\Rps g H ds ws:=by rw [Rps] at r;exact r
theorem Rps.nil_inv (r:Rps g H [] vs):vs=[]:=by rw [Rps] at r;exact r
theorem Rps.take {g:G}{H:Hp}:∀ {ds:List D}{vs:List V} (n:Nat),Rps g H ds vs->Rps g H (ds.take n) (vs.take n)
 | [],vs,n,r=>by rw [r.nil_inv];simp [Rps]
 | d::ds,vs,0,r=>by simp [Rps]
 | d::ds,vs,n+1,r=>by
  obtain ⟨v,ws,rfl,r0,rs⟩:=r.cons_inv;exact Rps.cons r0 (Rps.take n rs)
theorem Rps.drop {g:G}{H:Hp}:∀ {ds:List D}{vs:List V} (n:Nat),Rps g H ds vs->Rps g H (ds.drop n) (vs.drop n)
 | [],vs,n,r=>by rw [r.nil_inv];simp [Rps]
 | d::ds,vs,0,r=>r
 | d::ds,vs,n+1,r=>by
  obtain ⟨v,ws,rfl,r0,rs⟩:=r.cons_inv;exact Rps.drop n rs
section
variable {X:Cx}{pins:w4}{σ:St}{H:Hp}{s:Shared}
noncomputable abbrev gOf (X:Cx):G:=⟨X.prog,X.w,X.K⟩
mutual
theorem rpV (I:Inv X pins σ H s):∀ {d:D}{v:V}{u:Value},dep d < 1000->Rp (gOf X) H d v->RelV v u->RpV s.heap d u
 | .non,v,u,hd,r,q=>by rw [Rp] at r;subst r;rw [RpV];exact q
 | .bl _,v,u,hd,r,q=>by rw [Rp] at r;subst r;rw [RpV];exact q
 | .int _,v,u,hd,r,q=>by rw [Rp] at r;subst r;rw [RpV];exact q
 | .str _,v,u,hd,r,q=>by rw [Rp] at r;subst r;rw [RpV];exact q
 | .tup ds,v,u,hd,r,q=>by
  rw [Rp] at r;obtain ⟨a,xs,rfl,sq,rs⟩:=r;cases q;obtain ⟨its,rv,p,hz⟩:=I.tuple sq;rw [RpV];rw [dep] at hd;exact ⟨a,its,rfl,p,Q0 I (by omega) rs rv⟩
 | .lst ds,v,u,hd,r,q=>by
  rw [Rp] at r;obtain ⟨a,xs,rfl,sq,rs⟩:=r;cases q;obtain ⟨its,rv,p,hz⟩:=I.list sq;rw [RpV];rw [dep] at hd;exact ⟨a,its,rfl,p.isList,Q0 I (by omega) rs rv⟩
 | .dct _ _,v,u,hd,r,q=>by rw [dep] at hd;omega
theorem Q0 (I:Inv X pins σ H s):∀ {ds:List D}{vs:List V}{us:zg},deps ds < 1000->Rps (gOf X) H ds vs->Vals vs us->aF s.heap ds us
 | [],vs,us,hd,r,q=>by rw [r.nil_inv] at q;cases q;rw [aF]
 | d::ds,vs,us,hd,r,q=>by
  obtain ⟨v,ws,rfl,r0,rs⟩:=r.cons_inv;rw [deps] at hd;cases q with
  | cons q0 qs =>
   rw [aF];exact ⟨_,_,rfl,rpV I (by omega) r0 q0,Q0 I (by omega) rs qs⟩
end
end
structure Grow (H Hs H' Hs':Hp):Prop where
 keep:∀ a o,H a=some o->H' a=some o
 old:∀ a o,H a=some o->Hs' a=Hs a
 sub:Same Hs' H'
variable {Hs:Hp}
theorem Grow.refl (h:Same Hs H):Grow H Hs H Hs:=⟨fun _ _ q=>q,fun _ _ _=>rfl,h⟩
theorem Grow.trans {H1 Hs1 H2 Hs2:Hp} (a:Grow H Hs H1 Hs1) (b:Grow H1 Hs1 H2 Hs2):Grow H Hs H2 Hs2 :=
 ⟨fun c o q=>b.keep c o (a.keep c o q),fun c o q=>(b.old c o (a.keep c o q)).trans (a.old c o q),b.sub⟩
theorem Grow.same {Hs':Hp} (g:Grow H Hs H' Hs') (h:Same Hs H):Same Hs Hs':=fun a o q=>by rw [g.old a o (h a o q)];exact q
variable {p:Addr}{o:HO}
theorem Grow.new (h:Same Hs H) (hp:H p=none):Grow H Hs (upd H p o) (upd Hs p o):=by
 refine ⟨fun a u q=>by rw [ao (ak q hp)];exact q,fun a u q=>by rw [ao (ak q hp)],fun a u q=>?_⟩;by_cases e:a=p
 .subst e;rw [aA] at q ⊢;exact q
 .rw [ao e] at q ⊢;exact h a u q
theorem Grow.own (h:Same Hs H) (hp:H p=none):Grow H Hs (upd H p o) Hs:=by
 refine ⟨fun a u q=>by rw [ao (ak q hp)];exact q,fun a u q=>rfl,fun a u q=>?_⟩;rw [ao (ak (h a u q) hp)];exact h a u q
end Mi
namespace Mi
open PySem L2
open PyProof.Rows hiding St
variable {k v:D}{b:Addr}{H:Hp}{u:Value}{y:V}
section
variable {X:Cx}
def O7 {a b:D} (h:bw a b=true):(dep a<=30/\dep b<=30)/\like a b=true:=by
 unfold bw at h;simpa using h
def abr (X:Cx):R2:=fun x y H Q=>∃ d e,Rp (gOf X) H d x/\Rp (gOf X) H e y/\bw d e=true/\Q (.bl (aH d e)) H
def abK (X:Cx):R2:=fun x y H Q=>∃ d e,Rp (gOf X) H d x/\Rp (gOf X) H e y/\bw d e=true/\Q (.bl (!aH d e)) H
def aaL (hu:X.A.units+100 < cLine):OpR X (compareOp .Eq) (abr X):=by
 intro pins s σ H x y v u Q I rx ry h;obtain ⟨d,e,r1,r2,hf,q⟩:=h;obtain ⟨⟨f1,f2⟩,k⟩:=O7 hf;exact abJ d e k (rpV I (by omega) r1 rx) (rpV I (by omega) r2 ry) (by omega) (by omega) _ _ _ _ ⟨.bl (aH d e),H,I,rfl,q⟩
def aby (hu:X.A.units+100 < cLine):OpR X (compareOp .NotEq) (abK X):=by
 intro pins s σ H x y v u Q I rx ry h;obtain ⟨d,e,r1,r2,hf,q⟩:=h;obtain ⟨⟨f1,f2⟩,k⟩:=O7 hf;exact Zf d e k (rpV I (by omega) r1 rx) (rpV I (by omega) r2 ry) (by omega) (by omega) _ _ _ _ ⟨.bl (!aH d e),H,I,rfl,q⟩
structure DictR (X:Cx) (H:Hp) (a:Addr) (ks:List D) (xs:List (D × Addr × Value)) (ys:List V):Prop where
 at_:∃ ep,H a=some (.ext (DAt (gOf X) a xs ys ep))
 keys:ks=xs.map (·.1)
 rep:Rps (gOf X) H ks (xs.map fun x=>V.ref x.2.1)
theorem Jb {g:G}{H:Hp}:∀ {xs:List (D × Addr × Value)},Rps g H (xs.map (·.1)) (xs.map fun x=>V.ref x.2.1)->∀ x∈xs,Rp g H x.1 (.ref x.2.1)
 | [],r,x,hx=>by simp at hx
 | y::ys,r,x,hx=>by
  rw [List.map_cons,List.map_cons] at r;obtain ⟨v,ws,e,r0,rs⟩:=r.cons_inv;cases e;rcases vR.mp hx with e | hx
  .rw [e];exact r0
  .exact Jb rs x hx
section
variable {pins:w4}{σ:St}{H:Hp}{s:Shared}{a:Addr}{ks:List D}{xs:List (D × Addr × Value)}{ys:List V}
def JT (I:Inv X pins σ H s) (d:DictR X H a ks xs ys):s.TypeIs (.ref a) "dict" /\ ∃ o:Obj,s.heap.get? a=some o /\ o.dict=none:=by
 obtain ⟨ep,dat⟩:=d.at_;obtain ⟨⟨h1,h2,h3,o,es,h4,h5,h6,h7,h8⟩,_⟩:=(show cj X.prog X.w H s.heap a (.ext (DAt (gOf X) a xs ys ep)) from I.hok a _ dat);exact ⟨⟨o,h4,h5.1⟩,o,h4,h5.2.1⟩
def dictOf (I:Inv X pins σ H s) (d:DictR X H a ks xs ys) (hk:kOk ks k=true):∃ kb,yL kb k=true/\(a == sysModules)=false/\xs.length<=sizeLine/\Vals ys (xs.map (·.2.2))/\s.heap.DictOfH (lB kb X.prog X.w) a xs:=by
 obtain ⟨ep,dat⟩:=d.at_;obtain ⟨⟨h1,h2,h3,o,es,h4,h5,h6,h7,h8⟩,_⟩:=(show cj X.prog X.w H s.heap a (.ext (DAt (gOf X) a xs ys ep)) from I.hok a _ dat);obtain ⟨kb,hb,hc⟩:=Zm hk;refine ⟨kb,hb,h1,h2,h3,o,es,ep,h4,h5,h6,h7,fun x hx=>?_,h8⟩;have hk:=j9 (hc x.1 (by rw [d.keys];exact yI.mpr ⟨x,hx,rfl⟩));have rep:=d.rep;rw [d.keys] at rep;exact ⟨hk.1,hk.2.1,rpV I (by omega) (Jb rep x hx) rfl⟩
def HY {kb:Bool} (I:Inv X pins σ H s) (hk:yL kb k=true) (r:Rp (gOf X) H k (.ref b)):(lB kb X.prog X.w).is s.heap k b:=by
 have h:=j9 hk;exact ⟨h.1,h.2.1,rpV I (by omega) r rfl⟩
def Q6 :(atKey xs k).isSome=decide (k∈xs.map (·.1)):=by
 unfold atKey;rw [Option.isSome_map,Bool.eq_iff_iff,List.find?_isSome,decide_eq_true_iff,List.mem_map];constructor
 .rintro ⟨x,hx,e⟩;exact ⟨x,hx,of_decide_eq_true e⟩
 .rintro ⟨x,hx,e⟩;exact ⟨x,hx,v3 e⟩
end
noncomputable def iy (ks vs:List D) (k v:D):List D × List D:=if k∈ks then (ks,(ks.zip vs).map fun p=>if p.1=k then v else p.2) else (ks++[k],vs++[v])
noncomputable def lD (xs:List (D × Addr × Value)) (ys:List V) (k:D) (b:Addr) (u:Value) (y:V):List (D × Addr × Value) × List V :=
 if k∈xs.map (·.1) then (xs.map (putAt k u),((xs.map (·.1)).zip ys).map fun p=>if p.1=k then y else p.2) else (xs++[(k,b,u)],ys++[y])
theorem JG {g:G}{H:Hp}{k:D}{v:D}{y:V} (r:Rp g H v y):∀ {ks vs:List D}{ys:List V},ks.length=vs.length->Rps g H vs ys->Rps g H ((ks.zip vs).map fun p=>if p.1=k then v else p.2) ((ks.zip ys).map fun p=>if p.1=k then y else p.2)
 | [],vs,ys,hl,q=>by simp [Rps]
 | c::ks,[],ys,hl,q=>by simp at hl
 | c::ks,d::vs,ys,hl,q=>by
  obtain ⟨z,zs,rfl,q0,qs⟩:=q.cons_inv;rw [List.zip_cons_cons,List.zip_cons_cons,List.map_cons,List.map_cons];refine Rps.cons ?_ (JG r (by simpa using hl) qs);dsimp only;split
  .exact r
  .exact q0
theorem Dd {k:D}{u:Value}{y:V} (r:RelV y u):∀ {xs:List (D × Addr × Value)}{ys:List V},Vals ys (xs.map (·.2.2))->Vals (((xs.map (·.1)).zip ys).map fun p=>if p.1=k then y else p.2) ((xs.map (putAt k u)).map (·.2.2))
 | [],ys,q=>by cases q;exact .nil
 | x::xs,ys,q=>by
  rw [List.map_cons] at q;cases q with
  | cons q0 qs =>
   rw [List.map_cons,List.zip_cons_cons,List.map_cons,List.map_cons,List.map_cons];refine .cons ?_ (Dd r qs);dsimp only;unfold putAt;split
   .exact r
   .exact q0
def acG (X:Cx):P0:=fun o i v H Q=>∃ a k ks xs ys,o=.ref a/\Rp (gOf X) H k i/\kOk ks k=true/\DictR X H a ks xs ys/\xs.length < lim /\
 ∀ b u ep,i=.ref b->RelV v u->Q (upd H a (.ext (DAt (gOf X) a (lD xs ys k b u v).1 (lD xs ys k b u v).2 ep)))
def set_dict (hu:X.A.units+100 < cLine):abZ X (acG X):=by
 intro pins s σ H o i v ov iv u Q I ro ri rv h;obtain ⟨a,k,ks,xs,ys,rfl,r1,hk,d,hl,q⟩:=h;cases ro;obtain ⟨kb,hkb,h1,h2,h3,h4⟩:=dictOf I d hk;obtain ⟨_,_,ds,rfl⟩:=j9 hkb;rw [Rp] at r1;obtain ⟨b,zs,rfl,sq,rs⟩:=id r1;cases ri;have hin:X.A.in1.units=X.A.units+1:=rfl;have hlz:=jt;refine wpAny_setItem_heap (hsz:=by omega) (knd:=lB kb X.prog X.w) (by show X.A.in1.units+10 < cLine;omega) (HY I hkb (by rw [Rp];exact ⟨b,zs,rfl,sq,rs⟩)) h4 fun h' hm' hs'=>?_
 obtain ⟨o',es',ep',e1,e2,e3,e4,e5,e6⟩:=id hm';refine ⟨_,?_,q b u ep' rfl rv⟩;have mu:Mut (H a):=by obtain ⟨_,dat⟩:=d.at_;rw [dat];exact trivial
 refine I.write (x:=a) (e:=a) mu (.inl rfl) (fun c w hc hw=>(hs'.2 c hc).trans hw) ⟨_,e1⟩ ?_;have put:storedH xs (.tup ds) b u=(lD xs ys (.tup ds) b u v).1/\Vals (lD xs ys (.tup ds) b u v).2 ((lD xs ys (.tup ds) b u v).1.map (·.2.2))/\(lD xs ys (.tup ds) b u v).1.length<=sizeLine:=by
  unfold lD storedH;rw [Q6];by_cases hm:D.tup ds∈xs.map (·.1)
  .rw [if_pos hm,if_pos (decide_eq_true hm)];exact ⟨rfl,Dd rv h3,by rw [List.length_map];omega⟩
  .rw [if_neg hm,if_neg (by simpa using hm)];refine ⟨rfl,?_,by rw [List.length_append,List.length_singleton];omega⟩;rw [List.map_append];exact h3.append (.cons rv .nil)
 rw [put.1] at e4 e6;refine ⟨⟨h1,put.2.2,put.2.1,o',es',e1,e2,e3,e4,e6⟩,⟨_,e1⟩,fun ha hb p kp=>?_⟩;obtain ⟨p1,p2,p3,o2,es2,q1,q2⟩:=p;exact ⟨p1,p2,p3,o2,es2,kp _ q1,q2⟩
def GR {a:Addr}{ks vs:List D}{xs:List (D × Addr × Value)}{ys:List V} (keys:ks=xs.map (·.1)) (rep:Rps (gOf X) H ks (xs.map fun x=>V.ref x.2.1)) (hv:Rps (gOf X) H vs ys) (rk:Rp (gOf X) H k (.ref b)) (ry:Rp (gOf X) H v y)
  (hl:ks.length=vs.length) :
  (iy ks vs k v).1=(lD xs ys k b u y).1.map (·.1)/\Rps (gOf X) H (iy ks vs k v).1 ((lD xs ys k b u y).1.map fun x=>V.ref x.2.1)/\Rps (gOf X) H (iy ks vs k v).2 (lD xs ys k b u y).2:=by
 unfold iy lD;rw [keys] at rep;rw [keys];by_cases hm:k∈xs.map (·.1)
 .rw [if_pos hm,if_pos hm];refine ⟨(keys_map_putAt xs k u).symm,?_,?_⟩
  .have e:((xs.map (putAt k u)).map fun x=>V.ref x.2.1)=xs.map fun x=>V.ref x.2.1:=by
    rw [List.map_map];refine List.map_congr_left fun x _=>?_
    show V.ref (putAt k u x).2.1=_
    unfold putAt;split <;> rfl
   rw [e];exact rep
  .exact JG ry (by rw [<- keys];exact hl) hv
 .rw [if_neg hm,if_neg hm];refine ⟨by rw [List.map_append];rfl,?_,hv.append (Rps.one ry)⟩;rw [List.map_append];exact rep.append (Rps.one rk)
def acd (X:Cx):TE:=fun _ H Q=>∀ p,H p=none->Q (.ref p) (upd H p (.ext (DAt (gOf X) p [] [] 0)))
theorem Oz {pos:Pos}:PE X (.Dict [] [] pos) (acd X):=fun pins s σ H Q I h=>by
 have hb:sysModules < s.heap.objs.size:=I.big;refine wpAny_Dict_empty ⟨.ref s.heap.objs.size,_,I.laid (a:=s.heap.objs.size) (o:=.ext (DAt (gOf X) s.heap.objs.size [] [] 0)) (t':=s.toks) (fun _ _ q=>vn _ q) (vy _) ?_,rfl,h _ (I.hok.fresh (vy _))⟩;refine ⟨⟨beq_eq_false_iff_ne.mpr (Ne.symm (vz hb)),vS _,.nil,_,#[],vw _ rfl,⟨rfl,rfl,rfl⟩,rfl,rfl,List.nodup_nil⟩,⟨_,vw _ rfl⟩,fun h1 h2 p kp=>?_⟩;obtain ⟨p1,p2,p3,o2,es2,q1,q2⟩:=p;exact ⟨p1,p2,p3,o2,es2,kp _ q1,q2⟩
end
end Mi
namespace Mi
open PySem L2
open PyProof.Rows hiding St
variable {pins:w4}{σ:St}{H:Hp}{s:Shared}{A:Around}{E Q:zb}
section
variable {X:Cx}
theorem yD:∀ {bs:List Bool}{us:zg},Vals (bs.map V.bl) us->LSm.BoolsAre us bs
 | [],us,q=>by cases q;exact .nil
 | b::bs,us,q=>by
  rw [List.map_cons] at q;cases q with
  | cons q0 qs=>cases q0;exact .cons b (yD qs)
def abU (X:Cx):List V->Hp->VK->Prop:=fun xs H Q=>∃ (p:Addr) (bs:List Bool),xs=[.ref p]/\SqL X.K H p (bs.map V.bl)/\Q (.bl (bs.all id)) H
def abt (X:Cx):List V->Hp->VK->Prop:=fun xs H Q=>∃ (p:Addr) (bs:List Bool),xs=[.ref p]/\SqL X.K H p (bs.map V.bl)/\Q (.bl (bs.any id)) H
def Ut (hc:X.calm=true):lu X (.builtin "all") (abU X):=by
 intro pins s σ H xs us Q I r h;obtain ⟨p,bs,rfl,sq,q⟩:=h;obtain ⟨u,rfl,ru⟩:=vals1 r;cases ru;obtain ⟨its,rv,pl,hz⟩:=I.list sq;have hb:=yD rv;have hl:=pl.isList;have hlt:p < s.heap.objs.size:=by obtain ⟨_,e,_⟩:=hl;exact vx e
 refine call_all_walk (wpAny_pyIter_list hl ?_);refine ⟨s.heap.objs.size,[s.heap.objs.size,p],[s.heap.objs.size],its.toArray.size,_,_,fun i=>(bs[i]?).getD true,rfl,Walks.list (A:=X.A.in1) (I.ok.hd hc) _ p (vz hlt) its.toArray,
  ⟨⟨_,vw _ rfl,rfl,rfl⟩,hl.push _⟩,fun i v s' Q' E' hP hQ=>?_,fun h' tk hk=>?_⟩
 .obtain ⟨b,e,rfl⟩:=hb.get i v (by simpa using hP);simp only [e,Option.getD_some] at hQ;exact jo hQ
 .have e:((List.range its.toArray.size).all fun i=>(bs[i]?).getD true)=bs.all id:=by
   rw [List.size_toArray,hb.length];exact LSm.range_all bs
  rw [e];exact ⟨.bl _,H,I.kept (LSm.kept_iter hk),rfl,q⟩
def R7 (hc:X.calm=true):lu X (.builtin "any") (abt X):=by
 intro pins s σ H xs us Q I r h;obtain ⟨p,bs,rfl,sq,q⟩:=h;obtain ⟨u,rfl,ru⟩:=vals1 r;cases ru;obtain ⟨its,rv,pl,hz⟩:=I.list sq;have hb:=yD rv;have hl:=pl.isList;have hlt:p < s.heap.objs.size:=by obtain ⟨_,e,_⟩:=hl;exact vx e
 refine call_any_walk (wpAny_pyIter_list hl ?_);refine ⟨s.heap.objs.size,[s.heap.objs.size,p],[s.heap.objs.size],its.toArray.size,_,_,fun i=>(bs[i]?).getD false,rfl,Walks.list (A:=X.A.in1) (I.ok.hd hc) _ p (vz hlt) its.toArray,
  ⟨⟨_,vw _ rfl,rfl,rfl⟩,hl.push _⟩,fun i v s' Q' E' hP hQ=>?_,fun h' tk hk=>?_⟩
 .obtain ⟨b,e,rfl⟩:=hb.get i v (by simpa using hP);simp only [e,Option.getD_some] at hQ;exact jo hQ
 .have e:((List.range its.toArray.size).any fun i=>(bs[i]?).getD false)=bs.any id:=by
   rw [List.size_toArray,hb.length];exact LSm.range_any bs
  rw [e];exact ⟨.bl _,H,I.kept (LSm.kept_iter hk),rfl,q⟩
noncomputable def Ty.name:Ty->String
 | .int=>"int" | .bool=>"bool" | .str=>"str" | .tuple=>"tuple" | .list=>"list"
noncomputable def tyD:D->String
 | .non=>"NoneType" | .bl _=>"bool" | .int _=>"int" | .str _=>"str" | .tup _=>"tuple" | .lst _=>"list" | .dct _ _=>"dict"
noncomputable def iB (d:D) (t:Ty):Bool:=match t,d with
 | .int,.int _=>true | .int,.bl _=>true | .bool,.bl _=>true | .str,.str _=>true | .tuple,.tup _=>true | .list,.lst _=>true
 | _,_=>false
theorem abu (K:zd) (d:D) (t:Ty):PySem.W.kitOne K (.type (tyD d)) (.type t.name)=some (iB d t):=by
 cases d <;> cases t <;> rfl
def Z4 {d:D}{v:V}{u:Value} (t:Ty) (I:Inv X pins σ H s) (r:Rp (gOf X) H d v) (ru:RelV v u)
  (h:∀ tk,Q (.bool (iB d t)) { s with toks:=tk }):wpAny (model X.prog X.w) A (call (.builtin "isinstance") [u,.type t.name]) Q E s:=by
 have e:=abu X.K d t;cases d with
 | non=>rw [Rp] at r;subst r;exact ur I ru .non e h
 | bl b=>rw [Rp] at r;subst r;exact ur I ru (.bl b) e h
 | int b=>rw [Rp] at r;subst r;exact ur I ru (.int b) e h
 | str b=>rw [Rp] at r;subst r;exact ur I ru (.str b) e h
 | tup ds =>
  rw [Rp] at r;obtain ⟨a,xs,rfl,sq,rs⟩:=r;cases ru;obtain ⟨its,rv,⟨o,h1,h2,_⟩,hz⟩:=I.tuple sq;exact PySem.W.kia_one PySem.W.kitx_tuple I.kIn ⟨o,h1,h2⟩ e (fun z=>nomatch z) h
 | lst ds =>
  rw [Rp] at r;obtain ⟨a,xs,rfl,sq,rs⟩:=r;cases ru;obtain ⟨its,rv,pl,hz⟩:=I.list sq;obtain ⟨o,h1,h2,_⟩:=pl.isList;exact PySem.W.kia_one PySem.W.kitx_list I.kIn ⟨o,h1,h2⟩ e (fun z=>nomatch z) h
 | dct ks vs =>
  rw [Rp] at r;obtain ⟨a,xs,ys,ep,rfl,hH,_⟩:=r;cases ru;obtain ⟨⟨_,_,_,o,es,h4,h5,_⟩,_⟩:=(show cj X.prog X.w H s.heap a (.ext (DAt (gOf X) a xs ys ep)) from I.hok a _ hH);exact PySem.W.kia_one PySem.W.kitx_dict I.kIn ⟨o,h4,h5.1⟩ e (fun z=>nomatch z) h
def acp (X:Cx):List V->Hp->VK->Prop:=fun xs H Q=>∃ d v t,xs=[v,.ty t.name]/\Rp (gOf X) H d v/\Q (.bl (iB d t)) H
def S5:lu X (.builtin "isinstance") (acp X):=by
 intro pins s σ H xs us Q I r h;obtain ⟨d,v,t,rfl,rd,q⟩:=h;obtain ⟨u,w',rfl,ru,rw'⟩:=vals2 r;cases rw';exact Z4 t I rd ru fun tk=>⟨.bl _,H,I.tok _,rfl,q⟩
def SrcR (X:Cx) (H:Hp) (p:Addr) (ds:List D) (zs:List V):Prop :=
 Rps (gOf X) H ds zs/\(SqL X.K H p zs\/SqT X.K H p zs\/∃ xs ys,DictR X H p ds xs ys/\zs=xs.map fun x=>V.ref x.2.1)
theorem LR {p:Addr}{ds:List D}{zs:List V}{Q:zg->Shared->Prop} (hA:A.handled=none) (I:Inv X pins σ H s) (S:SrcR X H p ds zs)
  (h:∀ h' tk us,(∀ b o,s.heap.get? b=some o->h'.get? b=some o)->Vals zs us->Q us { s with heap:=h',toks:=tk }):wpAny (model X.prog X.w) A (collect (.ref p)) Q E s:=by
 rcases S.2 with sq | sq | ⟨xs,ys,d,ez⟩
 .obtain ⟨its,rv,pl,hz⟩:=I.list sq;obtain ⟨o,ho,hc,n,hd⟩:=pl.isList;have hlen:=rv.length;exact wpAny_collect_seq p (.inl rfl) ho hc hd (fun h' kp=>h h' s.toks its kp rv) (by simp only [List.size_toArray];omega)
 .obtain ⟨its,rv,pl,hz⟩:=I.tuple sq;obtain ⟨o,ho,hc,n,hd⟩:=pl;have hlen:=rv.length;exact wpAny_collect_seq p (.inr rfl) ho hc hd (fun h' kp=>h h' s.toks its kp rv) (by simp only [List.size_toArray];omega)
 .subst ez;obtain ⟨ep,dat⟩:=d.at_;obtain ⟨⟨h1,h2,h3,o,es,h4,h5,h6,h7,h8⟩,_⟩:=(show cj X.prog X.w H s.heap p (.ext (DAt (gOf X) p xs ys ep)) from I.hok p _ dat);have hsz:es.size=xs.length:=by rw [<- Array.length_toList,h7,List.length_map]
  refine PySem.W.kdu_collect (YJ (ep:=ep) (es:=es) h1) hA ⟨o,h4,h5,h6⟩ (by omega) fun h' tk acc kp hacc=>h h' tk acc.toList kp ?_
  have key:∀ (l:List (D × Addr × Value)) (us:zg),l.length=us.length->(∀ (j:Nat) u,us[j]?=some u->∃ x,l[j]?=some x/\u=.ref x.2.1)->Vals (l.map fun x=>V.ref x.2.1) us:=by
   intro l;induction l with
   | nil=>intro us hl _;cases us with | nil=>exact .nil | cons _ _=>simp at hl
   | cons x l ih =>
    intro us hl hj;cases us with
    | nil=>simp at hl
    | cons u us =>
     obtain ⟨y,ey,eu⟩:=hj 0 u rfl;simp at ey;subst ey;exact .cons eu (ih us (by simpa using hl) fun j w hw=>by simpa using hj (j+1) w (by simpa using hw))
  refine key xs acc.toList (by have e:=hacc.1;simp only [Array.length_toList];omega) fun j u hu=>?_
  obtain ⟨hj,eu⟩:=hacc.2 j u (by rw [<- Array.getElem?_toList];exact hu);have hjx:j < xs.length:=by omega
  refine ⟨xs[j],by simp [hjx],?_⟩;rw [eu];have e:=entry_at h7 j;rw [Array.getElem?_eq_getElem hj,List.getElem?_eq_getElem hjx] at e;have e':=jr (e.trans (Option.map_some ..));rw [e'];rfl
def N7 (X:Cx):List V->Hp->VK->Prop:=fun vs H Q=>∃ (p:Addr) (ds:List D) (zs:List V),vs=[.ref p]/\SrcR X H p ds zs/\SortOk ds/\∀ S ys,H S=none->(∀ Hs,Rps (gOf X) Hs ds zs->Rps (gOf X) Hs (nU ds) ys)->Q (.ref S) (upd H S (.lst ys))
def JZ (hc:X.calm=true) (hu:X.A.units+100 < cLine):lu X (.builtin "sorted") (N7 X):=by
 intro pins s σ H xs us Q I r h;obtain ⟨p,ds,zs,rfl,src,S,q⟩:=h;obtain ⟨u,rfl,ru⟩:=vals1 r;cases ru;refine Calls.call_function_entry kind_sorted plain_sorted entry_sorted (args_sorted1 _) ?_;unfold Builtin.«sorted»;refine zz (m:=checkCount "sorted" 1 1 _) (z0 ?_)
 refine zz (LR (A:=X.A.in1) (I.ok.hd hc) I src fun h' tk vs kp rv=>?_);have hlen:=src.1.length;have hlen2:=rv.length;have hS64:=S.len;refine zz (wpAny_newList ?_ (by rw [sizeLine_eq];omega));have hoL:(h'.push (seqObj "list" vs.toArray 0)).get? h'.objs.size=some (seqObj "list" vs.toArray 0):=vw _ rfl
 have I2:Inv X pins σ H { s with heap:=h'.push (seqObj "list" vs.toArray 0),toks:=tk }:=I.kept fun b o e=>vn _ (kp b o e)
 have I1:Inv X pins σ H { s with heap:=h',toks:=tk }:=I.kept kp;have dS:=S.dp;have rs:∀ h'':Heap,(∀ b o,b ≠ h'.objs.size -> (h'.push (seqObj "list" vs.toArray 0)).get? b=some o -> h''.get? b=some o) -> aF h'' ds vs:=fun h'' kk=>(Q0 I1 (by omega) src.1 rv).keep fun b o e _=>kk b o (vz (vx e)) (vn _ e)
 refine zz (wpAny_holding (ja slot_list_sort (s:={ s with heap:=h'.push (seqObj "list" vs.toArray 0),toks:=tk }) ⟨_,hoL,rfl⟩ entry_list_sort (Rz hoL S rs (by show X.A.units+1+1+40 < cLine; omega) fun pm pb so=>⟨_,rfl,?_⟩) (args_list_sort _)))
 refine z0 ⟨_,rfl,?_⟩;have hpsz:=pb.size;have hfresh:H h'.objs.size=none:=I1.hok.fresh (vy _);obtain ⟨c,hc2⟩:=sortedHeap_at (out:=List.toArray (pm.toList.map fun i=>vs.getD i Value.none)) hoL;have plt:∀ i∈pm.toList,i < ds.length:=fun i hi=>by
  have:=(Array.perm_iff_toList_perm.mp pb.perm).mem_iff (a:=i);simp at this;exact this.mp (by simpa using hi)
 have getV:∀ {i},i < ds.length->RelV (zs.getD i .non) (vs.getD i Value.none):=fun {i} hi=>by
  have e1:zs.getD i .non=zs[i]'(by omega):=by simp [show i < zs.length by omega]
  obtain ⟨u,e2,ru⟩:=rv.get (i:=i) (x:=zs[i]'(by omega)) (by simp [show i < zs.length by omega]);rw [e1];have e3:vs.getD i Value.none=u:=by simp [List.getD,e2]
  rw [e3];exact ru
 have valsP:∀ l:zi,(∀ i∈l,i < ds.length)->Vals (l.map fun i=>zs.getD i .non) (l.map fun i=>vs.getD i Value.none):=by
  intro l;induction l with
  | nil=>intro _;exact .nil
  | cons i l ih=>intro hl;exact .cons (getV (hl i vi)) (ih fun j hj=>hl j (ve _ hj))
 have repsP:∀ Hs,Rps (gOf X) Hs ds zs->∀ l:zi,(∀ i∈l,i < ds.length)->Rps (gOf X) Hs (l.map fun i=>ds.getD i .non) (l.map fun i=>zs.getD i .non):=by
  intro Hs rHs l;induction l with
  | nil=>intro _;exact Rps.nil
  | cons i l ih =>
   intro hl;have hi:=hl i vi;obtain ⟨v,e1,rr⟩:=rHs.getD (i:=i) (d:=ds.getD i .non) (by simp [hi]);have e2:zs.getD i .non=v:=by simp [List.getD,e1]
   rw [List.map_cons,List.map_cons];refine Rps.cons ?_ (ih fun j hj=>hl j (ve _ hj));rw [e2];exact rr
 have perm:(pm.toList.map fun i=>ds.getD i .non).Perm ds:=by
  have h1:(pm.toList.map fun i=>ds.getD i .non).Perm ((List.range ds.length).map fun i=>ds.getD i .non):=((Array.perm_iff_toList_perm.mp pb.perm).map _);have h2:(List.range ds.length).map (fun i=>ds.getD i D.non)=ds:=by
   refine List.ext_getElem (by simp) fun i h1 h2=>?_
   simp at h1;simp [h1]
  rw [h2] at h1;exact h1
 have sorted:(pm.toList.map fun i=>ds.getD i .non).Pairwise leD:=by
  rw [List.pairwise_iff_getElem];intro i j hi hj hij;simp only [List.length_map,Array.length_toList] at hi hj;simp only [List.getElem_map,Array.getElem_toList];have e:=so i j (by omega) (by omega);have ki:Kp (j7 ds) pm i=j7 ds pm[i]:=by unfold Kp;rw [Array.getElem?_eq_getElem hi]
  have kj:Kp (j7 ds) pm j=j7 ds pm[j]:=by unfold Kp;rw [Array.getElem?_eq_getElem hj]
  rw [ki,kj] at e;unfold leD;rw [<- Ox S.cmp (plt _ (by simp)) (plt _ (by simp))];exact v4 (by omega)
 have eS:=Cm S.cmp perm sorted;refine ⟨.ref h'.objs.size,upd H h'.objs.size (.lst (pm.toList.map fun i=>zs.getD i .non)),?_,rfl,q _ _ hfresh (fun Hs rHs=>by rw [eS];exact repsP Hs rHs _ plt)⟩;refine I1.laid (t':=tk) (fun b o e=>?_) (vy _) ⟨?_,_,c,valsP _ plt,?_⟩
 .have hlt:b < h'.objs.size:=vx e;rw [sortedHeap_old (Nat.ne_of_lt hlt) (by rw [size_push'];exact Nat.lt_succ_of_lt hlt)];exact vn _ e
 .rw [List.length_map,Array.length_toList,hpsz,sizeLine_eq];omega
 .exact hc2
def Vl {prog:Program}{w:World}{t b:Addr}{ws:zg} (ht:IsTup s.heap t (List.toArray [])) (hb:IsTup s.heap b ws.toArray)
  (h1:Q (.ref b) s):wpAny (model prog w) A (binaryOp .Add (.ref t) (.ref b)) Q E s:=by
 obtain ⟨⟨cls,dd,data,sl⟩,ho,hc,n,hd⟩:=id ht;obtain ⟨⟨cls2,dd2,data2,sl2⟩,ho2,hc2,n2,hd2⟩:=id hb;simp only at hc hd hc2 hd2;subst hc hd hc2 hd2;exact concat_meets ⟨_,ho,rfl⟩ ⟨_,ho2,rfl⟩ noFill_tuple_add seq_tuple_add PySem.F.slot_tuple_add PySem.F.entry_tuple_add (PySem.F.args_tuple_add_2 _ _)
  (tuple_addW0 t b _ ws.toArray n n2 dd dd2 sl sl2 (by simp)) ⟨ho,ho2,h1⟩
def S7 (K:zd):R2:=fun x y H Q=>∃ a b ys,x=.ref a/\y=.ref b/\SqT K H a []/\SqT K H b ys/\Q (.ref b) H
def Wf:OpR X (binaryOp .Add) (S7 X.K):=by
 intro pins s σ H x y v u Q I rx ry h;obtain ⟨a,b,ys,rfl,rfl,ha,hb,q⟩:=h;cases rx;cases ry;obtain ⟨its,r1,p1,_⟩:=I.tuple ha;obtain ⟨its2,r2,p2,_⟩:=I.tuple hb;cases r1;exact Vl p1 p2 ⟨.ref b,H,I,rfl,q⟩
def XQ (K:zd):R2:=fun x y H Q=>∃ l b xs zs,x=.ref l/\y=.ref b/\SqL K H l xs/\SqL K H b zs/\xs.length+zs.length<=sizeLine/\∀ p,H p=none->Q (.ref p) (upd H p (.lst (xs++zs)))
def acJ (K:zd):V->List V->Hp->VK->Prop:=fun x vs H Q=>∃ l b xs zs,x=.ref l/\vs=[.ref b]/\H l=some (.lst xs)/\(SqL K H b zs\/SqT K H b zs)/\xs.length+zs.length<=lim/\Q .non (upd H l (.lst (xs++zs)))
def Zr:MtM X "list.extend" (acJ X.K):=by
 intro pins s σ H x vs v us Q I rx rv h;obtain ⟨l,b,xs,zs,rfl,rfl,hH,hB,hz,q⟩:=h;cases rx;obtain ⟨u,rfl,ru⟩:=rv.one;cases ru;have hlim:=jt;obtain ⟨z,its,n,r,hl,e⟩:=I.lstM hH;obtain ⟨T,o,its2,n2,hT,ho,hc,hd,r2⟩:∃ (T:String) (o:Obj) (its2:zg) (n2:Nat),(T="list" \/ T="tuple") /\ s.heap.get? b=some o /\ o.cls=.type T /\ o.data=.seq its2.toArray n2 /\ Vals zs its2:=by
  rcases hB with hB | hB
  .obtain ⟨its2,r2,pl,_⟩:=I.list hB;obtain ⟨o,ho,hc,n2,hd⟩:=pl.isList;exact ⟨"list",o,its2,n2,.inl rfl,ho,hc,hd,r2⟩
  .obtain ⟨its2,r2,⟨o,ho,hc,n2,hd⟩,_⟩:=I.tuple hB;exact ⟨"tuple",o,its2,n2,.inr rfl,ho,hc,hd,r2⟩
 have hl2:=r2.length;refine ja PySem.F.slot_list_extend ⟨_,e,rfl⟩ PySem.F.entry_list_extend ?_ (PySem.F.args_list_extend_2 _ _);show wpAny _ _ (Builtin.List.listExtendWith (.ref l) (.ref b) .none) _ _ s
 unfold Builtin.List.listExtendWith;refine zz (wpAny_typeOf ⟨o,ho,hc⟩ ?_);have h1:(Builtin.List.listSameRef (.ref l) (.ref b) || Value.type T == Value.type "list" || Value.type T == Value.type "tuple")=true:=by
  rcases hT with rfl | rfl <;> simp
 rw [if_pos h1];refine zz (listItems_at ho hd ?_);refine zz (listItems_at e rfl ?_);have hlong:¬ (!its.toArray.isEmpty && Builtin.List.listTooLong (its.toArray.size+its2.toArray.size))=true:=by
  rw [Jz (by rw [List.size_toArray,List.size_toArray];omega),Bool.and_false];exact jC
 rw [if_neg hlong];refine zz (listUpdate_at e rfl ?_ (by rw [List.size_toArray];omega) (by simp only [List.size_toArray,Array.size_append];omega));refine z0 ⟨_,rfl,?_⟩;exact ⟨.non,_,I.lset (t':=s.toks) (its':=its++its2) hH e (by simp) (r.append r2) (by rw [List.length_append];omega),rfl,q⟩
end
end Mi
namespace Mi
open PySem L2
open PyProof.Rows hiding St
variable {h h':Heap}{l:Addr}{n:Nat}{Q:zb}
section
variable {prog:Program}{w:World}{A:Around}{E:zb}{s:Shared}{z ti to i1 i2 l1 l2:Addr}{n1 n2:Nat}{us vs:zt}{u v c d:Value}
structure ZAt (z ti to i1 i2 l1 l2:Addr) (f:Value) (us vs:zt) (n1 n2:Nat) (h:Heap):Prop where
 ap:ZipApart z ti to i1 i2 l1 l2
 zr:IsZip h z ti to f
 its:IsPair h ti (.ref i1) (.ref i2)
 out:∃ c d,IsPair h to c d
 one:h.IsTupleIter i1 l1 n1
 two:h.IsTupleIter i2 l2 n2
 src1:h.IsTuple l1 us
 src2:h.IsTuple l2 vs
theorem vZ {i:Addr} (x:h.IsTupleIter i l n) (k:∀ o,h.get? i=some o->h'.get? i=some o):h'.IsTupleIter i l n:=let ⟨o,e,r⟩:=x;⟨o,k o e,r⟩
theorem rM (x:h.IsTuple l us) (k:∀ o,h.get? l=some o->h'.get? l=some o):h'.IsTuple l us:=let ⟨o,e,r⟩:=x;⟨o,k o e,r⟩
def SM (S:ZAt z ti to i1 i2 l1 l2 .none us vs n1 n2 s.heap) (hu:us[n1]?=some u) (hv:vs[n2]?=some v)
  (hQ:∀ g,ZAt z ti to i1 i2 l1 l2 (rawInt s.heap.objs.size) us vs (n1+1) (n2+1) g->IsPair g s.heap.objs.size u v->g.objs.size=s.heap.objs.size+1 ->
   (∀ b o,b≠z->b≠to->b≠i1->b≠i2->s.heap.get? b=some o->g.get? b=some o)->Q (.ref s.heap.objs.size) { s with heap:=g }) :
  wpAny (model prog w) A (Builtin.«zip.__next__» ⟨[.ref z],[]⟩) (fun fin s'=>∃ v,fin=.done (.ret v)/\Q v s') E s:=by
 obtain ⟨D,hz,ht,⟨c,d,ho⟩,k1,k2,m1,m2⟩:=S;show wpAny _ _ (field (.ref z) 2 >>= _) _ _ _
 refine zz (jp hz rfl (x:=.bool false) rfl ?_);show wpAny _ _ (field (.ref z) 3 >>= _) _ _ _
 refine zz (jp hz rfl (x:=.ref ti) rfl (zz (wpAny_seqItems ht rfl ?_)));show wpAny _ _ (Builtin.SmallTypes.ownedTupleIsFree (.ref z) >>= _) _ _ _
 refine zz ?_;unfold Builtin.SmallTypes.ownedTupleIsFree;refine zz (jp hz rfl (x:=.none) rfl (z0 ?_));simp only [if_true];refine zz (wpAny_rule (zz (jp hz rfl (x:=.ref to) rfl (zz (wpAny_setField_rec hz (by simp) fun g1 z1 e1=>?_)))));replace z1:IsZip g1 z ti to .ellipsis:=z1;refine zz ?_;simp only [List.zipIdx_cons,List.zipIdx_nil,List.forIn_cons,List.forIn_nil];refine zz (zz (wpAny_onRaise ?_));show wpAny _ _ (Builtin.SmallTypes.nextOf (.ref i1) >>= _) _ _ _
 refine zz (pU (k1.extBut e1.extBut D.i1z) (m1.extBut e1.extBut D.l1z) hu fun g2 k12 e2=>z0 ?_);have o2:IsPair g2 to c d:=e2.extBut _ _ D.TOi1 (e1.extBut _ _ D.TOz ho);refine zz (wpAny_seqItems o2 rfl (zz (wpAny_updateSeq_pair o2 fun g3 o3 e3=>?_)));replace o3:IsPair g3 to u d:=o3;refine zz (wpAny_letGo (z0 (zz (zz (wpAny_onRaise ?_)))));show wpAny _ _ (Builtin.SmallTypes.nextOf (.ref i2) >>= _) _ _ _
 refine zz (pU (((k2.extBut e1.extBut D.i2z).extBut e2.extBut D.i12.symm).extBut e3.extBut D.TOi2.symm) (((m2.extBut e1.extBut D.l2z).extBut e2.extBut D.l2i1).extBut e3.extBut D.l2TO) hv fun g4 k24 e4=>z0 ?_);have o4:IsPair g4 to u d:=e4.extBut _ _ D.TOi2 o3;refine zz (wpAny_seqItems o4 rfl (zz (wpAny_updateSeq_pair o4 fun g5 o5 e5=>?_)));replace o5:IsPair g5 to u v:=o5;refine zz (wpAny_letGo (z0 (z0 (zz (wpAny_seqItems o5 rfl (zz (wpAny_newTuple ?_)))))));have sz:g5.objs.size=s.heap.objs.size:=by rw [e5.1,e4.1,e3.1,e2.1,e1.1]
 have z5:IsZip g5 z ti to .ellipsis:=e5.extBut _ _ D.TOz.symm (e4.extBut _ _ D.i2z.symm (e3.extBut _ _ D.TOz.symm (e2.extBut _ _ D.i1z.symm z1)));have kp:∀ b o,b≠z->b≠to->b≠i1->b≠i2->s.heap.get? b=some o->g5.get? b=some o:=fun b o b1 b2 b3 b4 e=>e5.extBut _ _ b2 (e4.extBut _ _ b4 (e3.extBut _ _ b2 (e2.extBut _ _ b3 (e1.extBut _ _ b1 e))))
 have k15:g5.IsTupleIter i1 l1 (n1+1):=((k12.extBut e3.extBut D.TOi1.symm).extBut e4.extBut D.i12).extBut e5.extBut D.TOi1.symm;have k25:g5.IsTupleIter i2 l2 (n2+1):=k24.extBut e5.extBut D.TOi2.symm;have zlt:z < g5.objs.size:=vx z5;show wpAny _ _ (Builtin.SmallTypes.ownedTupleHandOut (.ref z) (.ref g5.objs.size) >>= _) _ _ _
 refine zz ?_;unfold Builtin.SmallTypes.ownedTupleHandOut;have z6:IsZip (g5.push { cls:=.type "tuple",data:=.seq #[u,v] }) z ti to .ellipsis:=vn _ z5
 refine zz (wpAny_setField_rec z6 (by simp) fun g7 z7 e7=>?_);replace z7:IsZip g7 z ti to (rawInt g5.objs.size):=z7;refine wpAny_setField_rec z7 (by simp) fun g8 z8 e8=>?_
 replace z8:IsZip g8 z ti to (rawInt g5.objs.size):=z8;have up:∀ b o,b≠z->g5.get? b=some o->g8.get? b=some o:=fun b o b1 e=>e8.extBut _ _ b1 (e7.extBut _ _ b1 (vn _ e))
 have p8:IsPair g8 g5.objs.size u v:=e8.extBut _ _ (vE zlt) (e7.extBut _ _ (vE zlt) (vw _ rfl));have s8:g8.objs.size=g5.objs.size+1:=by rw [e8.1,e7.1,Heap.size_push]
 rw [sz] at z8 p8 s8;refine z0 ⟨_,rfl,?_⟩;show Q (.ref g5.objs.size) _
 rw [sz];have kp8:∀ b o,b≠z->b≠to->b≠i1->b≠i2->s.heap.get? b=some o->g8.get? b=some o:=fun b o b1 b2 b3 b4 e=>up b o b1 (kp b o b1 b2 b3 b4 e)
 exact hQ g8 ⟨D,z8,kp8 _ _ D.TIz D.TITO D.TIi1 D.TIi2 ht,⟨_,_,up _ _ D.TOz o5⟩,vZ k15 fun o e=>up _ o D.i1z e,vZ k25 fun o e=>up _ o D.i2z e,rM m1 fun o e=>kp8 _ o D.l1z D.l1TO D.l1i1 D.l1i2 e,rM m2 fun o e=>kp8 _ o D.l2z D.l2TO D.l2i1 D.l2i2 e⟩ p8 s8 kp8
def U7 {Q:Fin->Shared->Prop} (hh:A.handled=none) (S:ZAt z ti to i1 i2 l1 l2 .none us vs n1 n2 s.heap) (he:us[n1]?=none\/vs[n2]?=none)
  (hE:∀ g e,(∀ b o,b ≠ z -> b ≠ to -> b ≠ i1 -> b ≠ i2 -> s.heap.get? b=some o -> g.get? b=some o) -> (∃ o,g.get? e=some o /\ o.cls=.type "StopIteration") -> E (.ref e) { s with heap:=g }) :
  wpAny (model prog w) A (Builtin.«zip.__next__» ⟨[.ref z],[]⟩) Q E s:=by
 obtain ⟨D,hz,ht,⟨c,d,ho⟩,k1,k2,m1,m2⟩:=S;show wpAny _ _ (field (.ref z) 2 >>= _) _ _ _
 refine zz (jp hz rfl (x:=.bool false) rfl ?_);show wpAny _ _ (field (.ref z) 3 >>= _) _ _ _
 refine zz (jp hz rfl (x:=.ref ti) rfl (zz (wpAny_seqItems ht rfl ?_)));show wpAny _ _ (Builtin.SmallTypes.ownedTupleIsFree (.ref z) >>= _) _ _ _
 refine zz ?_;unfold Builtin.SmallTypes.ownedTupleIsFree;refine zz (jp hz rfl (x:=.none) rfl (z0 ?_));simp only [if_true];refine zz (wpAny_rule (zz (jp hz rfl (x:=.ref to) rfl (zz (wpAny_setField_rec hz (by simp) fun g1 z1 e1=>?_)))));replace z1:IsZip g1 z ti to .ellipsis:=z1;refine zz ?_;simp only [List.zipIdx_cons,List.zipIdx_nil,List.forIn_cons,List.forIn_nil];refine zz (zz (wpAny_onRaise ?_));show wpAny _ _ (Builtin.SmallTypes.nextOf (.ref i1) >>= _) _ _ _
 cases hx:us[n1]? with
 | none =>
  refine zz (xY hh (k1.extBut e1.extBut D.i1z) (m1.extBut e1.extBut D.l1z) hx fun g2 e e2 q=>?_);obtain ⟨oe,qo,qc⟩:=q;have z2:IsZip g2 z ti to .ellipsis:=e2 _ _ D.i1z.symm z1;have ez:e≠z:=fun x=>by subst x;rw [z2] at qo;cases qo;simp at qc
  exact wpAny_setField_rec z2 (by simp) fun g3 _ e3=>hE g3 e (fun b o b1 _ b3 _ x=>e3.extBut _ _ b1 (e2 _ _ b3 (e1.extBut _ _ b1 x))) ⟨oe,e3.extBut _ _ ez qo,qc⟩
 | some x =>
  have hy:vs[n2]?=none:=by
   rcases he with q | q
   .rw [hx] at q;cases q
   .exact q
  refine zz (pU (k1.extBut e1.extBut D.i1z) (m1.extBut e1.extBut D.l1z) hx fun g2 k12 e2=>z0 ?_);have o2:IsPair g2 to c d:=e2.extBut _ _ D.TOi1 (e1.extBut _ _ D.TOz ho);refine zz (wpAny_seqItems o2 rfl (zz (wpAny_updateSeq_pair o2 fun g3 o3 e3=>?_)));refine zz (wpAny_letGo (z0 (zz (zz (wpAny_onRaise ?_)))));show wpAny _ _ (Builtin.SmallTypes.nextOf (.ref i2) >>= _) _ _ _
  refine zz (xY hh (((k2.extBut e1.extBut D.i2z).extBut e2.extBut D.i12.symm).extBut e3.extBut D.TOi2.symm) (((m2.extBut e1.extBut D.l2z).extBut e2.extBut D.l2i1).extBut e3.extBut D.l2TO) hy fun g4 e e4 q=>?_);obtain ⟨oe,qo,qc⟩:=q;have z4:IsZip g4 z ti to .ellipsis:=e4 _ _ D.i2z.symm (e3.extBut _ _ D.TOz.symm (e2.extBut _ _ D.i1z.symm z1));have ez:e≠z:=fun x=>by subst x;rw [z4] at qo;cases qo;simp at qc
  exact wpAny_setField_rec z4 (by simp) fun g5 _ e5=>hE g5 e (fun b o b1 b2 b3 b4 x=>e5.extBut _ _ b1 (e4 _ _ b4 (e3.extBut _ _ b2 (e2.extBut _ _ b3 (e1.extBut _ _ b1 x))))) ⟨oe,e5.extBut _ _ ez qo,qc⟩
def Q7 {Q:Option Value->Shared->Prop} (S:ZAt z ti to i1 i2 l1 l2 .none us vs n1 n2 s.heap) (hu:us[n1]?=some u) (hv:vs[n2]?=some v)
  (hQ:∀ g,ZAt z ti to i1 i2 l1 l2 (rawInt s.heap.objs.size) us vs (n1+1) (n2+1) g->IsPair g s.heap.objs.size u v->g.objs.size=s.heap.objs.size+1 ->
   (∀ b o,b≠z->b≠to->b≠i1->b≠i2->s.heap.get? b=some o->g.get? b=some o)->Q (some (.ref s.heap.objs.size)) { s with heap:=g }) :
  wpAny (model prog w) A (pyNext (.ref z)) Q E s:=by
 have ty:s.TypeIs (.ref z) "zip":=⟨_,S.zr,rfl⟩
 unfold pyNext;exact zz (wpAny_attempt (jb (name:=Str.ofString "__next__") ty F.slot_zip_next (ja F.slot_zip_next ty F.entry_zip_next (SM S hu hv fun g q1 q2 q3 q4=>z0 (hQ g q1 q2 q3 q4)) (F.args_zip_next_1 _))))
def Sg {Q:Option Value->Shared->Prop} (hh:A.handled=none) (S:ZAt z ti to i1 i2 l1 l2 .none us vs n1 n2 s.heap) (he:us[n1]?=none\/vs[n2]?=none)
  (hQ:∀ g,(∀ b o,b≠z->b≠to->b≠i1->b≠i2->s.heap.get? b=some o->g.get? b=some o)->Q none { s with heap:=g }):wpAny (model prog w) A (pyNext (.ref z)) Q E s:=by
 have ty:s.TypeIs (.ref z) "zip":=⟨_,S.zr,rfl⟩
 unfold pyNext;refine zz (wpAny_attempt (jb (name:=Str.ofString "__next__") ty F.slot_zip_next (ja F.slot_zip_next ty F.entry_zip_next (U7 hh S he fun g e kp q=>?_) (F.args_zip_next_1 _))))
 obtain ⟨o,qo,qc⟩:=q;exact zz (wpAny_isInstance (T:="StopIteration") (b:=true) ⟨o,qo,qc⟩ isSubtype_stop (z0 (hQ _ kp)))
noncomputable abbrev zo (l:Addr):Obj:={ cls:=.type "tuple_iterator",data:=.fields #[.ref l,.int 0 0] }
abbrev zh (h:Heap) (l1 l2:Addr):Heap:=((((h.push (zo l1)).push (zo l2)).push { cls:=.type "tuple",data:=.seq #[.ref h.objs.size,.ref (h.push (zo l1)).objs.size] }).push { cls:=.type "tuple",data:=.seq #[.none,.none] }).push
 { cls:=.type "zip",data:=.fields #[.none,.bool false,.bool false,.ref ((h.push (zo l1)).push (zo l2)).objs.size,.ref (((h.push (zo l1)).push (zo l2)).push { cls:=.type "tuple",data:=.seq #[.ref h.objs.size,.ref (h.push (zo l1)).objs.size] }).objs.size] }
theorem Xp (l1 l2:Addr) (us vs:zt):Meets (Builtin.«zip.__new__» ⟨[.type "zip",.ref l1,.ref l2],[]⟩) (fun _ R s=>s.heap.IsTuple l1 us /\ s.heap.IsTuple l2 vs /\
   R (.ok (.ret (.ref ((((s.heap.push (zo l1)).push (zo l2)).push { cls:=.type "tuple",data:=.seq #[.ref s.heap.objs.size,.ref (s.heap.push (zo l1)).objs.size] }).push { cls:=.type "tuple",data:=.seq #[.none,.none] }).objs.size))) { s with heap:=zh s.heap l1 l2 }) :=
 .of_wp fun prog w A R s h=>by
  obtain ⟨hp,g,d,tk,os⟩:=s;obtain ⟨m1,m2,h⟩:=h;have hsub:=sub_zip;have t1:Heap.IsTuple (Shared.heap ⟨hp,g,d,tk,os⟩) l1 us:=m1;have t2:Heap.IsTuple (Shared.heap ⟨hp.push (zo l1),g,d,tk,os⟩) l2 vs:=rM m2 fun o e=>vn _ e
  wp_walk using wpAny_pyIter_tuple t1,wpAny_pyIter_tuple t2
  exact ⟨_,rfl,h⟩
theorem zap {a b:Nat} (h1:a < n) (h2:b < n):ZipApart (n+4) (n+2) (n+3) n (n+1) a b where
 TIz:=show n+2≠n+4 by omega
 TOz:=show n+3≠n+4 by omega
 i1z:=show n≠n+4 by omega
 i2z:=show n+1≠n+4 by omega
 TITO:=show n+2≠n+3 by omega
 TIi1:=show n+2≠n by omega
 TIi2:=show n+2≠n+1 by omega
 TOi1:=show n+3≠n by omega
 TOi2:=show n+3≠n+1 by omega
 i12:=show n≠n+1 by omega
 l1z:=show a≠n+4 by omega
 l1TO:=show a≠n+3 by omega
 l1i1:=show a≠n by omega
 l1i2:=show a≠n+1 by omega
 l2z:=show b≠n+4 by omega
 l2TO:=show b≠n+3 by omega
 l2i1:=show b≠n by omega
 l2i2:=show b≠n+1 by omega
def Tn (m1:s.heap.IsTuple l1 us) (m2:s.heap.IsTuple l2 vs)
  (h:∀ g,ZAt (s.heap.objs.size+4) (s.heap.objs.size+2) (s.heap.objs.size+3) s.heap.objs.size (s.heap.objs.size+1) l1 l2 .none us vs 0 0 g->g.objs.size=s.heap.objs.size+5 ->
   (∀ b o,s.heap.get? b=some o->g.get? b=some o)->Q (.ref (s.heap.objs.size+4)) { s with heap:=g }) :
  wpAny (model prog w) A (call (.type "zip") [.ref l1,.ref l2]) Q E s:=by
 refine callType_new F.called_zip (by decide) (F.typeCall_zip_2 _ _) (F.newCall_zip_2 _ _) (fun obj=>F.args_object_init_3 obj _ _) F.entry_zip_new (Xp l1 l2 us vs) ⟨m1,m2,?_⟩;have lt1:l1 < s.heap.objs.size:=by obtain ⟨_,e,_⟩:=m1;exact vx e
 have lt2:l2 < s.heap.objs.size:=by obtain ⟨_,e,_⟩:=m2;exact vx e
 have a1:(s.heap.push (zo l1)).objs.size=s.heap.objs.size+1:=Heap.size_push ..;have a2:((s.heap.push (zo l1)).push (zo l2)).objs.size=s.heap.objs.size+2:=by rw [Heap.size_push,a1]
 have a3:(((s.heap.push (zo l1)).push (zo l2)).push { cls:=.type "tuple",data:=.seq #[.ref s.heap.objs.size,.ref (s.heap.push (zo l1)).objs.size] }).objs.size=s.heap.objs.size+3:=by rw [Heap.size_push,a2]
 have a4:((((s.heap.push (zo l1)).push (zo l2)).push { cls:=.type "tuple",data:=.seq #[.ref s.heap.objs.size,.ref (s.heap.push (zo l1)).objs.size] }).push { cls:=.type "tuple",data:=.seq #[.none,.none] }).objs.size=s.heap.objs.size+4:=by rw [Heap.size_push,a3]
 have a5:(zh s.heap l1 l2).objs.size=s.heap.objs.size+5:=by rw [Heap.size_push,a4]
 have b5:(zh s.heap l1 l2).get? ((((s.heap.push (zo l1)).push (zo l2)).push { cls:=.type "tuple",data:=.seq #[.ref s.heap.objs.size,.ref (s.heap.push (zo l1)).objs.size] }).push { cls:=.type "tuple",data:=.seq #[.none,.none] }).objs.size=some _:=vw _ rfl
 have b4:(zh s.heap l1 l2).get? (((s.heap.push (zo l1)).push (zo l2)).push { cls:=.type "tuple",data:=.seq #[.ref s.heap.objs.size,.ref (s.heap.push (zo l1)).objs.size] }).objs.size=some _:=vn _ (vw _ rfl)
 have b3:(zh s.heap l1 l2).get? ((s.heap.push (zo l1)).push (zo l2)).objs.size=some _:=vn _ (vn _ (vw _ rfl));have b2:(zh s.heap l1 l2).get? (s.heap.push (zo l1)).objs.size=some _:=vn _ (vn _ (vn _ (vw _ rfl)));have b1:(zh s.heap l1 l2).get? s.heap.objs.size=some _:=vn _ (vn _ (vn _ (vn _ (vw _ rfl))));have kp:∀ b o,s.heap.get? b=some o->(zh s.heap l1 l2).get? b=some o:=fun b o x=>vn _ (vn _ (vn _ (vn _ (vn _ x))))
 show _/\_
 rw [a2,a3,a4] at b5;rw [a1,a2] at b3;rw [a3] at b4;rw [a1] at b2;rw [a4];exact ⟨⟨_,b5,rfl⟩,h _ ⟨zap lt1 lt2,b5,b3,⟨_,_,b4⟩,⟨_,b1,rfl,rfl⟩,⟨_,b2,rfl,rfl⟩,rM m1 fun o e=>kp _ o e,rM m2 fun o e=>kp _ o e⟩ a5 kp⟩
end
def Itz (K:zd) (a b:Addr):It :=
 ⟨fun i H=>∃ xs ys x y,SqT K H a xs/\SqT K H b ys/\xs[i]?=some x/\ys[i]?=some y,
  fun i H x H'=>∃ p y1 y2,H p=none/\x=.ref p/\H'=upd H p (.tup [y1,y2])/\(∀ xs,SqT K H a xs->xs[i]?=some y1)/\∀ ys,SqT K H b ys->ys[i]?=some y2,
  fun i H=>∃ xs ys,SqT K H a xs/\SqT K H b ys/\(xs[i]?=none\/ys[i]?=none)⟩
def aaX (z ti to i1 i2 a b:Addr) (i:Nat) (h:Heap):Prop:=IsZip h z ti to .none/\IsPair h ti (.ref i1) (.ref i2)/\(∃ c d,IsPair h to c d)/\h.IsTupleIter i1 a i/\h.IsTupleIter i2 b i
variable {z ti to i1 i2 a b:Addr}{us:zt}
theorem NQ {i:Nat}{vs:zt} (D:ZipApart z ti to i1 i2 a b) (S:aaX z ti to i1 i2 a b i h) (m1:h.IsTuple a us) (m2:h.IsTuple b vs):ZAt z ti to i1 i2 a b .none us vs i i h :=
 ⟨D,S.1,S.2.1,S.2.2.1,S.2.2.2.1,S.2.2.2.2,m1,m2⟩
def WR (h:b∈([z,ti,to,i1,i2]:List Addr)):b=z\/b=ti\/b=to\/b=i1\/b=i2:=by simpa using h
variable {els:zl}{x1:Nat}{tpos:Pos}
def Sd {P:Program}{w:World}{K:zd} (D:ZipApart z ti to i1 i2 a b) :
  Turn P w K (.Tuple els x1 tpos) (Itz K a b) [z,ti,to,i1,i2] z (aaX z ti to i1 i2 a b) where
 mem:=by simp
 obj:=fun i h st q hq=>by
  obtain ⟨r1,r2,⟨c,d,r3⟩,⟨o4,e4,c4,d4⟩,⟨o5,e5,c5,d5⟩⟩:=st;rcases WR hq with e | e | e | e | e <;> subst e
  .exact ⟨_,r1,fun v x=>by cases x⟩
  .exact ⟨_,r2,fun v x=>by cases x⟩
  .exact ⟨_,r3,fun v x=>by cases x⟩
  .exact ⟨o4,e4,fun v x=>by rw [d4] at x;cases x⟩
  .exact ⟨o5,e5,fun v x=>by rw [d5] at x;cases x⟩
 keep:=fun i h h' st k=>by
  obtain ⟨r1,r2,⟨c,d,r3⟩,r4,r5⟩:=st;exact ⟨k z (by simp) _ r1,k ti (by simp) _ r2,⟨c,d,k to (by simp) _ r3⟩,vZ r4 fun o e=>k i1 (by simp) o e,vZ r5 fun o e=>k i2 (by simp) o e⟩
 item:=by
  intro X hP hw hK hc i pins s σ H E I hf st hg;subst hP hw hK;obtain ⟨xs,ys,x,y,hqx,hqy,hx,hy⟩:=hg;obtain ⟨us,rx,p1,_⟩:=I.tuple hqx;obtain ⟨vs,ry,p2,_⟩:=I.tuple hqy;obtain ⟨u,hu,ru⟩:=rx.get hx;obtain ⟨v,hv,rv⟩:=ry.get hy;have S:=NQ D st (show s.heap.IsTuple a us.toArray from p1) (show s.heap.IsTuple b vs.toArray from p2);refine Q7 S (u:=u) (v:=v) (by simpa using hu) (by simpa using hv) fun g S1 hT hsz kp=>?_
  refine ⟨.ref s.heap.objs.size,rfl,wpAny_letOwnedTupleGo_zip (s:={ s with heap:=g }) S1.zr fun g2 hz2 e2=>?_⟩;have e2':Heap.SameBut z g g2:=e2;have lt:∀ q o,s.heap.get? q=some o->q < s.heap.objs.size:=fun q o e=>vx e
  have zlt:=lt _ _ st.1;have kp2:∀ q o,q≠z->q≠to->q≠i1->q≠i2->s.heap.get? q=some o->g2.get? q=some o:=fun q o n1 n2 n3 n4 e=>e2'.extBut q o n1 (kp q o n1 n2 n3 n4 e)
  have fz:=hf z (by simp);have fo:=hf to (by simp);have f1:=hf i1 (by simp);have f2:=hf i2 (by simp);have zX:=hf ti (by simp);have hTn:H s.heap.objs.size=none:=I.hok.fresh (vy _);have nT:∀ q o,s.heap.get? q=some o->q≠s.heap.objs.size:=fun q o e=>vz (vx e)
  have hTo:g2.get? s.heap.objs.size=some { cls:=.type "tuple",data:=.seq #[u,v] }:=e2'.extBut _ _ (vE zlt) hT
  have nch:∀ q,q ∉ ([z,to,i1,i2]:List Addr)->q≠z/\q≠to/\q≠i1/\q≠i2:=fun q hq=>by simpa using hq
  have I2:Inv X pins σ (upd H s.heap.objs.size (.tup [x,y])) { s with heap:=g2 }:=by
   refine I.step (g':=s.gens) (d':=s.drawn) (t':=s.toks) (ch:=[z,to,i1,i2]) (fun q hq=>?_) (fun q o _ _ hc e _=>kp2 q o (nch q hc).1 (nch q hc).2.1 (nch q hc).2.2.1 (nch q hc).2.2.2 e) (fun q o _ _ hc e _=>⟨o.slots,kp2 q o (nch q hc).1 (nch q hc).2.1 (nch q hc).2.2.1 (nch q hc).2.2.2 e⟩) (fun q o _ e n=>by rw [ao (nT q o e)];exact n)
    (fun q o hc e=>⟨o,kp2 q o (nch q hc).1 (nch q hc).2.1 (nch q hc).2.2.1 (nch q hc).2.2.2 e⟩) (fun q zs e=>by rw [ao (ak e hTn)];exact e) (fun q o u e=>by rw [ao (ak e hTn)];exact e) (fun q ps e=>⟨#[],by rw [ao (ak e hTn),e];simp⟩) (fun m hm=>?_) (fun q u' e=>?_) I.bare
   .have hq':q=z\/q=to\/q=i1\/q=i2:=by simpa using hq
    rcases hq' with e | e | e | e <;> subst e
    .exact ⟨fz.2.2.2.1,fz.2.1,fz.2.2.2.2.1,fz.2.2.2.2.2⟩
    .exact ⟨fo.2.2.2.1,fo.2.1,fo.2.2.2.2.1,fo.2.2.2.2.2⟩
    .exact ⟨f1.2.2.2.1,f1.2.1,f1.2.2.2.2.1,f1.2.2.2.2.2⟩
    .exact ⟨f2.2.2.2.1,f2.2.1,f2.2.2.2.2.1,f2.2.2.2.2.2⟩
   .obtain ⟨o,es,ep,ho,r⟩:=hm;exact ⟨o,es,ep,kp2 _ o (Ne.symm fz.2.1) (Ne.symm fo.2.1) (Ne.symm f1.2.1) (Ne.symm f2.2.1) ho,r⟩
   .by_cases hqT:q=s.heap.objs.size
    .subst hqT;rw [aA] at e;cases e;exact ⟨by show 2<=sizeLine;decide,[u,v],.cons ru (.cons rv .nil),⟨_,hTo,rfl,_,rfl⟩⟩
    .rw [ao hqT] at e;have nb:∀ c v,H c=some v->c≠z/\c≠to/\c≠i1/\c≠i2:=fun c v e=>⟨ak e fz.1,ak e fo.1,ak e f1.1,ak e f2.1⟩
     refine (I.hok q u' e).stay (fun c v hc r=>?_) (fun c r=>by rw [ao (ak r hTn)];exact r) (fun c zs r=>by rw [ao (ak r hTn)];exact r) (fun c _ r _=>by rw [ao (ak r hTn)];exact r);have nc:c≠z/\c≠to/\c≠i1/\c≠i2:=by
      rcases hc with k | k
      .rw [k];exact nb q u' e
      .exact nb c _ k
     exact kp2 c v nc.1 nc.2.1 nc.2.2.1 nc.2.2.2 r
  refine ⟨.ref s.heap.objs.size,_,I2,rfl,⟨s.heap.objs.size,x,y,hTn,rfl,rfl,fun ws hw=>by rw [I.tuple_inj hw hqx];exact hx,fun ws hw=>by rw [I.tuple_inj hw hqy];exact hy⟩,?_,fun q hq=>?_⟩
  .obtain ⟨c,d,ho⟩:=S1.out;exact ⟨hz2,e2'.extBut _ _ D.TIz S1.its,⟨c,d,e2'.extBut _ _ D.TOz ho⟩,S1.one.extBut e2'.extBut D.i1z,S1.two.extBut e2'.extBut D.i2z⟩
  .have hn:∀ {q o},s.heap.get? q=some o->H q=none->upd H s.heap.objs.size (.tup [x,y]) q=none:=fun e n=>by rw [ao (nT _ _ e)];exact n
   obtain ⟨r1,r2,⟨c,d,r3⟩,⟨o4,e4,_⟩,⟨o5,e5,_⟩⟩:=st;rcases WR hq with e | e | e | e | e <;> subst e
   .exact hn r1 fz.1
   .exact hn r2 zX.1
   .exact hn r3 fo.1
   .exact hn e4 f1.1
   .exact hn e5 f2.1
 done:=by
  intro X hP hw hK hc i pins s σ H E I hf st hg;subst hP hw hK;obtain ⟨xs,ys,hqx,hqy,he⟩:=hg;obtain ⟨us,rx,p1,_⟩:=I.tuple hqx;obtain ⟨vs,ry,p2,_⟩:=I.tuple hqy;have S:=NQ D st (show s.heap.IsTuple a us.toArray from p1) (show s.heap.IsTuple b vs.toArray from p2);have l1:=rx.length;have l2:=ry.length;have he':us.toArray[i]?=none\/vs.toArray[i]?=none:=by
   rcases he with e | e
   .left;rw [List.getElem?_eq_none_iff] at e;simp;omega
   .right;rw [List.getElem?_eq_none_iff] at e;simp;omega
  refine Sg (I.ok.hd hc) S he' fun g kp=>⟨rfl,?_⟩
  have fz:=hf z (by simp);have fo:=hf to (by simp);have f1:=hf i1 (by simp);have f2:=hf i2 (by simp);have nch:∀ q,q ∉ ([z,to,i1,i2]:List Addr)->q≠z/\q≠to/\q≠i1/\q≠i2:=fun q hq=>by simpa using hq
  have kc:∀ q o,q ∉ ([z,to,i1,i2]:List Addr)->s.heap.get? q=some o->g.get? q=some o:=fun q o hc e=>kp q o (nch q hc).1 (nch q hc).2.1 (nch q hc).2.2.1 (nch q hc).2.2.2 e
  refine I.step (g':=s.gens) (d':=s.drawn) (t':=s.toks) (ch:=[z,to,i1,i2]) (fun q hq=>?_) (fun q o _ _ hc e _=>kc q o hc e) (fun q o _ _ hc e _=>⟨o.slots,kc q o hc e⟩) (fun _ _ _ _ n=>n) (fun q o hc e=>⟨o,kc q o hc e⟩)
   (fun _ _ e=>e) (fun _ _ _ e=>e) (fun q ps e=>⟨#[],by rw [e];simp⟩) (fun m hm=>?_) (fun q u' e=>?_) I.bare
  .have hq':q=z\/q=to\/q=i1\/q=i2:=by simpa using hq
   rcases hq' with e | e | e | e <;> subst e
   .exact ⟨fz.2.2.2.1,fz.2.1,fz.2.2.2.2.1,fz.2.2.2.2.2⟩
   .exact ⟨fo.2.2.2.1,fo.2.1,fo.2.2.2.2.1,fo.2.2.2.2.2⟩
   .exact ⟨f1.2.2.2.1,f1.2.1,f1.2.2.2.2.1,f1.2.2.2.2.2⟩
   .exact ⟨f2.2.2.2.1,f2.2.1,f2.2.2.2.2.1,f2.2.2.2.2.2⟩
  .obtain ⟨o,es,ep,ho,r⟩:=hm;exact ⟨o,es,ep,kp _ o (Ne.symm fz.2.1) (Ne.symm fo.2.1) (Ne.symm f1.2.1) (Ne.symm f2.2.1) ho,r⟩
  .have nb:∀ c v,H c=some v->c≠z/\c≠to/\c≠i1/\c≠i2:=fun c v e=>⟨ak e fz.1,ak e fo.1,ak e f1.1,ak e f2.1⟩
   refine (I.hok q u' e).stay (fun c v hc r=>?_) (fun c r=>r) fun c zs r=>r
   have nc:c≠z/\c≠to/\c≠i1/\c≠i2:=by
    rcases hc with k | k
    .rw [k];exact nb q u' e
    .exact nb c _ k
   exact kp c v nc.1 nc.2.1 nc.2.2.1 nc.2.2.2 r
 self:=fun _ _ _ _ _ st h=>wpAny_pyIter_zip st.1 h
section
variable {X:Cx}
def boot_zip:bootBuiltins "zip"=some (.type "zip"):=by decide +kernel
def acZ (K:zd) (ta:TA):TI:=fun σ H R=>ta σ H fun vs H1=>∃ a xs b ys,vs=[.ref a,.ref b]/\SqT K H1 a xs/\SqT K H1 b ys/\R (Itz K a b) H1
def abE {pins:w4}{σ:St}{H:Hp}{s:Shared}{R:It->Hp->Prop}{xs ys:List V}{E:zb} (I:Inv X pins σ H s) (hx:SqT X.K H a xs) (hy:SqT X.K H b ys) (q:R (Itz X.K a b) H) :
  wpAny (model X.prog X.w) X.A (call (.type "zip") [.ref a,.ref b]) (fun v s1=>wpAny (model X.prog X.w) X.A (pyIter v) (PIE X pins σ (.Tuple els x1 tpos) R) E s1) E s:=by
 obtain ⟨us,rx,p1,_⟩:=I.tuple hx;obtain ⟨vs,ry,p2,_⟩:=I.tuple hy;refine Tn (show s.heap.IsTuple a us.toArray from p1) (show s.heap.IsTuple b vs.toArray from p2) fun g S hsz kp=>?_
 refine wpAny_pyIter_zip (s:={ s with heap:=g }) S.zr ?_;have I1:Inv X pins σ H { s with heap:=g }:=I.kept (t':=s.toks) kp;refine ⟨s.heap.objs.size+4,_,_,_,H,rfl,I1,Sd S.ap,⟨S.zr,S.its,S.out,S.one,S.two⟩,fun c hc=>?_,q⟩;have hle:s.heap.objs.size<=c:=by
  rcases WR hc with e | e | e | e | e <;> subst e
  .exact Nat.le_add_right _ _
  .exact Nat.le_add_right _ _
  .exact Nat.le_add_right _ _
  .exact vy _
  .exact Nat.le_add_right _ _
 exact I.fpOk hle (I.hok.fresh hle)
def aau {a b:Expr}{ta:TA}{p pos:Pos} (hg:Gl X "zip") (hm:X.mg "zip"=none) (ha:PA X [a,b] ta) (hs:starEach [a,b] X.env=[(false,eval a X.env),(false,eval b X.env)]) (hs2:starEach [b] X.env=[(false,eval b X.env)]) :
  PI X (.Tuple els x1 tpos) (.Call (.Name "zip" p) [a,b] [] pos) (acZ X.K ta):=by
 intro pins s σ H R I h;refine Call_ (jP I hg hm boot_zip (jn (thn (ha pos pins s σ H _ I h) fun us s1 ⟨vs,H1,I1,r1,q1⟩=>?_) (by rw [hs,hs2]) (by rw [hs2];rfl)));obtain ⟨c,xs,d,ys,rfl,hx,hy,q⟩:=q1;obtain ⟨u,v,rfl,ru,rv⟩:=vals2 r1;cases ru;cases rv;exact abE I1 hx hy q
end
end Mi
namespace Mi
open PySem L2
open PyProof.Rows hiding St
noncomputable def atV:List (D × Addr × Value)->List V->D->Option V
 | x::xs,y::ys,k=>if x.1=k then some y else atV xs ys k
 | _,_,_=>none
theorem u0 {k:D}:∀ {xs:List (D × Addr × Value)}{ys:List V},Vals ys (xs.map (·.2.2))->(∃ v p,atV xs ys k=some v/\atKey xs k=some p/\RelV v p.2)\/(atV xs ys k=none/\atKey xs k=none)
 | [],[],_=>.inr ⟨rfl,rfl⟩
 | [],_::_,h=>by cases h
 | _::_,[],h=>by cases h
 | x::xs,y::ys,h=>by
  cases h with
  | cons r rs =>
   by_cases e:x.1=k
   .refine .inl ⟨y,x.2,if_pos e,?_,r⟩;unfold atKey;rw [List.find?_cons_of_pos (by simpa using e)];rfl
   .have e1:atV (x::xs) (y::ys) k=atV xs ys k:=if_neg e;have e2:atKey (x::xs) k=atKey xs k:=by
     unfold atKey;rw [List.find?_cons_of_neg (by simpa using e)]
    rw [e1,e2];exact u0 rs
section
variable {X:Cx}
def Xz (X:Cx):R2:=fun x y H Q=>∃ k a ks xs ys v,Rp (gOf X) H k y/\kOk ks k=true/\x=.ref a/\DictR X H a ks xs ys/\atV xs ys k=some v/\Q v H
def Zk (hu:X.A.units+100 < cLine):IxR X (Xz X):=by
 intro value slice pins s σ H x y v u Q I rx ry h hs;obtain ⟨k,a,ks,xs,ys,z,r1,hk,rfl,d,hv,q⟩:=h;cases rx;obtain ⟨kb,hkb,h1,h2,h3,h4⟩:=dictOf I d hk;obtain ⟨_,_,ds,rfl⟩:=j9 hkb;rw [Rp] at r1;obtain ⟨b,zs,rfl,sq,rs⟩:=id r1;cases ry;have hin:X.A.in1.units=X.A.units+1:=rfl;rcases u0 (k:=.tup ds) h3 with ⟨z',p,e1,e2,rp⟩ | ⟨e1,_⟩
 .rw [hv] at e1;cases e1;exact subscriptTail_builtinR (x:=p.2) h4.typeIs slot_dict_getitem.lookup
   (wpAny_getItem_heap (Q:=fun r s'=>r=p.2/\EP X pins σ Q r s') (knd:=lB kb X.prog X.w) (by show X.A.in1.units+10 < cLine;omega) (HY I hkb (by rw [Rp];exact ⟨b,zs,rfl,sq,rs⟩)) h4 e2 ⟨rfl,z,H,I.tok _,rp,q⟩) hs
 .rw [hv] at e1;cases e1
def tDg (X:Cx) (td ty tx:TE):TE:=fun σ H Q=>td σ H fun x H1=>∃ a ks xs ys,x=.ref a/\DictR X H1 a ks xs ys/\ty σ H1 fun y H2=>tx σ H2 fun z H3=>∃ k ks xs ys,Rp (gOf X) H3 k y/\kOk ks k=true/\DictR X H3 a ks xs ys/\Q ((atV xs ys k).getD z) H3
def Ld {o e f:Expr}{td ty tx:TE}{apos cpos:Pos} (hu:X.A.units+100 < cLine) (ho:PE X o td) (he:PE X e ty) (hf:PE X f tx) (m:M2 X o "get" apos e f cpos):PE X (.Call (.Attribute o "get" apos) [e,f] [] cpos) (tDg X td ty tx):=by
 intro pins s σ H Q I h;refine wpAny_Call_method m.base m.few m.line PySem.F.plainAttrs_dict PySem.F.slot_dict_get PySem.F.type_dict_get (thn (ho pins s σ H _ I h) fun u s1 ⟨x,H1,I1,rx,a,ks,xs,ys,ex,d,q1⟩=>?_);subst ex;obtain rfl:u=Value.ref a:=rx;obtain ⟨h4,ob,e1,e2⟩:=JT I1 d;refine ⟨h4,?_,?_⟩
 .intro c ec;cases ec;exact ⟨ob,e1,e2⟩
 rw [m.trees];refine Calls.callWith_builtin rfl (Calls.evalArgs_plain (Calls.spliced_cons (thn (he pins s1 σ H1 _ I1 q1) fun iv s2 ⟨y,H2,I2,ry,q2⟩ =>
  Calls.spliced_cons (thn (hf pins s2 σ H2 _ I2 q2) fun fv s3 ⟨z,H3,I3,rz,k,ks3,xs3,ys3,r1,hk,d3,q3⟩=>Calls.spliced_nil ?_))))
 obtain ⟨kb,hkb,g1,g2,g3,g4⟩:=dictOf I3 d3 hk;obtain ⟨_,_,ds,rfl⟩:=j9 hkb;rw [Rp] at r1;obtain ⟨b,zs,rfl,sq,rs⟩:=id r1;cases ry;have hin:X.A.in1.units=X.A.units+1:=rfl;refine call_meetsIn PySem.F.slot_dict_get g4.typeIs PySem.F.entry_dict_get (PySem.F.args_dict_get_3 _ _ _) (meetsH_dict_get_default (lB kb X.prog X.w) a b g1 fv) ⟨by show X.A.in1.units+10 < cLine;omega,_,xs3,HY I3 hkb (by rw [Rp];exact ⟨b,zs,rfl,sq,rs⟩),g4,?_⟩;refine ⟨_,H3,I3.tok _,?_,q3⟩;rcases u0 (k:=.tup ds) g3 with ⟨z',p,e1,e2,rp⟩ | ⟨e1,e2⟩
 .rw [e1,e2];exact rp
 .rw [e1,e2];exact rz
end
end Mi
namespace Mi
open PySem L2
open PyProof.Rows hiding St
end Mi
namespace Mi
open PySem L2
open PyProof.Rows hiding St
variable {d it:Addr}{Q:zb}{es:Array DictEntry}{ep i:Nat}
section
variable {prog:Program}{w:World}{knd:HeapKind prog w D}{A:Around}{E:zb}{s:Shared}
def RX {a:Addr}{xs:List (D × Addr × Value)}{k:D}{dflt:Value} (hu:knd.room A) (hkey:knd.is s.heap k a) (hm:s.heap.DictOfH knd d xs)
  (h1:∀ p,atKey xs k=some p->Q p.2 { s with toks:=s.toks+knd.draws k })
  (h2:atKey xs k=none->∀ h',h'.DictOfH knd d (storedH xs k a dflt)->Heap.SameBut d s.heap h'->Q dflt { s with heap:=h',toks:=s.toks+knd.draws k })
  (hsz:xs.length<=sizeLine):wpAny (model prog w) A (dictSetDefault d (.ref a) dflt) Q E s:=by
 obtain ⟨o,es,ep,ho,hc,hd,he,his,hn⟩:=hm;unfold dictSetDefault
 try with_reducible refine wpAny_holding ?_
 refine zz (knd.pyHash hu hkey ?_);refine zz (wpAny_dictFind_heap (s:={ s with toks:=s.toks+knd.draws k }) hu hkey ho hd he his hn ?_ ?_)
 .intro hno;have hnot:k ∉ xs.map (·.1):=not_mem_keys_of_get hno;refine zz (wpAny_rule (zz (wpAny_updateDictKeys (hz:=by have e:=size_of_entries he;omega) (s:={ s with toks:=s.toks+knd.draws k }) ho hd (z0 (h2 (atKey_none_of_get hno) _ ⟨_,_,ep+1,ya _ ho (Obj.isFreed_of_dict (Obj.data_mapDictKeys hd _)),
   hc.mapDictKeys _,Obj.data_mapDictKeys hd _,?_,?_,?_⟩ (jv ..))))))
  .rw [storedH_new (atKey_none_of_get hno)];simp [he,entryOfKey]
  .rw [storedH_new (atKey_none_of_get hno)];intro x hx;rcases yT.mp hx with hx | hx
   .exact knd.keeps (his x hx) ho hd (jv ..)
   .simp only [List.mem_singleton] at hx;subst hx;exact knd.keeps hkey ho hd (jv ..)
  .rw [storedH_new (atKey_none_of_get hno)];rw [List.map_append,List.nodup_append];refine ⟨hn,by simp,?_⟩;intro x hx y hy;simp only [List.map_cons,List.map_nil,List.mem_singleton] at hy;subst hy;exact fun e=>hnot (e ▸ hx)
 .intro j p hj;refine zz (jK (s:={ s with toks:=s.toks+knd.draws k }) ho hd ?_);rw [entry_at he j,hj];exact zz (wpAny_rule (z0 (h1 p (atKey_of_get hn hj))))
theorem M7 (knd:HeapKind prog w D) (d a:Addr) (hd:(d == sysModules)=false) (dflt:Value) :
  MeetsIn prog w (Builtin.«dict.setdefault» ⟨[.ref d,.ref a,dflt],[]⟩) (fun A R s=>knd.room A.in1/\∃ k xs,knd.is s.heap k a/\s.heap.DictOfH knd d xs/\xs.length<=sizeLine /\
   (∀ p,atKey xs k=some p->R (.ok (.ret p.2)) { s with toks:=s.toks+knd.draws k }) /\
   (atKey xs k=none->∀ h',h'.DictOfH knd d (storedH xs k a dflt)->Heap.SameBut d s.heap h'->R (.ok (.ret dflt)) { s with heap:=h',toks:=s.toks+knd.draws k })) :=
 .of_wp fun A R s ⟨hu,k,xs,hkey,hm,hz,h1,h2⟩=>by
  unfold Builtin.«dict.setdefault»;refine zz ?_;unfold Builtin.Dict.keyAndDefault;refine zz (wpAny_notOrdered_dict hm.typeIs ?_);show wpAny _ _ (pure (d,Value.ref a,some dflt)) _ _ s
  refine z0 ?_;show wpAny _ _ (if (d == sysModules)=true then _ else (dictSetDefault d (.ref a) dflt >>= _)) _ _ s
  rw [if_neg (by rw [hd];exact Bool.false_ne_true)];exact zz (RX hu hkey hm (fun p hp=>z0 ⟨p.2,rfl,h1 p hp⟩) (fun hn h' hm' hs'=>z0 ⟨dflt,rfl,h2 hn h' hm' hs'⟩) hz)
def Uk {v:Addr} (hv:s.heap.IsValuesView v d) (hm:fX s.heap d es ep)
  (hQ:Q (.ref s.heap.objs.size) { s with heap:=s.heap.push { cls:=.type "dict_valueiterator",data:=.fields #[.ref d,.int 0 0,.int es.size 0,.int ep 0] } }) :
  wpAny (model prog w) A (pyIter (.ref v)) Q E s:=by
 obtain ⟨ov,hov,hcv,hdv⟩:=id hv;obtain ⟨o,ho,hc,hdat⟩:=id hm;refine wpAny_pyIter_slot hv.typeIs F.slot_dict_values_iter (ja F.slot_dict_values_iter hv.typeIs F.entry_dict_values_iter ?_ (F.args_dict_values_iter_1 _));unfold Builtin.«dict_values.__iter__»;refine zz (z0 ?_);refine zz ?_;unfold Builtin.Dict_items.dictOf;refine zz (jp hov hdv (x:=.ref d) rfl (z0 ?_));refine zz ?_;unfold Builtin.Dict_items.newIterator;refine zz (jK ho hdat ?_);refine zz (jN ho hdat ?_);have hown:Builtin.Dict_items.ownsTuple "dict_valueiterator"=false:=by decide
 simp only [hown,Bool.false_eq_true,if_false];refine jI (z0 ⟨_,rfl,"dict_valueiterator",_,⟨_,vw _ rfl,rfl⟩,F.slot_dict_valueiterator_next.lookup,?_⟩)
 simpa [rawInt] using hQ
def Tf {Q:Option Value->Shared->Prop} (hit:s.heap.IsValIter it d i es.size ep)
  (hm:fX s.heap d es ep) (hlt':i < es.size)
  (hQ:∀ h',h'.IsValIter it d (i+1) es.size ep->Heap.SameBut it s.heap h'->Q (some es[i].val) { s with heap:=h' }) :
  wpAny (model prog w) A (pyNext (.ref it)) Q E s:=by
 obtain ⟨o,ho,hc,hd⟩:=id hit;obtain ⟨od,hod,hcd,hdd⟩:=id hm;unfold pyNext;refine zz (wpAny_attempt (jb (name:=Str.ofString "__next__") hit.typeIs F.slot_dict_valueiterator_next
  (ja F.slot_dict_valueiterator_next hit.typeIs F.entry_dict_valueiterator_next ?_ (F.args_dict_valueiterator_next_1 _))))
 refine zz (z0 ?_);refine zz ?_;refine zz ?_
 first | refine zz (wpAny_typeNameOfWhole_valiter hit.typeIs (z0 ?_)) | refine zz (wpAny_typeNameOf_valiter hit.typeIs (z0 ?_))
 refine zz (wpAny_fieldsOf ho hd ?_);have hown:Builtin.Dict_items.ownsTuple "dict_valueiterator"=false:=by decide
 simp only [hown,Bool.false_eq_true,if_false];show wpAny _ _ (if (Value.ref d == Value.none)=true then _ else _) _ _ s
 rw [if_neg (show ¬ ((Value.ref d == Value.none)=true) from Bool.false_ne_true)];refine zz (z0 ?_);refine zz (jK hod hdd ?_);rw [if_neg (by simp)];refine zz (z0 ?_);refine zz (jN hod hdd ?_);rw [if_neg (by simp)];refine z0 ?_;simp only [show ¬ ((i:Int) < 0) from by omega,if_false,Int.toNat_natCast,Array.getElem?_eq_getElem hlt'];refine zz ?_
 first | refine zz (wpAny_typeNameOfWhole_valiter hit.typeIs (z0 ?_)) | refine zz (wpAny_typeNameOf_valiter hit.typeIs (z0 ?_))
 refine zz (wpAny_isOneOf_valiter hit.typeIs ?_);show wpAny _ _ (setField (.ref it) 1 (rawInt ((i:Int)+1)) >>= _) _ _ s
 refine zz (jy ho hd (by simp) ?_);have hit':(s.heap.update it (Obj.mapFields (·.setIfInBounds 1 (rawInt ((i:Int)+1))))).IsValIter it d (i+1) es.size ep :=
  ⟨_,ya _ ho (Obj.isFreed_of_fields (Obj.data_mapFields hd _)),(Obj.cls_mapFields ..).trans hc,by rw [Obj.data_mapFields hd];simp [rawInt]⟩
 refine zz (wpAny_holding ?_);refine zz (wpAny_isOneOf_valiter (s:={ s with heap:=s.heap.update it (Obj.mapFields (·.setIfInBounds 1 (rawInt ((i:Int)+1)))) }) hit'.typeIs ?_);refine zz (wpAny_isOneOf_valiter (s:={ s with heap:=s.heap.update it (Obj.mapFields (·.setIfInBounds 1 (rawInt ((i:Int)+1)))) }) hit'.typeIs ?_);show wpAny _ _ (pure es[i].val) _ _ _
 exact z0 (z0 ⟨_,rfl,z0 (hQ _ hit' (jv ..))⟩)
def Xb {Q:Option Value->Shared->Prop} (hh:A.handled=none) (hit:s.heap.IsValIter it d i es.size ep)
  (hm:fX s.heap d es ep) (hge:es.size<=i)
  (hQ:∀ h',Heap.ExtBut it s.heap h'->Q none { s with heap:=h' }):wpAny (model prog w) A (pyNext (.ref it)) Q E s:=by
 obtain ⟨o,ho,hc,hd⟩:=id hit;obtain ⟨od,hod,hcd,hdd⟩:=id hm;unfold pyNext;refine zz (wpAny_attempt (jb (name:=Str.ofString "__next__") hit.typeIs F.slot_dict_valueiterator_next
  (ja F.slot_dict_valueiterator_next hit.typeIs F.entry_dict_valueiterator_next ?_ (F.args_dict_valueiterator_next_1 _))))
 refine zz (z0 ?_);refine zz ?_;refine zz ?_
 first | refine zz (wpAny_typeNameOfWhole_valiter hit.typeIs (z0 ?_)) | refine zz (wpAny_typeNameOf_valiter hit.typeIs (z0 ?_))
 refine zz (wpAny_fieldsOf ho hd ?_);have hown:Builtin.Dict_items.ownsTuple "dict_valueiterator"=false:=by decide
 simp only [hown,Bool.false_eq_true,if_false];show wpAny _ _ (if (Value.ref d == Value.none)=true then _ else _) _ _ s
 rw [if_neg (show ¬ ((Value.ref d == Value.none)=true) from Bool.false_ne_true)];refine zz (z0 ?_);refine zz (jK hod hdd ?_);rw [if_neg (by simp)];refine zz (z0 ?_);refine zz (jN hod hdd ?_);rw [if_neg (by simp)];refine z0 ?_;simp only [show ¬ ((i:Int) < 0) from by omega,if_false,Int.toNat_natCast,Array.getElem?_eq_none hge];refine zz ?_
 first | refine zz (wpAny_typeNameOfWhole_valiter hit.typeIs (z0 ?_)) | refine zz (wpAny_typeNameOf_valiter hit.typeIs (z0 ?_))
 show wpAny _ _ (setField (.ref it) 0 .none >>= _) _ _ s
 refine zz (jy ho hd (by simp) ?_);show wpAny _ _ (newExc (.type "StopIteration") [] >>= _) _ _ _
 refine zz ?_;simp only [newExc,newTuple];refine zz (jI ?_ (by size_fits));refine zz (m:=firstArgMember _ _) (wpAny_of_eq (a:=Value.none) (by first | rfl | (simp only [firstArgMember];rfl)) ?_);refine jI ?_ (by size_fits);simp only [raiseNew];refine zz (wpAny_handled ?_);rw [show A.in1.handled=none from hh];refine zz (z0 (wpAny_throw ?_));refine zz (wpAny_isInstance (T:="StopIteration") (b:=true) ⟨_,vw _ rfl,rfl⟩ isSubtype_stop ?_)
 exact z0 (hQ _ (((jv ..).extBut.push _).push _))
theorem RL (hh:A.handled=none) (I d:Addr) (hne:d≠I) (es:Array DictEntry) (ep:Nat) :
  Walks prog w A I [I,d] [I] es.size (fun i v=>∃ h:i < es.size,v=es[i].val) (fun i h=>h.IsValIter I d i es.size ep/\fX h d es ep) where
 sub:=fun b hb=>by simp at hb;simp [hb]
 frame:=fun _ _ _ st hk=>⟨let ⟨o,ho,r⟩:=st.1;⟨o,hk I (by simp) o ho,r⟩,st.2.keep fun o e=>hk d (by simp) o e⟩
 item:=fun i s Q E hi st hQ=>by
  refine Tf st.1 st.2 hi fun h' hit' hs'=>?_
  exact hQ _ h' s.toks ⟨hi,rfl⟩ ⟨hit',st.2.keep fun o e=>hs'.extBut d o hne e⟩ fun b o hb e=>hs'.extBut b o (fun h=>hb (by simp [h])) e
 done:=fun s Q E st hQ=>Xb hh st.1 st.2 (vy _) fun h' he'=>hQ h' s.toks fun b o hb e=>he' b o (fun h=>hb (by simp [h])) e
 self:=fun _ _ _ _ st hQ=>wpAny_pyIter_valiter st.1 hQ
def Vn {r:Addr}:PySem.W.KdlSrc prog w "dict_values" r d es.size (fun i v=>∃ h:i < es.size,v=es[i].val) (fun h=>h.IsValuesView r d /\ fX h d es ep) where
 type:=fun _ hm=>hm.1.typeIs
 there:=fun _ hm=>⟨let ⟨_,ho,_⟩:=hm.1;vx ho,hm.2.lt⟩
 keep:=fun _ _ hm hk=>⟨let ⟨o,ho,x⟩:=hm.1;⟨o,hk r (.inl rfl) o ho,x⟩,hm.2.keep fun o e=>hk d (.inr rfl) o e⟩
 notList:=by decide
 notTuple:=by decide
 hint:=fun _ _ _ _ hm hq=>PySem.W.kdl_hint_values hm.1.typeIs hq
 iter:=fun _ _ hh hm=>⟨_,_,(fun _ _ hq=>Uk hm.1 hm.2 hq),RL hh _ d (vz hm.2.lt) es ep,⟨⟨_,vw _ rfl,rfl,rfl⟩,hm.2.keep fun _ e=>vn _ e⟩⟩
theorem PN (d:Addr) (hd:(d == sysModules)=false) :
  MeetsIn prog w (Builtin.«dict.values» ⟨[.ref d],[]⟩) (fun _ R s=>(∃ es ep,fX s.heap d es ep) /\
   R (.ok (.ret (.ref s.heap.objs.size))) { s with heap:=s.heap.push { cls:=.type "dict_values",data:=.fields #[.ref d] } }) :=
 .of_wp fun A R s ⟨⟨es,ep,hm⟩,h⟩=>by
  refine zz ?_;unfold Builtin.Dict.noArgs;refine zz (wpAny_notOrdered_dict hm.ty ?_);show wpAny _ _ (pure d) _ _ s
  refine z0 ?_;show wpAny _ _ (Builtin.Dict.showsAll d >>= _) _ _ s
  unfold Builtin.Dict.showsAll;rw [if_neg (by rw [hd];exact Bool.false_ne_true)];refine zz (z0 ?_);exact zz (jI (z0 ⟨_,rfl,h⟩))
end
variable {o tg:Expr}{apos:Pos}
section
variable {X:Cx}
def tSd (X:Cx) (td ty tx:TE):TE:=fun σ H Q=>td σ H fun x H1=>∃ a ks xs ys,x=.ref a/\DictR X H1 a ks xs ys/\ty σ H1 fun y H2=>tx σ H2 fun z H3=>∃ k ks xs ys,Rp (gOf X) H3 k y/\kOk ks k=true/\DictR X H3 a ks xs ys/\xs.length < lim /\
 (∀ v,atV xs ys k=some v->Q v H3)/\(atV xs ys k=none->∀ b u ep,y=.ref b->RelV z u->Q z (upd H3 a (.ext (DAt (gOf X) a (xs++[(k,b,u)]) (ys++[z]) ep))))
def ZJ {e f:Expr}{td ty tx:TE}{cpos:Pos} (hu:X.A.units+100 < cLine) (ho:PE X o td) (he:PE X e ty) (hf:PE X f tx) (m:M2 X o "setdefault" apos e f cpos):PE X (.Call (.Attribute o "setdefault" apos) [e,f] [] cpos) (tSd X td ty tx):=by
 intro pins s σ H Q I h;refine wpAny_Call_method m.base m.few m.line PySem.F.plainAttrs_dict PySem.F.slot_dict_setdefault PySem.F.type_dict_setdefault (thn (ho pins s σ H _ I h) fun u s1 ⟨x,H1,I1,rx,a,ks,xs,ys,ex,d,q1⟩=>?_);subst ex;obtain rfl:u=Value.ref a:=rx;obtain ⟨h4,ob,e1,e2⟩:=JT I1 d;refine ⟨h4,?_,?_⟩
 .intro c ec;cases ec;exact ⟨ob,e1,e2⟩
 rw [m.trees];refine Calls.callWith_builtin rfl (Calls.evalArgs_plain (Calls.spliced_cons (thn (he pins s1 σ H1 _ I1 q1) fun iv s2 ⟨y,H2,I2,ry,q2⟩ =>
  Calls.spliced_cons (thn (hf pins s2 σ H2 _ I2 q2) fun fv s3 ⟨z,H3,I3,rz,k,ks3,xs3,ys3,r1,hk,d3,hl,q3,q4⟩=>Calls.spliced_nil ?_))))
 obtain ⟨kb,hkb,g1,g2,g3,g4⟩:=dictOf I3 d3 hk;obtain ⟨_,_,ds,rfl⟩:=j9 hkb;rw [Rp] at r1;obtain ⟨b,zs,rfl,sq,rs⟩:=id r1;cases ry;have hin:X.A.in1.units=X.A.units+1:=rfl;have hlz:=jt;refine call_meetsIn PySem.F.slot_dict_setdefault g4.typeIs PySem.F.entry_dict_setdefault (PySem.F.args_dict_setdefault_3 _ _ _) (M7 (lB kb X.prog X.w) a b g1 fv)
  ⟨by show X.A.in1.units+10 < cLine;omega,_,xs3,HY I3 hkb (by rw [Rp];exact ⟨b,zs,rfl,sq,rs⟩),g4,g2,fun p hp=>?_,fun hno h' hm' hs'=>?_⟩
 .rcases u0 (k:=.tup ds) g3 with ⟨z',p',e1,e2,rp⟩ | ⟨e1,e2⟩
  .rw [hp] at e2;cases e2;exact ⟨_,H3,I3.tok _,rp,q3 _ e1⟩
  .rw [hp] at e2;cases e2
 .have hv:atV xs3 ys3 (.tup ds)=none:=by
   rcases u0 (k:=.tup ds) g3 with ⟨z',p',e1,e2,rp⟩ | ⟨e1,e2⟩
   .rw [hno] at e2;cases e2
   .exact e1
  obtain ⟨o',es',ep',e1,e2,e3,e4,e5,e6⟩:=id hm';rw [storedH_new hno] at e4 e6;refine ⟨_,_,?_,rz,q4 hv b fv ep' rfl rz⟩;have mu:Mut (H3 a):=by obtain ⟨_,dat⟩:=d3.at_;rw [dat];exact trivial
  refine I3.write (x:=a) (e:=a) mu (.inl rfl) (fun c w hc hw=>(hs'.2 c hc).trans hw) ⟨_,e1⟩ ?_;refine ⟨⟨g1,by rw [List.length_append,List.length_singleton];omega,by rw [List.map_append];exact g3.append (.cons rz .nil),o',es',e1,e2,e3,e4,e6⟩,⟨_,e1⟩,fun ha hb p kp=>?_⟩;obtain ⟨p1,p2,p3,o2,es2,q1,q2⟩:=p;exact ⟨p1,p2,p3,o2,es2,kp _ q1,q2⟩
def tLV (X:Cx) (to:TE):TE:=fun σ H Q=>to σ H fun x H1=>∃ a ks xs ys,x=.ref a/\DictR X H1 a ks xs ys/\∀ S:Addr,H1 S=none->Q (.ref S) (upd H1 S (.lst ys))
def M9 {to:TE}{p pos pos2:Pos} (hc:X.calm=true) (hgl:Gl X "list") (hml:X.mg "list"=none) (ho:PE X o to) (hbase:attributeBase o "values" X.env (eval o X.env)=eval o X.env) (hline:(apos.endLine == pos2.line)=true) :
  PE X (.Call (.Name "list" p) [.Call (.Attribute o "values" apos) [] [] pos2] [] pos) (tLV X to):=by
 intro pins s σ H Q I h;refine Call_ (jP I hgl hml boot_list (jn (Calls.spliced_cons ?_) rfl rfl));refine wpAny_Call_method0_late hbase hline (thn (ho pins s σ H _ I h) fun v s1 ⟨x,H1,I1,r1,a,ks,xs,ys,ex,d,q1⟩=>?_);subst ex;obtain rfl:v=Value.ref a:=r1;obtain ⟨t4,ob,t1,t2⟩:=JT I1 d;obtain ⟨ep,dat⟩:=d.at_;obtain ⟨⟨h1,h2,h3,o',es,h4,h5,h6,h7,h8⟩,_⟩:=(show cj X.prog X.w H1 s1.heap a (.ext (DAt (gOf X) a xs ys ep)) from I1.hok a _ dat);have hE:fX s1.heap a es ep:=⟨o',h4,h5,h6⟩;refine ⟨"dict",_,PySem.F.plainAttrs_dict,PySem.F.slot_dict_values,PySem.F.type_dict_values,t4,fun c ec=>by cases ec; exact ⟨ob,t1,t2⟩,Calls.callWith_builtin rfl (PySem.evalArgs_none ?_)⟩
 refine call_meetsIn PySem.F.slot_dict_values t4 PySem.F.entry_dict_values (PySem.F.args_dict_values_1 _) (PN a h1) ⟨⟨es,ep,hE⟩,Calls.spliced_nil ?_⟩;have hsz:es.size=xs.length:=by rw [<- Array.length_toList,h7,List.length_map]
 have kp0:∀ b o,s1.heap.get? b=some o -> (s1.heap.push { cls:=.type "dict_values",data:=.fields #[.ref a] }).get? b=some o:=fun b o e=>vn _ e
 refine PySem.W.kdl_call (s:={ s1 with heap:=s1.heap.push { cls:=.type "dict_values",data:=.fields #[.ref a] } }) (Vn (r:=s1.heap.objs.size) (d:=a) (ep:=ep) (es:=es)) (I1.ok.hd hc) ⟨⟨_,vw _ rfl,rfl,rfl⟩,hE.keep fun o e=>kp0 a o e⟩ (by omega) fun h' tk acc c kp hS hacc=>?_
 have key:∀ (l:List (D × Addr × Value)) (zs:List V) (us:zg),Vals zs (l.map (·.2.2))->l.length=us.length->(∀ (j:Nat) u,us[j]?=some u->∃ x,l[j]?=some x/\u=x.2.2)->Vals zs us:=by
  intro l;induction l with
  | nil=>intro zs us hv hl _;cases hv;cases us with | nil=>exact .nil | cons _ _=>simp at hl
  | cons x l ih =>
   intro zs us hv hl hj;cases us with
   | nil=>simp at hl
   | cons u us =>
    cases hv with
    | cons r0 rs =>
     obtain ⟨y,ey,eu⟩:=hj 0 u rfl;simp at ey;subst ey;subst eu;exact .cons r0 (ih _ us rs (by simpa using hl) fun j w hw=>by simpa using hj (j+1) w (by simpa using hw))
 have hv:Vals ys acc.toList:=key xs ys acc.toList h3 (by have e:=hacc.1;simp only [Array.length_toList];omega) fun j u hu=>by
  obtain ⟨hj,eu⟩:=hacc.2 j u (by rw [<- Array.getElem?_toList];exact hu);have hjx:j < xs.length:=by omega
  refine ⟨xs[j],by simp [hjx],?_⟩;rw [eu];have e:=entry_at h7 j;rw [Array.getElem?_eq_getElem hj,List.getElem?_eq_getElem hjx] at e;have e':=jr (e.trans (Option.map_some ..));rw [e'];rfl
 have hlen:=hv.length;have hvl:=h3.length;rw [List.length_map] at hvl;have hle:s1.heap.objs.size <= (s1.heap.push { cls:=.type "dict_values",data:=.fields #[.ref a] }).objs.size:=by rw [Heap.size_push]; exact Nat.le_succ _
 refine ⟨.ref _,_,I1.laid (t':=tk) (o:=.lst ys) (fun d o e=>kp d o (kp0 d o e)) hle ⟨by omega,acc.toList,c,hv,by simpa using hS⟩,rfl,q1 _ (I1.hok.fresh hle)⟩
noncomputable def Itk (g:G) (a:Addr) (xs:List (D × Addr × Value)) (ys:List V) (ep:Nat):It :=
 ⟨fun i H=>H a=some (.ext (DAt g a xs ys ep))/\i < xs.length,fun i H x H'=>H'=H/\∃ e,xs[i]?=some e/\x=.ref e.2.1,fun i H=>H a=some (.ext (DAt g a xs ys ep))/\xs.length<=i⟩
def T6 {P:Program}{w:World}{K:zd} (a it:Addr) (xs:List (D × Addr × Value)) (ys:List V) (ep:Nat):Turn P w K tg (Itk ⟨P,w,K⟩ a xs ys ep) [it] it (fun i h=>h.IsKeyIter it a i xs.length ep) where
 mem:=by simp
 obj:=fun i h st b hb=>by
  have e:b=it:=by simpa using hb
  subst e;obtain ⟨o,e,c,d⟩:=st;exact ⟨o,e,fun v z=>by rw [d] at z;cases z⟩
 keep:=fun i h h' st k=>st.at fun o e=>k it (by simp) o e
 item:=by
  intro X hP hw hK hc i pins s σ H E I hf st hg;subst hP hw hK;obtain ⟨hq,hx⟩:=hg;obtain ⟨⟨h1,h2,h3,o',es,h4,h5,h6,h7,h8⟩,_⟩:=(show cj X.prog X.w H s.heap a (.ext (DAt (gOf X) a xs ys ep)) from I.hok a _ hq);have hsz:es.size=xs.length:=by rw [<- Array.length_toList,h7,List.length_map]
  obtain ⟨f0,f1,f2,f3,f4,f5⟩:=hf it (by simp);have hi:i < es.size:=by omega
  have ek:es[i].key=.ref xs[i].2.1:=by
   have e:=entry_at h7 i;rw [Array.getElem?_eq_getElem hi,List.getElem?_eq_getElem hx] at e;have e':=jr (e.trans (Option.map_some ..));rw [e'];rfl
  refine Kh (es:=es) (ep:=ep) (by rw [hsz];exact st) ⟨o',h4,h5,h6⟩ hi fun h' st' sb=>?_
  have I1:Inv X pins σ H { s with heap:=h' }:=I.turned (t':=s.toks) (fun b o hb e=>(sb.2 b hb).trans e) f0 f1 f3 f4 f5;rw [hsz] at st';obtain ⟨o,e,c,d⟩:=id st';exact ⟨_,rfl,Ib (s:={ s with heap:=h' }) e c d (by decide) ⟨.ref xs[i].2.1,H,I1,by rw [ek];rfl,⟨rfl,xs[i],by simp,rfl⟩,st',fun b hb=>(hf b hb).1⟩⟩
 done:=by
  intro X hP hw hK hc i pins s σ H E I hf st hg;subst hP hw hK;obtain ⟨hq,hx⟩:=hg;obtain ⟨⟨h1,h2,h3,o',es,h4,h5,h6,h7,h8⟩,_⟩:=(show cj X.prog X.w H s.heap a (.ext (DAt (gOf X) a xs ys ep)) from I.hok a _ hq);have hsz:es.size=xs.length:=by rw [<- Array.length_toList,h7,List.length_map]
  obtain ⟨f0,f1,f2,f3,f4,f5⟩:=hf it (by simp);exact Nx (es:=es) (ep:=ep) (I.ok.hd hc) (by rw [hsz];exact st) ⟨o',h4,h5,h6⟩ (by omega) fun h' eb=>⟨rfl,I.turned (t':=s.toks) (fun b o hb e=>eb b o hb e) f0 f1 f3 f4 f5⟩
 self:=fun _ _ _ _ _ st h=>wpAny_pyIter_keyiter st h
def adp (X:Cx) (tl:TE):TI:=fun σ H R=>tl σ H fun x H1=>∃ a xs ys ep,x=.ref a/\H1 a=some (.ext (DAt (gOf X) a xs ys ep))/\R (Itk (gOf X) a xs ys ep) H1
def aaM {l:Expr}{tl:TE} (hl:PE X l tl):PI X tg l (adp X tl):=by
 intro pins s σ H R I h;refine thn (hl pins s σ H _ I h) fun v s1 ⟨x,H1,I1,r1,q1⟩=>?_
 obtain ⟨a,xs,ys,ep,e,hq,q⟩:=q1;subst e;cases r1;obtain ⟨⟨h1,h2,h3,o',es,h4,h5,h6,h7,h8⟩,_⟩:=(show cj X.prog X.w H1 s1.heap a (.ext (DAt (gOf X) a xs ys ep)) from I1.hok a _ hq);have hsz:es.size=xs.length:=by rw [<- Array.length_toList,h7,List.length_map]
 refine Kg h1 ⟨o',h4,h5,h6⟩ ?_;refine ⟨s1.heap.objs.size,[s1.heap.objs.size],_,_,H1,rfl,I1.kept (t':=s1.toks) fun b o e=>vn _ e,T6 a _ xs ys ep,⟨_,vw _ rfl,rfl,by rw [hsz];rfl⟩,fun b hb=>?_,q⟩;have e:b=s1.heap.objs.size:=by simpa using hb
 subst e;exact I1.fpOk (vy _) (I1.hok.fresh (vy _))
end
end Mi
namespace PySem
open Builtin
theorem aaS (l:Addr) (dd:zv) (sl:zw) (items:zt) (n:Nat) (x:Int) (u:Tok) (hc0:¬(!Builtin.List.listFitsIndex x)=true) (hc1:¬items.size * x.toNat > (2 ^ 63 - 1) / 8) (hc2:¬Builtin.List.listTooLong (items.size * x.toNat)=true) :
  Meets (Builtin.«list.__mul__» ⟨[.ref l,.int x u],[]⟩) (fun _ R s=>s.heap.get? l=some ⟨.type "list",dd,.seq items n,sl⟩ /\ R (.ok (.ret (Value.ref s.heap.objs.size))) { s with heap:=s.heap.push { cls:=Value.type "list",data:=Data.seq (List.foldl (fun x1 x2=>x1 ++ x2) #[] (List.replicate (if items.isEmpty=true then 0 else x.toNat) items)) },toks:=s.toks }) :=
 .of_wp fun prog w A R s h=>by
  obtain ⟨hp,g,d,tk,os⟩:=s;obtain ⟨hl,h⟩:=h;have hsz:=AutoListH.joined_fits hc2
  wp_walk;refine wpAny_ite_false (v4 (Nat.not_lt.mpr hsz)) ?_;wp_walk;exact ⟨_,rfl,h⟩
theorem Yj (a:Int) (t:Tok) (l:Addr) (dd:zv) (sl:zw) (items:zt) (n:Nat):Meets (Builtin.«int.__rmul__» ⟨[.int a t,.ref l],[]⟩) (fun _ R s=>s.heap.get? l=some ⟨.type "list",dd,.seq items n,sl⟩ /\ R (.ok (.ret .notImplemented)) s) :=
 .of_wp fun prog w A R s h=>by
  obtain ⟨hp,g,d,tk,os⟩:=s;obtain ⟨hl,h⟩:=h;have hT:(⟨hp,g,d,tk,os⟩:Shared).TypeIs (.ref l) "list":=⟨_,hl,rfl⟩
  wp_walk;exact ⟨_,rfl,h⟩
end PySem
namespace HT
open PySem PyProof.Rows
end HT
namespace L2
open PySem PySem.Spec PyProof.Rows
section
variable {X:Cx}
def X7 (K:zd):R2:=fun x y H Q=>∃ a k xs,x=.ref a/\y=.int k/\SqL K H a xs/\xs.length<=1000/\0<=k/\k<=1000/\∀ p,H p=none->Q (.ref p) (upd H p (.lst (List.replicate k.toNat xs).flatten))
def aac:OpR X (binaryOp .Mult) (X7 X.K):=by
 intro pins s σ H x y v u Q I rx ry h;obtain ⟨a,k,xs,rfl,rfl,hx,hl1,h1,h2,q⟩:=h;cases rx;obtain ⟨t,rfl⟩:=ry;obtain ⟨its,r,pl,hz⟩:=I.list hx;obtain ⟨⟨cls,dd,data,sl⟩,e,hc,n,hd⟩:=pl.isList;simp only at hc hd;subst hc hd;have hl:=r.length;have hle:xs.length * k.toNat<=1000 * 1000:=Nat.mul_le_mul hl1 (by omega);have hz2:xs.length * k.toNat<=sizeLine:=vF hle (by decide);have hlen:its.toArray.size * k.toNat<=sizeLine:=by rw [List.size_toArray,<- hl];exact hz2
 have hcap:¬ its.toArray.size * k.toNat > (2 ^ 63 - 1) / 8:=by
  have:(sizeLine:Nat)<=(2 ^ 63 - 1) / 8:=by decide
  omega
 have hfit:¬ (!Builtin.List.listFitsIndex k)=true:=by
  rw [fitsIndex_both (by omega) (by omega)];exact jC
 have hlong:¬ Builtin.List.listTooLong (its.toArray.size * k.toNat)=true:=by
  rw [Jz hlen];exact jC
 have hnew:List.foldl (fun x1 x2=>x1++x2) #[] (List.replicate (if its.toArray.isEmpty=true then 0 else k.toNat) its.toArray)=(List.replicate k.toNat its).flatten.toArray:=by
  have f0:∀ m:Nat,List.foldl (fun x1 x2=>x1++x2) #[] (List.replicate m its.toArray)=(List.replicate m its).flatten.toArray:=fun m=>by
   have:=foldl_rep its m [];rw [List.nil_append] at this;exact this
  rw [f0];cases its with
  | nil=>simp
  | cons a r'=>rw [if_neg (by simp)]
 refine wpAny_binaryOp_repeat_ref (T:="list") (U:="int") (by decide) ⟨_,e,rfl⟩ (fun s'=>typeIs_int s' k t) noFill_list_mul F.fills_int_mul F.slot_int_rmul repeat_list F.slot_int_index.lookup
  (call_meets F.slot_int_rmul (typeIs_int s k t) F.entry_int_rmul (F.args_int_rmul_2 _ _) (Yj k t a dd sl its.toArray n)
   ⟨e,rfl,⟨_,e,rfl⟩,call_meets F.slot_list_mul ⟨_,e,rfl⟩ F.entry_list_mul (F.args_list_mul_2 _ _) (aaS a dd sl its.toArray n k t hfit hcap hlong) ⟨e,?_⟩⟩)
 rw [hnew];exact ⟨.ref _,_,I.lnew (t':=s.toks) (r.rep k.toNat) (by rw [len_rep,Nat.mul_comm];exact hz2),rfl,q _ I.fresh⟩
end
end L2
namespace Mi
open PySem L2
inductive M where
 | var (i:Nat) | con (d:D)
 | tup (es:List M) | lst (es:List M) | dct0
 | bin (op:BO) (a b:M) | cmp (op:CO) (a b:M) | chain (p q:CO) (a b c:M)
 | and (es:List M) | or (es:List M) | not (a:M) | neg (a:M)
 | ix (a b:M) | slc (a lo hi:M)
 | dget (a k d:M) | vals (i:Nat)
 | call (f:Nat) (es:List M) | blt (f:BI) (es:List M) | isin (a:M) (t:Ty)
 | comp (elt:M) (tg:Tg) (k:IK) (src:List M) (hc:Bool) (c:M) (cap:List Bool)
noncomputable def cV:D->R Bool
 | .bl b=>.ok b
 | _=>.stuck
noncomputable def aaB:M->Bool
 | .comp ..=>true
 | _=>false
def yF (c:M):D->R Bool
 | .bl b=>.ok b
 | .lst ds=>if aaB c=true then .ok (!ds.isEmpty) else .stuck
 | _=>.stuck
noncomputable def ou:D->R (Option Int)
 | .int i=>.ok (some i)
 | _=>.stuck
noncomputable def dU:M->Bool
 | .con .non=>true
 | _=>false
noncomputable def cutD (ds:List D) (lo hi:Option Int):List D:=(ds.drop (HT.sIx ds.length 0 lo)).take (HT.sIx ds.length ds.length hi - HT.sIx ds.length 0 lo)
def slD (d:D) (lo hi:Option Int):R D:=match d with
 | .lst ds=>.ok (.lst (cutD ds lo hi))
 | _=>.stuck
noncomputable def nA:D->R D
 | .lst ds=>.ok (.int ds.length)
 | .tup ds=>.ok (.int ds.length)
 | _=>.stuck
def lN (d:D):R D:=do
 let ds <- DW d
 if oU ds then .ok (.lst (nU ds)) else .stuck
def je:BI->List D->R D
 | .len,[d]=>nA d
 | .min2,[.int a,.int b]=>.ok (.int (if b < a then b else a))
 | .all,[.lst ds]=>(match boolsOf ds with | some bs=>.ok (.bl (bs.all id)) | none=>.stuck)
 | .any,[.lst ds]=>(match boolsOf ds with | some bs=>.ok (.bl (bs.any id)) | none=>.stuck)
 | .sorted,[d]=>lN d
 | .list,[.lst ds]=>.ok (.lst ds)
 | .list,[.tup ds]=>.ok (.lst ds)
 | .tuple,[.lst ds]=>.ok (.tup ds)
 | .tuple,[.tup ds]=>.ok (.tup ds)
 | .listEnum,[.tup ds]=>.ok (.lst (aU 0 ds))
 | .int,[d]=>intD d
 | _,_=>.stuck
def Ab:D->D->D->R D
 | .dct ks vs,k,z=>if kOk ks k then .ok ((cT ks vs k).getD z) else .stuck
 | _,_,_=>.stuck
noncomputable def Ia:D->R D
 | .dct _ vs=>.ok (.lst vs)
 | _=>.stuck
noncomputable def eU:Tg->D->En->R En
 | .one i,d,ρ=>.ok (ρ.set i (some d))
 | .two i j,.tup [a,b],ρ=>.ok ((ρ.set i (some a)).set j (some b))
 | _,_,_=>.stuck
noncomputable def eF (f:D->R (Option D)):List D->R (List D)
 | []=>.ok []
 | d::ds=>do
  let y <- f d
  let ys <- eF f ds
  .ok (match y with | some y=>y::ys | none=>ys)
noncomputable def eZ (ρ:En) (i:Nat):R D:=match ρ[i]? with | some (some d)=>.ok d | _=>.stuck
mutual
noncomputable def evE (cl:Nat->List D->R D):M->En->R D
 | .var i,ρ=>eZ ρ i
 | .con d,_=>.ok d
 | .tup es,ρ=>do let ds <- bF cl es ρ;if ds.length<=lim then .ok (.tup ds) else .stuck
 | .lst es,ρ=>do let ds <- bF cl es ρ;if ds.length<=lim then .ok (.lst ds) else .stuck
 | .dct0,_=>.ok (.dct [] [])
 | .bin op a b,ρ=>do let x <- evE cl a ρ;let y <- evE cl b ρ;ji op x y
 | .cmp op a b,ρ=>do let x <- evE cl a ρ;let y <- evE cl b ρ;let r <- aY op x y;.ok (.bl r)
 | .chain p q a b c,ρ=>do
  let x <- evE cl a ρ
  let y <- evE cl b ρ
  let r <- aY p x y
  if r then do let z <- evE cl c ρ;let r2 <- aY q y z;.ok (.bl r2) else .ok (.bl false)
 | .and es,ρ=>kh cl es ρ
 | .or es,ρ=>nG cl es ρ
 | .not a,ρ=>do let x <- evE cl a ρ;let t <- cV x;.ok (.bl (!t))
 | .neg a,ρ=>do let x <- evE cl a ρ;(match x with | .int i=>.ok (.int (-i)) | _=>.stuck)
 | .ix a b,ρ=>do let x <- evE cl a ρ;let y <- evE cl b ρ;ixD x y
 | .slc a lo hi,ρ=>do
  let x <- evE cl a ρ
  let l <- (if dU lo then .ok none else (do let d <- evE cl lo ρ;ou d))
  let h <- (if dU hi then .ok none else (do let d <- evE cl hi ρ;ou d))
  slD x l h
 | .dget a k d,ρ=>do let x <- evE cl a ρ;let y <- evE cl k ρ;let z <- evE cl d ρ;Ab x y z
 | .vals i,ρ=>do let x <- eZ ρ i;Ia x
 | .call f es,ρ=>do let ds <- bF cl es ρ;cl f ds
 | .blt f es,ρ=>do let ds <- bF cl es ρ;je f ds
 | .isin a t,ρ=>do let x <- evE cl a ρ;.ok (.bl (iB x t))
 | .comp elt tg k src hc c cap,ρ=>do
  let ss <- bF cl src ρ
  let items <- itemsOf k ss
  let ys <- eF (fun d=>do
   let ρ' <- eU tg d (bA cap ρ)
   let t <- (if hc then (do let x <- evE cl c ρ';cV x) else .ok true)
   if t then do let y <- evE cl elt ρ';.ok (some y) else .ok none) items
  if ys.length<=lim then .ok (.lst ys) else .stuck
noncomputable def bF (cl:Nat->List D->R D):List M->En->R (List D)
 | [],_=>.ok []
 | e::es,ρ=>do let d <- evE cl e ρ;let ds <- bF cl es ρ;.ok (d::ds)
noncomputable def kh (cl:Nat->List D->R D):List M->En->R D
 | [],_=>.stuck
 | [e],ρ=>do let x <- evE cl e ρ;let t <- cV x;.ok (.bl t)
 | e::e'::es,ρ=>do let x <- evE cl e ρ;let t <- cV x;if t then kh cl (e'::es) ρ else .ok (.bl false)
noncomputable def nG (cl:Nat->List D->R D):List M->En->R D
 | [],_=>.stuck
 | [e],ρ=>do let x <- evE cl e ρ;let t <- cV x;.ok (.bl t)
 | e::e'::es,ρ=>do let x <- evE cl e ρ;let t <- cV x;if t then .ok (.bl true) else nG cl (e'::es) ρ
end
inductive GS where
 | sda (k v:M) | forr (t:Tg) (k:IK) (src:List M) (b:GS)
noncomputable def aM:Tg->zi
 | .one i=>[i]
 | .two i j=>[i,j]
def tgG:GS->zi
 | .sda _ _=>[]
 | .forr t _ _ b=>aM t++tgG b
noncomputable def iD:En->zi->En
 | ρ,[]=>ρ
 | ρ,i::U=>iD (ρ.set i none) U
inductive MS where
 | set (t:Tg) (e:M) | app (i:Nat) (e:M) | ext (i:Nat) (e:M) | put (i:Nat) (k v:M)
 | expr (e:M) | ret (e:M) | ifs (c:M) (a b:List MS) | forr (t:Tg) (k:IK) (src:List M) (b:List MS)
 | rai
 | chk (j:Nat) (e:M)
 | grp (i:Nat) (g:GS)
 | acc (i:Nat) (k e:M)
inductive Out where
 | nx (ρ:En) | rt (d:D)
noncomputable def aV:En->En->En
 | a::as,b::bs=>(if a.isSome then b else none)::aV as bs
 | [],bs=>bs.map fun _=>none
 | _,[]=>[]
def lA (f:D->En->R Out) (ρ₀:En):List D->En->R Out
 | [],ρ=>.ok (.nx ρ)
 | d::ds,ρ=>do
  let o <- f d ρ
  match o with
  | .nx ρ'=>lA f ρ₀ ds (aV ρ₀ ρ')
  | .rt d=>.ok (.rt d)
def xZ:D->D->R D
 | .lst ds,d=>if ds.length < lim then .ok (.lst (ds++[d])) else .stuck
 | _,_=>.stuck
def Jx:D->D->R D
 | .lst ds,.lst es=>if ds.length+es.length<=lim then .ok (.lst (ds++es)) else .stuck
 | _,_=>.stuck
def putD:D->D->D->R D
 | .dct ks vs,k,v=>if kOk ks k/\ks.length < lim/\ks.length=vs.length then .ok (.dct (iy ks vs k v).1 (iy ks vs k v).2) else .stuck
 | _,_,_=>.stuck
noncomputable def V8 (ρ:En):D->R Out
 | .bl true=>.ok (.nx ρ)
 | _=>.stuck
def pG:D->D->D->R D
 | .dct ks vs,k,v=>if kOk ks k/\ks.length < lim/\ks.length=vs.length then (match cT ks vs k with
   | some (.lst l)=>if l.length < lim then .ok (.dct (iy ks vs k (.lst (l++[v]))).1 (iy ks vs k (.lst (l++[v]))).2) else .stuck
   | some _=>.stuck
   | none=>.ok (.dct (ks++[k]) (vs++[.lst [v]]))) else .stuck
 | _,_,_=>.stuck
noncomputable def oF (f:D->D->R D):List D->D->R D
 | [],d=>.ok d
 | x::xs,d=>do let d' <- f x d;oF f xs d'
def mU (cl:Nat->List D->R D):GS->En->D->R D
 | .sda k v,ρ,d=>do let kk <- evE cl k ρ;let vv <- evE cl v ρ;pG d kk vv
 | .forr t ik src b,ρ,d=>do
  let ss <- bF cl src ρ
  let items <- itemsOf ik ss
  oF (fun x d=>do let ρ1 <- eU t x (iD ρ (aM t++tgG b));mU cl b ρ1 d) items d
noncomputable def Cz:D->R Unit
 | .dct [] []=>.ok ()
 | _=>.stuck
mutual
noncomputable def cF (cl:Nat->List D->R D):MS->En->R Out
 | .set t e,ρ=>do let d <- evE cl e ρ;let ρ' <- eU t d ρ;.ok (.nx ρ')
 | .app i e,ρ=>do let l <- eZ ρ i;let d <- evE cl e ρ;let l' <- xZ l d;.ok (.nx (ρ.set i (some l')))
 | .ext i e,ρ=>do let l <- eZ ρ i;let d <- evE cl e ρ;let l' <- Jx l d;.ok (.nx (ρ.set i (some l')))
 | .put i k v,ρ=>do
  let dv <- evE cl v ρ
  let l <- eZ ρ i
  let dk <- evE cl k ρ
  let l' <- putD l dk dv
  .ok (.nx (ρ.set i (some l')))
 | .expr e,ρ=>do let _ <- evE cl e ρ;.ok (.nx ρ)
 | .ret e,ρ=>do let d <- evE cl e ρ;.ok (.rt d)
 | .ifs c a b,ρ=>do
  let x <- evE cl c ρ
  let t <- yF c x
  if t then cQ cl a ρ else cQ cl b ρ
 | .forr t k src b,ρ=>do
  let ss <- bF cl src ρ
  let items <- itemsOf k ss
  lA (fun d ρ=>do let ρ1 <- eU t d ρ;cQ cl b ρ1) ρ items ρ
 | .acc i k e,ρ=>do
  let kk <- evE cl k ρ
  let vv <- evE cl e ρ
  let d <- eZ ρ i
  let d' <- pG d kk vv
  .ok (.nx (ρ.set i (some d')))
 | .grp i g,ρ=>do
  let d <- eZ ρ i
  let _ <- Cz d
  let d' <- mU cl g (iD ρ (i::tgG g)) d
  .ok (.nx ((iD ρ (i::tgG g)).set i (some d')))
 | .rai,ρ=>.stuck
 | .chk _ e,ρ=>do let d <- evE cl e ρ;let r <- cl 5000 [d];V8 ρ r
noncomputable def cQ (cl:Nat->List D->R D):List MS->En->R Out
 | [],ρ=>.ok (.nx ρ)
 | m::ms,ρ=>do
  let o <- cF cl m ρ
  match o with
  | .nx ρ'=>cQ cl ms ρ'
  | o=>.ok o
end
mutual
noncomputable def aD:M->zi
 | .var i=>[i]
 | .con _=>[]
 | .tup es=>aP es
 | .lst es=>aP es
 | .dct0=>[]
 | .bin _ a b=>aD a++aD b
 | .cmp _ a b=>aD a++aD b
 | .chain _ _ a b c=>aD a++(aD b++aD c)
 | .and es=>aP es
 | .or es=>aP es
 | .not a=>aD a
 | .neg a=>aD a
 | .ix a b=>aD a++aD b
 | .slc a b c=>aD a++(aD b++aD c)
 | .dget a b c=>aD a++(aD b++aD c)
 | .vals i=>[i]
 | .call _ es=>aP es
 | .blt _ es=>aP es
 | .isin a _=>aD a
 | .comp elt _ _ src _ c _=>aP src++(aD c++aD elt)
noncomputable def aP:List M->zi
 | []=>[]
 | e::es=>aD e++aP es
end
noncomputable def without (O U:zi):zi:=O.filter fun i=>!U.contains i
noncomputable def Rt:M->Bool
 | .lst _=>true
 | .dct0=>true
 | _=>false
abbrev Ow:=Option (zi)
noncomputable def jc:Ow->Ow->Ow
 | none,b=>b
 | a,none=>a
 | some a,some b=>some (a.filter fun i=>b.contains i)
mutual
noncomputable def uJ (inv:zi):MS->zi->Option Ow
 | .set (.one i) e,O=>some (some (if Rt e then i::without (without O (aD e)) [i] else without (without O (aD e)) [i]))
 | .set (.two i j) e,O=>some (some (without (without O (aD e)) [i,j]))
 | .app i e,O=>if (without O (aD e)).contains i then some (some (without O (aD e))) else none
 | .ext i e,O=>if (without O (aD e)).contains i then some (some (without O (aD e))) else none
 | .put i k v,O=>if (without O (aD k++aD v)).contains i then some (some (without O (aD k++aD v))) else none
 | .expr e,O=>some (some (without O (aD e)))
 | .ret e,O=>some none
 | .ifs c a b,O=>do
  let x <- jf inv a O
  let y <- jf inv b O
  some (jc x y)
 | .forr t k src b,O=>do
  let O1:=without (without O (aP src)) (aM t)
  let x <- jf O1 b O1
  let O2:=(jc (some O1) x).getD []
  let y <- jf O2 b O2
  match y with
  | none=>some (some O2)
  | some O3=>if O2.all (fun i=>O3.contains i) then some (some O2) else none
 | .rai,O=>some none
 | .chk _ e,O=>some (some (without O (aD e)))
 | .acc i k v,O=>if (without O (aD k++aD v)).contains i then some (some (without O (aD k++aD v))) else none
 | .grp i g,O=>if O.contains i && !(tgG g).contains i then some (some [i]) else none
noncomputable def jf (inv:zi):List MS->zi->Option Ow
 | [],O=>some (some O)
 | m::ms,O=>do
  let x <- uJ inv m O
  match x with
  | none=>some none
  | some O1=>jf inv ms O1
end
mutual
noncomputable def WX:MS->zi
 | .set t _=>aM t
 | .grp _ g=>tgG g
 | .ifs _ a b=>BW a++BW b
 | .forr t _ _ b=>aM t++BW b
 | _=>[]
noncomputable def BW:List MS->zi
 | []=>[]
 | m::ms=>WX m++BW ms
end
structure Def where
 np:Nat
 nn:Nat
 body:List MS
 nrm:Bool
def U3 (d:Def):Bool:=decide (d.np=2) && !(BW d.body).contains 1 && (match jf [] d.body [1] with | some (some O)=>O.contains 1 | _=>false)
variable {α β:Type}
section eqs
variable (cl:Nat->List D->R D) (ρ:En)
theorem wA (i:Nat):evE cl (.var i) ρ=eZ ρ i:=rfl
theorem wB (d:D):evE cl (.con d) ρ=.ok d:=rfl
theorem wC (es:List M):evE cl (.tup es) ρ=(do let ds <- bF cl es ρ;if ds.length<=lim then .ok (.tup ds) else .stuck):=rfl
theorem wD (es:List M):evE cl (.lst es) ρ=(do let ds <- bF cl es ρ;if ds.length<=lim then .ok (.lst ds) else .stuck):=rfl
theorem wE:evE cl .dct0 ρ=.ok (.dct [] []):=rfl
theorem wF (op:BO) (a b:M):evE cl (.bin op a b) ρ=(do let x <- evE cl a ρ;let y <- evE cl b ρ;ji op x y):=rfl
theorem wG (op:CO) (a b:M):evE cl (.cmp op a b) ρ=(do let x <- evE cl a ρ;let y <- evE cl b ρ;let r <- aY op x y;.ok (.bl r)):=rfl
theorem qH (p q:CO) (a b c:M):evE cl (.chain p q a b c) ρ=(do
  let x <- evE cl a ρ
  let y <- evE cl b ρ
  let r <- aY p x y
  if r then do let z <- evE cl c ρ;let r2 <- aY q y z;.ok (.bl r2) else .ok (.bl false)):=rfl
theorem wH (es:List M):evE cl (.and es) ρ=kh cl es ρ:=rfl
theorem wf (es:List M):evE cl (.or es) ρ=nG cl es ρ:=rfl
theorem wI (a:M):evE cl (.not a) ρ=(do let x <- evE cl a ρ;let t <- cV x;.ok (.bl (!t))):=rfl
theorem wg (a b:M):evE cl (.ix a b) ρ=(do let x <- evE cl a ρ;let y <- evE cl b ρ;ixD x y):=rfl
theorem wK (a lo hi:M):evE cl (.slc a lo hi) ρ=(do
  let x <- evE cl a ρ
  let l <- (if dU lo then .ok none else (do let d <- evE cl lo ρ;ou d))
  let h <- (if dU hi then .ok none else (do let d <- evE cl hi ρ;ou d))
  slD x l h):=rfl
theorem qS (a k d:M):evE cl (.dget a k d) ρ=(do let x <- evE cl a ρ;let y <- evE cl k ρ;let z <- evE cl d ρ;Ab x y z):=rfl
theorem qT (f:Nat) (es:List M):evE cl (.call f es) ρ=(do let ds <- bF cl es ρ;cl f ds):=rfl
theorem wL (f:BI) (es:List M):evE cl (.blt f es) ρ=(do let ds <- bF cl es ρ;je f ds):=rfl
theorem qU (a:M) (t:Ty):evE cl (.isin a t) ρ=(do let x <- evE cl a ρ;.ok (.bl (iB x t))):=rfl
theorem qV (elt:M) (tg:Tg) (k:IK) (src:List M) (hc:Bool) (c:M) (cap:List Bool):evE cl (.comp elt tg k src hc c cap) ρ=(do
  let ss <- bF cl src ρ
  let items <- itemsOf k ss
  let ys <- eF (fun d=>do
   let ρ' <- eU tg d (bA cap ρ)
   let t <- (if hc then (do let x <- evE cl c ρ';cV x) else .ok true)
   if t then do let y <- evE cl elt ρ';.ok (some y) else .ok none) items
  if ys.length<=lim then .ok (.lst ys) else .stuck):=rfl
theorem qW:bF cl [] ρ=.ok []:=rfl
theorem qI (e:M) (es:List M):bF cl (e::es) ρ=(do let d <- evE cl e ρ;let ds <- bF cl es ρ;.ok (d::ds)):=rfl
theorem qX (e:M):kh cl [e] ρ=(do let x <- evE cl e ρ;let t <- cV x;.ok (.bl t)):=rfl
theorem qJ (e e':M) (es:List M):kh cl (e::e'::es) ρ=(do let x <- evE cl e ρ;let t <- cV x;if t then kh cl (e'::es) ρ else .ok (.bl false)):=rfl
theorem wM (e:M):nG cl [e] ρ=(do let x <- evE cl e ρ;let t <- cV x;.ok (.bl t)):=rfl
theorem qY (e e':M) (es:List M):nG cl (e::e'::es) ρ=(do let x <- evE cl e ρ;let t <- cV x;if t then .ok (.bl true) else nG cl (e'::es) ρ):=rfl
theorem qq (t:Tg) (e:M):cF cl (.set t e) ρ=(do let d <- evE cl e ρ;let ρ' <- eU t d ρ;.ok (.nx ρ')):=rfl
theorem qr (i:Nat) (e:M):cF cl (.app i e) ρ=(do let l <- eZ ρ i;let d <- evE cl e ρ;let l' <- xZ l d;.ok (.nx (ρ.set i (some l')))):=rfl
theorem qu (i:Nat) (e:M):cF cl (.ext i e) ρ=(do let l <- eZ ρ i;let d <- evE cl e ρ;let l' <- Jx l d;.ok (.nx (ρ.set i (some l')))):=rfl
theorem qv (i:Nat) (k v:M):cF cl (.put i k v) ρ=(do
  let dv <- evE cl v ρ
  let l <- eZ ρ i
  let dk <- evE cl k ρ
  let l' <- putD l dk dv
  .ok (.nx (ρ.set i (some l')))):=rfl
theorem qR (e:M):cF cl (.expr e) ρ=(do let _ <- evE cl e ρ;.ok (.nx ρ)):=rfl
theorem qw (e:M):cF cl (.ret e) ρ=(do let d <- evE cl e ρ;.ok (.rt d)):=rfl
theorem qx (c:M) (a b:List MS):cF cl (.ifs c a b) ρ=(do
  let x <- evE cl c ρ
  let t <- yF c x
  if t then cQ cl a ρ else cQ cl b ρ):=rfl
theorem qy (t:Tg) (k:IK) (src:List M) (b:List MS):cF cl (.forr t k src b) ρ=(do
  let ss <- bF cl src ρ
  let items <- itemsOf k ss
  lA (fun d ρ=>do let ρ1 <- eU t d ρ;cQ cl b ρ1) ρ items ρ):=rfl
theorem qm (i:Nat):evE cl (.vals i) ρ=(do let x <- eZ ρ i;Ia x):=rfl
theorem wa (i:Nat) (k e:M):cF cl (.acc i k e) ρ=(do
  let kk <- evE cl k ρ
  let vv <- evE cl e ρ
  let d <- eZ ρ i
  let d' <- pG d kk vv
  .ok (.nx (ρ.set i (some d')))):=rfl
theorem wZ (i:Nat) (g:GS):cF cl (.grp i g) ρ=(do
  let d <- eZ ρ i
  let _ <- Cz d
  let d' <- mU cl g (iD ρ (i::tgG g)) d
  .ok (.nx ((iD ρ (i::tgG g)).set i (some d')))):=rfl
theorem wb (k v:M) (d:D):mU cl (.sda k v) ρ d=(do let kk <- evE cl k ρ;let vv <- evE cl v ρ;pG d kk vv):=rfl
theorem wc (t:Tg) (ik:IK) (src:List M) (b:GS) (d:D):mU cl (.forr t ik src b) ρ d=(do
  let ss <- bF cl src ρ
  let items <- itemsOf ik ss
  oF (fun x d=>do let ρ1 <- eU t x (iD ρ (aM t++tgG b));mU cl b ρ1 d) items d):=rfl
theorem wd (k v:M):tgG (.sda k v)=[]:=rfl
theorem we (t:Tg) (ik:IK) (src:List M) (b:GS):tgG (.forr t ik src b)=aM t++tgG b:=rfl
theorem zV (i:Nat):aM (.one i)=[i]:=rfl
theorem zW (i j:Nat):aM (.two i j)=[i,j]:=rfl
theorem zH:iD ρ []=ρ:=rfl
theorem zI (i:Nat) (U:zi):iD ρ (i::U)=iD (ρ.set i none) U:=rfl
theorem qz:cF cl .rai ρ=.stuck:=rfl
theorem T5 (j:Nat) (e:M):cF cl (.chk j e) ρ=(do let d <- evE cl e ρ;let r <- cl 5000 [d];V8 ρ r):=rfl
theorem qp:cQ cl [] ρ=.ok (.nx ρ):=rfl
def vL (ms:List MS):Out->R Out
 | .nx ρ'=>cQ cl ms ρ'
 | o=>.ok o
theorem qQ (m:MS) (ms:List MS):cQ cl (m::ms) ρ=(cF cl m ρ >>= vL cl ms):=rfl
theorem qF (ms:List MS):vL cl ms (.nx ρ)=cQ cl ms ρ:=rfl
theorem qG (ms:List MS) (d:D):vL cl ms (.rt d)=.ok (.rt d):=rfl
theorem wj (d:D):eZ (some d::ρ) 0=.ok d:=rfl
theorem wk (o:Option D) (i:Nat):eZ (o::ρ) (i+1)=eZ ρ i:=rfl
theorem qZ (b:Bool):cV (.bl b)=.ok b:=rfl
theorem wN (i:Int):ou (.int i)=.ok (some i):=rfl
theorem wO (i:Nat) (d:D):eU (.one i) d ρ=.ok (ρ.set i (some d)):=rfl
theorem wP (i j:Nat) (a b:D):eU (.two i j) (.tup [a,b]) ρ=.ok ((ρ.set i (some a)).set j (some b)):=rfl
theorem wQ (d:D) (b:Option D) (as bs:En):aV (some d::as) (b::bs)=b::aV as bs:=rfl
theorem wR (b:Option D) (as bs:En):aV (none::as) (b::bs)=none::aV as bs:=rfl
theorem wS:aV [] []=[]:=rfl
theorem wl:dU (.con .non)=true:=rfl
theorem wm (i:Int):dU (.con (.int i))=false:=rfl
theorem wn (i:Nat):dU (.var i)=false:=rfl
theorem wo (op:BO) (a b:M):dU (.bin op a b)=false:=rfl
theorem wT (a b:α):(if true=true then a else b)=a:=rfl
theorem wU (a b:α):(if false=true then a else b)=b:=rfl
theorem wr (f:α->β) (a:α) (l:List α):List.map f (a::l)=f a::List.map f l:=rfl
theorem wt (f:α->β):List.map f []=[]:=rfl
theorem wJ (i:Int):evE cl (.neg (.con (.int i))) ρ=.ok (.int (-i)):=rfl
theorem wx (a:α):List.replicate 0 a=[]:=rfl
theorem wy (n:Nat) (a:α):List.replicate (n+1) a=a::List.replicate n a:=rfl
theorem wz:(!true)=false:=rfl
theorem zA:(!false)=true:=rfl
theorem wu (a:α) (l m:List α):(a::l)++m=a::(l++m):=rfl
theorem wv (m:List α):([]:List α)++m=m:=rfl
theorem wW (bs:List Bool) (v:Option D) (vs:En):bA (true::bs) (v::vs)=v::bA bs vs:=rfl
theorem wX (bs:List Bool) (v:Option D) (vs:En):bA (false::bs) (v::vs)=none::bA bs vs:=rfl
theorem wY:bA [] ([]:En)=[]:=rfl
theorem zP (a:α) (l:List α):(a::l).length=l.length+1:=rfl
theorem zQ :([]:List α).length=0:=rfl
theorem zR (a:α) (l:List α):(a::l)[0]?=some a:=rfl
theorem zS (a:α) (l:List α) (i:Nat):(a::l)[i+1]?=l[i]?:=rfl
theorem zT (a b:α) (l:List α):(a::l).set 0 b=b::l:=rfl
theorem zU (a b:α) (l:List α) (i:Nat):(a::l).set (i+1) b=a::l.set i b:=rfl
theorem ww (l:List α):l++[]=l:=List.append_nil l
theorem zX:(false=true)=False:=Bool.false_eq_true
theorem U6 (f:Nat) (es:List M):aD (.call f es)=aP es:=rfl
theorem Ko:aP []=[]:=rfl
theorem T4 (e:M) (es:List M):aP (e::es)=aD e++aP es:=rfl
end eqs
end Mi
namespace Mi
open PySem L2
open PyProof.Rows hiding St
variable {i:Nat}
def bK {O U:zi}:i∈without O U↔i∈O/\i ∉ U:=by
 unfold without;rw [List.mem_filter];simp
def iU (g:G) (H Hs:Hp) (a:Addr):D->Prop
 | .lst ds=>∃ xs,H a=some (.lst xs)/\Rps g Hs ds xs
 | .dct ks vs=>∃ xs ys ep,H a=some (.ext (DAt g a xs ys ep))/\ks=xs.map (·.1)/\Rps g Hs ks (xs.map fun x=>V.ref x.2.1)/\Rps g Hs vs ys
 | _=>False
variable {g:G}{H Hs:Hp}{a:Addr}{d:D}
theorem iU.obj (h:iU g H Hs a d):∃ o,H a=some o:=by
 cases d <;> simp only [iU] at h
 .obtain ⟨xs,h,_⟩:=h;exact ⟨_,h⟩
 .obtain ⟨xs,ys,_,h,_⟩:=h;exact ⟨_,h⟩
theorem iU.mono {H' Hs':Hp} (h:iU g H Hs a d) (k:∀ o,H a=some o->H' a=some o) (m:Same Hs Hs'):iU g H' Hs' a d:=by
 cases d <;> simp only [iU] at h ⊢
 .obtain ⟨xs,h,r⟩:=h;exact ⟨xs,k _ h,r.mono m⟩
 .obtain ⟨xs,ys,ep,h,e,r1,r2⟩:=h;exact ⟨xs,ys,ep,k _ h,e,r1.mono m,r2.mono m⟩
variable {o:HO}
theorem iU.pub (h:iU g H Hs a d) (ho:H a=some o) (m:Same Hs (upd Hs a o)):Rp g (upd Hs a o) d (.ref a):=by
 cases d <;> simp only [iU] at h
 .obtain ⟨xs,h,r⟩:=h;rw [ho] at h;cases h;rw [Rp];exact ⟨a,xs,rfl,SqL.of aA,r.mono m⟩
 .obtain ⟨xs,ys,ep,h,e,r1,r2⟩:=h;rw [ho] at h;cases h;rw [Rp];exact ⟨a,xs,ys,ep,rfl,aA,e,r1.mono m,r2.mono m⟩
noncomputable def RG:HO->Bool
 | .lst _=>true | .ext _=>true | _=>false
def jm (Hs Hs':Hp):Prop:=∀ b o,Hs' b=some o->Hs b=some o\/RG o=true
theorem jm.refl (Hs:Hp):jm Hs Hs:=fun _ _ q=>.inl q
variable {Hs1 Hs2:Hp}
theorem jm.trans (a:jm Hs Hs1) (b:jm Hs1 Hs2):jm Hs Hs2:=fun c o q=>by
 rcases b c o q with z | z
 .exact a c o z
 .exact .inr z
theorem iU.onlyM (h:iU g H Hs a d) (ho:H a=some o):jm Hs (upd Hs a o):=fun b u q=>by
 by_cases e:b=a
 .subst e;rw [aA] at q;cases q;right;cases d <;> simp only [iU] at h
  .obtain ⟨xs,h,_⟩:=h;rw [ho] at h;cases h;rfl
  .obtain ⟨xs,ys,_,h,_⟩:=h;rw [ho] at h;cases h;rfl
 .rw [ao e] at q;exact .inl q
structure Ent where
 hp:Hp
 pins:List (Nat × Addr)
structure FR (g:G) (E:Ent) (Es:Hp) (O:zi) (ρ:En) (σ:St) (H Hs:Hp):Prop where
 grow:Grow E.hp Es H Hs
 len:ρ.length=σ.length
 val:∀ (i:Nat) d,ρ[i]?=some (some d)->i ∉ O->∃ v,σ[i]?=some (some v)/\Rp g Hs d v
 own:∀ i∈O,∀ d,ρ[i]?=some (some d)->∃ a,σ[i]?=some (some (.ref a))/\E.hp a=none/\Hs a=none/\iU g H Hs a d
 apart:∀ i∈O,∀ j∈O,i≠j->∀ d e a,ρ[i]?=some (some d)->ρ[j]?=some (some e)->σ[i]?=some (some (.ref a))->σ[j]?≠some (some (.ref a))
 pin:∀ q∈E.pins,σ[q.1]?=some (some (.ref q.2))
variable {p:Addr}
section
variable {g:G}{E:Ent}{Es:Hp}{O O':zi}{ρ:En}{σ:St}{H Hs H' Hs':Hp}
theorem FR.grown (F:FR g E Es O ρ σ H Hs) (w:Grow H Hs H' Hs'):FR g E Es O ρ σ H' Hs':=by
 have m:=w.same F.grow.sub;refine ⟨F.grow.trans w,F.len,fun i d h hi=>?_,fun i hi d h=>?_,F.apart,F.pin⟩
 .obtain ⟨v,e,r⟩:=F.val i d h hi;exact ⟨v,e,r.mono m⟩
 .obtain ⟨a,e,e0,e1,o⟩:=F.own i hi d h;obtain ⟨ob,ho⟩:=o.obj;exact ⟨a,e,e0,by rw [w.old a ob ho];exact e1,o.mono (fun u q=>w.keep a u q) m⟩
theorem FR.sub (F:FR g E Es O ρ σ H Hs):Same Hs H:=F.grow.sub
theorem FR.pub1 (F:FR g E Es O ρ σ H Hs) (i:Nat):∃ Hs',FR g E Es (O.filter fun j=>j != i) ρ σ H Hs'/\Same Hs Hs'/\jm Hs Hs':=by
 have memf:∀ {j},j∈(O.filter fun j=>j != i)↔j∈O/\j≠i:=by intro j;rw [List.mem_filter];simp
 by_cases hi:i∈O
 .cases hd:ρ[i]? with
  | none =>
   refine ⟨Hs,⟨F.grow,F.len,fun j d h hj=>F.val j d h fun z=>hj (memf.mpr ⟨z,?_⟩),fun j hj d h=>F.own j (memf.mp hj).1 d h,fun j hj k hk=>F.apart j (memf.mp hj).1 k (memf.mp hk).1,F.pin⟩,fun _ _ q=>q,jm.refl _⟩;rintro rfl;rw [hd] at h;cases h
  | some x =>
   cases x with
   | none =>
    refine ⟨Hs,⟨F.grow,F.len,fun j d h hj=>F.val j d h fun z=>hj (memf.mpr ⟨z,?_⟩),fun j hj d h=>F.own j (memf.mp hj).1 d h,fun j hj k hk=>F.apart j (memf.mp hj).1 k (memf.mp hk).1,F.pin⟩,fun _ _ q=>q,jm.refl _⟩;rintro rfl;rw [hd] at h;cases h
   | some d0 =>
    obtain ⟨a,e,e0,e1,o⟩:=F.own i hi d0 hd;obtain ⟨ob,ho⟩:=o.obj;have m:Same Hs (upd Hs a ob):=fun b u q=>by
     have:b≠a:=ak q e1;rw [ao this];exact q
    refine ⟨upd Hs a ob,⟨⟨F.grow.keep,fun b u q=>?_,fun b u q=>?_⟩,F.len,fun j d h hj=>?_,fun j hj d h=>?_,fun j hj k hk=>F.apart j (memf.mp hj).1 k (memf.mp hk).1,F.pin⟩,m,o.onlyM ho⟩
    .rw [ao (ak q e0)];exact F.grow.old b u q
    .by_cases hb:b=a
     .subst hb;rw [aA] at q;cases q;exact ho
     .rw [ao hb] at q;exact F.grow.sub b u q
    .by_cases hji:j=i
     .subst hji;rw [hd] at h;cases h;exact ⟨.ref a,e,o.pub ho m⟩
     .obtain ⟨v,ev,r⟩:=F.val j d h fun z=>hj (memf.mpr ⟨z,hji⟩)
      exact ⟨v,ev,r.mono m⟩
    .obtain ⟨hjO,hji⟩:=memf.mp hj;obtain ⟨b,eb,b0,b1,ob'⟩:=F.own j hjO d h;have hba:b≠a:=fun z=>by
      subst z;exact F.apart i hi j hjO (Ne.symm hji) d0 d b hd h e eb
     exact ⟨b,eb,b0,by rw [ao hba];exact b1,ob'.mono (fun _ q=>q) m⟩
 .refine ⟨Hs,⟨F.grow,F.len,fun j d h hj=>F.val j d h fun z=>hj (memf.mpr ⟨z,fun q=>hi (q ▸ z)⟩),fun j hj d h=>F.own j (memf.mp hj).1 d h,fun j hj k hk=>F.apart j (memf.mp hj).1 k (memf.mp hk).1,F.pin⟩,fun _ _ q=>q,jm.refl _⟩
theorem FR.congrO (F:FR g E Es O ρ σ H Hs) (h:∀ i,i∈O'↔i∈O):FR g E Es O' ρ σ H Hs :=
 ⟨F.grow,F.len,fun i d q hi=>F.val i d q fun z=>hi ((h i).mpr z),fun i hi d q=>F.own i ((h i).mp hi) d q,fun i hi j hj=>F.apart i ((h i).mp hi) j ((h j).mp hj),F.pin⟩
theorem FR.pubs:∀ (U:zi) {Hs:Hp}{O:zi},FR g E Es O ρ σ H Hs->∃ Hs',FR g E Es (without O U) ρ σ H Hs'/\Same Hs Hs'/\jm Hs Hs'
 | [],Hs,O,F=>⟨Hs,F.congrO fun i=>by rw [bK];simp,fun _ _ q=>q,jm.refl _⟩
 | u::U,Hs,O,F=>by
  obtain ⟨H1,F1,m1,w1⟩:=F.pub1 u;obtain ⟨H2,F2,m2,w2⟩:=FR.pubs U F1;refine ⟨H2,F2.congrO fun i=>?_,fun a o q=>m2 a o (m1 a o q),w1.trans w2⟩;rw [bK,bK,List.mem_filter];simp;constructor
  .rintro ⟨a,b,c⟩;exact ⟨⟨a,b⟩,c⟩
  .rintro ⟨⟨a,b⟩,c⟩;exact ⟨a,b,c⟩
theorem FR.fewer (F:FR g E Es O ρ σ H Hs) (h:∀ i∈O',i∈O):∃ Hs',FR g E Es O' ρ σ H Hs'/\Same Hs Hs':=by
 obtain ⟨H1,F1,m1,_⟩:=FR.pubs (O.filter fun i=>!O'.contains i) F;refine ⟨H1,F1.congrO fun i=>?_,m1⟩;rw [bK,List.mem_filter];simp;constructor
 .intro hi;exact ⟨h i hi,fun _=>hi⟩
 .rintro ⟨a,b⟩;exact b a
theorem FR.setS {v:V} (F:FR g E Es O ρ σ H Hs) (hq:∀ q∈E.pins,q.1≠i) (r:Rp g Hs d v):FR g E Es (without O [i]) (ρ.set i (some d)) (σ.set i (some v)) H Hs:=by
 have memw:∀ {j},j∈without O [i]↔j∈O/\j≠i:=by intro j;rw [bK];simp
 refine ⟨F.grow,by rw [List.length_set,List.length_set];exact F.len,fun j e h hj=>?_,fun j hj e h=>?_,fun j hj k hk hjk e f a h1 h2 h3=>?_,fun q hp'=>by rw [List.getElem?_set_ne (Ne.symm (hq q hp'))];exact F.pin q hp'⟩
 .by_cases hji:j=i
  .subst hji;have hl:j < ρ.length:=by
    have:=(yB.mp h).1;simpa using this
   rw [List.getElem?_set_self hl] at h;cases h;exact ⟨v,by rw [List.getElem?_set_self (by rw [<- F.len];exact hl)],r⟩
  .rw [List.getElem?_set_ne (Ne.symm hji)] at h;obtain ⟨w,ew,rw'⟩:=F.val j e h fun z=>hj (memw.mpr ⟨z,hji⟩)
   exact ⟨w,by rw [List.getElem?_set_ne (Ne.symm hji)];exact ew,rw'⟩
 .obtain ⟨hjO,hji⟩:=memw.mp hj;rw [List.getElem?_set_ne (Ne.symm hji)] at h;obtain ⟨a,ea,q⟩:=F.own j hjO e h;exact ⟨a,by rw [List.getElem?_set_ne (Ne.symm hji)];exact ea,q⟩
 .obtain ⟨hjO,hji⟩:=memw.mp hj;obtain ⟨hkO,hki⟩:=memw.mp hk;rw [List.getElem?_set_ne (Ne.symm hji)] at h1 h3;rw [List.getElem?_set_ne (Ne.symm hki)] at h2;rw [List.getElem?_set_ne (Ne.symm hki)];exact F.apart j hjO k hkO hjk e f a h1 h2 h3
theorem FR.adopt (F:FR g E Es O ρ σ H Hs) (hq:∀ q∈E.pins,q.1≠i) (w:Grow H Hs H' Hs') (hp:H p=none) (Hsp:Hs' p=none) (r:iU g H' Hs' p d):FR g E Es (i::without O [i]) (ρ.set i (some d)) (σ.set i (some (.ref p))) H' Hs':=by
 have memw:∀ {j},j∈without O [i]↔j∈O/\j≠i:=by intro j;rw [bK];simp
 have Ep:E.hp p=none:=by
  cases q:E.hp p with
  | none=>rfl
  | some u=>rw [F.grow.keep p u q] at hp;cases hp
 have F':=F.grown w;refine ⟨F'.grow,by rw [List.length_set,List.length_set];exact F.len,fun j e h hj=>?_,fun j hj e h=>?_,fun j hj k hk hjk e f a h1 h2 h3=>?_,fun q hp'=>by rw [List.getElem?_set_ne (Ne.symm (hq q hp'))];exact F.pin q hp'⟩
 .have hji:j≠i:=fun z=>hj (by rw [z];exact vi)
  rw [List.getElem?_set_ne (Ne.symm hji)] at h;obtain ⟨w,ew,rw'⟩:=F'.val j e h fun z=>hj (ve _ (memw.mpr ⟨z,hji⟩))
  exact ⟨w,by rw [List.getElem?_set_ne (Ne.symm hji)];exact ew,rw'⟩
 .by_cases hji:j=i
  .subst hji;have hl:j < ρ.length:=by
    have:=(yB.mp h).1;simpa using this
   rw [List.getElem?_set_self hl] at h;cases h;exact ⟨p,by rw [List.getElem?_set_self (by rw [<- F.len];exact hl)],Ep,Hsp,r⟩
  .have hjO:j∈O:=by
    rcases vR.mp hj with z | z
    .exact absurd z hji
    .exact (memw.mp z).1
   rw [List.getElem?_set_ne (Ne.symm hji)] at h;obtain ⟨a,ea,q⟩:=F'.own j hjO e h;exact ⟨a,by rw [List.getElem?_set_ne (Ne.symm hji)];exact ea,q⟩
 .have inO:∀ {k},k∈i::without O [i]->k≠i->k∈O:=fun {k} hk hki=>by
   rcases vR.mp hk with z | z
   .exact absurd z hki
   .exact (memw.mp z).1
  have neP:∀ {k e a},k∈O->ρ[k]?=some (some e)->σ[k]?=some (some (.ref a))->a≠p:=fun {k e a} hk h1 h2=>by
   obtain ⟨b,eb,_,_,ob⟩:=F.own k hk e h1;rw [h2] at eb;cases eb;obtain ⟨u,hu⟩:=ob.obj;exact ak hu hp
  have setSelf:∀ {v:V},(σ.set i (some v))[i]?=some (some v)\/i ≥ σ.length:=fun {v}=>by
   by_cases hl:i < σ.length
   .left;rw [List.getElem?_set_self hl]
   .right;omega
  by_cases hji:j=i
  .subst hji;have hkj:k≠j:=Ne.symm hjk;have hlj:j < σ.length:=by
    have:=(yB.mp h3).1;simpa using this
   rw [List.getElem?_set_self hlj] at h3;cases h3;rw [List.getElem?_set_ne (Ne.symm hkj)] at h2;rw [List.getElem?_set_ne (Ne.symm hkj)];intro z;exact neP (inO hk hkj) h2 z rfl
  .rw [List.getElem?_set_ne (Ne.symm hji)] at h1 h3;by_cases hki:k=i
   .subst hki;intro z;have hlk:k < σ.length:=by
     have:=(yB.mp z).1;simpa using this
    rw [List.getElem?_set_self hlk] at z;cases z;exact neP (inO hj hji) h1 h3 rfl
   .rw [List.getElem?_set_ne (Ne.symm hki)] at h2;rw [List.getElem?_set_ne (Ne.symm hki)];exact F.apart j (inO hj hji) k (inO hk hki) hjk e f a h1 h2 h3
theorem FR.setO (F:FR g E Es O ρ σ H Hs) (hq:∀ q∈E.pins,q.1≠i) (hp:H p=none) (r:iU g (upd H p o) Hs p d):FR g E Es (i::without O [i]) (ρ.set i (some d)) (σ.set i (some (.ref p))) (upd H p o) Hs:=by
 refine F.adopt hq (Grow.own F.sub hp) hp ?_ r;cases q:Hs p with
 | none=>rfl
 | some u=>rw [F.sub p u q] at hp;cases hp
theorem FR.mut {i:Nat}{d d':D}{a:Addr}{o:HO} (F:FR g E Es O ρ σ H Hs) (hi:i∈O) (hd:ρ[i]?=some (some d)) (ha:σ[i]?=some (some (.ref a))) (r:iU g (upd H a o) Hs a d'):FR g E Es O (ρ.set i (some d')) σ (upd H a o) Hs:=by
 obtain ⟨b,eb,b0,b1,ob⟩:=F.own i hi d hd;rw [ha] at eb;cases eb;refine ⟨⟨fun c u q=>?_,F.grow.old,fun c u q=>?_⟩,by rw [List.length_set];exact F.len,fun j e h hj=>?_,fun j hj e h=>?_,fun j hj k hk hjk e f c h1 h2 h3=>?_,F.pin⟩
 .rw [ao (ak q b0)];exact F.grow.keep c u q
 .rw [ao (ak q b1)];exact F.grow.sub c u q
 .have hji:j≠i:=fun z=>hj (z ▸ hi)
  rw [List.getElem?_set_ne (Ne.symm hji)] at h;exact F.val j e h hj
 .by_cases hji:j=i
  .subst hji;have hl:j < ρ.length:=by
    have:=(yB.mp h).1;simpa using this
   rw [List.getElem?_set_self hl] at h;cases h;exact ⟨a,ha,b0,b1,r⟩
  .rw [List.getElem?_set_ne (Ne.symm hji)] at h;obtain ⟨c,ec,c0,c1,oc⟩:=F.own j hj e h;have hca:c≠a:=fun z=>by
    subst z;exact F.apart i hi j hj (Ne.symm hji) d e c hd h ha ec
   exact ⟨c,ec,c0,c1,oc.mono (fun u q=>by rw [ao hca];exact q) fun _ _ q=>q⟩
 .have some1:∀ {k e},(ρ.set i (some d'))[k]?=some (some e)->∃ e',ρ[k]?=some (some e'):=fun {k e} h=>by
   by_cases hki:k=i
   .subst hki;exact ⟨d,hd⟩
   .rw [List.getElem?_set_ne (Ne.symm hki)] at h;exact ⟨e,h⟩
  obtain ⟨e',h1'⟩:=some1 h1;obtain ⟨f',h2'⟩:=some1 h2;exact F.apart j hj k hk hjk e' f' c h1' h2' h3
theorem FJ:∀ {a b:En}{i:Nat}{d:D},(aV a b)[i]?=some (some d)->b[i]?=some (some d)
 | [],b,i,d,h=>by
  simp only [aV,List.getElem?_map] at h;cases e:b[i]? <;> simp [e] at h
 | _::_,[],i,d,h=>by simp [aV] at h
 | x::as,y::bs,0,d,h=>by
  simp only [aV,List.getElem?_cons_zero] at h ⊢;split at h
  .exact h
  .cases h
 | x::as,y::bs,i+1,d,h=>by
  simp only [aV,List.getElem?_cons_succ] at h ⊢;exact FJ h
theorem Gw:∀ (a b:En),(aV a b).length=b.length
 | [],b=>by simp [aV]
 | _::_,[]=>rfl
 | _::as,_::bs=>by simp [aV,Gw as bs]
theorem FR.less {ρ':En} (F:FR g E Es O ρ σ H Hs) (hl:ρ'.length=ρ.length) (h:∀ (i:Nat) d,ρ'[i]?=some (some d)->ρ[i]?=some (some d)):FR g E Es O ρ' σ H Hs :=
 ⟨F.grow,hl.trans F.len,fun i d q hi=>F.val i d (h i d q) hi,fun i hi d q=>F.own i hi d (h i d q),fun i hi j hj hij d e a q1 q2=>F.apart i hi j hj hij d e a (h i d q1) (h j e q2),F.pin⟩
theorem Yb {H1:Hp} (hs:Same Hs H) (hw:jm Hs Hs1) (g2:Grow H Hs1 H1 Hs2):∃ Hs3,Grow H Hs H1 Hs3/\(∀ t o,Hs2 t=some o->RG o=false->Hs3 t=some o)/\∀ t,H t=none->Hs3 t=Hs2 t:=by
 classical
 refine ⟨fun b=>if (H b).isSome then Hs b else Hs2 b,⟨g2.keep,fun a o q=>?_,fun a o q=>?_⟩,fun t o q hm=>?_,fun t ht=>?_⟩
 .show (if (H a).isSome then Hs a else Hs2 a)=_
  rw [q];rfl
 .by_cases e:(H a).isSome=true
  .have q':Hs a=some o:=by rw [<- q];exact (if_pos e).symm
   exact g2.keep a o (hs a o q')
  .have q':Hs2 a=some o:=by rw [<- q];exact (if_neg e).symm
   exact g2.sub a o q'
 .show (if (H t).isSome then Hs t else Hs2 t)=_
  by_cases e:(H t).isSome=true
  .rw [if_pos e];obtain ⟨u,hu⟩:=y0.mp e;have h1:Hs1 t=some o:=by rw [<- g2.old t u hu];exact q
   rcases hw t o h1 with z | z
   .exact z
   .rw [hm] at z;cases z
  .rw [if_neg e];exact q
 .show (if (H t).isSome then Hs t else Hs2 t)=_
  rw [ht];rfl
end
end Mi
namespace Mi
open PySem L2
open PyProof.Rows hiding St
def aj {α β:Type}{r:R α}{f:α->R β}{b:β} (h:(r >>= f)=.ok b):∃ a,r=.ok a/\f a=.ok b:=by
 cases r with
 | ok a=>exact ⟨a,rfl,h⟩
 | exc x=>rw [Vx] at h;cases h
 | stuck=>rw [PX] at h;cases h
theorem CT {α:Type}{a b:α} (h:(R.ok a)=.ok b):a=b:=by cases h;rfl
def dH {α:Type}{c:Prop} [Decidable c] {a:R α}{b:α} (h:(if c then a else .stuck)=.ok b):c/\a=.ok b:=by
 by_cases hc:c
 .rw [if_pos hc] at h;exact ⟨hc,h⟩
 .rw [if_neg hc] at h;cases h
variable {X:Cx}{e:Expr}
theorem bG {t t':TE} (h:PE X e t) (i:∀ σ H Q,t' σ H Q->t σ H Q):PE X e t':=fun pins s σ H Q I hq=>h pins s σ H Q I (i σ H Q hq)
theorem Dj {t t':TT} (h:PT X e t) (i:∀ σ H Q,t' σ H Q->t σ H Q):PT X e t':=fun pins s σ H Q I hq=>h pins s σ H Q I (i σ H Q hq)
theorem Ui {e:zl}{t t':TA} (h:PA X e t) (i:∀ σ H Q,t' σ H Q->t σ H Q):PA X e t':=fun pos pins s σ H Q I hq=>h pos pins s σ H Q I (i σ H Q hq)
variable {g:G}{i:Int}{ds:List D}{xs:List V}{z:D}
section
variable {X:Cx}{H Hs H1 Hs1:Hp}{Q:VK}{d:D}{v:V}
def bB :Rp g H (.int i) v↔v=.int i:=by rw [Rp]
def mW {i:Bool}:Rp g H (.bl i) v↔v=.bl i:=by rw [Rp]
def yp :Rp g H .non v↔v=.non:=by rw [Rp]
def KH {i:Str}:Rp g H (.str i) v↔v=.str i:=by rw [Rp]
def fB :Rp g H (.tup ds) v↔∃ a xs,v=.ref a/\SqT g.K H a xs/\Rps g H ds xs:=by rw [Rp]
def cN :Rp g H (.lst ds) v↔∃ a xs,v=.ref a/\SqL g.K H a xs/\Rps g H ds xs:=by rw [Rp]
def u9 {ks vs:List D}:Rp g H (.dct ks vs) v↔∃ a xs ys ep,v=.ref a/\H a=some (.ext (DAt g a xs ys ep))/\ks=xs.map (·.1)/\Rps g H ks (xs.map fun x=>V.ref x.2.1)/\Rps g H vs ys:=by rw [Rp]
def XD (X:Cx) (H Hs:Hp) (Q:VK) (d:D):Prop:=∀ v H' Hs',Grow H Hs H' Hs'->Rp (gOf X) Hs' d v->Q v H'
theorem XD.grow (h:XD X H Hs Q d) (w:Grow H Hs H1 Hs1):XD X H1 Hs1 Q d:=fun v H' Hs' g r=>h v H' Hs' (w.trans g) r
theorem XD.here (h:XD X H Hs Q d) (hs:Same Hs H) (r:Rp (gOf X) Hs d v):Q v H:=h v H Hs (Grow.refl hs) r
theorem XD.int (h:XD X H Hs Q (.int i)) (hs:Same Hs H):Q (.int i) H:=h.here hs (bB.mpr rfl)
theorem XD.bl {i:Bool} (h:XD X H Hs Q (.bl i)) (hs:Same Hs H):Q (.bl i) H:=h.here hs (mW.mpr rfl)
theorem XD.non (h:XD X H Hs Q .non) (hs:Same Hs H):Q .non H:=h.here hs (yp.mpr rfl)
theorem rZ {p:Addr}{o:HO} (hs:Same Hs H) (hp:H p=none):Same Hs (upd Hs p o):=(Grow.new (o:=o) hs hp).same hs
theorem XD.newL (h:XD X H Hs Q (.lst ds)) (hs:Same Hs H) (r:Rps (gOf X) Hs ds xs):∀ p,H p=none->Q (.ref p) (upd H p (.lst xs)):=fun p hp =>
 h _ _ _ (Grow.new (o:=.lst xs) hs hp) (cN.mpr ⟨p,xs,rfl,SqL.of aA,r.mono (rZ hs hp)⟩)
theorem XD.newT (h:XD X H Hs Q (.tup ds)) (hs:Same Hs H) (r:Rps (gOf X) Hs ds xs):∀ p,H p=none->Q (.ref p) (upd H p (.tup xs)):=fun p hp =>
 h _ _ _ (Grow.new (o:=.tup xs) hs hp) (fB.mpr ⟨p,xs,rfl,SqT.of aA,r.mono (rZ hs hp)⟩)
def Op2 (X:Cx) (r:R2) (op:D->D->R D):Prop:=∀ x y d e z H Hs Q,Same Hs H->Rp (gOf X) Hs d x->Rp (gOf X) Hs e y->op d e=.ok z->XD X H Hs Q z->r x y H Q
def Nm:OpR X (binaryOp .Add) (XQ X.K):=by
 intro pins s σ H x y v u Q I rx ry h;obtain ⟨l,b,xs,zs,rfl,rfl,hH,hB,hz,q⟩:=h;cases rx;cases ry;obtain ⟨its,r,pl,_⟩:=I.list hH;obtain ⟨its2,r2,pl2,_⟩:=I.list hB;obtain ⟨⟨cls,dd,data,sl⟩,ho,hc,n,hd⟩:=pl.isList;obtain ⟨⟨cls2,dd2,data2,sl2⟩,ho2,hc2,n2,hd2⟩:=pl2.isList;simp only at hc hd hc2 hd2;subst hc hd hc2 hd2;have hl:=r.length;have hl2:=r2.length;have e:its.toArray++its2.toArray=(its++its2).toArray:=by simp
 refine concat_meets ⟨_,ho,rfl⟩ ⟨_,ho2,rfl⟩ noFill_list_add seq_list_add PySem.F.slot_list_add PySem.F.entry_list_add (PySem.F.args_list_add_2 _ _) (list_addW l b its.toArray its2.toArray n n2 dd dd2 sl sl2 (by simp only [List.size_toArray];omega)) ⟨ho,ho2,?_⟩;rw [e];exact ⟨.ref _,_,I.lnew (t':=s.toks) (r.append r2) (by rw [List.length_append];omega),rfl,q _ I.fresh⟩
def Pj (X:Cx):R2:=fun x y H Q=>rI0 (fun i j=>.int (i+j)) x y H Q\/(S7 X.K x y H Q\/(Xy X.K x y H Q\/XQ X.K x y H Q))
theorem Yy:OpR X (binaryOp .Add) (Pj X):=abX.or (Wf.or (Y7.or Nm))
def Zu:Op2 X (Pj X) kI:=by
 intro x y d e z H Hs Q hs rx ry h k;have hlim:=jt;cases d <;> cases e <;> simp only [kI] at h <;> try (cases h;done)
 .cases h;exact .inl ⟨_,_,bB.mp rx,bB.mp ry,k.int hs⟩
 .obtain ⟨hl,h⟩:=dH h;cases h;obtain ⟨a,xs,rfl,s1,r1⟩:=fB.mp rx;obtain ⟨b,ys,rfl,s2,r2⟩:=fB.mp ry;have l1:=r1.length;have l2:=r2.length;by_cases hx:xs=[]
  .subst hx;refine .inr (.inl ⟨a,b,ys,rfl,rfl,aR hs s1,aR hs s2,k.here hs ?_⟩);rename_i as bs;have:as=[]:=by cases as with | nil=>rfl | cons _ _=>simp at l1
   subst this;exact ry
  .refine .inr (.inr (.inl ⟨a,b,xs,ys,rfl,rfl,aR hs s1,aR hs s2,hx,by omega,fun hy=>?_,fun _=>k.newT hs (r1.append r2)⟩));subst hy;rename_i as bs;have:bs=[]:=by cases bs with | nil=>rfl | cons _ _=>simp at l2
   subst this;rw [List.append_nil] at k;exact k.here hs rx
 .obtain ⟨hl,h⟩:=dH h;cases h;obtain ⟨a,xs,rfl,s1,r1⟩:=cN.mp rx;obtain ⟨b,ys,rfl,s2,r2⟩:=cN.mp ry;have l1:=r1.length;have l2:=r2.length;exact .inr (.inr (.inr ⟨a,b,xs,ys,rfl,rfl,bD hs s1,bD hs s2,by omega,k.newL hs (r1.append r2)⟩))
noncomputable def Vr:BO->Operator
 | .add=>.Add | .sub=>.Sub | .mul=>.Mult | .mod=>.Mod
def abN (X:Cx):BO->R2
 | .add=>Pj X
 | .sub=>rI0 fun i j=>.int (i - j)
 | .mul=>fun x y H Q=>rI QW (fun i j=>.int (i * j)) x y H Q\/X7 X.K x y H Q
 | .mod=>rI (fun _ j=>0 < j) fun i j=>.int (i % j)
def aan (o:BO):OpR X (binaryOp (Vr o)) (abN X o):=by
 cases o
 .exact Yy
 .exact abo
 .exact aar.or aac
 .exact abS
def Dg (h:lQ i=true):-(2 ^ 64) < i/\i < 2 ^ 64:=by
 cases i with
 | ofNat n =>
  have:=Nat.le_of_ble_eq_true h;rw [Int.ofNat_eq_natCast];exact ⟨by omega,by omega⟩
 | negSucc n =>
  have:=Nat.le_of_ble_eq_true h;exact ⟨by omega,by omega⟩
theorem Oe {g:G}{H:Hp}{ds:List D}{xs:List V} (r:Rps g H ds xs):∀ k:Nat,Rps g H (List.replicate k ds).flatten (List.replicate k xs).flatten
 | 0=>Rps.nil
 | k+1=>by
  rw [List.replicate_succ,List.replicate_succ,List.flatten_cons,List.flatten_cons];exact r.append (Oe r k)
def ZQ (o:BO):Op2 X (abN X o) (ji o):=by
 cases o
 .intro x y d e z H Hs Q hs rx ry h k;exact Zu x y d e z H Hs Q hs rx ry (by simpa only [ji] using h) k
 all_goals
  intro x y d e z H Hs Q hs rx ry h k;cases d <;> cases e <;> simp only [ji] at h <;> try (cases h;done)
 .cases h;exact ⟨_,_,bB.mp rx,bB.mp ry,k.int hs⟩
 .obtain ⟨c,h⟩:=dH h;cases h;refine .inl ⟨_,_,bB.mp rx,bB.mp ry,?_,k.int hs⟩;simp only [Bool.or_eq_true] at c;rcases c with c | c
  .exact .inl (Dg c)
  .exact .inr (Dg c)
 .obtain ⟨⟨c1,c2,c3⟩,h⟩:=dH h;cases h;obtain ⟨a,xs,rfl,s1,r1⟩:=cN.mp rx;have l1:=r1.length;exact .inr ⟨a,_,xs,rfl,bB.mp ry,bD hs s1,by omega,c1,c2,k.newL hs (Oe r1 _)⟩
 .obtain ⟨c,h⟩:=dH h;cases h;exact ⟨_,_,bB.mp rx,bB.mp ry,c,k.int hs⟩
noncomputable def uf:CO->CmpOp
 | .eq=>.Eq | .ne=>.NotEq | .lt=>.Lt | .le=>.LtE | .gt=>.Gt | .ge=>.GtE
def Q5 (X:Cx):CO->R2
 | .eq=>abr X
 | .ne=>abK X
 | .lt=>rI0 fun i j=>.bl (decide (i < j))
 | .le=>rI0 fun i j=>.bl (decide (i<=j))
 | .gt=>rI0 fun i j=>.bl (decide (j < i))
 | .ge=>rI0 fun i j=>.bl (decide (j<=i))
def uX (hu:X.A.units+100 < cLine) (o:CO):OpR X (compareOp (uf o)) (Q5 X o):=by
 cases o
 .exact aaL hu
 .exact aby hu
 .exact ab5
 .exact ach
 .exact ab6
 .exact acR
def zm (o:CO):Op2 X (Q5 X o) (fun d e=>do let r <- aY o d e;.ok (.bl r)):=by
 intro x y d e z H Hs Q hs rx ry h0 k;obtain ⟨b,h,hz⟩:=aj h0;clear h0;cases hz;cases o
 .simp only [aY] at h;obtain ⟨c,h⟩:=dH h;cases h;exact ⟨d,e,rx.mono hs,ry.mono hs,c,k.bl hs⟩
 .simp only [aY] at h;obtain ⟨c,h⟩:=dH h;cases h;exact ⟨d,e,rx.mono hs,ry.mono hs,c,k.bl hs⟩
 .cases d <;> cases e <;> simp only [aY] at h <;> try (cases h;done)
  cases h;exact ⟨_,_,bB.mp rx,bB.mp ry,k.bl hs⟩
 .cases d <;> cases e <;> simp only [aY] at h <;> try (cases h;done)
  cases h;exact ⟨_,_,bB.mp rx,bB.mp ry,k.bl hs⟩
 .cases d <;> cases e <;> simp only [aY] at h <;> try (cases h;done)
  cases h;exact ⟨_,_,bB.mp rx,bB.mp ry,k.bl hs⟩
 .cases d <;> cases e <;> simp only [aY] at h <;> try (cases h;done)
  cases h;exact ⟨_,_,bB.mp rx,bB.mp ry,k.bl hs⟩
def aai (X:Cx):R2:=fun x y H Q=>(aaE X.K x y H Q\/aam X.K x y H Q)\/Xz X x y H Q
theorem ac3 (hu:X.A.units+100 < cLine):IxR X (aai X):=(Yt.or aal).or (Zk hu)
theorem gets {g:G}{k:D}:∀ {xs:List (D × Addr × Value)}{vs:List D}{ys:List V},Rps g H vs ys->(∃ z v,cT (xs.map (·.1)) vs k=some z/\atV xs ys k=some v/\Rp g H z v)\/(cT (xs.map (·.1)) vs k=none/\atV xs ys k=none)
 | [],_,_,_=>.inr ⟨rfl,rfl⟩
 | x::xs,[],ys,r=>by
  obtain rfl:=r.nil_inv;exact .inr ⟨rfl,rfl⟩
 | x::xs,z::vs,ys,r=>by
  obtain ⟨v,ys',rfl,r0,rs⟩:=r.cons_inv;by_cases e:x.1=k
  .exact .inl ⟨z,v,if_pos e,if_pos e,r0⟩
  .have e1:cT ((x::xs).map (·.1)) (z::vs) k=cT (xs.map (·.1)) vs k:=if_neg e;have e2:atV (x::xs) (v::ys') k=atV xs ys' k:=if_neg e;rw [e1,e2];exact gets rs
def R5 (r:Rps g Hs ds xs) (h:(match ixN ds.length i with | some k=>(match ds[k]? with | some d=>R.ok d | none=>.stuck) | none=>.stuck)=.ok z):∃ v,atI xs i=some v/\Rp g Hs z v:=by
 cases e:ixN ds.length i with
 | none=>rw [e] at h;cases h
 | some k =>
  rw [e] at h;cases e2:ds[k]? with
  | none=>simp only [e2] at h;cases h
  | some d =>
   simp only [e2] at h;cases h;obtain ⟨v,ev,rv⟩:=r.getD e2;refine ⟨v,?_,rv⟩;unfold atI;rw [<- r.length,e];exact ev
def aaF:Op2 X (aai X) ixD:=by
 intro x y d e z H Hs Q hs rx ry h k;cases d <;> try (cases h;done)
 .cases e <;> try (cases h;done)
  obtain ⟨a,xs,rfl,s1,r1⟩:=fB.mp rx;obtain ⟨v,e1,r2⟩:=R5 r1 h;exact .inl (.inr ⟨a,xs,_,v,rfl,bB.mp ry,aR hs s1,e1,k.here hs r2⟩)
 .cases e <;> try (cases h;done)
  obtain ⟨a,xs,rfl,s1,r1⟩:=cN.mp rx;obtain ⟨v,e1,r2⟩:=R5 r1 h;exact .inl (.inl ⟨a,xs,_,v,rfl,bB.mp ry,bD hs s1,e1,k.here hs r2⟩)
 .rename_i ks vs;obtain ⟨hk,h⟩:=dH h;obtain ⟨a,xs,ys,ep,rfl,ha,e1,r1,r2⟩:=u9.mp rx;subst e1;rcases gets (k:=e) (xs:=xs) r2 with ⟨z',v,g1,g2,g3⟩ | ⟨g1,g2⟩
  .rw [g1] at h;cases h;exact .inr ⟨e,a,_,xs,ys,v,ry.mono hs,hk,rfl,⟨⟨ep,hs _ _ ha⟩,rfl,r1.mono hs⟩,g2,k.here hs g3⟩
  .rw [g1] at h;cases h
def abL (X:Cx):V->Option Int->Option Int->Hp->VK->Prop:=fun x lo hi H Q=>aap X.K x lo hi H Q
theorem adv:SlR X (abL X):=YS
def Xq {x:V}{lo hi:Option Int} (hs:Same Hs H) (rx:Rp (gOf X) Hs d x) (h:slD d lo hi=.ok z) (k:XD X H Hs Q z):abL X x lo hi H Q:=by
 cases d <;> simp only [slD] at h <;> try (cases h;done)
 .cases h;obtain ⟨a,xs,rfl,s1,r1⟩:=cN.mp rx;have l1:=r1.length;refine ⟨a,xs,rfl,bD hs s1,k.newL hs ?_⟩;unfold cutD Kd;rw [<- l1];exact (r1.drop _).take _
end
end Mi
namespace Mi
open PySem L2
open PyProof.Rows hiding St
noncomputable def Sw:M->Bool
 | .var _=>true | _=>false
noncomputable def aci:M->Nat
 | .var i=>i | _=>0
structure Tx where
 F:zk
 gl:List (Str × D)
noncomputable def jO (sc:Scope) (x:Str):Bool:=match sc.names.lookup x with
 | some .local=>true | some .cell=>true | some .free=>true | _=>false
noncomputable def mq (sc:Scope) (x:Str):Bool:=match sc.names.lookup x with
 | some .local=>true | some .cell=>true | _=>false
noncomputable def dZ (sc:Scope) (x:Str):Bool:=match sc.names.lookup x with
 | some .globalImplicit=>true | _=>false
noncomputable def aK (x:Str):Bool:=!(x == ("__debug__":Str)) && !(x == ("__classdict__":Str)) && !(x == ("__name__":Str))
noncomputable def boB:BO->Operator->Bool
 | .add,.Add=>true | .sub,.Sub=>true | .mul,.Mult=>true | .mod,.Mod=>true | _,_=>false
def abj {o:BO}{p:Operator} (h:boB o p=true):p=Vr o:=by cases o <;> cases p <;> first | rfl | cases h
noncomputable def coB:CO->CmpOp->Bool
 | .eq,.Eq=>true | .ne,.NotEq=>true | .lt,.Lt=>true | .le,.LtE=>true | .gt,.Gt=>true | .ge,.GtE=>true | _,_=>false
variable {o:CO}{p:CmpOp}
def La (h:coB o p=true):p=uf o:=by cases o <;> cases p <;> first | rfl | cases h
noncomputable def V2:D->Const->Bool
 | .int i,.int j=>decide (i=j)
 | .bl i,.bool j=>decide (i=j)
 | .non,.none=>true
 | .str x,.str y=>decide (x=y)
 | _,_=>false
noncomputable def TY:BI->Str
 | .len=>"len" | .min2=>"min" | .all=>"all" | .any=>"any" | .sorted=>"sorted" | .list=>"list" | .tuple=>"tuple" | .listEnum=>"list" | .int=>"int"
noncomputable def glB:Option D->D->Bool
 | some (.int i),.int j=>decide (i=j)
 | some (.str i),.str j=>decide (i=j)
 | _,_=>false
variable {d:D}
def aaW {o:Option D} (h:glB o d=true):o=some d:=by
 unfold glB at h;split at h
 .rw [of_decide_eq_true h]
 .rw [of_decide_eq_true h]
 .cases h
noncomputable def Ty.nm:Ty->Str
 | .int=>"int" | .bool=>"bool" | .str=>"str" | .tuple=>"tuple" | .list=>"list"
noncomputable def nH:zk:=["len","min","max","all","any","sorted","list","tuple","isinstance","int","bool","str","range","enumerate","zip","reversed"]
noncomputable def scB (around scope:Scope):Bool :=
 decide (scope.kind=.function) && decide ((scope.names.map (·.1)).Nodup) && scope.names.all fun p=>decide (p.2≠.free) || decide (around.names.lookup p.1=some .cell) || decide (around.names.lookup p.1=some .free)
noncomputable def isK (k:Nat) (e:Expr):Bool:=Nat.beq e.ctorIdx k
noncomputable def isS (k:Nat) (s:Stmt):Bool:=Nat.beq s.ctorIdx k
variable {k:Nat}{e:Expr}{b:Bool}
theorem iT (h:(isK k e && b)=true):e.ctorIdx=k:=Nat.eq_of_beq_eq_true (Bool.and_eq_true_iff.mp h).1
theorem su {s:Stmt} (h:(isS k s && b)=true):s.ctorIdx=k:=Nat.eq_of_beq_eq_true (Bool.and_eq_true_iff.mp h).1
section
variable {e:Expr}{s:Stmt}{b:Bool}
theorem eO (h:(isK 23 e && b)=true):∃ x p,e=.Name x p:=Expr.Name.elim (motive_1:=fun e=>∃ x p,e=.Name x p) e (iT h) fun _ _=>⟨_,_,rfl⟩
theorem Gq (h:(isK 25 e && b)=true):∃ x k p,e=.Tuple x k p:=Expr.Tuple.elim (motive_1:=fun e=>∃ x k p,e=.Tuple x k p) e (iT h) fun _ _ _=>⟨_,_,_,rfl⟩
theorem nj (h:(isK 24 e && b)=true):∃ x p,e=.List x p:=Expr.List.elim (motive_1:=fun e=>∃ x p,e=.List x p) e (iT h) fun _ _=>⟨_,_,rfl⟩
theorem IW (h:(isK 6 e && b)=true):∃ x y p,e=.Dict x y p:=Expr.Dict.elim (motive_1:=fun e=>∃ x y p,e=.Dict x y p) e (iT h) fun _ _ _=>⟨_,_,_,rfl⟩
theorem Gx (h:(isK 2 e && b)=true):∃ x o y p,e=.BinOp x o y p:=Expr.BinOp.elim (motive_1:=fun e=>∃ x o y p,e=.BinOp x o y p) e (iT h) fun _ _ _ _=>⟨_,_,_,_,rfl⟩
theorem Bc (h:(isK 15 e && b)=true):∃ x o y p,e=.Compare x o y p:=Expr.Compare.elim (motive_1:=fun e=>∃ x o y p,e=.Compare x o y p) e (iT h) fun _ _ _ _=>⟨_,_,_,_,rfl⟩
theorem CP (h:(isK 0 e && b)=true):∃ o y p,e=.BoolOp o y p:=Expr.BoolOp.elim (motive_1:=fun e=>∃ o y p,e=.BoolOp o y p) e (iT h) fun _ _ _=>⟨_,_,_,rfl⟩
theorem Am (h:(isK 3 e && b)=true):∃ o y p,e=.UnaryOp o y p:=Expr.UnaryOp.elim (motive_1:=fun e=>∃ o y p,e=.UnaryOp o y p) e (iT h) fun _ _ _=>⟨_,_,_,rfl⟩
theorem pB (h:(isK 21 e && b)=true):∃ x y p,e=.Subscript x y p:=Expr.Subscript.elim (motive_1:=fun e=>∃ x y p,e=.Subscript x y p) e (iT h) fun _ _ _=>⟨_,_,_,rfl⟩
theorem Uj (h:(isK 26 e && b)=true):∃ x y z p,e=.Slice x y z p:=Expr.Slice.elim (motive_1:=fun e=>∃ x y z p,e=.Slice x y z p) e (iT h) fun _ _ _ _=>⟨_,_,_,_,rfl⟩
theorem sX (h:(isK 8 e && b)=true):∃ x y z p,e=.ListComp x y z p:=Expr.ListComp.elim (motive_1:=fun e=>∃ x y z p,e=.ListComp x y z p) e (iT h) fun _ _ _ _=>⟨_,_,_,_,rfl⟩
theorem nq (h:(isK 16 e && b)=true):∃ x y z p,e=.Call x y z p:=Expr.Call.elim (motive_1:=fun e=>∃ x y z p,e=.Call x y z p) e (iT h) fun _ _ _ _=>⟨_,_,_,_,rfl⟩
theorem ju (h:(isK 20 e && b)=true):∃ x y p,e=.Attribute x y p:=Expr.Attribute.elim (motive_1:=fun e=>∃ x y p,e=.Attribute x y p) e (iT h) fun _ _ _=>⟨_,_,_,rfl⟩
theorem vU (h:(isS 5 s && b)=true):∃ x y p,s=.Assign x y p:=Stmt.Assign.elim s (su h) fun _ _ _=>⟨_,_,_,rfl⟩
theorem vJ (h:(isS 24 s && b)=true):∃ x p,s=.Expr x p:=Stmt.Expr.elim s (su h) fun _ _=>⟨_,_,rfl⟩
theorem v7 (h:(isS 3 s && b)=true):∃ x p,s=.Return x p:=Stmt.Return.elim s (su h) fun _ _=>⟨_,_,rfl⟩
theorem Um (h:(isS 12 s && b)=true):∃ x y z p,s=.If x y z p:=Stmt.If.elim s (su h) fun _ _ _ _=>⟨_,_,_,_,rfl⟩
theorem Nq (h:(isS 9 s && b)=true):∃ x y z w p,s=.For x y z w p:=Stmt.For.elim s (su h) fun _ _ _ _ _=>⟨_,_,_,_,_,rfl⟩
end
def jE (e:Expr) (f:Str->zl->Bool):Bool:=isK 16 e && match e with
 | .Call g es ks _=>isK 23 g && (match g,ks with | .Name x _,[]=>f x es | _,_=>false)
 | _=>false
def eG {f:Str->zl->Bool} (h:jE e f=true):∃ x p es q,e=.Call (.Name x p) es [] q/\f x es=true:=by
 obtain ⟨g,es,ks,q,rfl⟩:=nq h;have h2:(isK 23 g && _)=true:=h;obtain ⟨x,p,rfl⟩:=eO h2;cases ks with
 | nil=>exact ⟨x,p,es,q,rfl,h⟩
 | cons _ _=>cases h
def tgB (N:zk) (sc:Scope):Tg->Expr->Bool
 | .one i,e=>isK 23 e && match e with | .Name x _=>mq sc x && decide (N[i]?=some x) | _=>false
 | .two i j,e=>isK 25 e && match e with
  | .Tuple es _ _=>(match es with
   | [a,b]=>isK 23 a && (isK 23 b && match a,b with | .Name x _,.Name y _=>mq sc x && mq sc y && decide (N[i]?=some x) && decide (N[j]?=some y) && decide (i≠j) | _,_=>false)
   | _=>false)
  | _=>false
variable {N:zk}{sc:Scope}{i:Nat}
def uT (h:tgB N sc (.one i) e=true):∃ x p,e=.Name x p/\mq sc x=true/\N[i]?=some x:=by
 obtain ⟨x,p,rfl⟩:=eO h;have h2:(mq sc x && decide (N[i]?=some x))=true:=h;simp only [Bool.and_eq_true,decide_eq_true_eq] at h2;exact ⟨x,p,rfl,h2⟩
def vm {j:Nat} (h:tgB N sc (.two i j) e=true):∃ x p y q k r,e=.Tuple [.Name x p,.Name y q] k r/\((((mq sc x=true/\mq sc y=true)/\N[i]?=some x)/\N[j]?=some y)/\i≠j):=by
 obtain ⟨es,k,r,rfl⟩:=Gq h;rcases es with _ | ⟨a,_ | ⟨b,_ | ⟨c,es⟩⟩⟩ <;> try (cases h;done)
 obtain ⟨x,p,rfl⟩:=eO (show (isK 23 a && _)=true from h);obtain ⟨y,q,rfl⟩:=eO (show (isK 23 b && _)=true from h);have h2:(mq sc x && mq sc y && decide (N[i]?=some x) && decide (N[j]?=some y) && decide (i≠j))=true:=h;simp only [Bool.and_eq_true,decide_eq_true_eq] at h2;exact ⟨x,p,y,q,k,r,rfl,h2⟩
noncomputable def Jk:Expr->Bool
 | .Tuple ..=>true | _=>false
noncomputable def jV:Expr->Bool
 | .Slice ..=>false | _=>true
noncomputable def noStar:Expr->Bool
 | .Starred ..=>false | _=>true
noncomputable def gw:Expr->Bool
 | .Set ..=>false | _=>true
noncomputable def Qa:Expr->zl
 | .Call _ es _ _=>es
 | _=>[]
def jX:IK->Expr->zl
 | .seq,e=>[e]
 | .rng,e=>Qa e
 | .enum,e=>Qa e
 | .zip,e=>Qa e
def jx (sc:Scope):IK->Expr->Expr->Bool
 | .seq,_,e=>gw e
 | .rng,_,e=>jE e fun f es=>decide (f="range") && dZ sc f && (decide (es.length=1) || decide (es.length=2)) && es.all noStar
 | .enum,tg,e=>jE e fun f es=>decide (f="enumerate") && dZ sc f && decide (es.length=1) && es.all noStar && Jk tg
 | .zip,tg,e=>jE e fun f es=>decide (f="zip") && dZ sc f && decide (es.length=2) && es.all noStar && Jk tg
def Lk (e:Expr) (f:Str->Expr->Expr->Bool):Bool:=isK 16 e && match e with
 | .Call g es ks cp=>isK 20 g && (match g with
  | .Attribute o m ap=>isK 23 o && (match o,es,ks with | .Name x _,[y,z],[]=>decide (m="get") && (ap.endLine == cp.line) && f x y z | _,_,_=>false)
  | _=>false)
 | _=>false
def O5 {f:Str -> Expr -> Expr -> Bool} (h:Lk e f=true):∃ x p ap y z cp,e=.Call (.Attribute (.Name x p) "get" ap) [y,z] [] cp /\ (ap.endLine == cp.line)=true /\ f x y z=true:=by
 obtain ⟨g,es,ks,cp,rfl⟩:=nq h;obtain ⟨o,m,ap,rfl⟩:=ju (show (isK 20 g && _)=true from h);obtain ⟨x,p,rfl⟩:=eO (show (isK 23 o && _)=true from h);rcases es with _ | ⟨y,_ | ⟨z,_ | ⟨w,es⟩⟩⟩ <;> try (cases h;done)
 rcases ks with _ | ⟨k,ks⟩ <;> try (cases h;done)
 have h2:(decide (m="get") && (ap.endLine == cp.line) && f x y z)=true:=h
 simp only [Bool.and_eq_true,decide_eq_true_eq] at h2;obtain ⟨⟨rfl,h3⟩,h4⟩:=h2;exact ⟨x,p,ap,y,z,cp,rfl,h3,h4⟩
def abA (e:Expr) (f:Str->Bool):Bool:=isK 16 e && match e with
 | .Call g es ks cp=>isK 20 g && (match g with
  | .Attribute o m ap=>isK 23 o && (match o,es,ks with | .Name x _,[],[]=>decide (m="values") && (ap.endLine == cp.line) && f x | _,_,_=>false)
  | _=>false)
 | _=>false
def Z8 {f:Str -> Bool} (h:abA e f=true):∃ x p ap cp,e=.Call (.Attribute (.Name x p) "values" ap) [] [] cp /\ (ap.endLine == cp.line)=true /\ f x=true:=by
 obtain ⟨g,es,ks,cp,rfl⟩:=nq h;obtain ⟨o,m,ap,rfl⟩:=ju (show (isK 20 g && _)=true from h);obtain ⟨x,p,rfl⟩:=eO (show (isK 23 o && _)=true from h);rcases es with _ | ⟨y,es⟩ <;> try (cases h;done)
 rcases ks with _ | ⟨k,ks⟩ <;> try (cases h;done)
 have h2:(decide (m="values") && (ap.endLine == cp.line) && f x)=true:=h
 simp only [Bool.and_eq_true,decide_eq_true_eq] at h2;obtain ⟨⟨rfl,h3⟩,h4⟩:=h2;exact ⟨x,p,ap,cp,rfl,h3,h4⟩
mutual
noncomputable def okE (T:Tx) (N:zk):M->Scope->Expr->Bool
 | .var i,sc,e=>isK 23 e && match e with | .Name x _=>aK x && jO sc x && decide (N[i]?=some x) | _=>false
 | .con d,sc,e=>match e with
  | .Constant c _ _=>V2 d c
  | .Name x _=>aK x && dZ sc x && glB (T.gl.lookup x) d
  | _=>false
 | .tup ms,sc,e=>isK 25 e && match e with | .Tuple es _ _=>cB T N ms sc es && es.all noStar | _=>false
 | .lst ms,sc,e=>isK 24 e && match e with | .List es _=>cB T N ms sc es && es.all noStar | _=>false
 | .dct0,sc,e=>isK 6 e && match e with | .Dict [] [] _=>true | _=>false
 | .bin o a b,sc,e=>isK 2 e && match e with | .BinOp x p y _=>boB o p && okE T N a sc x && okE T N b sc y | _=>false
 | .cmp o a b,sc,e=>isK 15 e && match e with | .Compare x [p] [y] _=>coB o p && gw y && okE T N a sc x && okE T N b sc y | _=>false
 | .chain o o' a b c,sc,e=>isK 15 e && match e with | .Compare x [p,p'] [y,z] _=>coB o p && coB o' p' && gw y && gw z && okE T N a sc x && okE T N b sc y && okE T N c sc z | _=>false
 | .and ms,sc,e=>isK 0 e && match e with | .BoolOp .And es _=>cB T N ms sc es && !ms.isEmpty | _=>false
 | .or ms,sc,e=>isK 0 e && match e with | .BoolOp .Or es _=>cB T N ms sc es && !ms.isEmpty | _=>false
 | .not a,sc,e=>isK 3 e && match e with | .UnaryOp .Not x _=>okE T N a sc x | _=>false
 | .neg a,sc,e=>isK 3 e && match e with | .UnaryOp .USub x _=>okE T N a sc x | _=>false
 | .ix a b,sc,e=>isK 21 e && match e with | .Subscript x y _=>jV y && okE T N a sc x && okE T N b sc y | _=>false
 | .slc a lo hi,sc,e=>isK 21 e && match e with
  | .Subscript x s _=>isK 26 s && (match s with | .Slice l h st _=>st.isNone && (okE T N a sc x && (match l with | none=>dU lo | some y=>!dU lo && okE T N lo sc y) && (match h with | none=>dU hi | some y=>!dU hi && okE T N hi sc y)) | _=>false)
  | _=>false
 | .dget a k d,sc,e=>Sw a && Lk e fun x y z=>jO sc x && aK x && decide (N[aci a]?=some x) && okE T N k sc y && okE T N d sc z && noStar y && noStar z
 | .vals i,sc,e=>jE e fun f es=>decide (f="list") && dZ sc f && (match es with | [e']=>abA e' fun x=>jO sc x && aK x && decide (N[i]?=some x) | _=>false)
 | .call f ms,sc,e=>jE e fun x es=>aK x && dZ sc x && decide (T.F[f]?=some x) && cB T N ms sc es && es.all noStar
 | .blt b ms,sc,e=>jE e fun x es=>decide (x=TY b) && dZ sc x && !es.isEmpty && es.all noStar && (match b,es with
   | .listEnum,[e']=>jE e' fun y es'=>decide (y="enumerate") && dZ sc y && cB T N ms sc es' && es'.all noStar && decide (es'.length=1)
   | .listEnum,_=>false
   | _,_=>cB T N ms sc es)
 | .isin a t,sc,e=>jE e fun x es=>match es with
  | [y,z']=>isK 23 z' && (match z' with | .Name z _=>decide (x="isinstance") && dZ sc x && okE T N a sc y && noStar y && decide (z=t.nm) && dZ sc z | _=>false)
  | _=>false
 | .comp elt tg k src hc c cap,sc,e=>isK 8 e && match e with
  | .ListComp elt' [⟨tg',iter,ifs,as⟩] scope _=>decide (as=0) && scB sc scope && tgB N scope tg tg' && jx sc k tg' iter && cB T N src sc (jX k iter) &&
   (match hc,ifs with | true,[c']=>okE T N c scope c' | false,[]=>true | _,_=>false) && okE T N elt scope elt' && decide (cap=cU N scope)
  | _=>false
noncomputable def cB (T:Tx) (N:zk):List M->Scope->zl->Bool
 | [],_,es=>es.isEmpty
 | m::ms,sc,es=>match es with | e::es=>okE T N m sc e && cB T N ms sc es | []=>false
end
section
variable {T:Tx}{N:zk}{sc:Scope}{a b c:M}{ms:List M}{x y z:Expr}{es:zl}{pos p2 p3:Pos}{s f:Str}{k:Nat}
theorem Zv :okE T N (.var i) sc (.Name s pos)=(aK s && jO sc s && decide (N[i]?=some s)):=rfl
theorem Vk :okE T N (.con d) sc (.Name s pos)=(aK s && dZ sc s && glB (T.gl.lookup s) d):=rfl
theorem ZP:okE T N (.tup ms) sc (.Tuple es k pos)=(cB T N ms sc es && es.all noStar):=rfl
theorem OD:okE T N (.lst ms) sc (.List es pos)=(cB T N ms sc es && es.all noStar):=rfl
theorem YW {o:BO}{p:Operator}:okE T N (.bin o a b) sc (.BinOp x p y pos)=(boB o p && okE T N a sc x && okE T N b sc y):=rfl
theorem Zb :okE T N (.cmp o a b) sc (.Compare x [p] [y] pos)=(coB o p && gw y && okE T N a sc x && okE T N b sc y):=rfl
theorem TX {o':CO}{p':CmpOp}:okE T N (.chain o o' a b c) sc (.Compare x [p,p'] [y,z] pos)=(coB o p && coB o' p' && gw y && gw z && okE T N a sc x && okE T N b sc y && okE T N c sc z):=rfl
theorem YC:okE T N (.and ms) sc (.BoolOp .And es pos)=(cB T N ms sc es && !ms.isEmpty):=rfl
theorem aaU:okE T N (.or ms) sc (.BoolOp .Or es pos)=(cB T N ms sc es && !ms.isEmpty):=rfl
theorem abh:okE T N (.ix a b) sc (.Subscript x y pos)=(jV y && okE T N a sc x && okE T N b sc y):=rfl
theorem Ym {l h:Option Expr}:okE T N (.slc a b c) sc (.Subscript x (.Slice l h none p2) pos)=(okE T N a sc x && (match l with | none=>dU b | some y=>!dU b && okE T N b sc y) && (match h with | none=>dU c | some y=>!dU c && okE T N c sc y)):=rfl
theorem Jv {elt:M}{tg:Tg}{ik:IK}{hc:Bool}{cap:List Bool}{elt' tg' iter:Expr}{ifs:zl}{as:Int}{scope:Scope}:okE T N (.comp elt tg ik ms hc c cap) sc (.ListComp elt' [⟨tg',iter,ifs,as⟩] scope pos)=(decide (as=0) && scB sc scope && tgB N scope tg tg' && jx sc ik tg' iter && cB T N ms sc (jX ik iter) &&
   (match hc,ifs with | true,[c']=>okE T N c scope c' | false,[]=>true | _,_=>false) && okE T N elt scope elt' && decide (cap=cU N scope)):=rfl
theorem vA:cB T N [] sc es=es.isEmpty:=rfl
theorem Ou:cB T N (a::ms) sc []=false:=rfl
theorem eY:cB T N (a::ms) sc (x::es)=(okE T N a sc x && cB T N ms sc es):=rfl
end
end Mi
namespace Mi
open PySem L2
open PyProof.Rows hiding St
def Vs (g:G) (ρ:En) (σ:St) (Hs:Hp) (U:zi):Prop:=ρ.length=σ.length/\∀ i∈U,∀ d,ρ[i]?=some (some d)->∃ v,σ[i]?=some (some v)/\Rp g Hs d v
section
variable {g:G}{ρ:En}{σ:St}{Hs Hs':Hp}{U U':zi}
theorem Vs.mono (h:Vs g ρ σ Hs U) (m:Same Hs Hs'):Vs g ρ σ Hs' U:=⟨h.1,fun i hi d e=>let ⟨v,a,r⟩:=h.2 i hi d e;⟨v,a,r.mono m⟩⟩
theorem Vs.sub (h:Vs g ρ σ Hs U) (hs:∀ i∈U',i∈U):Vs g ρ σ Hs U':=⟨h.1,fun i hi d e=>h.2 i (hs i hi) d e⟩
theorem Vs.l (h:Vs g ρ σ Hs (U++U')):Vs g ρ σ Hs U:=h.sub fun _ hi=>vj _ hi
theorem Vs.r (h:Vs g ρ σ Hs (U++U')):Vs g ρ σ Hs U':=h.sub fun _ hi=>vk _ hi
end
def tM (X:Cx) (U:zi) (r:En->R D):TE:=fun σ H Q=>∃ ρ Hs d,Same Hs H/\Vs (gOf X) ρ σ Hs U/\r ρ=.ok d/\XD X H Hs Q d
def XDs (X:Cx) (H Hs:Hp) (Q:List V->Hp->Prop) (ds:List D):Prop:=∀ vs H' Hs',Grow H Hs H' Hs'->Rps (gOf X) Hs' ds vs->Q vs H'
def tMs (X:Cx) (U:zi) (r:En->R (List D)):TA:=fun σ H Q=>∃ ρ Hs ds,Same Hs H/\Vs (gOf X) ρ σ Hs U/\r ρ=.ok ds/\XDs X H Hs Q ds
def tMT (X:Cx) (U:zi) (r:En->R D):TT:=fun σ H Q=>∃ ρ Hs b,Same Hs H/\Vs (gOf X) ρ σ Hs U/\r ρ=.ok (.bl b)/\∀ H' Hs',Grow H Hs H' Hs'->Q b H'
section
variable {X:Cx}{σ:St}{H Hs:Hp}{Q:VK}{U Ua Ub Uc:zi}{r ra rb rc:En->R D}
def HX {rr:R2}{op:D->D->R D} (o:Op2 X rr op):tM X (Ua++Ub) (fun ρ=>do let x <- ra ρ;let y <- rb ρ;op x y) σ H Q->tOp rr (tM X Ua ra) (tM X Ub rb) σ H Q:=by
 rintro ⟨ρ,Hs,z,hs,hv,h,k⟩;obtain ⟨x,hx,h⟩:=aj h;obtain ⟨y,hy,h⟩:=aj h;refine ⟨ρ,Hs,x,hs,hv.l,hx,fun v H1 Hs1 g1 r1=>?_⟩;refine ⟨ρ,Hs1,y,g1.sub,hv.r.mono (g1.same hs),hy,fun u H2 Hs2 g2 r2=>?_⟩;exact o v u x y z H2 Hs2 Q g2.sub (r1.mono (g2.same g1.sub)) r2 h (k.grow (g1.trans g2))
def Ei {Q:Bool->Hp->Prop}:tMT X U r σ H Q->tM X U r σ H fun x H1=>∃ c,x=.bl c/\Q c H1:=by
 rintro ⟨ρ,Hs,b,hs,hv,h,k⟩;exact ⟨ρ,Hs,.bl b,hs,hv,h,fun v H1 Hs1 g1 r1=>⟨b,mW.mp r1,k H1 Hs1 g1⟩⟩
end
structure ScRel (sc:Scope) (X:Cx):Prop where
 glb:∀ x,dZ sc x=true->Gl X x
 vis:∀ x,jO sc x=true->Vis X.env.scope x
 cf:∀ x,sc.names.lookup x=some .cell\/sc.names.lookup x=some .free->X.env.scope.names.lookup x=some .cell\/X.env.scope.names.lookup x=some .free
 own:∀ x,mq sc x=true->L2.Loc X.env.scope x/\(X.fn x=true\/X.env.scope.names.lookup x=some .local)
def spD (g:G) (c:List D->R D) (np:Nat):Sp:=fun vs H Q _=>∃ ds Hs d,vs.length=np/\Same Hs H/\Rps g Hs ds vs/\c ds=.ok d/\∀ v H' Hs',Grow H Hs H' Hs'->Rp g Hs' d v->Q v H'
def GlV:D->Option Value->Prop
 | .int i,o=>∃ t,o=some (.int i t)
 | .str z,o=>∃ t,o=some (.str z t)
 | _,_=>False
structure Cok (T:Tx) (cl:Nat->List D->R D) (X:Cx):Prop where
 calm:X.calm=true
 nd:X.N.Nodup
 un:X.A.units+100 < cLine
 blt:∀ f∈nH,X.mg f=none
 gl:∀ x d,T.gl.lookup x=some d->GlV d (X.mg x)
 fns:∀ f x,T.F[f]?=some x->∃ k a fd ps,FnOk X.prog X.w X.K X.mg X.base CX0 k a fd ps (spD (gOf X) (cl f) ps.length)/\Room k X.A/\X.mg x=some (.ref a)/\PySem.W.keepIn X.K (.ref a)=true/\Binds X.K fd ps []/\∀ ds d,cl f ds=.ok d->ds.length=ps.length
variable {cl:Nat->List D->R D}{X:Cx}
theorem Cok.blk {T:Tx} (C:Cok T cl X) (scope:Scope) (s:Shared) (H:Hp) (fp:List Addr) (xe:zb):Cok T cl (dg X scope s H fp xe) :=
 ⟨C.calm,C.nd,C.un,C.blt,C.gl,C.fns⟩
variable {sc scope:Scope}
def JM (h:scB sc scope=true) (S:ScRel sc X):ScOk X.env.scope scope:=by
 unfold scB at h;simp only [Bool.and_eq_true,decide_eq_true_eq,List.all_eq_true,Bool.or_eq_true] at h;refine ⟨h.1.1,h.1.2,fun x hx=>?_⟩;have:=h.2 (x,.free) (jw hx);rcases this with (q | q) | q
 .exact absurd rfl q
 .exact S.cf x (.inl q)
 .exact S.cf x (.inr q)
variable {x:Str}
def vN (h:jO sc x=true):Vis sc x:=by
 unfold jO at h;unfold Vis;split at h <;> simp_all
def nC (h:mq sc x=true):L2.Loc sc x:=by
 unfold mq at h;unfold L2.Loc;split at h <;> simp_all
def vM (h:dZ sc x=true):sc.names.lookup x=some .globalImplicit:=by
 unfold dZ at h;split at h <;> simp_all
def FW {s:Shared}{H:Hp}{fp:List Addr}{xe:zb} (S:ScRel sc X):ScRel scope (dg X scope s H fp xe):=by
 have look:∀ x,(dg X scope s H fp xe).env.scope.names.lookup x=(scope.names.lookup x).map fun k=>if (k == NameKind.free && X.env.scope.kind == .function && X.env.kindOf x == some .cell) then NameKind.cell else k:=fun x=>rY scope X.env x
 refine ⟨fun x h=>?_,fun x h=>?_,fun x h=>?_,fun x h=>?_⟩
 .show (dg X scope s H fp xe).env.scope.names.lookup x=_
  rw [look,vM h];rfl
 .unfold Vis;rw [look];rcases vN h with e | e | e <;> rw [e]
  .exact .inl rfl
  .exact .inr (.inl rfl)
  .simp only [Option.map_some];split
   .exact .inr (.inl rfl)
   .exact .inr (.inr rfl)
 .rw [look];rcases h with e | e <;> rw [e]
  .exact .inl rfl
  .simp only [Option.map_some];split
   .exact .inl rfl
   .exact .inr rfl
 .unfold L2.Loc;rw [look];rcases nC h with e | e <;> rw [e]
  .exact ⟨.inl rfl,.inr rfl⟩
  .exact ⟨.inr rfl,.inl (by show decide (scope.names.lookup x=some .cell)=true;rw [e];rfl)⟩
variable {e:Expr}
def aC {es:zl}{env:Env} (h:noStar e=true):starEach (e::es) env=(false,eval e env)::starEach es env:=by
 cases e <;> first | rfl | cases h
theorem iu {env:Env}{pos:Pos}:∀ {es:zl},es.all noStar=true->(backTo pos (starEach es env)).any (·.1)=false
 | [],_=>rfl
 | e::es,h=>by
  simp only [List.all_cons,Bool.and_eq_true] at h;rw [aC h.1];show (false || (backTo pos (starEach es env)).any (·.1))=false
  rw [iu h.2];rfl
variable {i f:Nat}{d:D}{p:Pos}{bs:List Bool}
section
variable {X:Cx}{σ:St}{H Hs:Hp}{Q:VK}{U Ua Ub Uc:zi}{r ra rb rc:En->R D}{e:Expr}{es:zl}{rs:En->R (List D)}
theorem Zo:PA X [] (tMs X [] fun _=>.ok []):=Ui jg fun σ H Q=>by
 rintro ⟨ρ,Hs,ds,hs,hv,h,k⟩;cases h;exact k [] H Hs (Grow.refl hs) .nil
theorem Wb (ha:PE X e (tM X Ua ra)) (hr:PA X es (tMs X Ub rs)) (hn:noStar e=true):PA X (e::es) (tMs X (Ua++Ub) fun ρ=>do let d <- ra ρ;let ds <- rs ρ;.ok (d::ds)) :=
 Ui (fG ha hr (aC hn)) fun σ H Q=>by
  rintro ⟨ρ,Hs,zs,hs,hv,h,k⟩;obtain ⟨x,hx,h⟩:=aj h;obtain ⟨ys,hy,h⟩:=aj h;cases h;refine ⟨ρ,Hs,x,hs,hv.l,hx,fun v H1 Hs1 g1 r1=>?_⟩;refine ⟨ρ,Hs1,ys,g1.sub,hv.r.mono (g1.same hs),hy,fun us H2 Hs2 g2 r2=>?_⟩;exact k (v::us) H2 Hs2 (g1.trans g2) (Rps.cons (r1.mono (g2.same g1.sub)) r2)
variable {pos:Pos}
def Ik (hN:X.N[i]?=some x) (hv:Vis X.env.scope x) (ho:aK x=true):PE X (.Name x pos) (tM X [i] fun ρ=>eZ ρ i):=by
 unfold aK at ho;simp only [Bool.and_eq_true,Bool.not_eq_true'] at ho;refine bG (jW hN hv ho.1.1 ho.1.2) fun σ H Q=>?_
 rintro ⟨ρ,Hs,d,hs,hv,h,k⟩;dsimp only [eZ] at h;split at h
 .cases h;rename_i e;obtain ⟨v,ev,rv⟩:=hv.2 i (yY.mpr rfl) d e;exact ⟨v,ev,k.here hs rv⟩
 .cases h
theorem aaO {c:Const}{j:Nat} (h:V2 d c=true):PE X (.Constant c j pos) (tM X [] fun _=>.ok d):=by
 cases d <;> cases c <;> simp only [V2] at h <;> try (cases h;done)
 .refine bG abO fun σ H Q=>?_
  rintro ⟨ρ,Hs,d,hs,hv,h,k⟩;cases h;exact k.non hs
 .simp only [decide_eq_true_eq] at h;subst h;refine bG acL fun σ H Q=>?_
  rintro ⟨ρ,Hs,d,hs,hv,h,k⟩;cases h;exact k.bl hs
 .simp only [decide_eq_true_eq] at h;subst h;refine bG abQ fun σ H Q=>?_
  rintro ⟨ρ,Hs,d,hs,hv,h,k⟩;cases h;exact k.int hs
 .simp only [decide_eq_true_eq] at h;subst h;refine bG Kq fun σ H Q=>?_
  rintro ⟨ρ,Hs,d,hs,hv,h,k⟩;cases h;exact k.here hs (KH.mpr rfl)
theorem YQ {T:Tx} (C:Cok T cl X) (hg:Gl X x) (ho:aK x=true) (h:T.gl.lookup x=some d):PE X (.Name x pos) (tM X [] fun _=>.ok d):=by
 unfold aK at ho;simp only [Bool.and_eq_true,Bool.not_eq_true'] at ho;have g:=C.gl x d h;cases d <;> try exact g.elim
 .obtain ⟨t,e⟩:=g;refine bG (Ed hg e (v:=.int _) ⟨t,rfl⟩ ho.1.1) fun σ H Q=>?_
  rintro ⟨ρ,Hs,d,hs,hv,h,k⟩;cases h;exact k.int hs
 .obtain ⟨t,e⟩:=g;refine bG (Ed hg e (v:=.str _) ⟨t,rfl⟩ ho.1.1) fun σ H Q=>?_
  rintro ⟨ρ,Hs,d,hs,hv,h,k⟩;cases h;exact k.here hs (KH.mpr rfl)
theorem aaT {k:Nat} (h:PA X es (tMs X U rs)):PE X (.Tuple es k pos) (tM X U fun ρ=>do let ds <- rs ρ;if ds.length<=lim then .ok (.tup ds) else .stuck) :=
 bG (abI h) fun σ H Q=>by
  rintro ⟨ρ,Hs,d,hs,hv,h,k⟩;obtain ⟨ds,hd,h⟩:=aj h;obtain ⟨hl,h⟩:=dH h;cases h;refine ⟨ρ,Hs,ds,hs,hv,hd,fun vs H1 Hs1 g1 r1=>⟨?_,(k.grow g1).newT g1.sub r1⟩⟩;rw [<- r1.length];exact vF hl jt
theorem abB (h:PA X es (tMs X U rs)):PE X (.List es pos) (tM X U fun ρ=>do let ds <- rs ρ;if ds.length<=lim then .ok (.lst ds) else .stuck) :=
 bG (uW h) fun σ H Q=>by
  rintro ⟨ρ,Hs,d,hs,hv,h,k⟩;obtain ⟨ds,hd,h⟩:=aj h;obtain ⟨hl,h⟩:=dH h;cases h;refine ⟨ρ,Hs,ds,hs,hv,hd,fun vs H1 Hs1 g1 r1=>⟨?_,(k.grow g1).newL g1.sub r1⟩⟩;rw [<- r1.length];exact vF hl jt
theorem XD.newD (k:XD X H Hs Q (.dct [] [])) (hs:Same Hs H):∀ p,H p=none->Q (.ref p) (upd H p (.ext (DAt (gOf X) p [] [] 0))):=fun p hp =>
 k _ _ _ (Grow.new (o:=.ext (DAt (gOf X) p [] [] 0)) hs hp) (u9.mpr ⟨p,[],[],0,rfl,aA,rfl,Rps.nil,Rps.nil⟩)
theorem aag:PE X (.Dict [] [] pos) (tM X [] fun _=>.ok (.dct [] [])):=bG Oz fun σ H Q=>by
 rintro ⟨ρ,Hs,d,hs,hv,h,k⟩;cases h;exact k.newD hs
variable {a b c:Expr}
theorem aa6 (o:BO) (ha:PE X a (tM X Ua ra)) (hb:PE X b (tM X Ub rb)):PE X (.BinOp a (Vr o) b pos) (tM X (Ua++Ub) fun ρ=>do let x <- ra ρ;let y <- rb ρ;ji o x y) :=
 bG (Xw (aan o) ha hb) fun σ H Q h=>HX (ZQ o) h
def Bm {p:CmpOp} (h:gw b=true):behindInMarks p b=false:=by cases b <;> first | rfl | cases h
theorem abY (hu:X.A.units+100 < cLine) (o:CO) (ha:PE X a (tM X Ua ra)) (hb:PE X b (tM X Ub rb)) (hn:gw b=true) :
  PE X (.Compare a [uf o] [b] pos) (tM X (Ua++Ub) fun ρ=>do let x <- ra ρ;let y <- rb ρ;let r <- aY o x y;.ok (.bl r)) :=
 bG (Y4 (uX hu o) ha hb (Bm hn)) fun σ H Q h=>HX (zm o) h
theorem aaA (hu:X.A.units+100 < cLine) (o:CO) (ha:PE X a (tM X Ua ra)) (hb:PE X b (tM X Ub rb)) (hn:gw b=true) :
  PT X (.Compare a [uf o] [b] pos) (tMT X (Ua++Ub) fun ρ=>do let x <- ra ρ;let y <- rb ρ;let r <- aY o x y;.ok (.bl r)) :=
 Dj (Z5 (uX hu o) ha hb (Bm hn)) fun σ H Q h=>HX (zm o) (Ei h)
def Jc (o o':CO):tM X (Ua++(Ub++Uc)) (fun ρ=>do let x <- ra ρ;let y <- rb ρ;let r <- aY o x y;if r then do let z <- rc ρ;let r2 <- aY o' y z;.ok (.bl r2) else .ok (.bl false)) σ H Q ->
  Kz (Q5 X o) (Q5 X o') (tM X Ua ra) (tM X Ub rb) (tM X Uc rc) σ H Q:=by
 rintro ⟨ρ,Hs,z,hs,hv,h,k⟩;obtain ⟨x,hx,h⟩:=aj h;obtain ⟨y,hy,h⟩:=aj h;obtain ⟨t,ht,h⟩:=aj h;refine ⟨ρ,Hs,x,hs,hv.l,hx,fun v H1 Hs1 g1 r1=>?_⟩;refine ⟨ρ,Hs1,y,g1.sub,hv.r.l.mono (g1.same hs),hy,fun u H2 Hs2 g2 r2=>?_⟩;have hv2:=hv.r.r.mono ((g1.trans g2).same hs);refine zm o v u x y (.bl t) H2 Hs2 _ g2.sub (r1.mono (g2.same g1.sub)) r2 (by show (aY o x y >>= fun r=>R.ok (D.bl r))=_;rw [ht];rfl) fun w H3 Hs3 g3 r3=>⟨t,mW.mp r3,?_⟩
 have k3:=(k.grow (g1.trans g2)).grow g3;cases t with
 | false=>rw [if_neg (by decide)];rw [if_neg (by decide)] at h;cases h;exact k3.bl g3.sub
 | true =>
  rw [if_pos rfl];rw [if_pos rfl] at h;obtain ⟨zc,hc,h⟩:=aj h;refine ⟨ρ,Hs3,zc,g3.sub,hv2.mono (g3.same g2.sub),hc,fun q H4 Hs4 g4 r4=>?_⟩;exact zm o' u q y zc z H4 Hs4 Q g4.sub (r2.mono ((g3.trans g4).same g2.sub)) r4 h (k3.grow g4)
def Nz {p p':CmpOp} (h:gw c=true):lastMarks [p,p'] [b,c]=false:=by
 show behindInMarks p' c=false
 exact Bm h
theorem Xi (hu:X.A.units+100 < cLine) (o o':CO) (ha:PE X a (tM X Ua ra)) (hb:PE X b (tM X Ub rb)) (hc:PE X c (tM X Uc rc)) (hn:gw c=true) :
  PE X (.Compare a [uf o,uf o'] [b,c] pos) (tM X (Ua++(Ub++Uc)) fun ρ=>do let x <- ra ρ;let y <- rb ρ;let r <- aY o x y;if r then do let z <- rc ρ;let r2 <- aY o' y z;.ok (.bl r2) else .ok (.bl false)) :=
 bG (WQ (uX hu o) (uX hu o') ha hb hc (Nz hn)) fun σ H Q h=>Jc o o' h
theorem W4 (hu:X.A.units+100 < cLine) (o o':CO) (ha:PE X a (tM X Ua ra)) (hb:PE X b (tM X Ub rb)) (hc:PE X c (tM X Uc rc)) (hn:gw c=true) :
  PT X (.Compare a [uf o,uf o'] [b,c] pos) (tMT X (Ua++(Ub++Uc)) fun ρ=>do let x <- ra ρ;let y <- rb ρ;let r <- aY o x y;if r then do let z <- rc ρ;let r2 <- aY o' y z;.ok (.bl r2) else .ok (.bl false)) :=
 Dj (Xa (uX hu o) (uX hu o') ha hb hc (Nz hn)) fun σ H Q h=>Jc o o' (Ei h)
theorem aas (ha:PE X a (tM X Ua ra)):PE X (.UnaryOp .Not a pos) (tM X Ua fun ρ=>do let x <- ra ρ;let t <- cV x;.ok (.bl (!t))) :=
 bG (aaR ha) fun σ H Q=>by
  rintro ⟨ρ,Hs,z,hs,hv,h,k⟩;obtain ⟨x,hx,h⟩:=aj h;obtain ⟨t,ht,h⟩:=aj h;cases h;cases x <;> simp only [cV] at ht <;> try (cases ht;done)
  cases ht;exact ⟨ρ,Hs,_,hs,hv,hx,fun v H1 Hs1 g1 r1=>⟨t,mW.mp r1,(k.grow g1).bl g1.sub⟩⟩
def fZ {t:Bool} (h:cV d=.ok t):d=.bl t:=by
 cases d <;> simp only [cV] at h <;> first | (cases h;rfl) | cases h
theorem abw (ha:PT X a (tMT X Ua ra)):PT X (.UnaryOp .Not a pos) (tMT X Ua fun ρ=>do let x <- ra ρ;let t <- cV x;.ok (.bl (!t))) :=
 Dj (Rq ha) fun σ H Q=>by
  rintro ⟨ρ,Hs,z,hs,hv,h,k⟩;obtain ⟨x,hx,h1⟩:=aj h;obtain ⟨t,ht,h2⟩:=aj h1;clear h h1;cases fZ ht;cases h2;exact ⟨ρ,Hs,t,hs,hv,hx,k⟩
theorem abb (ha:PE X a (tM X Ua ra)):PE X (.UnaryOp .USub a pos) (tM X Ua fun ρ=>do let x <- ra ρ;(match x with | .int i=>.ok (.int (-i)) | _=>.stuck)) :=
 bG (acg abm ha) fun σ H Q=>by
  rintro ⟨ρ,Hs,z,hs,hv,h,k⟩;obtain ⟨x,hx,h⟩:=aj h;cases x <;> simp only at h <;> try (cases h;done)
  cases h;exact ⟨ρ,Hs,_,hs,hv,hx,fun v H1 Hs1 g1 r1=>⟨_,bB.mp r1,(k.grow g1).int g1.sub⟩⟩
def V1 (h:jV b=true):Oj b:=by
 intro o i;cases b <;> first | rfl | cases h
theorem acK (hu:X.A.units+100 < cLine) (ha:PE X a (tM X Ua ra)) (hb:PE X b (tM X Ub rb)) (hp:jV b=true):PE X (.Subscript a b pos) (tM X (Ua++Ub) fun ρ=>do let x <- ra ρ;let y <- rb ρ;ixD x y) :=
 bG (ab4 (ac3 hu) ha hb (V1 hp)) fun σ H Q h=>HX aaF h
def Y0 {ap cp:Pos}{f:Expr}{Ue Uf:zi}{re rf:En->R D} (hu:X.A.units+100 < cLine) (hN:X.N[i]?=some x) (hv:Vis X.env.scope x) (ho:aK x=true) (he:PE X e (tM X Ue re)) (hf:PE X f (tM X Uf rf)) (n1:noStar e=true) (n2:noStar f=true) (hl:(ap.endLine == cp.line)=true) :
  PE X (.Call (.Attribute (.Name x p) "get" ap) [e,f] [] cp) (tM X ([i] ++ (Ue ++ Uf)) fun ρ=>do let x <- eZ ρ i; let y <- re ρ; let z <- rf ρ; Ab x y z):=by
 have hx:PE X (.Name x p) (tM X [i] fun ρ=>eZ ρ i):=Ik hN hv ho;refine bG (Ld hu hx he hf ⟨rfl,by rw [aC n1,aC n2];rfl,hl,by rw [aC n1,aC n2];rfl⟩) fun σ H Q=>?_
 rintro ⟨ρ,Hs,z,hs,hv,h,k⟩;obtain ⟨dx,hdx,h⟩:=aj h;obtain ⟨dy,hdy,h⟩:=aj h;obtain ⟨dz,hdz,h⟩:=aj h;cases dx <;> try (cases h;done)
 rename_i ks vs;obtain ⟨hk,h⟩:=dH h;cases h;refine ⟨ρ,Hs,_,hs,hv.l,hdx,fun v H1 Hs1 g1 r1=>?_⟩;obtain ⟨a,xs,ys,ep,rfl,ha,e1,r2,r3⟩:=u9.mp r1;subst e1;refine ⟨a,_,xs,ys,rfl,⟨⟨ep,g1.sub _ _ ha⟩,rfl,r2.mono g1.sub⟩,ρ,Hs1,dy,g1.sub,hv.r.l.mono (g1.same hs),hdy,fun u H2 Hs2 g2 q2=>?_⟩;refine ⟨ρ,Hs2,dz,g2.sub,hv.r.r.mono ((g1.trans g2).same hs),hdz,fun w H3 Hs3 g3 q3=>?_⟩;have m:=(g2.trans g3).same g1.sub;have m3:=m.trans g3.sub;refine ⟨dy,_,xs,ys,(q2.mono (g3.same g2.sub)).mono g3.sub,hk,⟨⟨ep,m3 _ _ ha⟩,rfl,r2.mono m3⟩,?_⟩;rcases gets (k:=dy) (xs:=xs) (r3.mono m) with ⟨z',v,j1,j2,j3⟩ | ⟨j1,j2⟩
 .rw [j2,Option.getD_some];rw [j1,Option.getD_some] at k;exact (k.grow ((g1.trans g2).trans g3)).here g3.sub j3
 .rw [j2,Option.getD_none];rw [j1,Option.getD_none] at k;exact (k.grow ((g1.trans g2).trans g3)).here g3.sub q3
def tPo (X:Cx) (U:zi) (r:En->R (Option Int)):TO:=fun σ H Q=>∃ ρ Hs o,Same Hs H/\Vs (gOf X) ρ σ Hs U/\r ρ=.ok o/\∀ H' Hs',Grow H Hs H' Hs'->Q o H'
theorem Td {e:Option Expr}{t t':TO} (h:PO X e t) (i:∀ σ H Q,t' σ H Q->t σ H Q):PO X e t':=fun pins s σ H Q I hq=>h pins s σ H Q I (i σ H Q hq)
theorem adl:PO X none (tPo X U fun _=>.ok none):=Td ZR fun σ H Q=>by
 rintro ⟨ρ,Hs,z,hs,hv,h,k⟩;cases h;exact k H Hs (Grow.refl hs)
theorem ade (ha:PE X a (tM X U ra)):PO X (some a) (tPo X U fun ρ=>do let d <- ra ρ;ou d):=Td (YF ha) fun σ H Q=>by
 rintro ⟨ρ,Hs,z,hs,hv,h,k⟩;obtain ⟨x,hx,h⟩:=aj h;cases x <;> simp only [ou] at h <;> try (cases h;done)
 cases h;exact ⟨ρ,Hs,_,hs,hv,hx,fun v H1 Hs1 g1 r1=>⟨_,bB.mp r1,k H1 Hs1 g1⟩⟩
theorem aaw {lo hi:Option Expr}{rl rh:En->R (Option Int)}{p2:Pos} (ha:PE X a (tM X Ua ra)) (hl:PO X lo (tPo X Ub rl)) (hh:PO X hi (tPo X Uc rh)) :
  PE X (.Subscript a (.Slice lo hi none p2) pos) (tM X (Ua++(Ub++Uc)) fun ρ=>do let x <- ra ρ;let l <- rl ρ;let h <- rh ρ;slD x l h) :=
 bG (VP adv ha hl hh) fun σ H Q=>by
  rintro ⟨ρ,Hs,z,hs,hv,h,k⟩;obtain ⟨x,hx,h⟩:=aj h;obtain ⟨l,h1,h⟩:=aj h;obtain ⟨u,h2,h⟩:=aj h;refine ⟨ρ,Hs,x,hs,hv.l,hx,fun v H1 Hs1 g1 r1=>?_⟩;refine ⟨ρ,Hs1,l,g1.sub,hv.r.l.mono (g1.same hs),h1,fun H2 Hs2 g2=>?_⟩;refine ⟨ρ,Hs2,u,g2.sub,hv.r.r.mono ((g1.trans g2).same hs),h2,fun H3 Hs3 g3=>?_⟩;exact Xq g3.sub (r1.mono ((g2.trans g3).same g1.sub)) h (k.grow ((g1.trans g2).trans g3))
theorem V0 (ha:PE X a (tM X Ua ra)) (he:∀ whole,isTrue a X.env whole=(do let v <- whole;standAt a.pos;holding [v] (truthy v))):PT X a (tMT X Ua ra) :=
 Dj (Tj ha he) fun σ H Q h=>Ei h
def Zn {T:Tx} (C:Cok T cl X) (hg:Gl X x) (ho:aK x=true) (hF:T.F[f]?=some x) (ha:PA X (e::es) (tMs X U rs)) (hn:(e::es).all noStar=true) :
  PE X (.Call (.Name x p) (e::es) [] pos) (tM X U fun ρ=>do let ds <- rs ρ;cl f ds):=by
 unfold aK at ho;simp only [Bool.and_eq_true,Bool.not_eq_true',List.all_cons] at ho hn;obtain ⟨k,a,fd,ps,F,hr,hm,hk,hb,hlen⟩:=C.fns f x hF;refine bG (N5 F hr hg hm hk hb .nil X8 ha ho.1.1 (aC hn.1) (iu hn.2)) fun σ H Q=>?_
 rintro ⟨ρ,Hs,z,hs,hv,h,k⟩;obtain ⟨ds,hd,h⟩:=aj h;refine ⟨ρ,Hs,ds,hs,hv,hd,fun vs H1 Hs1 g1 r1=>?_⟩;show spD (gOf X) (cl f) ps.length (vs++[]) H1 Q E0
 rw [List.append_nil];exact ⟨ds,Hs1,z,by rw [<- r1.length];exact hlen ds z h,g1.sub,r1,h,fun v H2 Hs2 g2 r2=>k v H2 Hs2 (g1.trans g2) r2⟩
def Wc {T:Tx} (C:Cok T cl X) (hg:Gl X x) (ho:aK x=true) (hF:T.F[f]?=some x) :
  PE X (.Call (.Name x p) [] [] pos) (tM X [] fun ρ=>cl f []):=by
 unfold aK at ho;simp only [Bool.and_eq_true,Bool.not_eq_true'] at ho;obtain ⟨k,a,fd,ps,F,hr,hm,hk,hb,hlen⟩:=C.fns f x hF;refine bG (Wg F hr hg hm hk hb .nil X8 ho.1.1) fun σ H Q=>?_
 rintro ⟨ρ,Hs,z,hs,hv,h,k⟩;exact ⟨[],Hs,z,hlen [] z h,hs,Rps.nil,h,fun v H2 Hs2 g2 r2=>k v H2 Hs2 g2 r2⟩
noncomputable def El:BI->Bool
 | .listEnum=>false | _=>true
def WK (X:Cx):BI->List V->Hp->VK->Prop
 | .len=>fun xs H Q=>∃ p ys,xs=[.ref p]/\(SqL X.K H p ys\/SqT X.K H p ys)/\Q (.int ys.length) H
 | .int=>fun xs H Q=>∃ b,xs=[.bl b]/\Q (.int (if b=true then 1 else 0)) H
 | .min2=>fun xs H Q=>∃ i j,xs=[.int i,.int j]/\Q (.int (if j < i then j else i)) H
 | .all=>abU X
 | .any=>abt X
 | .sorted=>N7 X
 | .list=>fun xs H Q=>∃ p ys,xs=[.ref p]/\(SqL X.K H p ys\/SqT X.K H p ys)/\∀ l,H l=none->Q (.ref l) (upd H l (.lst ys))
 | .tuple=>fun xs H Q=>∃ p ys,xs=[.ref p]/\((SqL X.K H p ys/\∀ l,H l=none->Q (.ref l) (upd H l (.tup ys)))\/(SqT X.K H p ys/\Q (.ref p) H))
 | .listEnum=>fun _ _ _=>False
theorem Bw {g:G}{Hs:Hp}:∀ {ds:List D}{xs:List V}{bs:List Bool},Rps g Hs ds xs->boolsOf ds=some bs->xs=bs.map V.bl
 | [],xs,bs,r,h=>by
  simp only [boolsOf] at h;cases h;exact r.nil_inv
 | d::ds,xs,bs,r,h=>by
  obtain ⟨v,ws,rfl,r1,r2⟩:=r.cons_inv;cases d <;> simp only [boolsOf] at h <;> try (cases h;done)
  cases e:boolsOf ds with
  | none=>rw [e] at h;cases h
  | some cs =>
   rw [e] at h;cases h;rw [Bw r2 e,mW.mp r1];rfl
def Vf {es:List D} (e:boolsOf es=none):je .all [.lst es]=.stuck:=by
 show (match boolsOf es with | some bs=>R.ok (D.bl (bs.all id)) | none=>.stuck)=_
 rw [e]
def Jj {es:List D} (e:boolsOf es=some bs):je .all [.lst es]=.ok (.bl (bs.all id)):=by
 show (match boolsOf es with | some bs=>R.ok (D.bl (bs.all id)) | none=>.stuck)=_
 rw [e]
def Xl {es:List D} (e:boolsOf es=none):je .any [.lst es]=.stuck:=by
 show (match boolsOf es with | some bs=>R.ok (D.bl (bs.any id)) | none=>.stuck)=_
 rw [e]
def Jg {es:List D} (e:boolsOf es=some bs):je .any [.lst es]=.ok (.bl (bs.any id)):=by
 show (match boolsOf es with | some bs=>R.ok (D.bl (bs.any id)) | none=>.stuck)=_
 rw [e]
def U9 (b:BI) {ds:List D}{vs:List V}{z:D} (hs:Same Hs H) (r:Rps (gOf X) Hs ds vs) (h:je b ds=.ok z) (k:XD X H Hs Q z) (hb:El b=true):WK X b vs H Q:=by
 have one:∀ {d:D},Rps (gOf X) Hs [d] vs->∃ v,vs=[v]/\Rp (gOf X) Hs d v:=fun r=>by
  obtain ⟨v,ws,rfl,r1,r2⟩:=r.cons_inv;cases r2.nil_inv;exact ⟨v,rfl,r1⟩
 have two:∀ {d e:D},Rps (gOf X) Hs [d,e] vs->∃ v w,vs=[v,w]/\Rp (gOf X) Hs d v/\Rp (gOf X) Hs e w:=fun r=>by
  obtain ⟨v,ws,rfl,r1,r2⟩:=r.cons_inv;obtain ⟨w,ws,rfl,r3,r4⟩:=r2.cons_inv;cases r4.nil_inv;exact ⟨v,w,rfl,r1,r3⟩
 rcases ds with _ | ⟨d,_ | ⟨e,_ | ⟨f,fs⟩⟩⟩
 .cases b <;> cases h
 .obtain ⟨v,rfl,r1⟩:=one r;cases b
  case listEnum=>cases hb
  all_goals dsimp only [WK]
  case min2=>cases d <;> cases h
  case int =>
   cases d <;> try (cases h;done)
   case bl b =>
    cases h;exact ⟨b,by rw [mW.mp r1],k.int hs⟩
  case len =>
   cases d <;> try (cases h;done)
   .obtain ⟨a,xs,rfl,s1,r2⟩:=fB.mp r1;cases h;exact ⟨a,xs,rfl,.inr (aR hs s1),by rw [<- r2.length];exact k.int hs⟩
   .obtain ⟨a,xs,rfl,s1,r2⟩:=cN.mp r1;cases h;exact ⟨a,xs,rfl,.inl (bD hs s1),by rw [<- r2.length];exact k.int hs⟩
  case all =>
   cases d <;> try (cases h;done)
   rename_i es;cases e:boolsOf es with
   | none=>rw [Vf e] at h;cases h
   | some bs =>
    rw [Jj e] at h;cases h;obtain ⟨a,xs,rfl,s1,r2⟩:=cN.mp r1;cases Bw r2 e;exact ⟨a,bs,rfl,bD hs s1,k.bl hs⟩
  case any =>
   cases d <;> try (cases h;done)
   rename_i es;cases e:boolsOf es with
   | none=>rw [Xl e] at h;cases h
   | some bs =>
    rw [Jg e] at h;cases h;obtain ⟨a,xs,rfl,s1,r2⟩:=cN.mp r1;cases Bw r2 e;exact ⟨a,bs,rfl,bD hs s1,k.bl hs⟩
  case sorted =>
   obtain ⟨es,he,h1⟩:=aj (show (DW d >>= fun ds=>if oU ds then R.ok (.lst (nU ds)) else .stuck)=.ok z from h);clear h;obtain ⟨hs1,h2⟩:=dH h1;clear h1;cases h2;cases d <;> simp only [DW] at he <;> try (cases he;done)
   .cases he;obtain ⟨a,xs,rfl,s1,r2⟩:=fB.mp r1;exact ⟨a,es,xs,rfl,⟨r2.mono hs,.inr (.inl (aR hs s1))⟩,vV hs1,fun S ys hS rS=>k.newL hs (rS Hs r2) S hS⟩
   .cases he;obtain ⟨a,xs,rfl,s1,r2⟩:=cN.mp r1;exact ⟨a,es,xs,rfl,⟨r2.mono hs,.inl (bD hs s1)⟩,vV hs1,fun S ys hS rS=>k.newL hs (rS Hs r2) S hS⟩
   .cases he;obtain ⟨a,xs,ys0,ep,rfl,ha,e1,r2,r3⟩:=u9.mp r1;exact ⟨a,_,_,rfl,⟨r2.mono hs,.inr (.inr ⟨xs,ys0,⟨⟨ep,hs _ _ ha⟩,e1,r2.mono hs⟩,rfl⟩)⟩,vV hs1,fun S ys hS rS=>k.newL hs (rS Hs r2) S hS⟩
  case list =>
   cases d <;> try (cases h;done)
   .cases h;obtain ⟨a,xs,rfl,s1,r2⟩:=fB.mp r1;exact ⟨a,xs,rfl,.inr (aR hs s1),k.newL hs r2⟩
   .cases h;obtain ⟨a,xs,rfl,s1,r2⟩:=cN.mp r1;exact ⟨a,xs,rfl,.inl (bD hs s1),k.newL hs r2⟩
  case tuple =>
   cases d <;> try (cases h;done)
   .cases h;obtain ⟨a,xs,rfl,s1,r2⟩:=fB.mp r1;exact ⟨a,xs,rfl,.inr ⟨aR hs s1,k.here hs r1⟩⟩
   .cases h;obtain ⟨a,xs,rfl,s1,r2⟩:=cN.mp r1;exact ⟨a,xs,rfl,.inl ⟨bD hs s1,k.newT hs r2⟩⟩
 .obtain ⟨v,w,rfl,r1,r2⟩:=two r;cases b
  case listEnum=>cases hb
  case min2 =>
   cases d <;> cases e <;> try (cases h;done)
   cases h;cases bB.mp r1;cases bB.mp r2;exact ⟨_,_,rfl,k.int hs⟩
  all_goals (first | (cases h;done) | (cases d <;> cases h))
 .have e0:je b (d::e::f::fs)=.stuck:=by cases b <;> first | rfl | (cases d <;> first | rfl | (cases e <;> rfl))
  rw [e0] at h;cases h
def Uw:bootBuiltins "any"=some (.builtin "any"):=by decide +kernel
def FN:bootBuiltins "int"=some (.type "int"):=by decide +kernel
def RN:bootBuiltins "str"=some (.type "str"):=by decide +kernel
def Ba:bootBuiltins "tuple"=some (.type "tuple"):=by decide +kernel
def Di:bootBuiltins "list"=some (.type "list"):=by decide +kernel
def aaC {T:Tx} (b:BI)  (C:Cok T cl X) (hx:x=TY b) (hg:Gl X x) (ha:PA X (e::es) (tMs X U rs)) (hn:(e::es).all noStar=true) (hb:El b=true) :
  PE X (.Call (.Name x p) (e::es) [] pos) (tM X U fun ρ=>do let ds <- rs ρ;je b ds):=by
 simp only [List.all_cons,Bool.and_eq_true] at hn;have key:PE X (.Call (.Name x p) (e::es) [] pos) (tCB (WK X b) (tMs X U rs)):=by
  subst hx;cases b
  case listEnum=>cases hb
  case int=>exact yJ Ms hg (C.blt _ (by decide +kernel)) FN ha (by decide +kernel) (by decide +kernel) (aC hn.1) (iu hn.2)
  case len=>exact lC Jf hg (C.blt _ (by decide +kernel)) PySem.boot_len ha (by decide +kernel) (by decide +kernel) (aC hn.1) (iu hn.2)
  case min2=>exact lC (Rw C.calm) hg (C.blt _ (by decide +kernel)) boot_min ha (by decide +kernel) (by decide +kernel) (aC hn.1) (iu hn.2)
  case all=>exact lC (Ut C.calm) hg (C.blt _ (by decide +kernel)) boot_all ha (by decide +kernel) (by decide +kernel) (aC hn.1) (iu hn.2)
  case any=>exact lC (R7 C.calm) hg (C.blt _ (by decide +kernel)) Uw ha (by decide +kernel) (by decide +kernel) (aC hn.1) (iu hn.2)
  case sorted=>exact lC (JZ C.calm C.un) hg (C.blt _ (by decide +kernel)) boot_sorted ha (by decide +kernel) (by decide +kernel) (aC hn.1) (iu hn.2)
  case list=>exact yJ Ls hg (C.blt _ (by decide +kernel)) Di ha (by decide +kernel) (by decide +kernel) (aC hn.1) (iu hn.2)
  case tuple=>exact yJ Ht hg (C.blt _ (by decide +kernel)) Ba ha (by decide +kernel) (by decide +kernel) (aC hn.1) (iu hn.2)
 refine bG key fun σ H Q=>?_
 rintro ⟨ρ,Hs,z,hs,hv,h,k⟩;obtain ⟨ds,hd,h⟩:=aj h;exact ⟨ρ,Hs,ds,hs,hv,hd,fun vs H1 Hs1 g1 r1=>U9 b g1.sub r1 h (k.grow g1) hb⟩
end
end Mi
namespace Mi
open PySem L2
open PyProof.Rows hiding St
variable {g:G}{d:D}{vs zs ys:List V}{p p2 pos2 tpos:Pos}{ds:List D}{els:zl}{x1:Nat}
section
variable {X:Cx}{σ:St}{H Hs:Hp}{Q:VK}{U Ua Ub Uc:zi}{r ra rb rc:En->R D}{e a:Expr}{es:zl}{rs:En->R (List D)}{pos:Pos}{T:Tx}{cl:Nat->List D->R D}
def zu (r:Rps g Hs [d] vs):∃ v,vs=[v]/\Rp g Hs d v:=by
 obtain ⟨v,ws,rfl,r1,r2⟩:=r.cons_inv;cases r2.nil_inv;exact ⟨v,rfl,r1⟩
def Fg {e:D} (r:Rps g Hs [d,e] vs):∃ v w,vs=[v,w]/\Rp g Hs d v/\Rp g Hs e w:=by
 obtain ⟨v,ws,rfl,r1,r2⟩:=r.cons_inv;obtain ⟨w,ws,rfl,r3,r4⟩:=r2.cons_inv;cases r4.nil_inv;exact ⟨v,w,rfl,r1,r3⟩
def Qg:bootBuiltins "bool"=some (.type "bool"):=by decide +kernel
def acT (C:Cok T cl X) (t:Ty) (hg:Gl X t.nm):PE X (.Name t.nm p) (tC (.ty t.name)):=by
 cases t
 .exact rE hg (C.blt _ (by decide +kernel)) FN rfl (by decide +kernel) (by decide +kernel)
 .exact rE hg (C.blt _ (by decide +kernel)) Qg rfl (by decide +kernel) (by decide +kernel)
 .exact rE hg (C.blt _ (by decide +kernel)) RN rfl (by decide +kernel) (by decide +kernel)
 .exact rE hg (C.blt _ (by decide +kernel)) Ba rfl (by decide +kernel) (by decide +kernel)
 .exact rE hg (C.blt _ (by decide +kernel)) Di rfl (by decide +kernel) (by decide +kernel)
def Z7 (C:Cok T cl X) (t:Ty) (hg:Gl X "isinstance") (hg2:Gl X t.nm) (ha:PE X a (tM X U ra)) (hn:noStar a=true) :
  PE X (.Call (.Name "isinstance" p) [a,.Name t.nm p2] [] pos) (tM X U fun ρ=>do let x <- ra ρ; .ok (.bl (iB x t))):=by
 refine bG (lC S5 hg (C.blt _ (by decide +kernel)) boot_isinstance (fG ha (fG (acT C t hg2) jg (aC rfl)) (aC hn)) (by decide +kernel) (by decide +kernel) (aC hn) rfl) fun σ H Q=>?_
 rintro ⟨ρ,Hs,z,hs,hv,h,k⟩;obtain ⟨x,hx,h1⟩:=aj h;clear h;cases h1;exact ⟨ρ,Hs,x,hs,hv,hx,fun v H1 Hs1 g1 r1=>⟨x,v,t,rfl,r1.mono g1.sub,(k.grow g1).bl g1.sub⟩⟩
theorem GX {g:G}{Hs1 Hs':Hp} (m:Same Hs1 Hs'):∀ (n:Nat) {ds:List D}{xs:List V}{ps:List Addr},Rps g Hs1 ds xs->ps.length=xs.length ->
  (∀ (j:Nat) p x,ps[j]?=some p->xs[j]?=some x->Hs' p=some (.tup [.int ((n+j:Nat):Int),x]))->Rps g Hs' (aU n ds) (ps.map V.ref)
 | n,[],xs,ps,r,hl,h=>by
  cases r.nil_inv;cases ps with
  | nil=>exact Rps.nil
  | cons _ _=>simp at hl
 | n,d::ds,xs,ps,r,hl,h=>by
  obtain ⟨v,ws,rfl,r1,r2⟩:=r.cons_inv;cases ps with
  | nil=>simp at hl
  | cons p ps =>
   have h0:=h 0 p v rfl rfl;refine Rps.cons (fB.mpr ⟨p,_,rfl,SqT.of h0,Rps.cons (bB.mpr (by simp)) (Rps.one (r1.mono m))⟩) (GX m (n+1) r2 (by simpa using hl) fun j q x e1 e2=>?_);have:=h (j+1) q x (by simpa using e1) (by simpa using e2);rw [this,show n+(j+1)=n+1+j by omega]
def M5 (C:Cok T cl X) (hg:Gl X "enumerate") (hg2:Gl X "list") (ha:PA X [a] (tMs X U rs)) (hn:noStar a=true) :
  PE X (.Call (.Name "list" p) [.Call (.Name "enumerate" p2) [a] [] pos2] [] pos) (tM X U fun ρ=>do let ds <- rs ρ; je .listEnum ds):=by
 refine bG (Nh C.calm hg (C.blt _ (by decide +kernel)) hg2 (C.blt _ (by decide +kernel)) ha (aC hn)) fun σ H Q=>?_
 rintro ⟨ρ,Hs,z,hs,hv,h,k⟩;obtain ⟨ds,hd,h1⟩:=aj h;clear h;refine ⟨ρ,Hs,ds,hs,hv,hd,fun vs H1 Hs1 g1 r1=>?_⟩;rcases ds with _ | ⟨d,_ | ⟨d2,ds⟩⟩
 .cases h1
 .cases d <;> try (cases h1;done)
  cases h1;obtain ⟨v,rfl,r2⟩:=zu r1;obtain ⟨b,xs,rfl,s1,r3⟩:=fB.mp r2;refine ⟨b,xs,rfl,aR g1.sub s1,fun S H' ps hS hps kp hH' hl ht=>?_⟩
  classical
  let Hs':Hp:=fun b=>if b=S\/b∈ps then H' b else Hs1 b
  have old:∀ c o,H1 c=some o->Hs' c=Hs1 c:=fun c o q=>by
   have:¬ (c=S\/c∈ps):=by
    rintro (rfl | z)
    .rw [hS] at q;cases q
    .rw [hps c z] at q;cases q
   show (if c=S\/c∈ps then H' c else Hs1 c)=_
   rw [if_neg this]
  have g2:Grow H1 Hs1 H' Hs':=⟨kp,old,fun c o q=>by
   by_cases z:c=S\/c∈ps
   .have e:Hs' c=H' c:=if_pos z;rw [e] at q;exact q
   .have e:Hs' c=Hs1 c:=if_neg z;rw [e] at q;exact kp c o (g1.sub c o q)⟩
  have eS:Hs' S=some (.lst (ps.map V.ref)):=by
   have e:Hs' S=H' S:=if_pos (.inl rfl);rw [e];exact hH'
  refine k _ _ _ (g1.trans g2) (cN.mpr ⟨S,_,rfl,SqL.of eS,GX (g2.same g1.sub) 0 r3 hl fun j p x e1 e2=>?_⟩);have hp:p∈ps:=List.mem_of_getElem? e1;have e:Hs' p=H' p:=if_pos (.inr hp);rw [e,ht j p x e1 e2];simp
 .cases d <;> cases h1
def Yo {cl:Nat -> List D -> R D}{i:Nat}{x:Str}{ap:Pos} (C:Cok T cl X) (hgl:Gl X "list") (hN:X.N[i]?=some x) (hv:Vis X.env.scope x) (ho:aK x=true) (hl:(ap.endLine == pos2.line)=true) :
  PE X (.Call (.Name "list" p) [.Call (.Attribute (.Name x p2) "values" ap) [] [] pos2] [] pos) (tM X [i] fun ρ=>do let d <- eZ ρ i; Ia d):=by
 refine bG (M9 C.calm hgl (C.blt _ (by decide +kernel)) (Ik hN hv ho) rfl hl) fun σ H Q=>?_
 rintro ⟨ρ,Hs,z,hs,hv,h,k⟩;obtain ⟨d,hd,h1⟩:=aj h;cases d <;> try (cases h1;done)
 cases h1;refine ⟨ρ,Hs,_,hs,hv,hd,fun v H1 Hs1 g1 r1=>?_⟩;obtain ⟨a,xs,ys,ep,rfl,ha,e1,r2,r3⟩:=u9.mp r1;exact ⟨a,_,xs,ys,rfl,⟨⟨ep,g1.sub _ _ ha⟩,e1,r2.mono g1.sub⟩,(k.grow g1).newL g1.sub r3⟩
structure Src (g:G) (J:It) (Hs:Hp) (ds:List D):Prop where
 go:∀ i H,Same Hs H->i < ds.length->J.go i H
 yld:∀ i H x H' Hs1 d,Same Hs Hs1->Same Hs1 H->ds[i]?=some d->J.yld i H x H'->∃ Hs2,Grow H Hs1 H' Hs2/\Rp g Hs2 d x
 stop:∀ H,Same Hs H->J.stop ds.length H
theorem src_list {a:Addr} (h:SqL X.K Hs a zs) (r:Rps (gOf X) Hs ds zs):Src (gOf X) (Itl X.K a) Hs ds where
 go:=fun i H hs hi=>⟨zs,zs[i]'(by rw [<- r.length];exact hi),bD hs h,by simp⟩
 yld:=fun i H x H' Hs1 d hs1 hs e ⟨e1,y⟩=>by
  subst e1;have e2:=y zs (bD (hs1.trans hs) h);obtain ⟨v,e3,rv⟩:=r.getD e;rw [e2] at e3;cases e3;exact ⟨Hs1,Grow.refl hs,rv.mono hs1⟩
 stop:=fun H hs=>⟨zs,bD hs h,by rw [<- r.length];exact vy _⟩
theorem ZX {a:Addr} (h:SqT X.K Hs a zs) (r:Rps (gOf X) Hs ds zs):Src (gOf X) (Itt X.K a) Hs ds where
 go:=fun i H hs hi=>⟨zs,zs[i]'(by rw [<- r.length];exact hi),aR hs h,by simp⟩
 yld:=fun i H x H' Hs1 d hs1 hs e ⟨e1,y⟩=>by
  subst e1;have e2:=y zs (aR (hs1.trans hs) h);obtain ⟨v,e3,rv⟩:=r.getD e;rw [e2] at e3;cases e3;exact ⟨Hs1,Grow.refl hs,rv.mono hs1⟩
 stop:=fun H hs=>⟨zs,aR hs h,by rw [<- r.length];exact vy _⟩
theorem YX {a:Addr}{ks:List D}{xs:List (D × Addr × Value)}{ep:Nat} (h:Hs a=some (.ext (DAt (gOf X) a xs ys ep))) (e1:ks=xs.map (·.1)) (r:Rps (gOf X) Hs ks (xs.map fun x=>V.ref x.2.1)):Src (gOf X) (Itk (gOf X) a xs ys ep) Hs ks where
 go:=fun i H hs hi=>⟨hs _ _ h,by rw [e1,List.length_map] at hi;exact hi⟩
 yld:=fun i H x H' Hs1 d hs1 hs e ⟨e0,q,eq,ex⟩=>by
  subst e0 ex;obtain ⟨v,e3,rv⟩:=r.getD e;rw [List.getElem?_map,eq] at e3;cases e3;exact ⟨Hs1,Grow.refl hs,rv.mono hs1⟩
 stop:=fun H hs=>⟨hs _ _ h,by rw [e1,List.length_map];exact vy _⟩
def Ny {lo:Int}{n:Nat}:Src (gOf X) (Itr lo n) Hs ((List.range n).map fun (k:Nat)=>D.int (lo+(k:Int))) where
 go:=fun i H hs hi=>by show i < n;simpa using hi
 yld:=fun i H x H' Hs1 d hs1 hs e ⟨e1,y⟩=>by
  subst e1 y;rw [List.getElem?_map] at e;cases q:(List.range n)[i]? with
  | none=>rw [q] at e;cases e
  | some j =>
   rw [q] at e;have:j=i:=by
    have:=yB.mp q;obtain ⟨_,z⟩:=this;simpa using z.symm
   subst this;cases e;exact ⟨Hs1,Grow.refl hs,bB.mpr rfl⟩
 stop:=fun H hs=>by simp [Itr]
theorem BL:∀ {n:Nat}{ds:List D}{i:Nat}{d:D},(aU n ds)[i]?=some d->∃ y,ds[i]?=some y/\d=.tup [.int ((n+i:Nat):Int),y]
 | n,[],i,d,h=>by simp [aU] at h
 | n,y::ds,0,d,h=>by simp [aU] at h;exact ⟨y,rfl,by rw [<- h];rfl⟩
 | n,y::ds,i+1,d,h=>by
  simp only [aU,List.getElem?_cons_succ] at h;obtain ⟨z,e1,e2⟩:=BL h;exact ⟨z,by simpa using e1,by rw [e2,show n+1+i=n+(i+1) by omega]⟩
theorem sS:∀ (n:Nat) (ds:List D),(aU n ds).length=ds.length
 | _,[]=>rfl
 | n,d::ds=>by simp [aU,sS (n+1) ds]
theorem S9 {a:Addr} (h:SqT X.K Hs a zs) (r:Rps (gOf X) Hs ds zs):Src (gOf X) (Q8 X.K a) Hs (aU 0 ds) where
 go:=fun i H hs hi=>⟨zs,zs[i]'(by rw [<- r.length];rw [sS] at hi;exact hi),aR hs h,by simp⟩
 yld:=fun i H x H' Hs1 d hs1 hs e ⟨p,y,hp,e1,e2,y2⟩=>by
  subst e1 e2;have e3:=y2 zs (aR (hs1.trans hs) h);obtain ⟨z,e4,e5⟩:=BL e;obtain ⟨v,e6,rv⟩:=r.getD e4;rw [e3] at e6;cases e6;subst e5;refine ⟨_,Grow.new hs hp,fB.mpr ⟨p,_,rfl,SqT.of aA,Rps.cons (bB.mpr (by simp)) (Rps.one (rv.mono (hs1.trans (rZ hs hp))))⟩⟩
 stop:=fun H hs=>⟨zs,aR hs h,by rw [sS,r.length]⟩
theorem RB {a:Addr} (h:SqL X.K Hs a zs) (r:Rps (gOf X) Hs ds zs):Src (gOf X) (Qh X.K a) Hs (aU 0 ds) where
 go:=fun i H hs hi=>⟨zs,zs[i]'(by rw [<- r.length];rw [sS] at hi;exact hi),bD hs h,by simp⟩
 yld:=fun i H x H' Hs1 d hs1 hs e ⟨p,y,hp,e1,e2,y2⟩=>by
  subst e1 e2;have e3:=y2 zs (bD (hs1.trans hs) h);obtain ⟨z,e4,e5⟩:=BL e;obtain ⟨v,e6,rv⟩:=r.getD e4;rw [e3] at e6;cases e6;subst e5;refine ⟨_,Grow.new hs hp,fB.mpr ⟨p,_,rfl,SqT.of aA,Rps.cons (bB.mpr (by simp)) (Rps.one (rv.mono (hs1.trans (rZ hs hp))))⟩⟩
 stop:=fun H hs=>⟨zs,bD hs h,by rw [sS,r.length]⟩
def tI (X:Cx) (U:zi) (r:En->R (List D)):TI:=fun σ H R=>∃ ρ Hs ds,Same Hs H/\Vs (gOf X) ρ σ Hs U/\r ρ=.ok ds/\∀ J H' Hs',Grow H Hs H' Hs'->Src (gOf X) J Hs' ds->R J H'
variable {tg iter b:Expr}
def abx (h:PE X iter (tM X U r)):PI X tg iter (tI X U fun ρ=>do let d <- r ρ;itemsOf .seq [d]):=by
 intro pins s σ H R I hq;obtain ⟨ρ,Hs,ds,hs,hv,h1,k⟩:=hq;obtain ⟨d,hd,h2⟩:=aj h1;clear h1;cases d <;> try (cases h2;done)
 .cases h2;refine aay h pins s σ H R I ⟨ρ,Hs,_,hs,hv,hd,fun v H1 Hs1 g1 r1=>?_⟩;obtain ⟨a,zs,rfl,s1,r2⟩:=fB.mp r1;exact ⟨a,rfl,⟨zs,aR g1.sub s1⟩,k _ _ _ g1 (ZX s1 r2)⟩
 .cases h2;refine Zq h pins s σ H R I ⟨ρ,Hs,_,hs,hv,hd,fun v H1 Hs1 g1 r1=>?_⟩;obtain ⟨a,zs,rfl,s1,r2⟩:=cN.mp r1;exact ⟨a,rfl,⟨zs,bD g1.sub s1⟩,k _ _ _ g1 (src_list s1 r2)⟩
 .cases h2;refine aaM h pins s σ H R I ⟨ρ,Hs,_,hs,hv,hd,fun v H1 Hs1 g1 r1=>?_⟩;obtain ⟨a,xs,ys,ep,rfl,ha,e1,r2,r3⟩:=u9.mp r1;exact ⟨a,xs,ys,ep,rfl,g1.sub _ _ ha,k _ _ _ g1 (YX ha e1 r2)⟩
def Xu:(lim:Int) < 2 ^ 62:=by decide
def ZV (C:Cok T cl X) (hg:Gl X "range") (hn:noStar a=true) (ha:PA X [a] (tMs X U rs)) (hl:∀ ρ ds,rs ρ=.ok ds -> ds.length=1) :
  PI X tg (.Call (.Name "range" p) [a] [] pos) (tI X U fun ρ=>do let ds <- rs ρ; itemsOf .rng ds):=by
 intro pins s σ H R I hq;obtain ⟨ρ,Hs,ds,hs,hv,h1,k⟩:=hq;obtain ⟨d,hd,h2⟩:=aj h1;clear h1;have hlen:=hl ρ d hd;rcases d with _ | ⟨d,_ | ⟨d2,d3⟩⟩
 .simp at hlen
 .cases d <;> try (cases h2;done)
  obtain ⟨c,h3⟩:=dH h2;cases h3;refine SN hg (C.blt _ (by decide +kernel)) ha (aC hn) pins s σ H R I ⟨ρ,Hs,_,hs,hv,hd,fun vs H1 Hs1 g1 r1=>?_⟩;obtain ⟨v,rfl,r2⟩:=zu r1;cases bB.mp r2;have:=Xu;refine ⟨_,rfl,by omega,by omega,k _ _ _ g1 ?_⟩;have e:=Ny (X:=X) (Hs:=Hs1) (lo:=0) (n:=Int.toNat ‹Int›);simpa using e
 .simp at hlen
def Y8 (C:Cok T cl X) (hg:Gl X "range") (hn:noStar a=true) (hn2:noStar b=true) (ha:PA X [a,b] (tMs X U rs)) (hl:∀ ρ ds,rs ρ=.ok ds -> ds.length=2) :
  PI X tg (.Call (.Name "range" p) [a,b] [] pos) (tI X U fun ρ=>do let ds <- rs ρ; itemsOf .rng ds):=by
 intro pins s σ H R I hq;obtain ⟨ρ,Hs,ds,hs,hv,h1,k⟩:=hq;obtain ⟨d,hd,h2⟩:=aj h1;clear h1;have hlen:=hl ρ d hd;rcases d with _ | ⟨d,_ | ⟨d2,_ | ⟨d3,d4⟩⟩⟩
 .simp at hlen
 .simp at hlen
 .cases d <;> cases d2 <;> try (cases h2;done)
  obtain ⟨c,h3⟩:=dH h2;cases h3;refine RZ hg (C.blt _ (by decide +kernel)) ha (by rw [aC hn,aC hn2];rfl) (by rw [aC hn2];rfl) pins s σ H R I ⟨ρ,Hs,_,hs,hv,hd,fun vs H1 Hs1 g1 r1=>?_⟩;obtain ⟨v,w,rfl,r2,r3⟩:=Fg r1;cases bB.mp r2;cases bB.mp r3;have:=Xu;exact ⟨_,_,rfl,⟨by omega,by omega,by omega,by omega⟩,k _ _ _ g1 Ny⟩
 .simp at hlen
def Zt (C:Cok T cl X) (hg:Gl X "enumerate") (hn:noStar a=true) (ha:PA X [a] (tMs X U rs)) :
  PI X (.Tuple els x1 tpos) (.Call (.Name "enumerate" p) [a] [] pos) (tI X U fun ρ=>do let ds <- rs ρ; itemsOf .enum ds):=by
 intro pins s σ H R I hq;obtain ⟨ρ,Hs,ds,hs,hv,h1,k⟩:=hq;obtain ⟨d,hd,h2⟩:=aj h1;clear h1;rcases d with _ | ⟨d,_ | ⟨d2,d3⟩⟩
 .cases h2
 .cases d <;> try (cases h2;done)
  .cases h2;refine W8 hg (C.blt _ (by decide +kernel)) ha (aC hn) pins s σ H R I ⟨ρ,Hs,_,hs,hv,hd,fun vs H1 Hs1 g1 r1=>?_⟩;obtain ⟨v,rfl,r2⟩:=zu r1;obtain ⟨a,zs,rfl,s1,r3⟩:=fB.mp r2;exact ⟨a,zs,rfl,aR g1.sub s1,k _ _ _ g1 (S9 s1 r3)⟩
  .cases h2;refine Va hg (C.blt _ (by decide +kernel)) ha (aC hn) pins s σ H R I ⟨ρ,Hs,_,hs,hv,hd,fun vs H1 Hs1 g1 r1=>?_⟩;obtain ⟨v,rfl,r2⟩:=zu r1;obtain ⟨a,zs,rfl,s1,r3⟩:=cN.mp r2;exact ⟨a,zs,rfl,bD g1.sub s1,k _ _ _ g1 (RB s1 r3)⟩
 .cases d <;> cases h2
theorem zip_get:∀ {as bs:List D}{i:Nat}{d:D},(uy as bs)[i]?=some d->∃ x y,as[i]?=some x/\bs[i]?=some y/\d=.tup [x,y]
 | [],bs,i,d,h=>by cases bs <;> cases h
 | a::as,[],i,d,h=>by cases h
 | a::as,b::bs,0,d,h=>by cases h;exact ⟨a,b,rfl,rfl,rfl⟩
 | a::as,b::bs,i+1,d,h=>zip_get (as:=as) (bs:=bs) (i:=i) h
theorem Fp:∀ (as bs:List D),(uy as bs).length=min as.length bs.length
 | [],bs=>by cases bs <;> simp [uy]
 | a::as,[]=>by simp [uy]
 | a::as,b::bs=>by
  have:=Fp as bs;simp only [uy,List.length_cons];omega
theorem ZF {a b:Addr}{as bs:List D}{xs:List V} (h1:SqT X.K Hs a xs) (h2:SqT X.K Hs b ys) (r1:Rps (gOf X) Hs as xs) (r2:Rps (gOf X) Hs bs ys):Src (gOf X) (Itz X.K a b) Hs (uy as bs) where
 go:=fun i H hs hi=>by
  rw [Fp] at hi;have l1:=r1.length;have l2:=r2.length;exact ⟨xs,ys,xs[i]'(by omega),ys[i]'(by omega),aR hs h1,aR hs h2,by simp,by simp⟩
 yld:=fun i H x H' Hs1 d hs1 hs e ⟨p,u,v,hp,e1,e2,y1,y2⟩=>by
  subst e1 e2;obtain ⟨d1,d2,g1,g2,rfl⟩:=zip_get e;obtain ⟨v1,f1,q1⟩:=r1.getD g1;obtain ⟨v2,f2,q2⟩:=r2.getD g2;rw [y1 xs (aR (hs1.trans hs) h1)] at f1;cases f1;rw [y2 ys (aR (hs1.trans hs) h2)] at f2;cases f2;have m:Same Hs (upd Hs1 p (.tup [u,v])):=hs1.trans (rZ hs hp);exact ⟨_,Grow.new hs hp,fB.mpr ⟨p,_,rfl,SqT.of aA,Rps.cons (q1.mono m) (Rps.one (q2.mono m))⟩⟩
 stop:=fun H hs=>by
  have l1:=r1.length;have l2:=r2.length;refine ⟨xs,ys,aR hs h1,aR hs h2,?_⟩;rw [Fp,List.getElem?_eq_none_iff,List.getElem?_eq_none_iff];omega
def aa9 (C:Cok T cl X) (hg:Gl X "zip") (hn:noStar a=true) (hn2:noStar b=true) (ha:PA X [a,b] (tMs X U rs)) :
  PI X (.Tuple els x1 tpos) (.Call (.Name "zip" p) [a,b] [] pos) (tI X U fun ρ=>do let ds <- rs ρ; itemsOf .zip ds):=by
 intro pins s σ H R I hq;obtain ⟨ρ,Hs,ds,hs,hv,h1,k⟩:=hq;obtain ⟨d,hd,h2⟩:=aj h1;clear h1;rcases d with _ | ⟨d,_ | ⟨d2,_ | ⟨d3,d4⟩⟩⟩
 .cases h2
 .cases d <;> cases h2
 .cases d <;> cases d2 <;> try (cases h2;done)
  cases h2;refine aau hg (C.blt _ (by decide +kernel)) ha (by rw [aC hn,aC hn2];rfl) (by rw [aC hn2];rfl) pins s σ H R I ⟨ρ,Hs,_,hs,hv,hd,fun vs H1 Hs1 g1 r1=>?_⟩;obtain ⟨v,w,rfl,r2,r3⟩:=Fg r1;obtain ⟨a1,xs,rfl,s1,q1⟩:=fB.mp r2;obtain ⟨a2,ys,rfl,s2,q2⟩:=fB.mp r3;exact ⟨a1,xs,a2,ys,rfl,aR g1.sub s1,aR g1.sub s2,k _ _ _ g1 (ZF s1 s2 q1 q2)⟩
 .cases d <;> cases d2 <;> cases h2
end
end Mi
namespace Mi
open PySem L2
open PyProof.Rows hiding St
noncomputable def putL {α:Type}:List (Option α)->List (Nat × α)->List (Option α)
 | xs,[]=>xs
 | xs,(i,a)::r=>putL (xs.set i (some a)) r
theorem sJ {α:Type}:∀ (xs:List (Option α)) (l:List (Nat × α)),(putL xs l).length=xs.length
 | xs,[]=>rfl
 | xs,(i,a)::r=>by rw [putL,sJ,List.length_set]
theorem Lp {α:Type}{j:Nat}:∀ {xs:List (Option α)}{l:List (Nat × α)},j ∉ l.map (·.1)->(putL xs l)[j]?=xs[j]?
 | xs,[],_=>rfl
 | xs,(i,a)::r,h=>by
  simp only [List.map_cons,List.mem_cons,not_or] at h;rw [putL,Lp h.2,List.getElem?_set_ne (Ne.symm h.1)]
theorem J1 {g:G}{Hs:Hp}{j:Nat}{d:D}:∀ {l:List (Nat × D × V)}{ρ:En}{σ:St},ρ.length=σ.length->(∀ p∈l,Rp g Hs p.2.1 p.2.2) ->
  (putL ρ (l.map fun p=>(p.1,p.2.1)))[j]?=some (some d)->(∀ d,ρ[j]?=some (some d)->∃ v,σ[j]?=some (some v)/\Rp g Hs d v)\/j∈l.map (·.1)->∃ v,(putL σ (l.map fun p=>(p.1,p.2.2)))[j]?=some (some v)/\Rp g Hs d v
 | [],ρ,σ,hl,hr,h,o=>by
  rcases o with o | o
  .exact o d h
  .cases o
 | (i,e,v)::l,ρ,σ,hl,hr,h,o=>by
  simp only [List.map_cons,putL] at h ⊢;have hl2:(ρ.set i (some e)).length=(σ.set i (some v)).length:=by rw [List.length_set,List.length_set];exact hl
  refine J1 hl2 (fun p hp=>hr p (ve _ hp)) h ?_;by_cases hj:j=i
  .subst hj;refine .inl fun d' q=>?_
   have hlt:j < ρ.length:=by
    have:=(yB.mp q).1;simpa using this
   rw [List.getElem?_set_self hlt] at q;cases q;exact ⟨v,by rw [List.getElem?_set_self (by rw [<- hl];exact hlt)],hr _ vi⟩
  .rw [List.map_cons,List.mem_cons] at o;rcases o with o | o | o
   .refine .inl fun d' q=>?_
    rw [List.getElem?_set_ne (Ne.symm hj)] at q ⊢;exact o d' q
   .exact absurd o hj
   .exact .inr o
variable {sc:Scope}{t:Tg}{tg:Expr}{d:D}{N:zk}
section
variable {X:Cx}{σ:St}{H Hs:Hp}{Q:VK}{U Ua Ub Uc:zi}{r ra rb rc:En->R D}{e a:Expr}{es:zl}{rs:En->R (List D)}{pos:Pos}{T:Tx}{cl:Nat->List D->R D}
def gTg (K:zd):Tg->TG
 | .one i=>Ec i
 | .two i j=>aa4 K 2 (Qs (Ec i) (Qs (Ec j) abT))
theorem nZ (C:Cok T cl X) (S:ScRel sc X) (h:tgB X.N sc t tg=true):PG X tg (gTg X.K t):=by
 cases t with
 | one i =>
  obtain ⟨_,_,rfl,ho,hn⟩:=uT h;obtain ⟨h1,h2⟩:=S.own _ ho;exact Ew C.nd hn h1 h2
 | two i j =>
  obtain ⟨_,_,_,_,_,_,rfl,⟨⟨⟨h1,h2⟩,h3⟩,h4⟩,h5⟩:=vm h;obtain ⟨a1,a2⟩:=S.own _ h1;obtain ⟨b1,b2⟩:=S.own _ h2;exact aa8 C.calm (Jq (Ew C.nd h3 a1 a2) (Jq (Ew C.nd h4 b1 b2) Zz (by rfl)) (by rfl)) (by rfl) (by rfl)
def rF {ρ ρ':En}{x:V}{K:St->Hp->Prop} (hs:Same Hs H) (h:eU t d ρ=.ok ρ') (rx:Rp (gOf X) Hs d x)
  (k:∀ l:List (Nat × D × V),l.map (·.1)=aM t->(∀ p∈l,Rp (gOf X) Hs p.2.1 p.2.2)->ρ'=putL ρ (l.map fun p=>(p.1,p.2.1))->K (putL σ (l.map fun p=>(p.1,p.2.2))) H):gTg X.K t x σ H K:=by
 cases t with
 | one i =>
  cases h;exact k [(i,d,x)] rfl (fun p hp=>by rw [List.mem_singleton.mp hp];exact rx) rfl
 | two i j =>
  cases d <;> try (cases h;done)
  rename_i ds;rcases ds with _ | ⟨a,_ | ⟨b,_ | ⟨c,cs⟩⟩⟩ <;> try (cases h;done)
  cases h;obtain ⟨p,xs,rfl,s1,r1⟩:=fB.mp rx;obtain ⟨v,w,rfl,r2,r3⟩:=Fg r1;refine ⟨p,[v,w],rfl,aR hs s1,rfl,v,[w],rfl,w,[],rfl,rfl,?_⟩;refine k [(i,a,v),(j,b,w)] rfl (fun q hq=>?_) rfl;rcases vR.mp hq with rfl | hq
  .exact r2
  .rw [List.mem_singleton.mp hq];exact r3
def tHc (X:Cx) (hc:Bool) (U:zi) (r:En->R D):TT:=if hc then tMT X U r else fun _ H Q=>Q true H
def BJ {i:Nat}{x:Str} (h:mq sc x=true) (hi:N[i]?=some x):(cU N sc)[i]?=some false:=by
 unfold cU;rw [List.getElem?_map,hi];rcases nC h with e | e <;> simp [e]
def aaN (h:tgB N sc t tg=true):∀ i∈aM t,(cU N sc)[i]?=some false:=by
 cases t with
 | one i =>
  obtain ⟨_,_,rfl,ho,hn⟩:=uT h;intro j hj;rw [List.mem_singleton.mp hj];exact BJ ho hn
 | two i j =>
  obtain ⟨_,_,_,_,_,_,rfl,⟨⟨⟨h1,h2⟩,h3⟩,h4⟩,h5⟩:=vm h;intro q hq;rcases vR.mp hq with rfl | hq
  .exact BJ h1 h3
  .rw [List.mem_singleton.mp hq];exact BJ h2 h4
def tMf (X:Cx) (U:zi) (r:En->R D):TE:=fun σ H Q=>∃ ρ Hs d,Same Hs H/\Vs (gOf X) ρ σ Hs U/\r ρ=.ok d/\∀ v H' Hs',Grow H Hs H' Hs'->Rp (gOf X) Hs' d v->(∀ a,v=.ref a->H a=none)->Q v H'
def adn :tM X U r σ H Q->tMf X U r σ H Q:=by
 rintro ⟨ρ,Hs,d,hs,hv,h,k⟩;exact ⟨ρ,Hs,d,hs,hv,h,fun v H' Hs' g r _=>k v H' Hs' g r⟩
def G3 {scope:Scope}{hc:Bool}{rI:En->R (List D)}{cap:List Bool} (htg:tgB N scope t tg=true) (hcap:cap=cU N scope) :
  tMf X (Ua++(Uc++Ub)) (fun ρ=>do
   let items <- rI ρ
   let ys <- eF (fun d=>do
    let ρ' <- eU t d (bA cap ρ)
    let b <- (if hc then (do let x <- rc ρ';cV x) else .ok true)
    if b then do let y <- rb ρ';.ok (some y) else .ok none) items
   if ys.length<=lim then .ok (.lst ys) else .stuck) σ H Q ->
  Dz (tI X Ua rI) (gTg X.K t) (tHc X hc Uc rc) (tM X Ub rb) (bA (cU N scope)) σ H Q:=by
 rintro ⟨ρ,Hs,z,hs,hv,h,k⟩;obtain ⟨ds,hd,h1⟩:=aj h;obtain ⟨tot,ht,h2⟩:=aj h1;obtain ⟨hlim,h3⟩:=dH h2;clear h h1 h2;cases h3;have hll:=jt;generalize hf:(fun d=>do
    let ρ' <- eU t d (bA cap ρ)
    let b <- (if hc then (do let x <- rc ρ';cV x) else .ok true)
    if b then do let y <- rb ρ';.ok (some y) else .ok none)=f at ht
 refine ⟨ρ,Hs,ds,hs,hv.l,hd,fun J H1 Hs1 g1 src=>?_⟩;intro A hA;refine ⟨fun i m ys H'=>m=ds.length - i/\i<=ds.length/\∃ Hs' don rest,Grow H1 Hs1 H' Hs'/\Hs' A=none/\H' A=some (.lst ys)/\Rps (gOf X) Hs' don ys/\eF f (ds.drop i)=.ok rest/\don++rest=tot,⟨ds.length,by simp,vS _,Hs1,[],tot,Grow.own g1.sub hA,g1.sub.free hA,aA,Rps.nil,ht,rfl⟩,?_⟩;rintro i m ys H' ⟨rfl,hi,Hs',don,rest,g2,fA,eA,rA,hrest,etot⟩;have hs':=g1.sub;by_cases hlt:i < ds.length
 .refine .inr ⟨src.go i H' ((g2.same hs').trans g2.sub) hlt,fun x H2 hy=>?_⟩;have hdi:ds[i]?=some ds[i]:=by simp [hlt]
  obtain ⟨Hs2,g3,rx⟩:=src.yld i H' x H2 Hs' ds[i] (g2.same hs') g2.sub hdi hy;have edrop:ds.drop i=ds[i]::ds.drop (i+1):=by rw [List.drop_eq_getElem_cons hlt]
  rw [edrop] at hrest;unfold eF at hrest;obtain ⟨y,hy1,hr1⟩:=aj hrest;obtain ⟨zs,hz,hr2⟩:=aj hr1;clear hrest hr1;have hy0:=hy1;rw [<- hf] at hy1;obtain ⟨ρ',hρ,hy2⟩:=aj hy1;obtain ⟨b,hb,hy3⟩:=aj hy2;clear hy1 hy2;have gA:Grow H1 Hs1 H2 Hs2:=g2.trans g3;refine rF g3.sub hρ rx fun l hl hrl eρ=>?_
  have slots:∀ j∈aM t,(cU N scope)[j]?=some false:=aaN htg;have lenm:(bA cap ρ).length=(bA (cU N scope) σ).length:=by rw [lU,lU];exact hv.1
  have mV:(l.map fun p=>(p.1,p.2.2)).map (·.1)=aM t:=by rw [<- hl,List.map_map];rfl
  have mD:(l.map fun p=>(p.1,p.2.1)).map (·.1)=aM t:=by rw [<- hl,List.map_map];rfl
  have ext:abe (bA (cU N scope) σ) (putL (bA (cU N scope) σ) (l.map fun p=>(p.1,p.2.2))):=⟨sJ _ _,fun j v q=>by
   have hj:j ∉ aM t:=fun hj=>by
    have:=(tQ q).1;rw [slots j hj] at this;cases this
   rw [Lp (by rw [mV];exact hj)];exact q⟩
  have vs2:∀ {U'},(∀ j∈U',j∈Uc++Ub)->Vs (gOf X) ρ' (putL (bA (cU N scope) σ) (l.map fun p=>(p.1,p.2.2))) Hs2 U':=fun {U'} hU=>by
   refine ⟨by rw [eρ,sJ,sJ];exact lenm,fun j hj d hd'=>?_⟩;rw [eρ] at hd';refine J1 lenm hrl hd' (.inl fun d2 hd2=>?_);obtain ⟨c1,c2⟩:=tQ hd2;obtain ⟨v,e1,r1⟩:=hv.r.2 j (hU j hj) d2 c2;exact ⟨v,Gm (by rw [<- hcap];exact c1) e1,r1.mono (((g1.trans gA).same hs))⟩
  refine ⟨ext,?_⟩;have aA2:H2 A=some (.lst ys):=g3.keep A _ eA;have step:∀ H4 Hs4,Grow H2 Hs2 H4 Hs4->(if b=true then tM X Ub rb (putL (bA (cU N scope) σ) (l.map fun p=>(p.1,p.2.2))) H4 (fun y' H5=>H5 A=some (.lst ys)/\ys.length < sizeLine/\∃ m',m' < ds.length - i/\(m'=ds.length - (i+1)/\i+1<=ds.length/\∃ Hs' don rest,Grow H1 Hs1 (upd H5 A (.lst (ys++[y']))) Hs'/\Hs' A=none/\(upd H5 A (.lst (ys++[y']))) A=some (.lst (ys++[y']))/\Rps (gOf X) Hs' don (ys++[y'])/\eF f (ds.drop (i+1))=.ok rest/\don++rest=tot))
    else ∃ m',m' < ds.length - i/\(m'=ds.length - (i+1)/\i+1<=ds.length/\∃ Hs' don rest,Grow H1 Hs1 H4 Hs'/\Hs' A=none/\H4 A=some (.lst ys)/\Rps (gOf X) Hs' don ys/\eF f (ds.drop (i+1))=.ok rest/\don++rest=tot)):=by
   intro H4 Hs4 g4;have f4:Hs4 A=none:=by rw [(g3.trans g4).old A _ eA];exact fA
   cases b with
   | false =>
    rw [if_neg (by decide)];rw [if_neg (by decide)] at hy3;cases hy3;cases hr2;exact ⟨_,by omega,rfl,hlt,Hs4,don,zs,gA.trans g4,f4,g4.keep A _ aA2,rA.mono ((g3.trans g4).same g2.sub),hz,etot⟩
   | true =>
    rw [if_pos rfl];rw [if_pos rfl] at hy3;obtain ⟨w,hw,hy4⟩:=aj hy3;cases hy4;cases hr2;refine ⟨ρ',Hs4,w,g4.sub,(vs2 fun j hj=>vk _ hj).mono (g4.same g3.sub),hw,fun y' H5 Hs5 g5 r5=>?_⟩;have a5:H5 A=some (.lst ys):=(g4.trans g5).keep A _ aA2;have f5:Hs5 A=none:=by rw [((g3.trans g4).trans g5).old A _ eA];exact fA
    have rl:=rA.length;have hlen:ys.length < sizeLine:=by
     have:don.length+(w::zs).length=tot.length:=by rw [<- List.length_append,etot]
     rw [List.length_cons] at this;omega
    refine ⟨a5,hlen,_,by omega,rfl,hlt,Hs5,don++[w],zs,?_,f5,aA,?_,hz,by rw [List.append_assoc];exact etot⟩
    .have g6:=(gA.trans g4).trans g5;refine ⟨fun c o q=>by rw [ao (ak q hA)];exact g6.keep c o q,g6.old,fun c o q=>?_⟩;rw [ao (ak q f5)];exact g6.sub c o q
    .exact (rA.mono (((g3.trans g4).trans g5).same g2.sub)).append (Rps.one r5)
  cases hc with
  | false =>
   rw [if_neg (by decide)] at hb;cases hb;exact step H2 Hs2 (Grow.refl g3.sub)
  | true =>
   rw [if_pos rfl] at hb;obtain ⟨x2,hx2,hb2⟩:=aj hb;cases fZ hb2;exact ⟨ρ',Hs2,b,g3.sub,vs2 fun j hj=>vj _ hj,hx2,fun H4 Hs4 g4=>step H4 Hs4 g4⟩
 .have e:i=ds.length:=by omega
  subst e;refine .inl ⟨src.stop H' ((g2.same hs').trans g2.sub),?_⟩;rw [List.drop_length] at hrest;cases hrest;rw [List.append_nil] at etot;subst etot;have m2:Same Hs' (upd Hs' A (.lst ys)):=fun c o q=>by rw [ao (ak q fA)];exact q
  refine k _ _ (upd Hs' A (.lst ys)) (g1.trans ⟨g2.keep,fun c o q=>by rw [ao (ak q hA)];exact g2.old c o q,fun c o q=>?_⟩) (cN.mpr ⟨A,ys,rfl,SqL.of aA,rA.mono m2⟩) (fun b e=>by cases e;exact (show Same H H1 from g1.keep).free hA);by_cases z:c=A
  .subst z;rw [aA] at q;cases q;exact eA
  .rw [ao z] at q;exact g2.sub c o q
end
end Mi
namespace Mi
open PySem L2
open PyProof.Rows hiding St
noncomputable def plainT:Expr->Bool
 | .UnaryOp .Not _ _=>false
 | .BoolOp ..=>false
 | .IfExp ..=>false
 | .Compare ..=>false
 | _=>true
def pD {e:Expr}{env:Env} (h:plainT e=true):∀ whole,isTrue e env whole=(do let v <- whole;standAt e.pos;holding [v] (truthy v)):=by
 intro whole;cases e <;> first | rfl | (cases h;done) | skip
 rename_i op a p;cases op <;> first | rfl | cases h
def Tc (X:Cx) (U:zi) (r:En->R D) (e:Expr):Prop:=PE X e (tM X U r)/\PT X e (tMT X U r)
def Good (T:Tx) (cl:Nat->List D->R D) (m:M):Prop:=∀ {X:Cx}{sc:Scope}{e:Expr},Cok T cl X->ScRel sc X->okE T X.N m sc e=true->Tc X (aD m) (evE cl m) e
section
variable {T:Tx}{cl:Nat->List D->R D}{X:Cx}{sc:Scope}{U:zi}{r:En->R D}{e:Expr}
theorem bI (h:PE X e (tM X U r)) (hp:plainT e=true):Tc X U r e:=⟨h,V0 h (pD hp)⟩
theorem jM (C:Cok T cl X) (S:ScRel sc X):∀ {ms:List M}{es:zl},(∀ m∈ms,Good T cl m)->cB T X.N ms sc es=true->es.all noStar=true->PA X es (tMs X (aP ms) (bF cl ms))
 | [],es,G,h,hn=>by
  rw [vA,List.isEmpty_iff] at h;subst h;have e:bF cl []=fun _=>.ok []:=funext fun _=>by simp only [bF]
  rw [e];simp only [aP];exact Zo
 | m::ms,[],G,h,hn=>by cases h
 | m::ms,x::es,G,h,hn=>by
  simp only [eY,Bool.and_eq_true] at h;simp only [List.all_cons,Bool.and_eq_true] at hn;have e:bF cl (m::ms)=(fun ρ=>(do let d <- evE cl m ρ;let ds <- bF cl ms ρ;.ok (d::ds))):=funext fun _=>by simp only [bF]
  rw [e];simp only [aP];exact Wb (G m vi C S h.1).1 (jM C S (fun q hq=>G q (ve _ hq)) h.2 hn.2) hn.1
theorem BK:∀ {ms:List M}{ρ:En}{ds:List D},bF cl ms ρ=.ok ds->ds.length=ms.length
 | [],ρ,ds,h=>by simp only [bF] at h;cases h;rfl
 | m::ms,ρ,ds,h=>by
  simp only [bF] at h;obtain ⟨x,hx,h1⟩:=aj h;obtain ⟨xs,hxs,h2⟩:=aj h1;have:=BK hxs;cases h2;simp [this]
theorem Bq:∀ {ms:List M}{es:zl},cB T X.N ms sc es=true->es.length=ms.length
 | [],es,h=>by
  rw [vA,List.isEmpty_iff] at h;rw [h];rfl
 | m::ms,[],h=>by cases h
 | m::ms,e::es,h=>by
  simp only [eY,Bool.and_eq_true] at h;simp [Bq h.2]
theorem Ol (C:Cok T cl X) (S:ScRel sc X) {pos:Pos}:∀ {ms:List M}{es:zl},(∀ m∈ms,Good T cl m)->cB T X.N ms sc es=true->ms.isEmpty=false->PE X (.BoolOp .And es pos) (tM X (aP ms) (kh cl ms))/\PW X (.BoolOp .And es pos) (tMT X (aP ms) (kh cl ms))
 | [],es,G,h,hn=>by cases hn
 | m::ms,[],G,h,hn=>by cases h
 | [m],[x],G,h,hn=>by
  simp only [eY,Bool.and_eq_true] at h;obtain ⟨g1,g2⟩:=G m vi C S h.1;constructor
  .refine bG (Rg g1) fun σ H Q=>?_
   rintro ⟨ρ,Hs,z,hs,hv,h,k⟩;simp only [kh] at h;obtain ⟨d,hd,h1⟩:=aj h;obtain ⟨t,ht,h2⟩:=aj h1;clear h h1;cases fZ ht;cases h2;simp only [aP] at hv;exact ⟨ρ,Hs,_,hs,hv.l,hd,k⟩
  .have:=Yh (pos:=pos) g2;intro wh pins s σ H Q I hq;refine this wh pins s σ H Q I ?_;obtain ⟨ρ,Hs,z,hs,hv,h,k⟩:=hq;simp only [kh] at h;obtain ⟨d,hd,h1⟩:=aj h;obtain ⟨t,ht,h2⟩:=aj h1;clear h h1;cases fZ ht;cases h2;simp only [aP] at hv;exact ⟨ρ,Hs,_,hs,hv.l,hd,k⟩
 | [m],x::y::es,G,h,hn=>by rw [eY,vA] at h;simp at h
 | m::m'::ms,[x],G,h,hn=>by rw [eY,Ou] at h;simp at h
 | m::m'::ms,x::y::es,G,h,hn=>by
  have h':=h;simp only [eY,Bool.and_eq_true] at h;obtain ⟨g1,g2⟩:=G m vi C S h.1;obtain ⟨i1,i2⟩:=Ol C S (pos:=pos) (ms:=m'::ms) (es:=y::es) (fun q hq=>G q (ve _ hq)) (by simp only [eY,Bool.and_eq_true];exact h.2) rfl;constructor
  .refine bG (abl g1 i1) fun σ H Q=>?_
   rintro ⟨ρ,Hs,z,hs,hv,h,k⟩;simp only [kh] at h;obtain ⟨d,hd,h1⟩:=aj h;obtain ⟨t,ht,h2⟩:=aj h1;clear h h1;cases fZ ht;rw [aP] at hv;refine ⟨ρ,Hs,_,hs,hv.l,hd,fun v H1 Hs1 g1 r1=>⟨t,mW.mp r1,?_⟩⟩;cases t with
   | false=>rw [if_neg (by decide)];rw [if_neg (by decide)] at h2;cases h2;exact (k.grow g1).bl g1.sub
   | true=>rw [if_pos rfl];rw [if_pos rfl] at h2;exact ⟨ρ,Hs1,z,g1.sub,hv.r.mono (g1.same hs),h2,k.grow g1⟩
  .have:=abf (pos:=pos) g2 i2;intro wh pins s σ H Q I hq;refine this wh pins s σ H Q I ?_;obtain ⟨ρ,Hs,z,hs,hv,h,k⟩:=hq;simp only [kh] at h;obtain ⟨d,hd,h1⟩:=aj h;obtain ⟨t,ht,h2⟩:=aj h1;clear h h1;cases fZ ht;rw [aP] at hv;refine ⟨ρ,Hs,t,hs,hv.l,hd,fun H1 Hs1 g1=>?_⟩;cases t with
   | false=>rw [if_neg (by decide)];rw [if_neg (by decide)] at h2;cases h2;exact k H1 Hs1 g1
   | true=>rw [if_pos rfl];rw [if_pos rfl] at h2;exact ⟨ρ,Hs1,z,g1.sub,hv.r.mono (g1.same hs),h2,fun H' Hs' g=>k H' Hs' (g1.trans g)⟩
theorem Tt (C:Cok T cl X) (S:ScRel sc X) {pos:Pos}:∀ {ms:List M}{es:zl},(∀ m∈ms,Good T cl m)->cB T X.N ms sc es=true->ms.isEmpty=false->PE X (.BoolOp .Or es pos) (tM X (aP ms) (nG cl ms))/\PW X (.BoolOp .Or es pos) (tMT X (aP ms) (nG cl ms))
 | [],es,G,h,hn=>by cases hn
 | m::ms,[],G,h,hn=>by cases h
 | [m],[x],G,h,hn=>by
  simp only [eY,Bool.and_eq_true] at h;obtain ⟨g1,g2⟩:=G m vi C S h.1;constructor
  .refine bG (Rg g1) fun σ H Q=>?_
   rintro ⟨ρ,Hs,z,hs,hv,h,k⟩;simp only [nG] at h;obtain ⟨d,hd,h1⟩:=aj h;obtain ⟨t,ht,h2⟩:=aj h1;clear h h1;cases fZ ht;cases h2;simp only [aP] at hv;exact ⟨ρ,Hs,_,hs,hv.l,hd,k⟩
  .have:=abV (pos:=pos) g2;intro wh pins s σ H Q I hq;refine this wh pins s σ H Q I ?_;obtain ⟨ρ,Hs,z,hs,hv,h,k⟩:=hq;simp only [nG] at h;obtain ⟨d,hd,h1⟩:=aj h;obtain ⟨t,ht,h2⟩:=aj h1;clear h h1;cases fZ ht;cases h2;simp only [aP] at hv;exact ⟨ρ,Hs,_,hs,hv.l,hd,k⟩
 | [m],x::y::es,G,h,hn=>by rw [eY,vA] at h;simp at h
 | m::m'::ms,[x],G,h,hn=>by rw [eY,Ou] at h;simp at h
 | m::m'::ms,x::y::es,G,h,hn=>by
  simp only [eY,Bool.and_eq_true] at h;obtain ⟨g1,g2⟩:=G m vi C S h.1;obtain ⟨i1,i2⟩:=Tt C S (pos:=pos) (ms:=m'::ms) (es:=y::es) (fun q hq=>G q (ve _ hq)) (by simp only [eY,Bool.and_eq_true];exact h.2) rfl;constructor
  .refine bG (acw g1 i1) fun σ H Q=>?_
   rintro ⟨ρ,Hs,z,hs,hv,h,k⟩;simp only [nG] at h;obtain ⟨d,hd,h1⟩:=aj h;obtain ⟨t,ht,h2⟩:=aj h1;clear h h1;cases fZ ht;rw [aP] at hv;refine ⟨ρ,Hs,_,hs,hv.l,hd,fun v H1 Hs1 g1 r1=>⟨t,mW.mp r1,?_⟩⟩;cases t with
   | true=>rw [if_pos rfl];rw [if_pos rfl] at h2;cases h2;exact (k.grow g1).bl g1.sub
   | false=>rw [if_neg (by decide)];rw [if_neg (by decide)] at h2;exact ⟨ρ,Hs1,z,g1.sub,hv.r.mono (g1.same hs),h2,k.grow g1⟩
  .have:=acj (pos:=pos) g2 i2;intro wh pins s σ H Q I hq;refine this wh pins s σ H Q I ?_;obtain ⟨ρ,Hs,z,hs,hv,h,k⟩:=hq;simp only [nG] at h;obtain ⟨d,hd,h1⟩:=aj h;obtain ⟨t,ht,h2⟩:=aj h1;clear h h1;cases fZ ht;rw [aP] at hv;refine ⟨ρ,Hs,t,hs,hv.l,hd,fun H1 Hs1 g1=>?_⟩;cases t with
   | true=>rw [if_pos rfl];rw [if_pos rfl] at h2;cases h2;exact k H1 Hs1 g1
   | false=>rw [if_neg (by decide)];rw [if_neg (by decide)] at h2;exact ⟨ρ,Hs1,z,g1.sub,hv.r.mono (g1.same hs),h2,fun H' Hs' g=>k H' Hs' (g1.trans g)⟩
def uZ (C:Cok T cl X) (S:ScRel sc X) {k:IK}{src:List M}{tg iter:Expr} (G:∀ m∈src,Good T cl m) (h1:jx sc k tg iter=true) (h2:cB T X.N src sc (jX k iter)=true) :
  PI X tg iter (tI X (aP src) fun ρ=>do let ss <- bF cl src ρ;itemsOf k ss):=by
 cases k with
 | seq =>
  rcases src with _ | ⟨m,_ | ⟨m',ms⟩⟩
  .cases h2
  .replace h2:(okE T X.N m sc iter && cB T X.N [] sc [])=true:=h2;simp only [Bool.and_eq_true] at h2;have g:=(G m vi C S h2.1).1;intro pins s σ H R I hq;refine abx g pins s σ H R I ?_;obtain ⟨ρ,Hs,ds,hs,hv,h,k⟩:=hq;simp only [qI,qW] at h;simp only [T4,Ko] at hv;obtain ⟨ss,hss,h3⟩:=aj h;obtain ⟨d,hd,h4⟩:=aj hss;simp only [qP] at h4;cases h4;exact ⟨ρ,Hs,ds,hs,hv.l,by simp only [hd,qP];exact h3,k⟩
  ·(replace h2:(okE T X.N m sc iter && false)=true:=h2;simp at h2)
 | rng =>
  .obtain ⟨f,p,es,q,rfl,h3⟩:=eG h1;simp only [Bool.and_eq_true,decide_eq_true_eq,Bool.or_eq_true] at h3;obtain ⟨⟨⟨rfl,hg⟩,hl⟩,hn⟩:=h3;have gg:=S.glb _ hg;replace h2:cB T X.N src sc es=true:=h2;have pa:=jM C S G h2 hn;have len:=Bq h2;rcases es with _ | ⟨x,_ | ⟨y,_ | ⟨z,zs⟩⟩⟩
   .simp at hl
   .simp only [List.all_cons,List.all_nil,Bool.and_eq_true] at hn;exact ZV C gg hn.1 pa fun ρ ds h=>by rw [BK h,<- len];rfl
   .simp only [List.all_cons,List.all_nil,Bool.and_eq_true] at hn;exact Y8 C gg hn.1 hn.2.1 pa fun ρ ds h=>by rw [BK h,<- len];rfl
   .simp at hl
 | enum =>
  .obtain ⟨f,p,es,q,rfl,h3⟩:=eG h1;simp only [Bool.and_eq_true,decide_eq_true_eq] at h3;obtain ⟨⟨⟨⟨rfl,hg⟩,hl⟩,hn⟩,ht⟩:=h3;have gg:=S.glb _ hg;replace h2:cB T X.N src sc es=true:=h2;have pa:=jM C S G h2 hn;rcases es with _ | ⟨x,_ | ⟨y,ys⟩⟩
   .simp at hl
   .simp only [List.all_cons,List.all_nil,Bool.and_eq_true] at hn;cases tg <;> try (cases ht;done)
    exact Zt C gg hn.1 pa
   .simp at hl
 | zip =>
  .obtain ⟨f,p,es,q,rfl,h3⟩:=eG h1;simp only [Bool.and_eq_true,decide_eq_true_eq] at h3;obtain ⟨⟨⟨⟨rfl,hg⟩,hl⟩,hn⟩,ht⟩:=h3;have gg:=S.glb _ hg;replace h2:cB T X.N src sc es=true:=h2;have pa:=jM C S G h2 hn;rcases es with _ | ⟨x,_ | ⟨y,_ | ⟨z,ys⟩⟩⟩
   .simp at hl
   .simp at hl
   .simp only [List.all_cons,List.all_nil,Bool.and_eq_true] at hn;cases tg <;> try (cases ht;done)
    exact aa9 C gg hn.1 hn.2.1 pa
   .simp at hl
end
end Mi
namespace Mi
open PySem L2
open PyProof.Rows hiding St
variable {i:Nat}{ms src:List M}{a b c lo elt:M}{o:CO}{sc:Scope}{iter:Expr}{k:IK}{tg:Tg}{hc:Bool}{cap:List Bool}
section
variable {T:Tx}{cl:Nat->List D->R D}
theorem Wi :Good T cl (.var i):=by
 intro X sc e C S h;have ee:evE cl (.var i)=fun ρ=>eZ ρ i:=rfl
 rw [ee];obtain ⟨_,_,rfl⟩:=eO h;rw [Zv] at h;simp only [Bool.and_eq_true,decide_eq_true_eq] at h;exact bI (Ik h.2 (S.vis _ h.1.2) h.1.1) rfl
theorem U4 {d:D}:Good T cl (.con d):=by
 intro X sc e C S h;have ee:evE cl (.con d)=fun _=>.ok d:=rfl
 rw [ee];cases e <;> try (cases h;done)
 .exact bI (aaO h) rfl
 .rw [Vk] at h;simp only [Bool.and_eq_true] at h;exact bI (YQ C (S.glb _ h.1.2) h.1.1 (aaW h.2)) rfl
theorem Xe (G:∀ m∈ms,Good T cl m):Good T cl (.tup ms):=by
 intro X sc e C S h;have ee:evE cl (.tup ms)=fun ρ=>(do let ds <- bF cl ms ρ;if ds.length<=lim then .ok (.tup ds) else .stuck):=rfl
 rw [ee];obtain ⟨_,_,_,rfl⟩:=Gq h;rw [ZP] at h;simp only [Bool.and_eq_true] at h;exact bI (aaT (jM C S G h.1 h.2)) rfl
theorem UG (G:∀ m∈ms,Good T cl m):Good T cl (.lst ms):=by
 intro X sc e C S h;have ee:evE cl (.lst ms)=fun ρ=>(do let ds <- bF cl ms ρ;if ds.length<=lim then .ok (.lst ds) else .stuck):=rfl
 rw [ee];obtain ⟨_,_,rfl⟩:=nj h;rw [OD] at h;simp only [Bool.and_eq_true] at h;exact bI (abB (jM C S G h.1 h.2)) rfl
def Vm:Good T cl .dct0:=by
 intro X sc e C S h;have ee:evE cl .dct0=fun _=>.ok (.dct [] []):=rfl
 rw [ee];obtain ⟨ks,vs,p,rfl⟩:=IW h;cases ks <;> cases vs <;> first | exact bI aag rfl | cases h
theorem U0 {o:BO} (ga:Good T cl a) (gb:Good T cl b):Good T cl (.bin o a b):=by
 intro X sc e C S h;have ee:evE cl (.bin o a b)=fun ρ=>(do let x <- evE cl a ρ;let y <- evE cl b ρ;ji o x y):=rfl
 rw [ee];obtain ⟨_,_,_,_,rfl⟩:=Gx h;rw [YW] at h;simp only [Bool.and_eq_true] at h;cases abj h.1.1;exact bI (aa6 o (ga C S h.1.2).1 (gb C S h.2).1) rfl
def WD (ga:Good T cl a) (gb:Good T cl b):Good T cl (.cmp o a b):=by
 intro X sc e C S h;have ee:evE cl (.cmp o a b)=fun ρ=>(do let x <- evE cl a ρ;let y <- evE cl b ρ;let r <- aY o x y;.ok (.bl r)):=rfl
 rw [ee];obtain ⟨x,ops,cs,p,rfl⟩:=Bc h;rcases ops with _ | ⟨op,_ | ⟨op2,ops⟩⟩ <;> rcases cs with _ | ⟨y,_ | ⟨y2,cs⟩⟩ <;> try (cases h;done)
 rw [Zb] at h;simp only [Bool.and_eq_true] at h;cases La h.1.1.1;exact ⟨abY C.un o (ga C S h.1.2).1 (gb C S h.2).1 h.1.1.2,aaA C.un o (ga C S h.1.2).1 (gb C S h.2).1 h.1.1.2⟩
def Qo {o':CO} (ga:Good T cl a) (gb:Good T cl b) (gc:Good T cl c):Good T cl (.chain o o' a b c):=by
 intro X sc e C S h;have ee:evE cl (.chain o o' a b c)=fun ρ=>(do let x <- evE cl a ρ;let y <- evE cl b ρ;let r <- aY o x y;if r then do let z <- evE cl c ρ;let r2 <- aY o' y z;.ok (.bl r2) else .ok (.bl false)):=rfl
 rw [ee];obtain ⟨x,ops,cs,p,rfl⟩:=Bc h;rcases ops with _ | ⟨op,_ | ⟨op2,_ | ⟨op3,ops⟩⟩⟩ <;> rcases cs with _ | ⟨y,_ | ⟨y2,_ | ⟨y3,cs⟩⟩⟩ <;> try (cases h;done)
 rw [TX] at h;simp only [Bool.and_eq_true] at h;obtain ⟨⟨⟨⟨⟨⟨h1,h2⟩,h3⟩,h4⟩,h5⟩,h6⟩,h7⟩:=h;cases La h1;cases La h2;exact ⟨Xi C.un o o' (ga C S h5).1 (gb C S h6).1 (gc C S h7).1 h4,W4 C.un o o' (ga C S h5).1 (gb C S h6).1 (gc C S h7).1 h4⟩
def Vq (G:∀ m∈ms,Good T cl m):Good T cl (.and ms):=by
 intro X sc e C S h;have ee:evE cl (.and ms)=kh cl ms:=rfl;rw [ee];obtain ⟨op,es,p,rfl⟩:=CP h;cases op <;> try (cases h;done)
 rw [YC] at h;simp only [Bool.and_eq_true,Bool.not_eq_true'] at h;obtain ⟨h1,h2⟩:=Ol C S (pos:=p) G h.1 h.2;exact ⟨h1,h2.pt⟩
def Y5 (G:∀ m∈ms,Good T cl m):Good T cl (.or ms):=by
 intro X sc e C S h;have ee:evE cl (.or ms)=nG cl ms:=rfl;rw [ee];obtain ⟨op,es,p,rfl⟩:=CP h;cases op <;> try (cases h;done)
 rw [aaU] at h;simp only [Bool.and_eq_true,Bool.not_eq_true'] at h;obtain ⟨h1,h2⟩:=Tt C S (pos:=p) G h.1 h.2;exact ⟨h1,h2.pt⟩
def Xm (ga:Good T cl a):Good T cl (.not a):=by
 intro X sc e C S h;have ee:evE cl (.not a)=fun ρ=>(do let x <- evE cl a ρ;let t <- cV x;.ok (.bl (!t))):=rfl
 rw [ee];obtain ⟨op,x,p,rfl⟩:=Am h;cases op <;> try (cases h;done)
 exact ⟨aas (ga C S h).1,abw (ga C S h).2⟩
theorem VR (ga:Good T cl a):Good T cl (.neg a):=by
 intro X sc e C S h;have ee:evE cl (.neg a)=fun ρ=>(do let x <- evE cl a ρ;(match x with | .int i=>.ok (.int (-i)) | _=>.stuck)):=rfl
 rw [ee];obtain ⟨op,x,p,rfl⟩:=Am h;cases op <;> try (cases h;done)
 exact bI (abb (ga C S h).1) rfl
theorem ZD (ga:Good T cl a) (gb:Good T cl b):Good T cl (.ix a b):=by
 intro X sc e C S h;have ee:evE cl (.ix a b)=fun ρ=>(do let x <- evE cl a ρ;let y <- evE cl b ρ;ixD x y):=rfl
 rw [ee];obtain ⟨_,_,_,rfl⟩:=pB h;rw [abh] at h;simp only [Bool.and_eq_true] at h;exact bI (acK C.un (ga C S h.1.2).1 (gb C S h.2).1 h.1.1) rfl
def Ot {X:Cx}{l:Option Expr} (C:Cok T cl X) (S:ScRel sc X) (g:Good T cl lo) (h:(match l with | none=>dU lo | some y=>!dU lo && okE T X.N lo sc y)=true) :
  PO X l (tPo X (aD lo) fun ρ=>if dU lo then .ok none else (do let d <- evE cl lo ρ;ou d)):=by
 cases l with
 | none =>
  simp only at h;simp only [h,if_true];exact adl
 | some y =>
  simp only [Bool.and_eq_true,Bool.not_eq_true'] at h;simp only [h.1];exact ade (g C S h.2).1
theorem Wv {hi:M} (ga:Good T cl a) (gl:Good T cl lo) (gh:Good T cl hi):Good T cl (.slc a lo hi):=by
 intro X sc e C S h;have ee:evE cl (.slc a lo hi)=fun ρ=>(do
  let x <- evE cl a ρ
  let l <- (if dU lo then .ok none else (do let d <- evE cl lo ρ;ou d))
  let h <- (if dU hi then .ok none else (do let d <- evE cl hi ρ;ou d))
  slD x l h):=rfl
 rw [ee];obtain ⟨x,sl,p,rfl⟩:=pB h;obtain ⟨l,u,st,p2,rfl⟩:=Uj (show (isK 26 sl && _)=true from h);cases st <;> try (cases h;done)
 rw [Ym] at h;simp only [Bool.and_eq_true] at h;exact bI (aaw (ga C S h.1.1).1 (Ot C S gl h.1.2) (Ot C S gh h.2)) rfl
theorem Ry {f:Nat} (G:∀ m∈ms,Good T cl m):Good T cl (.call f ms):=by
 intro X sc e C S h;have ee:evE cl (.call f ms)=fun ρ=>(do let ds <- bF cl ms ρ;cl f ds):=rfl
 rw [ee];obtain ⟨_,_,es,p,rfl,h9⟩:=eG h;replace h:=h9;clear h9;simp only [Bool.and_eq_true,decide_eq_true_eq] at h;obtain ⟨⟨⟨⟨h1,h2⟩,h3⟩,h4⟩,h5⟩:=h;cases es with
 | nil =>
  have:=Bq h4;cases ms with
  | nil =>
   simp only [U6,Ko,qW];exact bI (Wc C (S.glb _ h2) h1 h3) rfl
  | cons _ _=>simp at this
 | cons x xs=>exact bI (Zn C (S.glb _ h2) h1 h3 (jM C S G h4 h5) h5) rfl
theorem Wn {b:BI} (G:∀ m∈ms,Good T cl m):Good T cl (.blt b ms):=by
 intro X sc e C S h;have ee:evE cl (.blt b ms)=fun ρ=>(do let ds <- bF cl ms ρ;je b ds):=rfl
 rw [ee];obtain ⟨_,_,es,p,rfl,h9⟩:=eG h;replace h:=h9;clear h9;simp only [Bool.and_eq_true,decide_eq_true_eq,Bool.not_eq_true'] at h;obtain ⟨⟨⟨⟨h1,h2⟩,h3⟩,h4⟩,h5⟩:=h;cases es with
 | nil=>cases h3
 | cons x xs =>
  by_cases hb:b=.listEnum
  .subst hb;cases xs with
   | cons _ _=>simp at h5
   | nil =>
    obtain ⟨_,_,es2,p2,rfl,h10⟩:=eG h5;replace h5:=h10;clear h10;simp only [Bool.and_eq_true,decide_eq_true_eq] at h5;obtain ⟨⟨⟨⟨q1,q2⟩,q3⟩,q4⟩,q5⟩:=h5;subst q1 h1;rcases es2 with _ | ⟨y,_ | ⟨y2,ys⟩⟩
    .simp at q5
    .have q4':=q4;simp only [List.all_cons,List.all_nil,Bool.and_eq_true] at q4';exact bI (M5 C (S.glb _ q2) (S.glb _ h2) (jM C S G q3 q4) q4'.1) rfl
    .simp at q5
  .have hp:El b=true:=by
    cases b <;> first | rfl | exact absurd rfl hb | cases h5
   have h6:cB T X.N ms sc (x::xs)=true:=by
    cases b <;> first | exact absurd rfl hb | exact h5 | cases hp
   exact bI (aaC b C h1 (S.glb _ h2) (jM C S G h6 h4) h4 hp) rfl
theorem Ti {k d:M} (gk:Good T cl k) (gd:Good T cl d):Good T cl (.dget a k d):=by
 intro X sc e C S h;have h0:(Sw a && Lk e _)=true:=h;rw [Bool.and_eq_true] at h0;cases a <;> try (cases h0.1;done)
 rename_i i;have ee:evE cl (.dget (.var i) k d)=fun ρ=>(do let x <- eZ ρ i;let y <- evE cl k ρ;let z <- evE cl d ρ;Ab x y z):=rfl
 rw [ee];obtain ⟨x,p,ap,y,z,cp,rfl,hl,h9⟩:=O5 h0.2;simp only [Bool.and_eq_true,decide_eq_true_eq] at h9;obtain ⟨⟨⟨⟨⟨⟨h1,h2⟩,h3⟩,h4⟩,h5⟩,h6⟩,h7⟩:=h9;exact bI (Y0 C.un h3 (S.vis _ h1) h2 (gk C S h4).1 (gd C S h5).1 h6 h7 hl) rfl
theorem Uy :Good T cl (.vals i):=by
 intro X sc e C S h;obtain ⟨_,p,es,q,rfl,h9⟩:=eG h;simp only [Bool.and_eq_true,decide_eq_true_eq] at h9;obtain ⟨⟨rfl,h2⟩,h3⟩:=h9;rcases es with _ | ⟨e',_ | ⟨e2,es⟩⟩ <;> try (cases h3;done)
 obtain ⟨x,p2,ap,cp,rfl,hl,h4⟩:=Z8 h3;simp only [Bool.and_eq_true,decide_eq_true_eq] at h4;exact bI (Yo C (S.glb _ h2) h4.2 (S.vis _ h4.1.1) h4.1.2 hl) rfl
theorem R8 {t:Ty} (ga:Good T cl a):Good T cl (.isin a t):=by
 intro X sc e C S h;have ee:evE cl (.isin a t)=fun ρ=>(do let x <- evE cl a ρ;.ok (.bl (iB x t))):=rfl
 rw [ee];obtain ⟨_,_,es,p,rfl,h9⟩:=eG h;replace h:=h9;clear h9;rcases es with _ | ⟨y,_ | ⟨z,_ | ⟨z2,zs⟩⟩⟩ <;> try (cases h;done)
 obtain ⟨_,_,rfl⟩:=eO (show (isK 23 z && _)=true from h);replace h:(decide (_=("isinstance":Str)) && dZ sc _ && okE T X.N a sc y && noStar y && decide (_=t.nm) && dZ sc _)=true:=h
 simp only [Bool.and_eq_true,decide_eq_true_eq] at h;obtain ⟨⟨⟨⟨⟨h1,h2⟩,h3⟩,h4⟩,h5⟩,h6⟩:=h;subst h1 h5;exact bI (Z7 C t (S.glb _ h2) (S.glb _ h6) (ga C S h3).1 h4) rfl
def vf {env:Env} (h:gw iter=true):∀ x,foldedSetIterable iter env x=pure x:=by
 intro x;cases iter <;> first | rfl | cases h
theorem tu {tg:Expr} (h:jx sc k tg iter=true):gw iter=true:=by
 cases k
 .exact h
 .obtain ⟨_,_,_,_,rfl,_⟩:=eG h;rfl
 .obtain ⟨_,_,_,_,rfl,_⟩:=eG h;rfl
 .obtain ⟨_,_,_,_,rfl,_⟩:=eG h;rfl
theorem Pa :evE cl (.comp elt tg k src hc c cap)=fun ρ=>(do
   let items <- (do let ss <- bF cl src ρ;itemsOf k ss)
   let ys <- eF (fun d=>do
    let ρ' <- eU tg d (bA cap ρ)
    let b <- (if hc then (do let x <- evE cl c ρ';cV x) else .ok true)
    if b then do let y <- evE cl elt ρ';.ok (some y) else .ok none) items
   if ys.length<=lim then .ok (.lst ys) else .stuck):=funext fun ρ=>by
  simp only [qV];cases bF cl src ρ <;> simp
def Uq (ge:Good T cl elt) (gc:Good T cl c) (G:∀ m∈src,Good T cl m):Good T cl (.comp elt tg k src hc c cap):=by
 intro X sc e C S h;rw [Pa];obtain ⟨elt',gens,scope,p,rfl⟩:=sX h;rcases gens with _ | ⟨⟨tg',iter,ifs,as⟩,_ | ⟨g2,gs⟩⟩ <;> try (cases h;done)
 rw [Jv] at h;simp only [Bool.and_eq_true,decide_eq_true_eq] at h;obtain ⟨⟨⟨⟨⟨⟨⟨h1,h2⟩,h3⟩,h4⟩,h5⟩,h6⟩,h7⟩,h8⟩:=h;subst h1;refine bI ?_ rfl;refine bG (Bk C.calm (uZ C S G h4 h5) (JM h2 S) (g:=gTg X.K tg) (tt:=tHc X hc (aD c) (evE cl c)) (te:=tM X (aD elt) (evE cl elt)) (fun s₃ H₃ fp xe=>?_) (vf (tu h4))) fun σ H Q hq=>?_
 .have S':ScRel scope (dg X scope s₃ H₃ fp xe):=FW S;have C':=C.blk scope s₃ H₃ fp xe;refine ⟨nZ C' S' h3,?_,(ge C' S' h7).1⟩;cases hc with
  | true =>
   rcases ifs with _ | ⟨i1,_ | ⟨i2,is⟩⟩ <;> try (cases h6;done)
   exact Ov (gc C' S' h6).2
  | false =>
   rcases ifs with _ | ⟨i1,is⟩ <;> try (cases h6;done)
   exact Ob
 .exact G3 h3 h8 (adn hq)
theorem good:∀ m:M,Good T cl m
 | .var i=>Wi
 | .con d=>U4
 | .tup ms=>Xe fun m hm=>good m
 | .lst ms=>UG fun m hm=>good m
 | .dct0=>Vm
 | .bin o a b=>U0 (good a) (good b)
 | .cmp o a b=>WD (good a) (good b)
 | .chain o o' a b c=>Qo (good a) (good b) (good c)
 | .and ms=>Vq fun m hm=>good m
 | .or ms=>Y5 fun m hm=>good m
 | .not a=>Xm (good a)
 | .neg a=>VR (good a)
 | .ix a b=>ZD (good a) (good b)
 | .slc a l h=>Wv (good a) (good l) (good h)
 | .dget a k d=>Ti (good k) (good d)
 | .vals i=>Uy
 | .call f ms=>Ry fun m hm=>good m
 | .blt b ms=>Wn fun m hm=>good m
 | .isin a t=>R8 (good a)
 | .comp elt tg k src hc c cap=>Uq (good elt) (good c) fun m hm=>good m
termination_by m=>sizeOf m
decreasing_by
 all_goals simp_wf
 all_goals first | omega | (have:=List.sizeOf_lt_of_mem hm;omega)
end
end Mi
namespace Mi
open PySem L2
open PyProof.Rows hiding St
noncomputable def gJ:Expr->Bool
 | .ListComp ..=>false | .SetComp ..=>false | .DictComp ..=>false | _=>true
noncomputable def Er:M->Bool
 | .comp ..=>true | _=>false
def QM (st:Stmt) (f:Str->Str->Expr->Bool->Bool):Bool:=isS 24 st && match st with
 | .Expr e _=>isK 16 e && (match e with
  | .Call g es ks cp=>isK 20 g && (match g with
   | .Attribute o m ap=>isK 23 o && (match o,es,ks with | .Name x _,[v],[]=>f x m v (ap.endLine == cp.line) | _,_,_=>false)
   | _=>false)
  | _=>false)
 | _=>false
variable {st:Stmt}
def Jr {f:Str->Str->Expr->Bool->Bool} (h:QM st f=true):∃ x p m ap v cp q,st=.Expr (.Call (.Attribute (.Name x p) m ap) [v] [] cp) q/\f x m v (ap.endLine == cp.line)=true:=by
 obtain ⟨e,q,rfl⟩:=vJ h;obtain ⟨g,es,ks,cp,rfl⟩:=nq (show (isK 16 e && _)=true from h);obtain ⟨o,m,ap,rfl⟩:=ju (show (isK 20 g && _)=true from h);obtain ⟨x,p,rfl⟩:=eO (show (isK 23 o && _)=true from h);rcases es with _ | ⟨v,_ | ⟨v2,es⟩⟩ <;> try (cases h;done)
 rcases ks with _ | ⟨k,ks⟩ <;> try (cases h;done)
 exact ⟨x,p,m,ap,v,cp,q,rfl,h⟩
def Qn (st:Stmt) (f:Str->Expr->Expr->Bool):Bool:=isS 5 st && match st with
 | .Assign ts v _=>(match ts with
  | [tg]=>isK 21 tg && (match tg with | .Subscript o k _=>isK 23 o && (match o with | .Name x _=>f x k v | _=>false) | _=>false)
  | _=>false)
 | _=>false
def Jd {f:Str->Expr->Expr->Bool} (h:Qn st f=true):∃ x p k p2 v q,st=.Assign [.Subscript (.Name x p) k p2] v q/\f x k v=true:=by
 obtain ⟨ts,v,q,rfl⟩:=vU h;rcases ts with _ | ⟨tg,_ | ⟨tg2,ts⟩⟩ <;> try (cases h;done)
 obtain ⟨o,k,p2,rfl⟩:=pB (show (isK 21 tg && _)=true from h);obtain ⟨x,p,rfl⟩:=eO (show (isK 23 o && _)=true from h);exact ⟨x,p,k,p2,v,q,rfl,h⟩
def pI:Tg->Expr->Bool
 | .one _,_=>true
 | _,v=>!Jk v
def aat (e:Expr) (f:Str->Expr->Expr->Bool):Bool:=isK 2 e && match e with
 | .BinOp l op r _=>isK 24 r && (match op,r with
  | .Add,.List [v] _=>Lk l fun x k d=>isK 24 d && (match d with | .List [] _=>f x k v | _=>false)
  | _,_=>false)
 | _=>false
variable {f:Str -> Expr -> Expr -> Bool}
def Ye {e:Expr} (h:aat e f=true):∃ x p ap k lp cp v vp q,e=.BinOp (.Call (.Attribute (.Name x p) "get" ap) [k,.List [] lp] [] cp) .Add (.List [v] vp) q /\ (ap.endLine == cp.line)=true /\ f x k v=true:=by
 obtain ⟨l,op,r,q,rfl⟩:=Gx h;obtain ⟨vs,vp,rfl⟩:=nj (show (isK 24 r && _)=true from h);cases op <;> try (cases h;done)
 rcases vs with _ | ⟨v,_ | ⟨v2,vs⟩⟩ <;> try (cases h;done)
 obtain ⟨x,p,ap,k,d,cp,rfl,hl,h2⟩:=O5 (show Lk l _=true from h);obtain ⟨ds,lp,rfl⟩:=nj (show (isK 24 d && _)=true from h2);rcases ds with _ | ⟨a,ds⟩ <;> try (cases h2;done)
 exact ⟨x,p,ap,k,lp,cp,v,vp,q,rfl,hl,h2⟩
def sdB (e:Expr) (f:Str->Expr->Expr->Bool):Bool:=isK 16 e && match e with
 | .Call g es ks cp=>isK 20 g && (match g with
  | .Attribute c m ap=>isK 16 c && (match c with
   | .Call g2 es2 ks2 cp2=>isK 20 g2 && (match g2 with
    | .Attribute o m2 ap2=>isK 23 o && (match o,es,ks,es2,ks2 with
     | .Name x _,[v],[],[k,d],[]=>isK 24 d && (match d with
      | .List [] _=>decide (m="append") && decide (m2="setdefault") && (ap.endLine == cp.line) && (ap2.endLine == cp2.line) && f x k v
      | _=>false)
     | _,_,_,_,_=>false)
    | _=>false)
   | _=>false)
  | _=>false)
 | _=>false
def abC {e:Expr} (h:sdB e f=true):∃ x p k lp ap2 cp2 v ap cp,e=.Call (.Attribute (.Call (.Attribute (.Name x p) "setdefault" ap2) [k,.List [] lp] [] cp2) "append" ap) [v] [] cp /\ (ap.endLine == cp.line)=true /\ (ap2.endLine == cp2.line)=true /\ f x k v=true:=by
 obtain ⟨g,es,ks,cp,rfl⟩:=nq h;obtain ⟨c,m,ap,rfl⟩:=ju (show (isK 20 g && _)=true from h);obtain ⟨g2,es2,ks2,cp2,rfl⟩:=nq (show (isK 16 c && _)=true from h);obtain ⟨o,m2,ap2,rfl⟩:=ju (show (isK 20 g2 && _)=true from h);obtain ⟨x,p,rfl⟩:=eO (show (isK 23 o && _)=true from h);rcases es with _ | ⟨v,_ | ⟨v2,es⟩⟩ <;> try (cases h;done)
 rcases ks with _ | ⟨k,ks⟩ <;> try (cases h;done)
 rcases es2 with _ | ⟨k,_ | ⟨d,_ | ⟨d2,es2⟩⟩⟩ <;> try (cases h;done)
 rcases ks2 with _ | ⟨k2,ks2⟩ <;> try (cases h;done)
 obtain ⟨l,lp,rfl⟩:=nj (show (isK 24 d && _)=true from h);rcases l with _ | ⟨a,l⟩ <;> try (cases h;done)
 have h2:(decide (m="append") && decide (m2="setdefault") && (ap.endLine == cp.line) && (ap2.endLine == cp2.line) && f x k v)=true:=h
 simp only [Bool.and_eq_true,decide_eq_true_eq] at h2;obtain ⟨⟨⟨⟨rfl,rfl⟩,h3⟩,h4⟩,h5⟩:=h2;exact ⟨x,p,k,lp,ap2,cp2,v,ap,cp,rfl,h3,h4,h5⟩
def okG (T:Tx) (N:zk) (sc:Scope) (i:Nat):GS->Stmt->Bool
 | .sda k v,st=>isS 24 st && match st with
  | .Expr e _=>sdB e fun x k' v'=>jO sc x && aK x && decide (N[i]?=some x) && okE T N k sc k' && okE T N v sc v' && noStar k' && noStar v'
  | _=>false
 | .forr t ik src b,st=>isS 9 st && match st with
  | .For tg iter body els _=>els.isEmpty && (tgB N sc t tg && jx sc ik tg iter && cB T N src sc (jX ik iter) && (match body with | [s]=>okG T N sc i b s | _=>false))
  | _=>false
mutual
noncomputable def okS (T:Tx) (N:zk) (sc:Scope):MS->Stmt->Bool
 | .set t e,st=>isS 5 st && match st with | .Assign [tg] v _=>tgB N sc t tg && okE T N e sc v && (gJ v || Er e) && pI t v | _=>false
 | .app i e,st=>QM st fun x m v b=>jO sc x && aK x && decide (N[i]?=some x) && decide (m="append") && okE T N e sc v && noStar v && b
 | .ext i e,st=>QM st fun x m v b=>jO sc x && aK x && decide (N[i]?=some x) && decide (m="extend") && okE T N e sc v && noStar v && b
 | .put i k v,st=>Qn st fun x k' v'=>jO sc x && aK x && decide (N[i]?=some x) && jV k' && okE T N k sc k' && okE T N v sc v' && gJ v'
 | .expr e,st=>isS 24 st && match st with | .Expr v _=>okE T N e sc v && gJ v | _=>false
 | .ret e,st=>isS 3 st && match st with
  | .Return (some v) _=>okE T N e sc v
  | .Return none _=>dU e
  | _=>false
 | .ifs c a b,st=>isS 12 st && match st with | .If c' a' b' _=>okE T N c sc c' && okB T N sc a a' && okB T N sc b b' | _=>false
 | .forr t k src b,st=>isS 9 st && match st with | .For tg iter body els _=>els.isEmpty && (tgB N sc t tg && jx sc k tg iter && cB T N src sc (jX k iter) && okB T N sc b body) | _=>false
 | .rai,st=>match st with | .Raise ..=>true | _=>false
 | .chk _ _,_=>false
 | .grp i g,st=>okG T N sc i g st
 | .acc i k e,st=>Qn st fun x k' v'=>jO sc x && aK x && decide (N[i]?=some x) && jV k' && okE T N k sc k' && gJ v' && aat v' fun x2 k2 e'=>decide (x2=x) && okE T N k sc k2 && noStar k2 && okE T N e sc e' && noStar e'
noncomputable def okB (T:Tx) (N:zk) (sc:Scope):List MS->zn->Bool
 | [],sts=>sts.isEmpty
 | m::ms,sts=>match sts with | st::sts=>okS T N sc m st && okB T N sc ms sts | []=>false
end
variable {tg w:Expr}{pos:Pos}
section
variable {T:Tx}{N:zk}{sc:Scope}{st:Stmt}{i:Nat}{e k v c:M}{t:Tg}{a b:List MS}{src:List M}{ik:IK}{sts:zn}{m:MS}
theorem YK :okS T N sc (.set t e) (.Assign [tg] w pos)=(tgB N sc t tg && okE T N e sc w && (gJ w || Er e) && pI t w):=rfl
theorem Wk :okS T N sc (.expr e) (.Expr w pos)=(okE T N e sc w && gJ w):=rfl
theorem Z0 {c':Expr}{a' b':zn}:okS T N sc (.ifs c a b) (.If c' a' b' pos)=(okE T N c sc c' && okB T N sc a a' && okB T N sc b b'):=rfl
theorem ZW:okB T N sc [] sts=sts.isEmpty:=rfl
theorem Wj:okB T N sc (m::a) (st::sts)=(okS T N sc m st && okB T N sc a sts):=rfl
end
section
variable {inv O:zi}{i j:Nat}{e k v c:M}{a b:List MS}{t:Tg}{ik:IK}{src:List M}{m:MS}
theorem WM:uJ inv (.app i e) O=(if (without O (aD e)).contains i then some (some (without O (aD e))) else none):=rfl
theorem Wq:uJ inv (.ext i e) O=(if (without O (aD e)).contains i then some (some (without O (aD e))) else none):=rfl
theorem Vo:uJ inv (.put i k v) O=(if (without O (aD k++aD v)).contains i then some (some (without O (aD k++aD v))) else none):=rfl
theorem WT:uJ inv (.ifs c a b) O=(do
  let x <- jf inv a O
  let y <- jf inv b O
  some (jc x y)):=rfl
theorem Xk:uJ inv (.forr t ik src b) O=(do
  let O1:=without (without O (aP src)) (aM t)
  let x <- jf O1 b O1
  let O2:=(jc (some O1) x).getD []
  let y <- jf O2 b O2
  match y with
  | none=>some (some O2)
  | some O3=>if O2.all (fun i=>O3.contains i) then some (some O2) else none):=rfl
theorem Rn:jf inv (m::a) O=(do
  let x <- uJ inv m O
  match x with
  | none=>some none
  | some O1=>jf inv a O1):=rfl
end
def jH (g:G) (E:Ent) (Es Hs:Hp) (O':Ow) (inv:zi) (D:Ends):Out->Prop
 | .nx ρ'=>∀ O1,O'=some O1->∀ σ' H' Hs',FR g E Es O1 ρ' σ' H' Hs'->Same Hs Hs'->D.nx σ' H'
 | .rt d=>∀ v H' Hs',Grow E.hp Es H' Hs'->Rp g Hs' d v->D.rt v H'
theorem jH.mono {g:G}{E:Ent}{Es Hs Hs1:Hp}{O':Ow}{inv:zi}{D:Ends}{o:Out} (h:jH g E Es Hs O' inv D o) (m:Same Hs Hs1):jH g E Es Hs1 O' inv D o:=by
 cases o with
 | nx ρ=>exact fun O1 e σ' H' Hs' F s=>h O1 e σ' H' Hs' F (m.trans s)
 | rt d=>exact h
def tMS (X:Cx) (E:Ent) (Es:Hp) (O:zi) (O':Ow) (inv:zi) (run:En->R Out):TS:=fun D σ H=>∃ ρ Hs o,FR (gOf X) E Es O ρ σ H Hs/\run ρ=.ok o/\jH (gOf X) E Es Hs O' inv D o
variable {X:Cx}{t':TS}
theorem bZ {t:TS} (h:PS X st t) (i:∀ D σ H,t' D σ H->t D σ H):PS X st t':=fun pins s σ H D I hq=>h pins s σ H D I (i D σ H hq)
theorem rG {st:zn}{t:TS} (h:PSs X st t) (i:∀ D σ H,t' D σ H->t D σ H):PSs X st t':=fun pins s σ H D I hq=>h pins s σ H D I (i D σ H hq)
section
variable {g:G}{E:Ent}{Es:Hp}{O O':zi}{ρ:En}{σ:St}{H Hs H' Hs':Hp}
theorem FR.vs (F:FR g E Es O ρ σ H Hs) {U:zi} (h:∀ i∈U,i ∉ O):Vs g ρ σ Hs U:=⟨F.len,fun i hi d e=>F.val i d e (h i hi)⟩
theorem FR.pubU (F:FR g E Es O ρ σ H Hs) (U:zi):∃ Hs',FR g E Es (without O U) ρ σ H Hs'/\Same Hs Hs'/\Vs g ρ σ Hs' U:=by
 obtain ⟨Hs',F',m,_⟩:=FR.pubs U F;exact ⟨Hs',F',m,F'.vs fun i hi hm=>(bK.mp hm).2 hi⟩
theorem FR.pubW (F:FR g E Es O ρ σ H Hs) (U:zi):∃ Hs',FR g E Es (without O U) ρ σ H Hs'/\Same Hs Hs'/\Vs g ρ σ Hs' U/\jm Hs Hs':=by
 obtain ⟨Hs',F',m,w⟩:=FR.pubs U F;exact ⟨Hs',F',m,F'.vs fun i hi hm=>(bK.mp hm).2 hi,w⟩
theorem FR.putL:∀ {l:List (Nat × D × V)}{O:zi}{ρ:En}{σ:St},FR g E Es O ρ σ H Hs->(∀ q∈E.pins,q.1 ∉ l.map (·.1))->(∀ p∈l,Rp g Hs p.2.1 p.2.2)->FR g E Es (without O (l.map (·.1))) (putL ρ (l.map fun p=>(p.1,p.2.1))) (putL σ (l.map fun p=>(p.1,p.2.2))) H Hs
 | [],O,ρ,σ,F,hq,h=>F.congrO fun i=>by rw [bK];simp
 | (i,d,v)::l,O,ρ,σ,F,hq,h=>by
  have F1:=F.setS (i:=i) (fun q hm e=>hq q hm (by rw [List.map_cons,e];exact vi)) (h _ vi);have F2:=FR.putL F1 (fun q hm e=>hq q hm (ve _ e)) fun p hp=>h p (ve _ hp)
  simp only [List.map_cons,Mi.putL];refine F2.congrO fun j=>?_
  rw [bK,bK,bK];simp;constructor
  .rintro ⟨a,b,c⟩;exact ⟨⟨a,b⟩,c⟩
  .rintro ⟨⟨a,b⟩,c⟩;exact ⟨a,b,c⟩
end
variable {v:Expr}{l:Nat}
def jL {t:Option Expr}{env:Env} (h:gJ v=true):swapsWith v t l env=pure false:=by
 cases v <;> first | rfl | cases h
variable {N:zk}{sc:Scope}{t:Tg}
theorem lK {env:Env} (h:pI t v=true) (h1:tgB N sc t tg=true):swappedStores [tg] v env=pure none:=by
 cases t with
 | one i =>
  obtain ⟨_,_,rfl,_⟩:=uT h1;cases v <;> rfl
 | two i j =>
  obtain ⟨_,_,_,_,_,_,rfl,_⟩:=vm h1;cases v <;> first | (cases h;done) | rfl
theorem assign1 {env:Env} (h:tgB N sc t tg=true):(assignEach [tg] env).map (·.2)=[assign tg env]:=by
 cases t with
 | one i =>
  obtain ⟨_,_,rfl,_⟩:=uT h;rfl
 | two i j =>
  obtain ⟨_,_,_,_,_,_,rfl,_⟩:=vm h;rfl
variable {e elt c mk:M}{p ap cp p2:Pos}{x:Str}{tg':Tg}{k:IK}{src:List M}{hc:Bool}{cap:List Bool}{i:Nat}{kx:Expr}
section
variable {T:Tx}{cl:Nat->List D->R D}{X:Cx}{sc:Scope}{E:Ent}{Es:Hp}{O:zi}{inv:zi}{pos:Pos}
def T7 (C:Cok T cl X) (S:ScRel sc X) (hq:∀ q∈E.pins,q.1 ∉ aM t) (h1:tgB X.N sc t tg=true) (h2:okE T X.N e sc v=true) (h3:gJ v=true) (h4:pI t v=true) :
  PS X (.Assign [tg] v pos) (tMS X E Es O (some (without (without O (aD e)) (aM t))) inv (cF cl (.set t e))):=by
 refine bZ (oY (good e C S h2).1 (nZ C S h1) (jL (t:=some tg) (l:=pos.line) (env:=X.env) h3) (lK h4 h1) (assign1 h1)) fun D σ H=>?_
 rintro ⟨ρ,Hs,o,F,h,k⟩;simp only [qq,qr,qu,qv,qR,qw,qx,qy,qz] at h;obtain ⟨d,hd,hb⟩:=aj h;obtain ⟨ρ',hρ,hb2⟩:=aj hb;clear h hb;cases hb2;obtain ⟨Hs1,F1,m1,vs⟩:=F.pubU (aD e);refine ⟨ρ,Hs1,d,F1.sub,vs,hd,fun x H1 Hs2 g2 r2=>?_⟩;have F2:=F1.grown g2;refine rF (X:=X) g2.sub hρ r2 fun l hl hrl eρ=>?_
 have F3:=F2.putL (by rw [hl];exact hq) hrl;rw [hl,<- eρ] at F3;exact k _ rfl _ _ _ F3 (m1.trans (g2.same F1.sub))
def swB (sc:Scope) (x:Str) (l1 l2:Nat) (scope:Scope):Bool:=(sc.names.lookup x == some .local) && l1 == l2 && !(scope.names.any fun (n,k)=>n == x && (k == .local || k == .cell))
theorem Le {elt:Expr}{gs:List Comprehension}{scope:Scope}{p':Pos}{env:Env} (hk:env.scope.kind=.function):swapsWith (.ListComp elt gs scope p) (some (.Name x p')) l env=pure (swB env.scope x p'.line p.line scope):=by
 show (pure (env.blockKind == .function && env.kindOf x == some .local && p'.line == p.line && !(scope.names.any fun (n,k)=>n == x && (k == .local || k == .cell))):Sem Bool)=_
 have hb:env.blockKind=.function:=by unfold Env.blockKind;rw [hk];rfl
 rw [hb];rfl
def VF {TSx:TS} (C:Cok T cl X) (S:ScRel sc X) (h1:tgB X.N sc t tg=true) (h2:okE T X.N (.comp elt tg' k src hc c cap) sc v=true) (h4:pI t v=true)
  (read:∀ D σ H,TSx D σ H->WY (tMf X (aD (.comp elt tg' k src hc c cap)) (evE cl (.comp elt tg' k src hc c cap))) (gTg X.K t) D σ H):PS X (.Assign [tg] v pos) TSx:=by
 have h2':=h2;obtain ⟨elt',gens,scope,p,rfl⟩:=sX h2';rcases gens with _ | ⟨⟨tgx,iter,ifs,as⟩,_ | ⟨g2,gs⟩⟩ <;> try (cases h2';done)
 rw [Jv] at h2';simp only [Bool.and_eq_true,decide_eq_true_eq] at h2';obtain ⟨⟨⟨⟨⟨⟨⟨q1,q2⟩,q3⟩,q4⟩,q5⟩,q6⟩,q7⟩,q8⟩:=h2';subst q1;have blk:∀ s₃ H₃ fp xe,PG (dg X scope s₃ H₃ fp xe) tgx (gTg X.K tg')/\PTs (dg X scope s₃ H₃ fp xe) ifs (tHc X hc (aD c) (evE cl c))/\PE (dg X scope s₃ H₃ fp xe) elt' (tM X (aD elt) (evE cl elt)):=fun s₃ H₃ fp xe=>by
  have S':ScRel scope (dg X scope s₃ H₃ fp xe):=FW S;have C':=C.blk scope s₃ H₃ fp xe;refine ⟨nZ C' S' q3,?_,(good elt C' S' q7).1⟩;cases hc with
  | true =>
   rcases ifs with _ | ⟨i1,_ | ⟨i2,is⟩⟩ <;> try (cases q6;done)
   exact Ov (good c C' S' q6).2
  | false =>
   rcases ifs with _ | ⟨i1,is⟩ <;> try (cases q6;done)
   exact Ob
 have rd:∀ σ H (Q:VK),tMf X (aD (.comp elt tg' k src hc c cap)) (evE cl (.comp elt tg' k src hc c cap)) σ H Q->Dz (tI X (aP src) fun ρ=>do let ss <- bF cl src ρ;itemsOf k ss) (gTg X.K tg') (tHc X hc (aD c) (evE cl c)) (tM X (aD elt) (evE cl elt)) (bA (cU X.N scope)) σ H Q:=fun σ H Q h=>by
  rw [Pa] at h;exact G3 q3 q8 h
 have hE:PE X (.ListComp elt' [⟨tgx,iter,ifs,0⟩] scope p) (tMf X (aD (.comp elt tg' k src hc c cap)) (evE cl (.comp elt tg' k src hc c cap))) :=
  bG (Bk C.calm (uZ C S (fun m _=>good m) q4 q5) (JM q2 S) blk (vf (tu q4))) rd
 cases t with
 | two i j =>
  have hno:∀ l env,swapsWith (.ListComp elt' [⟨tgx,iter,ifs,0⟩] scope p) (some tg) l env=pure false:=fun l env=>by
   obtain ⟨_,_,_,_,_,_,rfl,_⟩:=vm h1;rfl
  exact bZ (oY hE (nZ C S h1) (hno pos.line X.env) (lK h4 h1) (assign1 h1)) read
 | one i =>
  have h1':=h1;clear h1;obtain ⟨x,p',rfl,h1⟩:=uT h1';obtain ⟨l1,l2⟩:=S.own _ h1.1;cases hsw:swB X.env.scope x p'.line p.line scope with
  | false =>
   intro pins s σ H D I h;have e0:swapsWithSole [.Name x p'] (.ListComp elt' [⟨tgx,iter,ifs,0⟩] scope p) pos.line X.env=pure (swB X.env.scope x p'.line p.line scope):=Le (l:=pos.line) I.ok.kind;exact oY hE (nZ C S h1') (by rw [e0,hsw]) (lK h4 h1') (assign1 h1') pins s σ H D I (read D σ H h)
  | true =>
   exact bZ (QB C.nd h1.2 l1 l2 (fun hk=>by rw [Le hk,hsw]) C.calm (uZ C S (fun m _=>good m) q4 q5) (JM q2 S) blk (vf (tu q4))) fun D σ H h=>rd _ _ _ (read D σ H h)
def Oc (C:Cok T cl X) (S:ScRel sc X) (hq:∀ q∈E.pins,q.1 ∉ aM t) (h1:tgB X.N sc t tg=true) (h2:okE T X.N (.comp elt tg' k src hc c cap) sc v=true) (h4:pI t v=true) :
  PS X (.Assign [tg] v pos) (tMS X E Es O (some (without (without O (aD (.comp elt tg' k src hc c cap))) (aM t))) inv (cF cl (.set t (.comp elt tg' k src hc c cap)))):=by
 refine VF C S h1 h2 h4 fun D σ H=>?_
 rintro ⟨ρ,Hs,o,F,h,kk⟩;simp only [qq,qr,qu,qv,qR,qw,qx,qy,qz] at h;obtain ⟨d,hd,hb⟩:=aj h;obtain ⟨ρ',hρ,hb2⟩:=aj hb;clear h hb;cases hb2;obtain ⟨Hs1,F1,m1,vs⟩:=F.pubU (aD (.comp elt tg' k src hc c cap));refine ⟨ρ,Hs1,d,F1.sub,vs,hd,fun x H1 Hs2 g2 r2 _=>?_⟩;have F2:=F1.grown g2;refine rF (X:=X) g2.sub hρ r2 fun l hl hrl eρ=>?_
 have F3:=F2.putL (by rw [hl];exact hq) hrl;rw [hl,<- eρ] at F3;exact kk _ rfl _ _ _ F3 (m1.trans (g2.same F1.sub))
def Yi {ms:List M} (C:Cok T cl X) (S:ScRel sc X) (hq:∀ q∈E.pins,q.1≠i) (h1:tgB X.N sc (.one i) tg=true) (h2:okE T X.N (.lst ms) sc v=true) (h3:gJ v=true) (h4:pI (.one i) v=true) :
  PS X (.Assign [tg] v pos) (tMS X E Es O (some (i::without (without O (aD (.lst ms))) [i])) inv (cF cl (.set (.one i) (.lst ms)))):=by
 obtain ⟨_,_,rfl⟩:=nj h2;rw [OD] at h2;simp only [Bool.and_eq_true] at h2;refine bZ (oY (uW (jM C S (fun m _=>good m) h2.1 h2.2)) (nZ C S h1) (jL (t:=some tg) (l:=pos.line) (env:=X.env) h3) (lK h4 h1) (assign1 h1)) fun D σ H=>?_
 rintro ⟨ρ,Hs,o,F,h,k⟩;simp only [qq,wD,wE,wC] at h;obtain ⟨d,hd,hb⟩:=aj h;obtain ⟨ρ',hρ,hb2⟩:=aj hb;clear h hb;obtain ⟨ds,hds,hd2⟩:=aj hd;clear hd;obtain ⟨hlim,hd3⟩:=dH hd2;clear hd2;cases hd3;cases hρ;cases hb2;obtain ⟨Hs1,F1,m1,vs⟩:=F.pubU (aP ms);refine ⟨ρ,Hs1,ds,F1.sub,vs,hds,fun xs H1 Hs2 g2 r2=>⟨by rw [<- r2.length];exact vF hlim jt,fun p hp=>?_⟩⟩;have F2:=F1.grown g2;have F3:=F2.setO (i:=i) (d:=.lst ds) (o:=.lst xs) hq hp ⟨xs,aA,r2⟩;exact k _ rfl _ _ _ F3 (m1.trans (g2.same F1.sub))
def ZM (C:Cok T cl X) (S:ScRel sc X) (hq:∀ q∈E.pins,q.1≠i) (h1:tgB X.N sc (.one i) tg=true) (h2:okE T X.N .dct0 sc v=true) (h3:gJ v=true) (h4:pI (.one i) v=true) :
  PS X (.Assign [tg] v pos) (tMS X E Es O (some (i::without (without O (aD .dct0)) [i])) inv (cF cl (.set (.one i) .dct0))):=by
 obtain ⟨ks,vs,p,rfl⟩:=IW h2;cases ks <;> try (cases h2;done)
 cases vs <;> try (cases h2;done)
 refine bZ (oY Oz (nZ C S h1) (jL (t:=some tg) (l:=pos.line) (env:=X.env) h3) (lK h4 h1) (assign1 h1)) fun D σ H=>?_
 rintro ⟨ρ,Hs,o,F,h,k⟩;simp only [qq,wD,wE,wC,qP,wO] at h;cases h;obtain ⟨Hs1,F1,m1,vs⟩:=F.pubU [];intro p hp;have F3:=F1.setO (i:=i) (d:=.dct [] []) (o:=.ext (DAt (gOf X) p [] [] 0)) hq hp ⟨[],[],0,aA,rfl,Rps.nil,Rps.nil⟩;exact k _ rfl _ _ _ F3 m1
def rH {ρ:En}{d:D} (h:eZ ρ i=.ok d):ρ[i]?=some (some d):=by
 unfold eZ at h;split at h
 .cases h;assumption
 .cases h
def aaf (C:Cok T cl X) (S:ScRel sc X) (hv:jO sc x=true) (ho:aK x=true) (hN:X.N[i]?=some x) (h2:okE T X.N e sc v=true) (hn:noStar v=true) (hl:(ap.endLine == cp.line)=true)
  (hi:i ∈ without O (aD e)):PS X (.Expr (.Call (.Attribute (.Name x p) "append" ap) [v] [] cp) pos) (tMS X E Es O (some (without O (aD e))) inv (cF cl (.app i e))):=by
 unfold aK at ho;simp only [Bool.and_eq_true,Bool.not_eq_true'] at ho;refine bZ (rJ (QT PySem.F.plainAttrs_list PySem.F.slot_list_append PySem.F.type_list_append yc (jW hN (S.vis _ hv) ho.1.1 ho.1.2) (fG (good e C S h2).1 jg (aC hn)) rfl (by rw [aC hn];rfl) hl (aC hn) rfl) rfl) fun D σ H=>?_
 rintro ⟨ρ,Hs,o,F,h,k⟩;simp only [qq,qr,qu,qv,qR,qw,qx,qy,qz] at h;obtain ⟨l,hl1,hb⟩:=aj h;obtain ⟨d,hd,hb1⟩:=aj hb;obtain ⟨l',hl',hb2⟩:=aj hb1;clear h hb hb1;cases hb2;obtain ⟨Hs1,F1,m1,vs⟩:=F.pubU (aD e);have hρ:=rH hl1;obtain ⟨a,ea,a0,a1,ow⟩:=F1.own i hi l hρ;cases l <;> try (cases hl';done)
 rename_i ds;simp only [xZ] at hl';obtain ⟨hlt,hl2⟩:=dH hl';clear hl';cases hl2;obtain ⟨xs,hxs,rxs⟩:=ow;refine ⟨.ref a,ea,.inl ⟨rfl,xs,SqL.of hxs⟩,ρ,Hs1,d,F1.sub,vs,hd,fun y H1 Hs2 g2 r2=>?_⟩;have F2:=F1.grown g2;have hl:=rxs.length;have hlim:=jt;refine ⟨a,xs,y,rfl,rfl,g2.keep a _ hxs,by omega,?_⟩;have F3:=F2.mut (o:=.lst (xs++[y])) (d':=.lst (ds++[d])) hi hρ ea ⟨_,aA,(rxs.mono (g2.same F1.sub)).append (Rps.one r2)⟩;exact k _ rfl _ _ _ F3 (m1.trans (g2.same F1.sub))
def aaI (C:Cok T cl X) (S:ScRel sc X) (hv:jO sc x=true) (ho:aK x=true) (hN:X.N[i]?=some x) (h2:okE T X.N e sc v=true) (hn:noStar v=true) (hl:(ap.endLine == cp.line)=true)
  (hi:i ∈ without O (aD e)):PS X (.Expr (.Call (.Attribute (.Name x p) "extend" ap) [v] [] cp) pos) (tMS X E Es O (some (without O (aD e))) inv (cF cl (.ext i e))):=by
 unfold aK at ho;simp only [Bool.and_eq_true,Bool.not_eq_true'] at ho;refine bZ (rJ (QT PySem.F.plainAttrs_list PySem.F.slot_list_extend PySem.F.type_list_extend Zr (jW hN (S.vis _ hv) ho.1.1 ho.1.2) (fG (good e C S h2).1 jg (aC hn)) rfl (by rw [aC hn];rfl) hl (aC hn) rfl) rfl) fun D σ H=>?_
 rintro ⟨ρ,Hs,o,F,h,k⟩;simp only [qq,qr,qu,qv,qR,qw,qx,qy,qz] at h;obtain ⟨l,hl1,hb⟩:=aj h;obtain ⟨d,hd,hb1⟩:=aj hb;obtain ⟨l',hl',hb2⟩:=aj hb1;clear h hb hb1;cases hb2;obtain ⟨Hs1,F1,m1,vs⟩:=F.pubU (aD e);have hρ:=rH hl1;obtain ⟨a,ea,a0,a1,ow⟩:=F1.own i hi l hρ;cases l <;> try (cases hl';done)
 rename_i ds;obtain ⟨xs,hxs,rxs⟩:=ow;refine ⟨.ref a,ea,.inl ⟨rfl,xs,SqL.of hxs⟩,ρ,Hs1,d,F1.sub,vs,hd,fun y H1 Hs2 g2 r2=>?_⟩;have F2:=F1.grown g2;have hl:=rxs.length;cases d <;> try (cases hl';done)
 .simp only [Jx] at hl';obtain ⟨hlt,hl2⟩:=dH hl';clear hl';cases hl2;obtain ⟨b,zs,rfl,s1,rz⟩:=cN.mp r2;have hz:=rz.length;refine ⟨a,b,xs,zs,rfl,rfl,g2.keep a _ hxs,.inl (bD g2.sub s1),by omega,?_⟩;have F3:=F2.mut (o:=.lst (xs++zs)) (d':=.lst (ds++_)) hi hρ ea ⟨_,aA,(rxs.mono (g2.same F1.sub)).append rz⟩;exact k _ rfl _ _ _ F3 (m1.trans (g2.same F1.sub))
def ab0 {mv:M} (C:Cok T cl X) (S:ScRel sc X) (hv:jO sc x=true) (ho:aK x=true) (hN:X.N[i]?=some x) (h2:okE T X.N mk sc kx=true) (h3:okE T X.N mv sc v=true) (h4:gJ v=true) (hp:jV kx=true)
  (hi:i∈without O (aD mk++aD mv)):PS X (.Assign [.Subscript (.Name x p) kx p2] v pos) (tMS X E Es O (some (without O (aD mk++aD mv))) inv (cF cl (.put i mk mv))):=by
 unfold aK at ho;simp only [Bool.and_eq_true,Bool.not_eq_true'] at ho;have hst:swappedStores [.Subscript (.Name x p) kx p2] v X.env=pure none:=by cases v <;> rfl
 refine bZ (oY (good mv C S h3).1 (Tw (jW hN (S.vis _ hv) ho.1.1 ho.1.2) (good mk C S h2).1 (set_dict C.un) (by intro _;cases kx <;> first | rfl | cases hp)) (jL (t:=some (.Subscript (.Name x p) kx p2)) (l:=pos.line) (env:=X.env) h4) hst rfl) fun D σ H=>?_
 rintro ⟨ρ,Hs,o,F,h,k⟩;simp only [qq,qr,qu,qv,qR,qw,qx,qy,qz] at h;obtain ⟨dv,hdv,hb⟩:=aj h;obtain ⟨l,hl1,hb0⟩:=aj hb;obtain ⟨dk,hdk,hb1⟩:=aj hb0;obtain ⟨l',hl',hb2⟩:=aj hb1;clear h hb hb0 hb1;cases hb2;obtain ⟨Hs1,F1,m1,vs⟩:=F.pubU (aD mk++aD mv);have hρ:=rH hl1;obtain ⟨a,ea,a0,a1,ow⟩:=F1.own i hi l hρ;cases l <;> try (cases hl';done)
 rename_i ks vs0;simp only [putD] at hl';obtain ⟨⟨hk,hlt,hlen⟩,hl2⟩:=dH hl';clear hl';cases hl2;obtain ⟨xs,ys,ep,hxs,e1,rk,rv⟩:=ow;refine ⟨ρ,Hs1,dv,F1.sub,vs.r,hdv,fun y H1 Hs2 g2 r2=>?_⟩;refine ⟨.ref a,ea,ρ,Hs2,dk,g2.sub,vs.l.mono (g2.same F1.sub),hdk,fun z H2 Hs3 g3 r3=>?_⟩;have g4:=g2.trans g3;have F2:=F1.grown g4;have hs:=F2.sub;have m3:=g4.same F1.sub;refine ⟨a,dk,ks,xs,ys,rfl,r3.mono hs,hk,⟨⟨ep,g4.keep a _ hxs⟩,e1,rk.mono (m3.trans hs)⟩,by rw [e1,List.length_map] at hlt;exact hlt,fun b u ep' eb ru=>?_⟩;subst eb;obtain ⟨q1,q3,q4⟩:=GR (X:=X) (H:=Hs3) (a:=a) (u:=u) e1 (rk.mono m3) (rv.mono m3) r3 (r2.mono (g3.same g2.sub)) hlen;have F3:=F2.mut (o:=.ext (DAt (gOf X) a (lD xs ys dk b u y).1 (lD xs ys dk b u y).2 ep')) (d':=.dct (iy ks vs0 dk dv).1 (iy ks vs0 dk dv).2) hi hρ ea ⟨_,_,_,aA,q1,q3,q4⟩;exact k _ rfl _ _ _ F3 (m1.trans m3)
theorem Lg:∀ {ks vs:List D}{k:D},ks.length=vs.length->cT ks vs k=none->k ∉ ks
 | [],vs,k,hl,h=>by simp
 | c::ks,[],k,hl,h=>by simp at hl
 | c::ks,v::vs,k,hl,h=>by
  by_cases e:c=k
  .have e1:cT (c::ks) (v::vs) k=some v:=if_pos e;rw [e1] at h;cases h
  .have e1:cT (c::ks) (v::vs) k=cT ks vs k:=if_neg e;rw [e1] at h;have:=Lg (by simpa using hl) h;simp [this,Ne.symm e]
def aaH {me:M}{k2 e':Expr}{p3 lp vp q:Pos} (C:Cok T cl X) (S:ScRel sc X) (hv:jO sc x=true) (ho:aK x=true) (hN:X.N[i]?=some x) (h2:okE T X.N mk sc kx=true) (h2':okE T X.N mk sc k2=true) (n2:noStar k2=true) (h3:okE T X.N me sc e'=true) (n3:noStar e'=true) (hl2:(ap.endLine == cp.line)=true) (hp:jV kx=true)
  (hi:i ∈ without O (aD mk ++ aD me)):PS X (.Assign [.Subscript (.Name x p) kx p2] (.BinOp (.Call (.Attribute (.Name x p3) "get" ap) [k2,.List [] lp] [] cp) .Add (.List [e'] vp) q) pos) (tMS X E Es O (some (without O (aD mk ++ aD me))) inv (cF cl (.acc i mk me))):=by
 unfold aK at ho;simp only [Bool.and_eq_true,Bool.not_eq_true'] at ho;refine bZ (oY (Xw Nm (Ld C.un (jW hN (S.vis _ hv) ho.1.1 ho.1.2) (good mk C S h2').1 (uW jg) ⟨rfl,by rw [aC n2];rfl,hl2,by rw [aC n2];rfl⟩) (uW (fG (good me C S h3).1 jg (aC n3))))
  (Tw (jW hN (S.vis _ hv) ho.1.1 ho.1.2) (good mk C S h2).1 (set_dict C.un) (by intro _;cases kx <;> first | rfl | cases hp)) rfl rfl rfl) fun DD σ H=>?_
 rintro ⟨ρ,Hs,o,F,h,k⟩;rw [wa] at h;obtain ⟨dk,hdk,hb⟩:=aj h;obtain ⟨dv,hdv,hb0⟩:=aj hb;obtain ⟨l,hl1,hb1⟩:=aj hb0;obtain ⟨l',hl',hb2⟩:=aj hb1;clear h hb hb0 hb1;cases hb2;obtain ⟨Hs1,F1,m1,vs⟩:=F.pubU (aD mk++aD me);have hρ:=rH hl1;obtain ⟨a,ea,a0,a1,ow⟩:=F1.own i hi l hρ;cases l <;> try (cases hl';done)
 rename_i ks vs0;simp only [pG] at hl';obtain ⟨⟨hk,hlt,hlen⟩,hl2⟩:=dH hl';clear hl';obtain ⟨xs,ys,ep,hxs,e1,rk,rv⟩:=ow;have hll:=jt;have was:∃ ds:List D,(cT ks vs0 dk).getD (.lst [])=.lst ds/\ds.length < lim/\l'=.dct (iy ks vs0 dk (.lst (ds++[dv]))).1 (iy ks vs0 dk (.lst (ds++[dv]))).2:=by
  cases eg:cT ks vs0 dk with
  | none =>
   rw [eg] at hl2;refine ⟨[],rfl,by decide,?_⟩;have hno:=Lg hlen eg;unfold iy;rw [if_neg hno];exact (CT hl2).symm
  | some z =>
   rw [eg] at hl2;cases z <;> try (cases hl2;done)
   rename_i ds;obtain ⟨h5,h6⟩:=dH hl2;exact ⟨ds,rfl,h5,(CT h6).symm⟩
 obtain ⟨ds,eds,dlt,rfl⟩:=was;refine ⟨.ref a,ea,a,ks,xs,ys,rfl,⟨⟨ep,hxs⟩,e1,rk.mono F1.sub⟩,ρ,Hs1,dk,F1.sub,vs.l,hdk,fun y H1 Hs2 g2 r2=>⟨vS _,fun p1 hp1=>?_⟩⟩;have F2:=F1.grown g2;have g3:Grow H1 Hs2 (upd H1 p1 (.lst [])) (upd Hs2 p1 (.lst [])):=Grow.new F2.sub hp1;have gA:=g2.trans g3;have F3:=F1.grown gA;have mA:=gA.same F1.sub;refine ⟨dk,ks,xs,ys,(r2.mono (g3.same F2.sub)).mono F3.sub,hk,⟨⟨ep,gA.keep a _ hxs⟩,e1,rk.mono (mA.trans F3.sub)⟩,?_⟩;have rw0:Rp (gOf X) (upd Hs2 p1 (.lst [])) (.lst ds) ((atV xs ys dk).getD (.ref p1)):=by
  rw [<- eds];subst e1;rcases gets (k:=dk) (xs:=xs) (rv.mono mA) with ⟨z',v,j1,j2,j3⟩ | ⟨j1,j2⟩
  .rw [j1,j2];exact j3
  .rw [j1,j2];exact cN.mpr ⟨p1,[],rfl,SqL.of aA,Rps.nil⟩
 revert rw0
 generalize (atV xs ys dk).getD (.ref p1)=w;intro rw0;refine ⟨ρ,upd Hs2 p1 (.lst []),dv,F3.sub,vs.r.mono mA,hdv,fun z H4 Hs4 g4 r4=>⟨by show 1<=sizeLine;decide,fun p4 hp4=>?_⟩⟩;have F4:=F3.grown g4;have g5:Grow H4 Hs4 (upd H4 p4 (.lst [z])) (upd Hs4 p4 (.lst [z])):=Grow.new F4.sub hp4;have gB:=g4.trans g5;have F5:=F3.grown gB;obtain ⟨b,zs,rfl,sb,rz⟩:=cN.mp rw0;have hz:=rz.length;refine ⟨b,p4,zs,[z],rfl,rfl,bD ((gB.same F3.sub).trans F5.sub) sb,SqL.of aA,by show zs.length+1<=sizeLine;omega,fun p6 hp6=>?_⟩;have g7:Grow (upd H4 p4 (.lst [z])) (upd Hs4 p4 (.lst [z])) (upd (upd H4 p4 (.lst [z])) p6 (.lst (zs++[z]))) (upd (upd Hs4 p4 (.lst [z])) p6 (.lst (zs++[z]))):=Grow.new F5.sub hp6;have gC:=(gA.trans gB).trans g7;have F7:=F1.grown gC;have mC:=gC.same F1.sub;have rr:Rp (gOf X) (upd (upd Hs4 p4 (.lst [z])) p6 (.lst (zs++[z]))) (.lst (ds++[dv])) (.ref p6):=cN.mpr ⟨p6,_,rfl,SqL.of aA,(rz.mono ((gB.trans g7).same F3.sub)).append (Rps.one (r4.mono ((g5.trans g7).same F4.sub)))⟩;refine ⟨.ref a,ea,ρ,_,dk,F7.sub,vs.l.mono mC,hdk,fun z2 H8 Hs8 g8 r8=>?_⟩;have gD:=gC.trans g8;have F8:=F1.grown gD;have hs:=F8.sub;have m8:=gD.same F1.sub;refine ⟨a,dk,ks,xs,ys,rfl,r8.mono hs,hk,⟨⟨ep,gD.keep a _ hxs⟩,e1,rk.mono (m8.trans hs)⟩,by rw [e1,List.length_map] at hlt;exact hlt,fun b2 u ep' eb ru=>?_⟩;subst eb;obtain ⟨q1,q3,q4⟩:=GR (X:=X) (H:=Hs8) (a:=a) (u:=u) e1 (rk.mono m8) (rv.mono m8) r8 (rr.mono (g8.same F7.sub)) hlen;have F9:=F8.mut (o:=.ext (DAt (gOf X) a (lD xs ys dk b2 u (.ref p6)).1 (lD xs ys dk b2 u (.ref p6)).2 ep')) (d':=.dct (iy ks vs0 dk (.lst (ds++[dv]))).1 (iy ks vs0 dk (.lst (ds++[dv]))).2) hi hρ ea ⟨_,_,_,aA,q1,q3,q4⟩;exact k _ rfl _ _ _ F9 (m1.trans m8)
def YL (C:Cok T cl X) (S:ScRel sc X) (h2:okE T X.N e sc v=true) (h3:gJ v=true):PS X (.Expr v pos) (tMS X E Es O (some (without O (aD e))) inv (cF cl (.expr e))):=by
 refine bZ (rJ (good e C S h2).1 (jL h3)) fun D σ H=>?_
 rintro ⟨ρ,Hs,o,F,h,k⟩;simp only [qq,qr,qu,qv,qR,qw,qx,qy,qz] at h;obtain ⟨d,hd,hb⟩:=aj h;clear h;cases hb;obtain ⟨Hs1,F1,m1,vs⟩:=F.pubU (aD e);exact ⟨ρ,Hs1,d,F1.sub,vs,hd,fun y H1 Hs2 g2 r2=>k _ rfl _ _ _ (F1.grown g2) (m1.trans (g2.same F1.sub))⟩
def abR (C:Cok T cl X) (S:ScRel sc X) (h2:okE T X.N e sc v=true):PS X (.Return (some v) pos) (tMS X E Es O none inv (cF cl (.ret e))):=by
 refine bZ (Ja (good e C S h2).1) fun D σ H=>?_
 rintro ⟨ρ,Hs,o,F,h,k⟩;simp only [qq,qr,qu,qv,qR,qw,qx,qy,qz] at h;obtain ⟨d,hd,hb⟩:=aj h;clear h;cases hb;obtain ⟨Hs1,F1,m1,vs⟩:=F.pubU (aD e);exact ⟨ρ,Hs1,d,F1.sub,vs,hd,fun y H1 Hs2 g2 r2=>k y H1 Hs2 (F1.grow.trans g2) r2⟩
theorem YM (h2:dU e=true):PS X (.Return none pos) (tMS X E Es O none inv (cF cl (.ret e))):=by
 refine bZ YD fun D σ H=>?_
 rintro ⟨ρ,Hs,o,F,h,k⟩;cases e <;> try (cases h2;done)
 rename_i d;cases d <;> try (cases h2;done)
 simp only [qq,qr,qu,qv,qR,qw,qx,qy,qz,wD,wE,wB,wC,qP] at h;cases h;exact k .non H Hs F.grow (yp.mpr rfl)
end
end Mi
namespace Mi
open PySem L2
open PyProof.Rows hiding St
theorem iZ:∀ (U:zi) (ρ:En),(iD ρ U).length=ρ.length
 | [],ρ=>rfl
 | i::U,ρ=>by rw [iD,iZ U,List.length_set]
theorem rP:∀ {U:zi}{ρ:En}{j:Nat}{d:D},(iD ρ U)[j]?=some (some d)->j ∉ U/\ρ[j]?=some (some d)
 | [],ρ,j,d,h=>⟨by simp,h⟩
 | i::U,ρ,j,d,h=>by
  obtain ⟨h1,h2⟩:=rP (U:=U) (ρ:=ρ.set i none) h;by_cases e:j=i
  .subst e;have hl:j < ρ.length:=by
    have:=(yB.mp h2).1;simpa using this
   rw [List.getElem?_set_self hl] at h2;cases h2
  .rw [List.getElem?_set_ne (Ne.symm e)] at h2;exact ⟨by simp [e,h1],h2⟩
theorem Ce:∀ {U:zi}{ρ:En}{j:Nat}{d:D},j ∉ U->ρ[j]?=some (some d)->(iD ρ U)[j]?=some (some d)
 | [],ρ,j,d,_,h=>h
 | i::U,ρ,j,d,hu,h=>by
  have hu':j≠i/\j ∉ U:=by simpa using hu
  show (iD (ρ.set i none) U)[j]?=some (some d)
  exact Ce hu'.2 (by rw [List.getElem?_set_ne (Ne.symm hu'.1)];exact h)
theorem Eu {α:Type}{j:Nat}:∀ (l:List (Nat × α)) (xs:List (Option α)),j ∉ l.map (·.1)->(putL xs l)[j]?=xs[j]?
 | [],xs,_=>rfl
 | (i,a)::l,xs,h=>by
  have h':j≠i/\j ∉ l.map (·.1):=by
   rw [List.map_cons,List.mem_cons,not_or] at h;exact h
  rw [putL,Eu l _ h'.2,List.getElem?_set_ne (Ne.symm h'.1)]
def OLs (g:G) (H Hs:Hp):List D->List Addr->Prop
 | [],bs=>bs=[]
 | v::vs,bs=>∃ b bs' ds zs,bs=b::bs'/\v=.lst ds/\H b=some (.lst zs)/\Rps g Hs ds zs/\OLs g H Hs vs bs'
variable {vs:List D}{σ:St}{b:Addr}
section
variable {g:G}{E:Ent}{Es:Hp}{H Hs H' Hs':Hp}{a:Addr}
theorem OLs.mono:∀ {vs:List D}{bs:List Addr},(∀ b∈bs,∀ o,H b=some o->H' b=some o)->Same Hs Hs'->OLs g H Hs vs bs->OLs g H' Hs' vs bs
 | [],bs,_,_,h=>h
 | v::vs,bs,k,m,h=>by
  obtain ⟨b,bs',ds,zs,rfl,e,h1,r,h2⟩:=h;exact ⟨b,bs',ds,zs,rfl,e,k b vi _ h1,r.mono m,OLs.mono (fun c hc=>k c (ve _ hc)) m h2⟩
theorem OLs.here:∀ {vs:List D}{bs:List Addr},OLs g H Hs vs bs->∀ b∈bs,∃ o,H b=some o
 | [],bs,h,b,hb=>by cases h;cases hb
 | v::vs,bs,h,b,hb=>by
  obtain ⟨b0,bs',ds,zs,rfl,e,h1,r,h2⟩:=h;rcases vR.mp hb with z | z
  .exact ⟨_,z ▸ h1⟩
  .exact OLs.here h2 b z
theorem OLs.snoc {p:Addr}:∀ {vs:List D}{bs:List Addr},OLs g H Hs vs bs->H p=some (.lst [])->OLs g H Hs (vs++[.lst []]) (bs++[p])
 | [],bs,h,hp=>by cases h;exact ⟨p,[],[],[],rfl,rfl,hp,Rps.nil,rfl⟩
 | v::vs,bs,h,hp=>by
  obtain ⟨b,bs',ds,zs,rfl,e,h1,r,h2⟩:=h;exact ⟨b,bs'++[p],ds,zs,rfl,e,h1,r,OLs.snoc h2 hp⟩
theorem OLs.pub:∀ {vs:List D}{bs:List Addr},(∀ b∈bs,Hs' b=H b)->Same Hs Hs'->OLs g H Hs vs bs->Rps g Hs' vs (bs.map V.ref)
 | [],bs,_,_,h=>by cases h;exact Rps.nil
 | v::vs,bs,k,m,h=>by
  obtain ⟨b,bs',ds,zs,rfl,rfl,h1,r,h2⟩:=h;rw [List.map_cons];exact Rps.cons (cN.mpr ⟨b,zs,rfl,SqL.of (by rw [k b List.mem_cons_self];exact h1),r.mono m⟩) (OLs.pub (fun c hc=>k c (ve _ hc)) m h2)
theorem yV {k:D}:∀ {xs:List (D × Addr × Value)}{vs:List D}{bs:List Addr},OLs g H Hs vs bs->xs.length=bs.length ->
  (∃ ds zs b,cT (xs.map (·.1)) vs k=some (.lst ds)/\atV xs (bs.map V.ref) k=some (.ref b)/\b∈bs/\H b=some (.lst zs)/\Rps g Hs ds zs/\k∈xs.map (·.1))\/(cT (xs.map (·.1)) vs k=none/\atV xs (bs.map V.ref) k=none/\k ∉ xs.map (·.1))
 | [],vs,bs,h,hl=>.inr ⟨by cases vs <;> rfl,rfl,by simp⟩
 | x::xs,[],bs,h,hl=>by cases h;simp at hl
 | x::xs,v::vs,bs,h,hl=>by
  obtain ⟨b,bs',ds,zs,rfl,rfl,h1,r,h2⟩:=h;by_cases e:x.1=k
  .exact .inl ⟨ds,zs,b,if_pos e,if_pos e,vi,h1,r,by rw [List.map_cons,e];exact vi⟩
  .have e1:cT ((x::xs).map (·.1)) (.lst ds::vs) k=cT (xs.map (·.1)) vs k:=if_neg e;have e2:atV (x::xs) ((b::bs').map V.ref) k=atV xs (bs'.map V.ref) k:=if_neg e;rw [e1,e2];rcases yV (k:=k) h2 (by simpa using hl) with ⟨ds',zs',b',q1,q2,q3,q4,q5,q6⟩ | ⟨q1,q2,q3⟩
   .exact .inl ⟨ds',zs',b',q1,q2,ve _ q3,q4,q5,ve _ q6⟩
   .refine .inr ⟨q1,q2,fun z=>?_⟩;rcases vR.mp z with z | z
    .exact e z.symm
    .exact q3 z
theorem Lr {k nv:D}:∀ {ks vs:List D},ks.length=vs.length->k ∉ ks->((ks.zip vs).map fun p=>if p.1=k then nv else p.2)=vs
 | [],vs,hl,_=>by cases vs with | nil=>rfl | cons _ _=>simp at hl
 | c::ks,[],hl,_=>by simp at hl
 | c::ks,v::vs,hl,hk=>by
  have hk':k≠c/\k ∉ ks:=by simpa using hk
  rw [List.zip_cons_cons,List.map_cons,Lr (by simpa using hl) hk'.2];show (if c=k then nv else v)::vs=_
  rw [if_neg (Ne.symm hk'.1)]
theorem OLs.len:∀ {vs:List D}{bs:List Addr},OLs g H Hs vs bs->vs.length=bs.length
 | [],bs,h=>by cases h;rfl
 | v::vs,bs,h=>by
  obtain ⟨b,bs',ds,zs,rfl,_,_,_,h2⟩:=h;simp [OLs.len h2]
theorem Us {k v:D}{z:V}{b:Addr}{ds:List D}{zs:List V} (rz:Rp g Hs v z) (hb:H b=some (.lst zs)) (rb:Rps g Hs ds zs):∀ {xs:List (D × Addr × Value)}{vs:List D}{bs:List Addr},OLs g H Hs vs bs->xs.length=bs.length->(xs.map (·.1)).Nodup->bs.Nodup ->
  cT (xs.map (·.1)) vs k=some (.lst ds)->atV xs (bs.map V.ref) k=some (.ref b)->b∈bs->OLs g (upd H b (.lst (zs++[z]))) Hs (((xs.map (·.1)).zip vs).map fun p=>if p.1=k then .lst (ds++[v]) else p.2) bs
 | [],vs,bs,h,hl,n1,n2,h1,h2,h3=>by cases vs <;> cases h1
 | x::xs,[],bs,h,hl,n1,n2,h1,h2,h3=>by cases h1
 | x::xs,v0::vs,bs,h,hl,n1,n2,h1,h2,h3=>by
  obtain ⟨b0,bs',ds0,zs0,rfl,rfl,q1,r,q2⟩:=h;rw [List.map_cons,List.nodup_cons] at n1;rw [List.nodup_cons] at n2;have hlen:(xs.map (·.1)).length=vs.length:=by rw [List.length_map,q2.len];simpa using hl
  rw [List.map_cons,List.zip_cons_cons,List.map_cons];by_cases e:x.1=k
  .have e1:cT ((x::xs).map (·.1)) (.lst ds0::vs) k=some (.lst ds0):=if_pos e;have e2:atV (x::xs) ((b0::bs').map V.ref) k=some (.ref b0):=if_pos e;rw [e1] at h1;cases h1;rw [e2] at h2;cases h2;rw [hb] at q1;cases q1;rw [Lr hlen (by rw [<- e];exact n1.1)];refine ⟨b,bs',ds++[v],zs++[z],rfl,by show (if x.1=k then _ else _)=_;rw [if_pos e],aA,rb.append (Rps.one rz),q2.mono (fun c hc o q=>?_) (Same.refl _)⟩;rw [ao (fun e:c=b=>n2.1 (by rw [<- e];exact hc))];exact q
  .have e1:cT ((x::xs).map (·.1)) (.lst ds0::vs) k=cT (xs.map (·.1)) vs k:=if_neg e;have e2:atV (x::xs) ((b0::bs').map V.ref) k=atV xs (bs'.map V.ref) k:=if_neg e;rw [e1] at h1;rw [e2] at h2;have h3':b∈bs':=by
    rcases yV (k:=k) q2 (xs:=xs) (by simpa using hl) with ⟨_,_,b',_,j2,j3,_⟩ | ⟨_,j2,_⟩
    .rw [h2] at j2;cases j2;exact j3
    .rw [h2] at j2;cases j2
   have hne:b0≠b:=fun z=>n2.1 (by rw [z];exact h3')
   exact ⟨b0,bs',ds0,zs0,rfl,by show (if x.1=k then _ else _)=_;rw [if_neg e],by rw [ao hne];exact q1,r,Us rz hb rb q2 (by simpa using hl) n1.2 n2.2 h1 h2 h3'⟩
structure DX (g:G) (E:Ent) (H Hs:Hp) (a:Addr) (ks vs:List D) (xs:List (D × Addr × Value)) (bs:List Addr) (ep:Nat):Prop where
 at_:H a=some (.ext (DAt g a xs (bs.map V.ref) ep))
 keys:ks=xs.map (·.1)
 rep:Rps g Hs ks (xs.map fun x=>V.ref x.2.1)
 ol:OLs g H Hs vs bs
 len:xs.length=bs.length
 nk:ks.Nodup
 nb:bs.Nodup
 na:a ∉ bs
 eb:∀ b∈bs,E.hp b=none/\Hs b=none
 ea:E.hp a=none
 sa:Hs a=none
def DO (g:G) (E:Ent) (H Hs:Hp) (a:Addr) (ks vs:List D):Prop:=∃ xs bs ep,DX g E H Hs a ks vs xs bs ep
theorem DX.grown {ks:List D}{xs:List (D × Addr × Value)}{bs:List Addr}{ep:Nat} (d:DX g E H Hs a ks vs xs bs ep) (hs:Same Hs H) (w:Grow H Hs H' Hs'):DX g E H' Hs' a ks vs xs bs ep:=by
 have m:=w.same hs;refine ⟨w.keep _ _ d.at_,d.keys,d.rep.mono m,d.ol.mono (fun b _ o q=>w.keep b o q) m,d.len,d.nk,d.nb,d.na,fun b hb=>⟨(d.eb b hb).1,?_⟩,d.ea,by rw [w.old _ _ d.at_];exact d.sa⟩;obtain ⟨o,ho⟩:=d.ol.here b hb;rw [w.old b o ho];exact (d.eb b hb).2
theorem DO.grown {ks:List D} (d:DO g E H Hs a ks vs) (hs:Same Hs H) (w:Grow H Hs H' Hs'):DO g E H' Hs' a ks vs:=let ⟨xs,bs,ep,q⟩:=d;⟨xs,bs,ep,q.grown hs w⟩
theorem FR.poke {ρ:En}{o:HO} (F:FR g E Es [] ρ σ H Hs) (h1:E.hp b=none) (h2:Hs b=none):FR g E Es [] ρ σ (upd H b o) Hs:=by
 refine ⟨⟨fun c u q=>?_,F.grow.old,fun c u q=>?_⟩,F.len,F.val,(fun j hj=>by cases hj),(fun j hj=>by cases hj),F.pin⟩
 .rw [ao (ak q h1)];exact F.grow.keep c u q
 .rw [ao (ak q h2)];exact F.grow.sub c u q
end
def Oi {g:G}{J:It}{Hs0:Hp}{ds:List D}{gt:TG}{tb:TS}{D:Ends}{H:Hp} (src:Src g J Hs0 ds) (Pv:Nat->St->Hp->Prop) (h0:Pv 0 σ H) (hsame:∀ i σ H,Pv i σ H->Same Hs0 H)
  (step:∀ i d x σ H H',ds[i]?=some d->Pv i σ H->J.yld i H x H'->gt x σ H' fun σ2 H2=>tb { D with nx:=Pv (i+1),ct:=Pv (i+1),bk:=D.nx } σ2 H2) (hd:∀ σ H,Pv ds.length σ H->D.nx σ H) :
  ∃ W:Nat->Nat->St->Hp->Prop,(∃ m,W 0 m σ H)/\∀ i m σ H,W i m σ H ->
   (J.stop i H/\D.nx σ H)\/(J.go i H/\∃ N:St->Hp->Prop,(∀ σ' H',N σ' H'->∃ m',m' < m/\W (i+1) m' σ' H')/\∀ x H',J.yld i H x H'->gt x σ H' fun σ2 H2=>tb { D with nx:=N,ct:=N,bk:=D.nx } σ2 H2):=by
 refine ⟨fun i m σ H=>m=ds.length - i/\i<=ds.length/\Pv i σ H,⟨ds.length,by simp,vS _,h0⟩,?_⟩;rintro i m σ H ⟨rfl,hi,p⟩;by_cases hlt:i < ds.length
 .refine .inr ⟨src.go i H (hsame i σ H p) hlt,Pv (i+1),fun σ' H' p'=>⟨ds.length - (i+1),by omega,rfl,hlt,p'⟩,fun x H' y=>?_⟩;exact step i ds[i] x σ H H' (by simp [hlt]) p y
 .have e:i=ds.length:=by omega
  subst e;exact .inl ⟨src.stop H (hsame _ σ H p),hd σ H p⟩
def tG (X:Cx) (E:Ent) (Es:Hp) (i:Nat) (U:zi) (run:En->D->R D):TS:=fun D σ H=>∃ ρ Hs a ks vs d',FR (gOf X) E Es [] ρ σ H Hs/\σ[i]?=some (some (.ref a))/\DO (gOf X) E H Hs a ks vs/\run ρ (.dct ks vs)=.ok d' /\
 ∀ σ' H' Hs' ks' vs',d'=.dct ks' vs'->FR (gOf X) E Es [] (iD ρ U) σ' H' Hs'->Same Hs Hs'->σ'[i]?=some (some (.ref a))->DO (gOf X) E H' Hs' a ks' vs'->D.nx σ' H'
variable {st:Stmt}
section
variable {T:Tx}{cl:Nat->List D->R D}{X:Cx}{sc:Scope}{E:Ent}{Es:Hp}{pos:Pos}{i:Nat}
def aa0 {k v:M}{x:Str}{k' v':Expr}{p lp ap2 cp2 ap cp:Pos} (C:Cok T cl X) (S:ScRel sc X) (hv:jO sc x=true) (ho:aK x=true) (hN:X.N[i]?=some x) (h1:okE T X.N k sc k'=true) (h2:okE T X.N v sc v'=true) (n1:noStar k'=true) (n2:noStar v'=true) (l1:(ap.endLine == cp.line)=true) (l2:(ap2.endLine == cp2.line)=true) :
  PS X (.Expr (.Call (.Attribute (.Call (.Attribute (.Name x p) "setdefault" ap2) [k',.List [] lp] [] cp2) "append" ap) [v'] [] cp) pos) (tG X E Es i [] (mU cl (.sda k v))):=by
 unfold aK at ho;simp only [Bool.and_eq_true,Bool.not_eq_true'] at ho;refine bZ (rJ (QT PySem.F.plainAttrs_list PySem.F.slot_list_append PySem.F.type_list_append yc
  (ZJ C.un (jW hN (S.vis _ hv) ho.1.1 ho.1.2) (good k C S h1).1 (uW jg) ⟨rfl,by rw [aC n1];rfl,l2,by rw [aC n1];rfl⟩)
  (fG (good v C S h2).1 jg (aC n2)) rfl (by rw [aC n2];rfl) l1 (aC n2) rfl) rfl) fun DD σ H=>?_
 rintro ⟨ρ,Hs,a,ks,vs,d',F,ei,⟨xs,bs,ep,dx⟩,h,kk⟩;rw [wb] at h;obtain ⟨dk,hdk,hb⟩:=aj h;obtain ⟨dv,hdv,hb1⟩:=aj hb;clear h hb;simp only [pG] at hb1;obtain ⟨⟨hk,hlt,hlen⟩,hb2⟩:=dH hb1;clear hb1;have hll:=jt;have fin:∀ (H1 Hs1:Hp) (ks1 vs1:List D) (xs1:List (D × Addr × Value)) (bs1:List Addr) (ep1:Nat) (b:Addr) (l:List D) (zs:List V),FR (gOf X) E Es [] ρ σ H1 Hs1->Same Hs Hs1->DX (gOf X) E H1 Hs1 a ks1 vs1 xs1 bs1 ep1 ->
   cT ks1 vs1 dk=some (.lst l)->atV xs1 (bs1.map V.ref) dk=some (.ref b)->b∈bs1->H1 b=some (.lst zs)->Rps (gOf X) Hs1 l zs->l.length < lim->d'=.dct ks1 ((ks1.zip vs1).map fun p=>if p.1=dk then .lst (l++[dv]) else p.2) ->
   (tyV X.K "list" (.ref b) H1 /\ X4 (tM X (aD v) (evE cl v)) Vb σ H1 fun ys H2=>Oo (.ref b) ys H2 fun _ H3=>DD.nx σ H3):=by
  intro H1 Hs1 ks1 vs1 xs1 bs1 ep1 b l zs F1 s1 dx1 g1 g2 g3 g4 g5 g6 ed;refine ⟨.inl ⟨rfl,zs,SqL.of g4⟩,ρ,Hs1,dv,F1.sub,F1.vs (fun _ _ z=>by cases z),hdv,fun z H2 Hs2 w2 r2=>?_⟩;have F2:=F1.grown w2;have dx2:=dx1.grown F1.sub w2;have hz:=g5.length;refine ⟨b,zs,z,rfl,rfl,w2.keep _ _ g4,by omega,?_⟩;have eb:=dx2.eb b g3;have nab:a≠b:=fun z=>dx2.na (z ▸ g3)
  refine kk σ _ Hs2 _ _ ed (F2.poke eb.1 eb.2) (s1.trans (w2.same F1.sub)) ei ⟨xs1,bs1,ep1,by rw [ao nab];exact dx2.at_,dx2.keys,dx2.rep,?_,dx2.len,dx2.nk,dx2.nb,dx2.na,dx2.eb,dx2.ea,dx2.sa⟩;have hk1:=dx2.keys;subst hk1;exact Us r2 (w2.keep _ _ g4) (g5.mono (w2.same F1.sub)) dx2.ol dx2.len dx2.nk dx2.nb g1 g2 g3
 refine ⟨.ref a,ei,a,ks,xs,_,rfl,⟨⟨ep,dx.at_⟩,dx.keys,dx.rep.mono F.sub⟩,ρ,Hs,dk,F.sub,F.vs (fun _ _ z=>by cases z),hdk,fun y H1 Hs1 w1 r1=>⟨vS _,fun p hp=>?_⟩⟩;have F1:=F.grown w1;have dx1:=dx.grown F.sub w1;have w2:Grow H1 Hs1 (upd H1 p (.lst [])) Hs1:=Grow.own F1.sub hp;have F2:=F1.grown w2;have dx2:=dx1.grown F1.sub w2;have s2:Same Hs Hs1:=w1.same F.sub;refine ⟨dk,ks,xs,_,r1.mono F2.sub,hk,⟨⟨ep,dx2.at_⟩,dx2.keys,dx2.rep.mono F2.sub⟩,by rw [dx.keys,List.length_map] at hlt;exact hlt,fun v0 hv0=>?_,fun hv0 b u ep' ey ru=>?_⟩
 .rcases yV (k:=dk) dx2.ol dx2.len with ⟨l,zs,b,q1,q2,q3,q4,q5,q6⟩ | ⟨q1,q2,q3⟩
  .rw [hv0] at q2;cases q2;rw [<- dx2.keys] at q1;rw [q1] at hb2;obtain ⟨hl,hb3⟩:=dH hb2;have ed:d'=.dct ks ((ks.zip vs).map fun p=>if p.1=dk then .lst (l++[dv]) else p.2):=by
    have e:=CT hb3;rw [<- e];have hm:dk∈ks:=by rw [dx2.keys];exact q6
    unfold iy;rw [if_pos hm]
   exact fin _ Hs1 ks vs xs bs ep b l zs F2 s2 dx2 q1 hv0 q3 q4 q5 hl ed
  .rw [hv0] at q2;cases q2
 .rcases yV (k:=dk) dx2.ol dx2.len with ⟨l,zs,b',q1,q2,q3,q4,q5,q6⟩ | ⟨q1,q2,q3⟩
  .rw [hv0] at q2;cases q2
  .rw [<- dx2.keys] at q1 q3;rw [q1] at hb2;have ed:=CT hb2;have hpa:p≠a:=fun z=>by rw [z,dx1.at_] at hp;cases hp
   have hpb:p ∉ bs:=fun z=>by
    obtain ⟨o,ho⟩:=dx1.ol.here p z;rw [ho] at hp;cases hp
   have Ep:E.hp p=none:=by
    cases q:E.hp p with
    | none=>rfl
    | some u=>rw [F1.grow.keep p u q] at hp;cases hp
   have Sp:Hs1 p=none:=by
    cases q:Hs1 p with
    | none=>rfl
    | some u=>rw [F1.sub p u q] at hp;cases hp
   subst ey;have F3:=F2.poke (b:=a) (o:=.ext (DAt (gOf X) a (xs++[(dk,b,u)]) ((bs++[p]).map V.ref) ep')) dx2.ea dx2.sa;have hp3:(upd (upd H1 p (.lst [])) a (.ext (DAt (gOf X) a (xs++[(dk,b,u)]) ((bs++[p]).map V.ref) ep'))) p=some (.lst []):=by rw [ao hpa,aA]
   have ol3:OLs (gOf X) (upd (upd H1 p (.lst [])) a (.ext (DAt (gOf X) a (xs++[(dk,b,u)]) ((bs++[p]).map V.ref) ep'))) Hs1 vs bs:=dx2.ol.mono (fun c hc o q=>by
    rw [ao (fun e:c=a=>dx2.na (by rw [<- e];exact hc))];exact q) (Same.refl _)
   have dx3:DX (gOf X) E (upd (upd H1 p (.lst [])) a (.ext (DAt (gOf X) a (xs++[(dk,b,u)]) ((bs++[p]).map V.ref) ep'))) Hs1 a (ks++[dk]) (vs++[.lst []]) (xs++[(dk,b,u)]) (bs++[p]) ep':=by
    refine ⟨aA,by rw [List.map_append,dx2.keys];rfl,by rw [List.map_append];exact dx2.rep.append (Rps.one r1),ol3.snoc hp3,by simp [dx2.len],?_,?_,?_,?_,dx2.ea,dx2.sa⟩
    .rw [List.nodup_append];refine ⟨dx2.nk,by simp,fun c hc e he=>?_⟩;rw [List.mem_singleton.mp he];exact fun z=>q3 (z ▸ hc)
    .rw [List.nodup_append];refine ⟨dx2.nb,by simp,fun c hc e he=>?_⟩;rw [List.mem_singleton.mp he];exact fun z=>hpb (z ▸ hc)
    .intro z;rcases yT.mp z with z | z
     .exact dx2.na z
     .exact hpa (yY.mp z).symm
    .intro c hc;rcases yT.mp hc with z | z
     .exact dx2.eb c z
     .rw [List.mem_singleton.mp z];exact ⟨Ep,Sp⟩
   have hlv:ks.length=vs.length:=hlen;rcases yV (k:=dk) dx3.ol dx3.len with ⟨l,zs,b',j1,j2,j3,j4,j5,j6⟩ | ⟨_,_,j3⟩
   .rw [<- dx3.keys] at j1;have gk:∀ (as bs:List D),as.length=bs.length->dk ∉ as->cT (as++[dk]) (bs++[.lst []]) dk=some (.lst []):=by
     intro as;induction as with
     | nil=>intro bs hl _;cases bs with | nil=>exact if_pos rfl | cons _ _=>simp at hl
     | cons c as ih =>
      intro bs hl hn;cases bs with
      | nil=>simp at hl
      | cons e bs =>
       have hn':dk≠c/\dk ∉ as:=by simpa using hn
       rw [List.cons_append,List.cons_append];exact (if_neg (Ne.symm hn'.1)).trans (ih bs (by simpa using hl) hn'.2)
    have gv:∀ (as:List (D × Addr × Value)) (cs:List Addr),as.length=cs.length->dk ∉ as.map (·.1)->atV (as++[(dk,b,u)]) ((cs++[p]).map V.ref) dk=some (.ref p):=by
     intro as;induction as with
     | nil=>intro cs hl _;cases cs with | nil=>exact if_pos rfl | cons _ _=>simp at hl
     | cons c as ih =>
      intro cs hl hn;cases cs with
      | nil=>simp at hl
      | cons e cs =>
       have hn':dk≠c.1/\dk ∉ as.map (·.1):=by
        rw [List.map_cons,List.mem_cons,not_or] at hn;exact hn
       rw [List.cons_append,List.cons_append,List.map_cons];exact (if_neg (Ne.symm hn'.1)).trans (ih cs (by simpa using hl) hn'.2)
    have j1':=gk ks vs hlv q3;rw [j1] at j1';cases j1';have j2':=gv xs bs dx2.len (by rw [<- dx2.keys];exact q3);rw [j2] at j2';cases j2';have em:(bs.map V.ref)++[V.ref p]=(bs++[p]).map V.ref:=by rw [List.map_append];rfl
    rw [em];refine fin _ Hs1 _ _ _ _ _ p [] zs F3 s2 dx3 j1 j2 j3 j4 j5 (by decide) ?_;rw [<- ed,List.zip_append hlv,List.map_append,Lr hlv q3];show _=D.dct (ks++[dk]) (vs++[if dk=dk then _ else _])
    rw [if_pos rfl];rfl
   .exact absurd (by rw [List.map_append];exact vk _ (yY.mpr rfl)) j3
def aaK {t:Tg}{k:IK}{src:List M}{b:GS}{tg iter:Expr} (C:Cok T cl X) (S:ScRel sc X) (hp:PassesOwn (model X.prog X.w) X.A X.env X.xe) (hq:∀ q∈E.pins,q.1 ∉ aM t) (hi:i ∉ aM t)
  (h1:tgB X.N sc t tg=true) (h2:jx sc k tg iter=true) (h3:cB T X.N src sc (jX k iter)=true)
  (hb:PS X st (tG X E Es i (tgG b) (mU cl b))):PS X (.For tg iter [st] [] pos) (tG X E Es i (aM t++tgG b) (mU cl (.forr t k src b))):=by
 refine bZ (RT hp C.calm (uZ C S (fun m _=>good m) h2 h3) (nZ C S h1) (ni hb Ai) (vf (tu h2))) fun DD σ H=>?_
 rintro ⟨ρ,Hs,a,ks,vs,d',F,ei,dO,h,kk⟩;rw [wc] at h;obtain ⟨ss,hss,hb1⟩:=aj h;obtain ⟨ds,hds,hrun⟩:=aj hb1;clear h hb1;refine ⟨ρ,Hs,ds,F.sub,F.vs (fun _ _ z=>by cases z),by simp only [hss,qP];exact hds,fun J H1 Hs2 g2 sr=>?_⟩;have F2:=F.grown g2;have dO2:=dO.grown F.sub g2;have mm:Same Hs Hs2:=g2.same F.sub;have F3:FR (gOf X) E Es [] (iD ρ (aM t++tgG b)) σ H1 Hs2:=F2.less (iZ _ _) fun j d q=>(rP q).2
 refine Oi sr (fun n σ H=>∃ Hs' ks1 vs1,FR (gOf X) E Es [] (iD ρ (aM t++tgG b)) σ H Hs'/\Same Hs2 Hs'/\σ[i]?=some (some (.ref a))/\DO (gOf X) E H Hs' a ks1 vs1 /\
  oF (fun x d=>do let ρ1 <- eU t x (iD ρ (aM t++tgG b));mU cl b ρ1 d) (ds.drop n) (.dct ks1 vs1)=.ok d') ⟨Hs2,ks,vs,F3,Same.refl _,ei,dO2,hrun⟩ (fun n σ H ⟨Hs',_,_,F',s',_⟩=>s'.trans F'.sub) ?_ ?_
 .rintro n d x σ1 H1' H2' hdi ⟨Hs',ks1,vs1,F',s',ei',dO',hgo⟩ hy';obtain ⟨hlt,ed⟩:=yB.mp hdi;rw [List.drop_eq_getElem_cons hlt,ed] at hgo;unfold oF at hgo;obtain ⟨d1,hd1,hgo2⟩:=aj hgo;clear hgo;obtain ⟨ρ2,hρ2,hrb⟩:=aj hd1;clear hd1;obtain ⟨Hs4,g4,rx⟩:=sr.yld n H1' x H2' Hs' d s' F'.sub hdi hy';have F4:=F'.grown g4;have dO4:=dO'.grown F'.sub g4;have s4:Same Hs2 Hs4:=s'.trans (g4.same F'.sub);refine rF (X:=X) g4.sub hρ2 rx fun l hl hrl eρ=>?_
  have F5:=F4.putL (by rw [hl];exact hq) hrl;rw [<- eρ] at F5;have F6:FR (gOf X) E Es [] ρ2 _ _ Hs4:=F5.congrO fun j=>by rw [bK];simp
  have hil:i ∉ (l.map fun p=>(p.1,p.2.2)).map (·.1):=by
   rw [List.map_map];show i ∉ l.map (·.1)
   rw [hl];exact hi
  refine ⟨ρ2,Hs4,a,ks1,vs1,d1,F6,by rw [Eu _ _ hil];exact ei',dO4,hrb,fun σ' H' Hs5 ks' vs' e1 F7 s7 ei7 dO7=>?_⟩;subst e1;refine ⟨Hs5,ks',vs',F7.less ?_ fun j e q=>?_,s4.trans s7,ei7,dO7,hgo2⟩
  .rw [iZ,iZ,eρ,sJ,iZ]
  .have q2:=rP q;have q3:j ∉ aM t/\j ∉ tgG b:=by simpa using q2.1
   refine Ce q3.2 ?_;rw [eρ,Eu _ _ (by rw [List.map_map];show j ∉ l.map (·.1);rw [hl];exact q3.1)];exact q
 .rintro σ1 H1' ⟨Hs',ks1,vs1,F',s',ei',dO',hgo⟩;rw [List.drop_length] at hgo;cases hgo;exact kk σ1 H1' Hs' ks1 vs1 rfl F' (mm.trans s') ei' dO'
theorem goodG:∀ (g:GS) {st:Stmt},(∀ q∈E.pins,q.1 ∉ tgG g)->i ∉ tgG g->Cok T cl X->ScRel sc X->PassesOwn (model X.prog X.w) X.A X.env X.xe->okG T X.N sc i g st=true->PS X st (tG X E Es i (tgG g) (mU cl g))
 | .sda k v,st,hq,hi,C,S,hp,h=>by
  obtain ⟨e,q,rfl⟩:=vJ h;obtain ⟨x,p,k',lp,ap2,cp2,v',ap,cp,rfl,l1,l2,h9⟩:=abC h;simp only [Bool.and_eq_true,decide_eq_true_eq] at h9;obtain ⟨⟨⟨⟨⟨⟨h1,h2⟩,h3⟩,h4⟩,h5⟩,h6⟩,h7⟩:=h9;exact aa0 C S h1 h2 h3 h4 h5 h6 h7 l1 l2
 | .forr t k src b,st,hq,hi,C,S,hp,h=>by
  obtain ⟨tg,iter,body,els,p,rfl⟩:=Nq h;rcases body with _ | ⟨s,_ | ⟨s2,body⟩⟩
  .have h':(els.isEmpty && (tgB X.N sc t tg && jx sc k tg iter && cB T X.N src sc (jX k iter) && false))=true:=h;simp at h'
  rotate_left
  .have h':(els.isEmpty && (tgB X.N sc t tg && jx sc k tg iter && cB T X.N src sc (jX k iter) && false))=true:=h;simp at h'
  replace h:(els.isEmpty && (tgB X.N sc t tg && jx sc k tg iter && cB T X.N src sc (jX k iter) && okG T X.N sc i b s))=true:=h;simp only [Bool.and_eq_true,List.isEmpty_iff] at h;obtain ⟨rfl,⟨⟨h1,h2⟩,h3⟩,h4⟩:=h;have hi':i ∉ aM t/\i ∉ tgG b:=by
   have:i ∉ aM t++tgG b:=hi;simpa using this
  exact aaK C S hp (fun q hm z=>hq q hm (vj _ z)) hi'.1 h1 h2 h3 (goodG b (fun q hm z=>hq q hm (vk _ z)) hi'.2 C S hp h4)
def aaY {g:GS}{O inv:zi} (C:Cok T cl X) (S:ScRel sc X) (hp:PassesOwn (model X.prog X.w) X.A X.env X.xe) (hq:∀ q∈E.pins,q.1 ∉ tgG g) (h:okG T X.N sc i g st=true) (hi:i∈O) (hn:i ∉ tgG g) :
  PS X st (tMS X E Es O (some [i]) inv (cF cl (.grp i g))):=by
 refine bZ (goodG (E:=E) (Es:=Es) g hq hn C S hp h) fun DD σ H=>?_
 rintro ⟨ρ,Hs,o,F,h,kk⟩;rw [wZ] at h;obtain ⟨d,hd,hb⟩:=aj h;obtain ⟨_,he,hb1⟩:=aj hb;obtain ⟨d',hrun,hb2⟩:=aj hb1;clear h hb hb1;cases hb2;have hρ:=rH hd;cases d <;> try (cases he;done)
 rename_i ks0 vs0;cases ks0 <;> cases vs0 <;> try (cases he;done)
 obtain ⟨Hs1,F1,m1⟩:=F.fewer (O':=[i]) fun j hj=>by rw [List.mem_singleton.mp hj];exact hi
 obtain ⟨a,ea,a0,a1,xs,ys,ep,hH,e1,rk,rv⟩:=F1.own i (yY.mpr rfl) _ hρ;have ex:xs=[]:=by
  cases xs with
  | nil=>rfl
  | cons _ _=>cases e1
 subst ex;have ey:=rv.nil_inv;subst ey;have hil:i < ρ.length:=(yB.mp hρ).1;have F2:FR (gOf X) E Es [] (iD ρ (i::tgG g)) σ H Hs1:=by
  refine ⟨F1.grow,by rw [iZ];exact F1.len,fun j d q _=>?_,(fun j hj=>by cases hj),(fun j hj=>by cases hj),F1.pin⟩;obtain ⟨q1,q2⟩:=rP q;exact F1.val j d q2 fun z=>q1 (by rw [List.mem_singleton.mp z];exact vi)
 refine ⟨_,Hs1,a,[],[],d',F2,ea,⟨[],[],ep,hH,rfl,Rps.nil,rfl,rfl,List.nodup_nil,List.nodup_nil,by simp,(fun b hb=>by cases hb),a0,a1⟩,hrun,fun σ' H' Hs' ks' vs' ed F' s' ei' dO'=>?_⟩;subst ed;obtain ⟨xs,bs,ep',dx⟩:=dO'
 classical
 have m3:Same Hs' (fun c=>if c∈bs then H' c else Hs' c):=fun c o q=>by
  show (if c∈bs then H' c else Hs' c)=_
  have hc:c ∉ bs:=fun z=>by
   rw [(dx.eb c z).2] at q;cases q
  rw [if_neg hc];exact q
 have F8:FR (gOf X) E Es [] (iD ρ (i::tgG g)) σ' H' Hs':=F'.less (by rw [iZ,iZ,iZ]) fun j d q=>Ce (fun z=>(rP q).1 (ve _ z)) q
 have F9:FR (gOf X) E Es [i] ((iD ρ (i::tgG g)).set i (some (.dct ks' vs'))) σ' H' (fun c=>if c∈bs then H' c else Hs' c):=by
  refine ⟨⟨F8.grow.keep,fun c u q=>?_,fun c u q=>?_⟩,by rw [List.length_set];exact F8.len,fun j d q hj=>?_,fun j hj d q=>?_,fun j hj k hk hjk=>?_,F8.pin⟩
  .show (if c∈bs then H' c else Hs' c)=_
   have hc:c ∉ bs:=fun z=>by
    rw [(dx.eb c z).1] at q;cases q
   rw [if_neg hc];exact F8.grow.old c u q
  .have q':(if c∈bs then H' c else Hs' c)=some u:=q;by_cases hc:c∈bs
   .rw [if_pos hc] at q';exact q'
   .rw [if_neg hc] at q';exact F8.sub c u q'
  .have hji:j≠i:=fun z=>hj (yY.mpr z)
   rw [List.getElem?_set_ne (Ne.symm hji)] at q;obtain ⟨v,ev,rv⟩:=F8.val j d q (by simp);exact ⟨v,ev,rv.mono m3⟩
  .have hji:=yY.mp hj;subst hji;rw [List.getElem?_set_self (by rw [iZ];exact hil)] at q;cases q;exact ⟨a,ei',dx.ea,(if_neg dx.na).trans dx.sa,xs,bs.map V.ref,ep',dx.at_,dx.keys,dx.rep.mono m3,dx.ol.pub (fun b hb=>if_pos hb) m3⟩
  .exact absurd ((yY.mp hj).trans (yY.mp hk).symm) hjk
 exact kk [i] rfl σ' H' _ F9 ((m1.trans s').trans m3)
end
end Mi
namespace Mi
open PySem L2
open PyProof.Rows hiding St
variable {g:G}{Hs:Hp}{x y:Ow}{o:Out}{c:M}{c':Expr}{b:List MS}
section
variable {T:Tx}{cl:Nat->List D->R D}{X:Cx}{sc:Scope}{E:Ent}{Es:Hp}{O:zi}{inv:zi}{pos:Pos}
theorem jH.meetL {D:Ends} (h:jH g E Es Hs (jc x y) inv D o):jH g E Es Hs x inv D o:=by
 cases o with
 | rt d=>exact h
 | nx ρ =>
  intro O1 e σ' H' Hs' F s;subst e;cases y with
  | none=>exact h O1 rfl σ' H' Hs' F s
  | some b =>
   obtain ⟨Hs2,F2,m⟩:=F.fewer (O':=O1.filter fun i=>b.contains i) fun i hi=>(y8.mp hi).1
   exact h _ rfl σ' H' Hs2 F2 (s.trans m)
theorem jH.meetR {D:Ends} (h:jH g E Es Hs (jc x y) inv D o):jH g E Es Hs y inv D o:=by
 cases o with
 | rt d=>exact h
 | nx ρ =>
  intro O1 e σ' H' Hs' F s;subst e;cases x with
  | none=>exact h O1 rfl σ' H' Hs' F s
  | some b =>
   obtain ⟨Hs2,F2,m⟩:=F.fewer (O':=b.filter fun i=>O1.contains i) fun i hi=>by
    have:=(y8.mp hi).2;simpa using this
   exact h _ rfl σ' H' Hs2 F2 (s.trans m)
def ZG (C:Cok T cl X) (S:ScRel sc X) (h1:okE T X.N c sc c'=true) :
  PT X c' (fun σ H Q=>∃ ρ Hs d b,Same Hs H/\Vs (gOf X) ρ σ Hs (aD c)/\evE cl c ρ=.ok d/\yF c d=.ok b/\∀ H' Hs',Grow H Hs H' Hs'->Q b H'):=by
 intro pins s σ H Q I;rintro ⟨ρ,Hs,d,b,hs,hv,hd,ht,k⟩;cases d <;> try (cases ht;done)
 .cases ht;exact (good c C S h1).2 pins s σ H Q I ⟨ρ,Hs,_,hs,hv,hd,k⟩
 .rename_i ds;cases c <;> try (cases ht;done)
  cases ht;obtain ⟨x,y,z,p,rfl⟩:=sX h1;refine UJ (good _ C S h1).1 (pD rfl) pins s σ H Q I ⟨ρ,Hs,_,hs,hv,hd,fun v H1 Hs1 g1 r1=>?_⟩;obtain ⟨a,xs,rfl,hx,hr⟩:=cN.mp r1;refine ⟨_,.inl ⟨xs,bD g1.sub hx,rfl⟩,?_⟩;have e:(!xs.isEmpty)=!ds.isEmpty:=by
   have:=hr.length;cases xs <;> cases ds <;> first | rfl | (simp at this)
  rw [e];exact k _ _ g1
def acu {a:List MS}{a' b':zn} (C:Cok T cl X) (S:ScRel sc X) (h1:okE T X.N c sc c'=true) (ha:PSs X a' (tMS X E Es O x inv (cQ cl a))) (hb:PSs X b' (tMS X E Es O y inv (cQ cl b))) :
  PS X (.If c' a' b' pos) (tMS X E Es O (jc x y) inv (cF cl (.ifs c a b))):=by
 refine bZ (QJ (ZG C S h1) ha hb) fun D σ H=>?_
 rintro ⟨ρ,Hs,o,F,h,k⟩;simp only [qq,qr,qu,qv,qR,qw,qx,qy,qz] at h;obtain ⟨d,hd,hb⟩:=aj h;obtain ⟨t,ht,hb2⟩:=aj hb;clear h hb;obtain ⟨Hs1,F1,m1,vs,w1⟩:=F.pubW (aD c);refine ⟨ρ,Hs1,d,t,F1.sub,vs,hd,ht,fun H1 Hs2 g2=>?_⟩;obtain ⟨Hs3,g3,_,_⟩:=Yb F.sub w1 g2;have m2:=g3.same F.sub;cases t with
 | true=>(try dsimp only);rw [if_pos rfl];rw [if_pos rfl] at hb2;exact ⟨ρ,Hs3,o,F.grown g3,hb2,k.meetL.mono m2⟩
 | false=>(try dsimp only);rw [if_neg (by decide)];rw [if_neg (by decide)] at hb2;exact ⟨ρ,Hs3,o,F.grown g3,hb2,k.meetR.mono m2⟩
def Rm {t:Tg}{k:IK}{src:List M}{tg iter:Expr}{body:zn}{O2:zi} (C:Cok T cl X) (S:ScRel sc X) (hp:PassesOwn (model X.prog X.w) X.A X.env X.xe) (hq:∀ q∈E.pins,q.1 ∉ aM t)
  (h1:tgB X.N sc t tg=true) (h2:jx sc k tg iter=true) (h3:cB T X.N src sc (jX k iter)=true) (hsub:∀ i∈O2,i∈without (without O (aP src)) (aM t)) (hy:∀ O3,y=some O3->∀ i∈O2,i∈O3)
  (hb:PSs X body (tMS X E Es O2 y O2 (cQ cl b))):PS X (.For tg iter body [] pos) (tMS X E Es O (some O2) inv (cF cl (.forr t k src b))):=by
 refine bZ (RT hp C.calm (uZ C S (fun m _=>good m) h2 h3) (nZ C S h1) hb (vf (tu h2))) fun D σ H=>?_
 rintro ⟨ρ,Hs,o,F,h,kk⟩;simp only [qq,qr,qu,qv,qR,qw,qx,qy,qz] at h;obtain ⟨ss,hss,hb1⟩:=aj h;obtain ⟨ds,hds,hrun⟩:=aj hb1;clear h hb1;obtain ⟨Hs1,F1,m1,vs⟩:=F.pubU (aP src);refine ⟨ρ,Hs1,ds,F1.sub,vs,by simp only [hss,qP];exact hds,fun J H1 Hs2 g2 sr=>?_⟩;have F2:=F1.grown g2;obtain ⟨Hs3,F3,m3⟩:=F2.fewer (O':=O2) fun i hi=>(bK.mp (hsub i hi)).1
 have mm:Same Hs Hs3:=(m1.trans (g2.same F1.sub)).trans m3;refine Oi sr (fun i σ H=>∃ ρ1 Hs',FR (gOf X) E Es O2 ρ1 σ H Hs'/\Same Hs3 Hs'/\lA (fun d ρ=>do let ρ1 <- eU t d ρ;cQ cl b ρ1) ρ (ds.drop i) ρ1=.ok o) ⟨ρ,Hs3,F3,Same.refl _,hrun⟩ (fun i σ H ⟨ρ1,Hs',F',s',_⟩=>(m3.trans s').trans F'.sub) ?_ ?_
 .rintro i d x σ1 H1' H2' hdi ⟨ρ1,Hs',F',s',hgo⟩ hy';obtain ⟨hlt,ed⟩:=yB.mp hdi;rw [List.drop_eq_getElem_cons hlt,ed] at hgo;unfold lA at hgo;obtain ⟨o1,ho1,hgo2⟩:=aj hgo;clear hgo;obtain ⟨ρ2,hρ2,hrb⟩:=aj ho1;clear ho1;obtain ⟨Hs4,g4,rx⟩:=sr.yld i H1' x H2' Hs' d (m3.trans s') F'.sub hdi hy';have F4:=F'.grown g4;have s4:Same Hs3 Hs4:=s'.trans (g4.same F'.sub);refine rF (X:=X) g4.sub hρ2 rx fun l hl hrl eρ=>?_
  have F5:=F4.putL (by rw [hl];exact hq) hrl;rw [hl,<- eρ] at F5;obtain ⟨Hs6,F6,m6⟩:=F5.fewer (O':=O2) fun j hj=>bK.mpr ⟨hj,(bK.mp (hsub j hj)).2⟩
  refine ⟨ρ2,Hs6,o1,F6,hrb,?_⟩;have s6:Same Hs3 Hs6:=s4.trans m6;cases o1 with
  | nx ρ3 =>
   intro O3 e3 σ' H' Hs7 F7 s7;obtain ⟨Hs8,F8,m8⟩:=F7.fewer (hy O3 e3);exact ⟨aV ρ ρ3,Hs8,F8.less (Gw _ _) fun j d' q=>FJ q,(s6.trans s7).trans m8,hgo2⟩
  | rt d3 =>
   intro v H' Hs7 g7 r7;cases hgo2;exact kk v H' Hs7 g7 r7
 .rintro σ1 H1' ⟨ρ1,Hs',F',s',hgo⟩;rw [List.drop_length] at hgo;cases hgo;exact kk O2 rfl _ _ _ F' (mm.trans s')
def XR (T:Tx) (cl:Nat->List D->R D) (m:MS):Prop:=∀ (X:Cx) (sc:Scope) (st:Stmt) (inv O:zi) (O':Ow) (E:Ent) (Es:Hp),(∀ q∈E.pins,q.1 ∉ WX m)->Cok T cl X->ScRel sc X->PassesOwn (model X.prog X.w) X.A X.env X.xe->okS T X.N sc m st=true->uJ inv m O=some O'->PS X st (tMS X E Es O O' inv (cF cl m))
theorem DG {T:Tx}{cl:Nat->List D->R D}:∀ {ms:List MS},(∀ m∈ms,XR T cl m)->∀ {X:Cx}{sc:Scope}{sts:zn}{inv O:zi}{O':Ow}{E:Ent}{Es:Hp},(∀ q∈E.pins,q.1 ∉ BW ms)->Cok T cl X->ScRel sc X->PassesOwn (model X.prog X.w) X.A X.env X.xe->okB T X.N sc ms sts=true->jf inv ms O=some O'->PSs X sts (tMS X E Es O O' inv (cQ cl ms))
 | [],G,X,sc,sts,inv,O,O',E,Es,hq,C,S,hp,h,hc=>by
  rw [ZW,List.isEmpty_iff] at h;subst h;cases hc;refine rG Ai fun D σ H=>?_
  rintro ⟨ρ,Hs,o,F,h,k⟩;simp only [qp,qQ] at h;cases h;exact k O rfl σ H Hs F (Same.refl _)
 | m::ms,G,X,sc,[],inv,O,O',E,Es,hq,C,S,hp,h,hc=>by cases h
 | m::ms,G,X,sc,st::sts,inv,O,O',E,Es,hq,C,S,hp,h,hc=>by
  simp only [Wj,Bool.and_eq_true] at h;rw [Rn] at hc;cases e1:uJ inv m O with
  | none=>rw [e1] at hc;cases hc
  | some x =>
   rw [e1] at hc;have h1:=G m vi X sc st inv O _ E Es (fun q hm z=>hq q hm (vj _ z)) C S hp h.1 e1;cases x with
   | none =>
    have hc':O'=none:=by
     have:some (none:Ow)=some O':=hc;cases this;rfl
    subst hc';refine rG (ni h1 (yC (sts:=sts))) fun D σ H=>?_
    rintro ⟨ρ,Hs,o,F,h,k⟩;simp only [qp,qQ] at h;obtain ⟨o1,ho1,h2⟩:=aj h;clear h;refine ⟨ρ,Hs,o1,F,ho1,?_⟩;cases o1 with
    | nx ρ'=>intro O1 e;cases e
    | rt d=>cases h2;exact k
   | some O1 =>
    have h2:=DG (fun q hq=>G q (ve _ hq)) (E:=E) (Es:=Es) (fun q hm z=>hq q hm (vk _ z)) C S hp h.2 (show jf inv ms O1=some O' from hc);refine rG (ni h1 h2) fun D σ H=>?_
    rintro ⟨ρ,Hs,o,F,h,k⟩;simp only [qp,qQ] at h;obtain ⟨o1,ho1,h2⟩:=aj h;clear h;refine ⟨ρ,Hs,o1,F,ho1,?_⟩;cases o1 with
    | nx ρ' =>
     intro O2 e σ' H' Hs' F' s';cases e;exact ⟨ρ',Hs',o,F',h2,k.mono s'⟩
    | rt d=>cases h2;exact k
theorem Ag {T:Tx}{cl:Nat->List D->R D}:∀ m:MS,XR T cl m
 | .set t e=>fun X sc st inv O O' E Es hq C S hp h hc=>by
  obtain ⟨tgs,v,p,rfl⟩:=vU h;rcases tgs with _ | ⟨tg,_ | ⟨tg2,tgs⟩⟩ <;> try (cases h;done)
  rw [YK] at h;simp only [Bool.and_eq_true,Bool.not_eq_true'] at h;obtain ⟨⟨⟨h1,h2⟩,h3'⟩,h4⟩:=h;by_cases hcm:Er e=true
  .cases e <;> try (cases hcm;done)
   cases t with
   | two i j =>
    skip
    cases hc;exact Oc C S hq h1 h2 h4
   | one i =>
    cases hc;exact Oc C S hq h1 h2 h4
  have h3:gJ v=true:=by
   simp only [Bool.or_eq_true] at h3';rcases h3' with z | z
   .exact z
   .exact absurd z hcm
  cases t with
  | two i j =>
   skip
   cases hc;exact T7 C S hq h1 h2 h3 h4
  | one i =>
   skip
   cases hc;by_cases hf:Rt e=true
   .rw [if_pos hf];cases e <;> try (cases hf;done)
    .exact Yi C S (fun q hm z=>hq q hm (by rw [z];exact yY.mpr rfl)) h1 h2 h3 h4
    .exact ZM C S (fun q hm z=>hq q hm (by rw [z];exact yY.mpr rfl)) h1 h2 h3 h4
   .rw [if_neg hf];exact T7 C S hq h1 h2 h3 h4
 | .app i e=>fun X sc st inv O O' E Es hq C S hp h hc=>by
  .obtain ⟨_,_,_,_,_,_,_,rfl,h9⟩:=Jr h;replace h:=h9;clear h9;simp only [Bool.and_eq_true,decide_eq_true_eq] at h;obtain ⟨⟨⟨⟨⟨⟨h1,h2⟩,h3⟩,h4⟩,h5⟩,h6⟩,h7⟩:=h;subst h4;rw [WM] at hc;split at hc
   .rename_i hi;cases hc;exact aaf C S h1 h2 h3 h5 h6 h7 (by simpa using hi)
   .cases hc
 | .ext i e=>fun X sc st inv O O' E Es hq C S hp h hc=>by
  .obtain ⟨_,_,_,_,_,_,_,rfl,h9⟩:=Jr h;replace h:=h9;clear h9;simp only [Bool.and_eq_true,decide_eq_true_eq] at h;obtain ⟨⟨⟨⟨⟨⟨h1,h2⟩,h3⟩,h4⟩,h5⟩,h6⟩,h7⟩:=h;subst h4;rw [Wq] at hc;split at hc
   .rename_i hi;cases hc;exact aaI C S h1 h2 h3 h5 h6 h7 (by simpa using hi)
   .cases hc
 | .put i k v=>fun X sc st inv O O' E Es hq C S hp h hc=>by
  .obtain ⟨_,_,_,_,_,_,rfl,h9⟩:=Jd h;replace h:=h9;clear h9;simp only [Bool.and_eq_true,decide_eq_true_eq] at h;obtain ⟨⟨⟨⟨⟨⟨h1,h2⟩,h3⟩,h4⟩,h5⟩,h6⟩,h7⟩:=h;rw [Vo] at hc;split at hc
   .rename_i hi;cases hc;exact ab0 C S h1 h2 h3 h5 h6 h7 h4 (by simpa using hi)
   .cases hc
 | .acc i k e=>fun X sc st inv O O' E Es hq C S hp h hc=>by
  obtain ⟨x,p,k',p2,v,q,rfl,h9⟩:=Jd h;simp only [Bool.and_eq_true,decide_eq_true_eq] at h9;obtain ⟨⟨⟨⟨⟨⟨h1,h2⟩,h3⟩,h4⟩,h5⟩,h6⟩,h7⟩:=h9;obtain ⟨x2,p3,ap,k2,lp,cp,e',vp,q2,rfl,hl,h8⟩:=Ye h7;simp only [Bool.and_eq_true,decide_eq_true_eq] at h8;obtain ⟨⟨⟨⟨rfl,j2⟩,j3⟩,j4⟩,j5⟩:=h8;have hc':(if (without O (aD k++aD e)).contains i then some (some (without O (aD k++aD e))) else none)=some O':=hc;split at hc'
  .rename_i hi;cases hc';exact aaH C S h1 h2 h3 h5 j2 j3 j4 j5 hl h4 (by simpa using hi)
  .cases hc'
 | .grp i g=>fun X sc st inv O O' E Es hq C S hp h hc=>by
  have hc':(if O.contains i && !(tgG g).contains i then some (some [i]) else none)=some O':=hc;split at hc'
  .rename_i hi;cases hc';simp only [Bool.and_eq_true,Bool.not_eq_true'] at hi;exact aaY C S hp hq h (by simpa using hi.1) (by simpa using hi.2)
  .cases hc'
 | .expr e=>fun X sc st inv O O' E Es hq C S hp h hc=>by
  obtain ⟨_,_,rfl⟩:=vJ h;rw [Wk] at h;simp only [Bool.and_eq_true] at h;cases hc;exact YL C S h.1 h.2
 | .ret e=>fun X sc st inv O O' E Es hq C S hp h hc=>by
  obtain ⟨v,p,rfl⟩:=v7 h;cases hc;cases v with
  | none=>exact YM h
  | some v=>exact abR C S h
 | .ifs c a b=>fun X sc st inv O O' E Es hq C S hp h hc=>by
  obtain ⟨_,_,_,_,rfl⟩:=Um h;rw [Z0] at h;simp only [Bool.and_eq_true] at h;obtain ⟨⟨h1,h2⟩,h3⟩:=h;rw [WT] at hc;cases e1:jf inv a O with
  | none=>rw [e1] at hc;cases hc
  | some x =>
   rw [e1] at hc;cases e2:jf inv b O with
   | none=>rw [e2] at hc;cases hc
   | some y =>
    rw [e2] at hc;cases (show some (jc x y)=some O' from hc);exact acu C S h1 (DG (fun m _=>Ag m) (fun q hm z=>hq q hm (vj _ z)) C S hp h2 e1) (DG (fun m _=>Ag m) (fun q hm z=>hq q hm (vk _ z)) C S hp h3 e2)
 | .forr t k src b=>fun X sc st inv O O' E Es hq C S hp h hc=>by
  .obtain ⟨tg,iter,body,els,p,rfl⟩:=Nq h;cases els <;> try (cases h;done)
   replace h:(tgB X.N sc t tg && jx sc k tg iter && cB T X.N src sc (jX k iter) && okB T X.N sc b body)=true:=h;simp only [Bool.and_eq_true] at h;obtain ⟨⟨⟨h1,h2⟩,h3⟩,h4⟩:=h;rw [Xk] at hc;dsimp only at hc;cases e1:jf (without (without O (aP src)) (aM t)) b (without (without O (aP src)) (aM t)) with
   | none=>rw [e1] at hc;cases hc
   | some x =>
    rw [e1] at hc;simp only [Option.bind_eq_bind,Option.bind_some] at hc;generalize hO2:(jc (some (without (without O (aP src)) (aM t))) x).getD []=O2 at hc;cases e2:jf O2 b O2 with
    | none=>rw [e2] at hc;cases hc
    | some y =>
     rw [e2] at hc;simp only [Option.bind_some] at hc;have hsub:∀ i∈O2,i∈without (without O (aP src)) (aM t):=by
      rw [<- hO2];cases x with
      | none=>exact fun i hi=>hi
      | some b'=>exact fun i hi=>(y8.mp hi).1
     have hOy:O'=some O2/\∀ O3,y=some O3->∀ i∈O2,i∈O3:=by
      cases y with
      | none=>simp only at hc;cases hc;exact ⟨rfl,fun O3 e=>by cases e⟩
      | some O3 =>
       simp only at hc;split at hc
       .rename_i ha;cases hc;refine ⟨rfl,fun O4 e i hi=>?_⟩;cases e;have:=y4.mp ha i hi;simpa using this
       .cases hc
     obtain ⟨rfl,hy⟩:=hOy;exact Rm C S hp (fun q hm z=>hq q hm (vj _ z)) h1 h2 h3 hsub hy (DG (fun m _=>Ag m) (fun q hm z=>hq q hm (vk _ z)) C S hp h4 e2)
 | .chk j e=>fun X sc st inv O O' E Es hq C S hp h hc=>by cases h
 | .rai=>fun X sc st inv O O' E Es hq C S hp h hc=>by
  refine bZ K6 fun D σ H=>?_
  rintro ⟨ρ,Hs,o,F,h,k⟩;simp only [qq,qr,qu,qv,qR,qw,qx,qy,qz] at h;cases h
termination_by m=>sizeOf m
decreasing_by
 all_goals simp_wf
 all_goals (have:=List.sizeOf_lt_of_mem ‹_∈_›;omega)
end
end Mi
namespace Mi
open PySem L2
open PyProof.Rows hiding St
def Cw (N ps:zk) (sc:Scope):Bool :=
 decide (sc.kind=.function) && !sc.isCoroutine && !sc.isGenerator && decide N.Nodup && decide (N.take ps.length=ps) && (ps.all fun x=>mq sc x) && sc.names.all fun y=>decide (y.2≠.free)
def tV {N ps:zk}{sc:Scope} (h:Cw N ps sc=true):FnScope N ps sc:=by
 unfold Cw at h;simp only [Bool.and_eq_true,decide_eq_true_eq,Bool.not_eq_true',List.all_eq_true] at h;obtain ⟨⟨⟨⟨⟨⟨h1,h2⟩,h3⟩,h4⟩,h5⟩,h6⟩,h7⟩:=h;exact ⟨h1,h2,h3,h4,h5,fun x hx=>nC (h6 x hx),fun y hy=>h7 y hy⟩
def bY (T:Tx) (d:Def) (N ps:zk) (st:Stmt):Bool :=
 Cw N ps (aL st) && decide (d.np=ps.length) && decide (d.nn=N.length) && okB T N (aL st) d.body (cI st) && (!d.nrm || (jf [] d.body []).isSome)
variable {g:G}{H:Hp}
def Kf {Hs:Hp}{ds:List D}{vs:List V}{m k:Nat} (hs:Same Hs H) (r:Rps g Hs ds vs) (e:m=k):FR g ⟨H,[]⟩ Hs [] (ds.map some++List.replicate m none) (vs.map some++List.replicate k none) H Hs:=by
 subst e;refine ⟨Grow.refl hs,by simp [r.length],fun i d h _=>?_,fun i hi=>(by cases hi),fun i hi=>(by cases hi),fun q hq=>by cases hq⟩;by_cases hi:i < ds.length
 .rw [List.getElem?_append_left (by simpa using hi),List.getElem?_map] at h;cases q:ds[i]? with
  | none=>rw [q] at h;cases h
  | some d' =>
   rw [q] at h;cases h;obtain ⟨v,ev,rv⟩:=r.getD q;refine ⟨v,?_,rv⟩;rw [List.getElem?_append_left (by rw [List.length_map,<- r.length];exact hi),List.getElem?_map,ev];rfl
 .rw [List.getElem?_append_right (by simpa using hi),List.getElem?_replicate] at h;split at h <;> cases h
theorem Ih {g:G}{H:Hp}:∀ (ns:List Int),Rps g H (ns.map D.int) (ns.map V.int)
 | []=>Rps.nil
 | n::ns=>Rps.cons (bB.mpr rfl) (Ih ns)
structure FF (K:zd) (x:Str) (st:Stmt):Prop where
 ex:∃ a fd,PySem.W.nsIn K mainGlobals x=some (some (.ref a))/\Fun K x x st a fd
variable {K:zd}{x:Str}
theorem aZ {st:Stmt}{f:Addr}{oc:Value}{od an:zv}{osl:zw}{kV doc pm cdv ct:Value} (a:PySem.W.nsIn K mainGlobals x=some (some (.ref f)))
  (l:K.lookup f=some ⟨oc,od,.func (PySem.W.fnOf x x (dI st) (cI st) (aL st) .none kV doc pm an cdv ct),osl⟩) (c:PySem.W.codeIn K cdv x=true) (k:PySem.W.keepIn K (.ref f)=true):FF K x st :=
 ⟨⟨f,_,a,TF l c k⟩⟩
structure GF (K:zd) (x:Str) (d:D):Prop where
 ex:∃ v,PySem.W.nsIn K mainGlobals x=some (some v)/\GlV d (some v)
theorem CZ {i:Int}{t:Tok} (a:PySem.W.nsIn K mainGlobals x=some (some (.int i t))):GF K x (.int i):=⟨⟨_,a,t,rfl⟩⟩
variable {α:Type}
theorem us1 {p:List α->Prop} (h:∀ a,p [a]):∀ us:List α,us.length=1->p us
 | [_],_=>h _
theorem us2 {p:List α->Prop} (h:∀ a b,p [a,b]):∀ us:List α,us.length=2->p us
 | [_,_],_=>h _ _
theorem us3 {p:List α->Prop} (h:∀ a b c,p [a,b,c]):∀ us:List α,us.length=3->p us
 | [_,_,_],_=>h _ _ _
theorem us4 {p:List α->Prop} (h:∀ a b c d,p [a,b,c,d]):∀ us:List α,us.length=4->p us
 | [_,_,_,_],_=>h _ _ _ _
end Mi
namespace Mi
open PySem L2
theorem bW {α:Type}{f:D->R (Option D)}{enc e:α->D}{p:α->Bool}:∀ (l:List α),(∀ a∈l,f (enc a)=.ok (if p a then some (e a) else none))->eF f (l.map enc)=.ok ((l.filter p).map e)
 | [],_=>rfl
 | a::l,h=>by
  have h1:=h a vi;have h2:=bW l fun b hb=>h b (ve _ hb)
  simp only [List.map_cons,eF,h1,h2,qP,List.filter_cons];cases p a <;> simp
variable {α:Type}
def cX {f:D->R (Option D)}{enc e:α->D} (l:List α) (h:∀ a∈l,f (enc a)=.ok (some (e a))):eF f (l.map enc)=.ok (l.map e):=by
 have:=bW (f:=f) (enc:=enc) (e:=e) (p:=fun _=>true) l (by simpa using h);rw [List.filter_eq_self.mpr (fun _ _=>rfl)] at this;exact this
theorem cY {α β:Type}{f:D->En->R Out}{ρ₀:En} (enc:β->D) (S:α->En) (step:α->β->α) (P:α->List β->Prop)
  (h:∀ a x xs,P a (x::xs)->P (step a x) xs/\∃ ρ',f (enc x) (S a)=.ok (.nx ρ')/\aV ρ₀ ρ'=S (step a x)):∀ (xs:List β) (a:α),P a xs->lA f ρ₀ (xs.map enc) (S a)=.ok (.nx (S (xs.foldl step a)))
 | [],a,_=>rfl
 | x::xs,a,p=>by
  obtain ⟨p2,ρ',h1,h2⟩:=h a x xs p;simp only [List.map_cons,lA,h1,qP,h2,List.foldl_cons];exact cY enc S step P h xs (step a x) p2
theorem Gd {α β:Type} (g:β->List α):∀ (xs:List β) (a:List α),xs.foldl (fun acc x=>acc++g x) a=a++xs.flatMap g
 | [],a=>by simp
 | x::xs,a=>by simp [Gd g xs]
variable {β:Type}{f:D->En->R Out}{ρ₀:En}
def iV (enc:β->D) (S:List α->En) (g:β->List α) (B:Nat) (xs:List β)
  (h:∀ (acc:List α),∀ x∈xs,acc.length+(g x).length<=B->∃ ρ',f (enc x) (S acc)=.ok (.nx ρ')/\aV ρ₀ ρ'=S (acc++g x)) (a:List α) (hB:a.length+(xs.flatMap g).length<=B):lA f ρ₀ (xs.map enc) (S a)=.ok (.nx (S (a++xs.flatMap g))):=by
 rw [<- Gd];refine cY enc S _ (fun acc ys=>acc.length+(ys.flatMap g).length<=B/\∀ y∈ys,y∈xs) (fun acc x ys p=>?_) xs a ⟨hB,fun y hy=>hy⟩;obtain ⟨p,q⟩:=p;simp only [List.flatMap_cons,List.length_append] at p;exact ⟨⟨by simp only [List.length_append];omega,fun y hy=>q y (ve _ hy)⟩,h acc x (q x vi) (by omega)⟩
def Mf (enc:β->D) (S:α->En) (step:α->β->α) (P:α->Prop) (xs:List β)
  (h:∀ a,∀ x∈xs,P a->P (step a x)/\∃ ρ',f (enc x) (S a)=.ok (.nx ρ')/\aV ρ₀ ρ'=S (step a x)) (a:α) (hP:P a):lA f ρ₀ (xs.map enc) (S a)=.ok (.nx (S (xs.foldl step a))):=by
 refine cY enc S step (fun a ys=>P a/\∀ y∈ys,y∈xs) (fun a x ys p=>?_) xs a ⟨hP,fun y hy=>hy⟩;obtain ⟨h1,h2⟩:=h a x (p.2 x vi) p.1;exact ⟨⟨h1,fun y hy=>p.2 y (ve _ hy)⟩,h2⟩
noncomputable abbrev eN (n:Nat):D:=.int n
def au (r:zi):D:=.tup (r.map eN)
def eP (p:Nat × Nat):D:=.tup [eN p.1,eN p.2]
abbrev Meet:=List (Nat × Nat)
def eM (m:Meet):D:=.tup (m.map eP)
def eB (lv:zi) (bs:List Meet):D:=.tup [au lv,.tup (bs.map eM)]
structure Enc {α:Type} (enc:α->D):Prop where
 inj:∀ a b,enc a=enc b->a=b
 key:∀ a,keyOk (enc a)=true
 dp:∀ a,dep (enc a)<=4
theorem jk {α:Type}{enc:α->D} (h:∀ a,keyOk (enc a)=true):∀ l:List α,bL (l.map enc)=true
 | []=>rfl
 | a::l=>by simp [bL,h a,jk h l]
theorem gH {α:Type}{enc:α->D}{n:Nat} (h:∀ a,dep (enc a)<=n):∀ l:List α,deps (l.map enc)<=n
 | []=>vS _
 | a::l=>by
  simp only [List.map_cons,deps];have:=h a;have:=gH h l;omega
theorem yZ:Enc eN:=⟨fun a b h=>by injection h with h;exact Int.ofNat.inj h,fun _=>rfl,fun _=>vS _⟩
def lM:Enc au:=by
 refine ⟨fun a b h=>?_,fun a=>?_,fun a=>?_⟩
 .unfold au at h;injection h with h;exact (List.map_inj_right yZ.inj).mp h
 .simp only [au,keyOk];exact jk yZ.key a
 .simp only [au,dep];have:=gH (n:=0) (fun a=>vy (dep (eN a))) a;omega
def HJ:Enc eP:=by
 refine ⟨fun a b h=>?_,fun a=>rfl,fun a=>by simp [eP,dep,deps,eN]⟩;unfold eP at h;injection h with h;injection h with h1 h2;injection h2 with h2 _;exact Prod.ext (yZ.inj _ _ h1) (yZ.inj _ _ h2)
def acy (p:Nat × Nat):dep (eP p)=1:=by simp [eP,dep,deps,eN]
def jZ:Enc eM:=by
 refine ⟨fun a b h=>?_,fun a=>?_,fun a=>?_⟩
 .unfold eM at h;injection h with h;exact (List.map_inj_right HJ.inj).mp h
 .simp only [eM,keyOk];exact jk HJ.key a
 .simp only [eM,dep];have:=gH (n:=1) (fun p=>Nat.le_of_eq (acy p)) a;omega
section
variable {α:Type}{enc:α->D} [DecidableEq α]
theorem Enc.eqs (E:Enc enc) (l l':List α):dD (l.map enc) (l'.map enc)=decide (l=l'):=by
 rw [yx (jk E.key l) (jk E.key l')];by_cases h:l=l'
 .subst h;simp
 .rw [decide_eq_false h,decide_eq_false fun z=>h ((List.map_inj_right E.inj).mp z)]
theorem Enc.flat (E:Enc enc) (l l':List α):bw (.lst (l.map enc)) (.lst (l'.map enc))=true:=by
 have h1:=gH E.dp l;have h2:=gH E.dp l';have e:∀ l:List α,dep (.lst (l.map enc))=deps (l.map enc)+1:=fun l=>by rw [dep]
 unfold bw;rw [e,e,decide_eq_true (show deps (l.map enc)+1<=30 by omega),decide_eq_true (show deps (l'.map enc)+1<=30 by omega)];rfl
theorem Enc.cmpEq (E:Enc enc) (l l':List α):aY .eq (.lst (l.map enc)) (.lst (l'.map enc))=.ok (decide (l=l')):=by
 simp only [aY,E.flat,if_true,aH,E.eqs]
theorem Enc.cmpNe (E:Enc enc) (l l':List α):aY .ne (.lst (l.map enc)) (.lst (l'.map enc))=.ok (!decide (l=l')):=by
 simp only [aY,E.flat,if_true,aH,E.eqs]
theorem Enc.cmpEq0 (E:Enc enc) (l:List α):aY .eq (.lst (l.map enc)) (.lst [])=.ok l.isEmpty:=by
 have:=E.cmpEq l [];rw [List.map_nil] at this;rw [this];cases l <;> simp
theorem Enc.cmpNe0 (E:Enc enc) (l:List α):aY .ne (.lst (l.map enc)) (.lst [])=.ok (!l.isEmpty):=by
 have:=E.cmpNe l [];rw [List.map_nil] at this;rw [this];cases l <;> simp
end
theorem Nt (m:Meet):isKey (eM m)=true:=by
 have h1:=jZ.key m;have h2:=jZ.dp m;unfold isKey;rw [h1,decide_eq_true (show dep (eM m)<=6 by omega)];rfl
theorem Yd (ks:List Meet) (m:Meet):kOk (ks.map eM) (eM m)=true:=by
 have h:(ks.map eM).all isKey=true:=by
  rw [List.all_eq_true];intro a ha;obtain ⟨x,_,rfl⟩:=yI.mp ha;exact Nt x
 unfold kOk;rw [Nt,h];rfl
noncomputable def fj {α:Type} [DecidableEq α] (ks:List α) (m:α):List α:=if m∈ks then ks else ks++[m]
def eK (ks:List Meet):D:=.dct (ks.map eM) (List.replicate ks.length (.bl true))
def Rk (ks:List Meet) (m:Meet) (h:ks.length < lim):putD (eK ks) (eM m) (.bl true)=.ok (eK (fj ks m)):=by
 have hk:=Yd ks m;simp only [eK,putD,List.length_map,List.length_replicate];rw [if_pos ⟨hk,h,trivial⟩];have hm:eM m∈ks.map eM↔m∈ks:=⟨fun z=>by obtain ⟨a,ha,e⟩:=yI.mp z;rw [jZ.inj _ _ e] at ha;exact ha,fun z=>yI.mpr ⟨m,z,rfl⟩⟩;unfold fj iy;by_cases hmem:m∈ks
 .rw [if_pos (hm.mpr hmem),if_pos hmem];have:((ks.map eM).zip (List.replicate ks.length (D.bl true))).map (fun p=>if p.1=eM m then D.bl true else p.2)=List.replicate ks.length (D.bl true):=by
   refine List.ext_getElem (by simp) fun i h1 h2=>?_
   simp
  rw [this]
 .rw [if_neg fun z=>hmem (hm.mp z),if_neg hmem];simp [List.replicate_succ']
def Wz [DecidableEq α] {ks:List α}{m x:α}:x∈fj ks m↔x∈ks\/x=m:=by
 unfold fj;split
 .constructor
  .exact .inl
  .rintro (h | rfl) <;> assumption
 .simp
def Qy [DecidableEq α] {ks:List α}{m:α} (h:ks.Nodup):(fj ks m).Nodup:=by
 unfold fj;split
 .exact h
 .rename_i hm;rw [List.nodup_append];refine ⟨h,by simp,fun a ha b hb=>?_⟩;rw [List.mem_singleton.mp hb];rintro rfl;exact hm ha
theorem uq {α:Type} [DecidableEq α] {x:α}:∀ {ms ks:List α},x∈ms.foldl fj ks↔x∈ks\/x∈ms
 | [],ks=>by simp
 | m::ms,ks=>by
  rw [List.foldl_cons,uq,Wz,List.mem_cons,or_assoc]
theorem uF {α:Type} [DecidableEq α]:∀ {ms ks:List α},ks.Nodup->(ms.foldl fj ks).Nodup
 | [],ks,h=>h
 | m::ms,ks,h=>by rw [List.foldl_cons];exact uF (Qy h)
def vC [DecidableEq α] (ks:List α) (m:α):(fj ks m).length<=ks.length+1:=by
 unfold fj;split
 .omega
 .simp
theorem yh {α:Type} [DecidableEq α]:∀ (ms ks:List α),(ms.foldl fj ks).length<=ks.length+ms.length
 | [],ks=>by simp
 | m::ms,ks=>by
  have:=yh ms (fj ks m);have:=vC ks m;simp only [List.foldl_cons,List.length_cons];omega
def pLt (p q:Nat × Nat):Prop:=p.1 < q.1\/(p.1=q.1/\p.2 < q.2)
def mLt (a b:Meet):Prop:=∃ c x y s t,a=c++x::s/\b=c++y::t/\pLt x y
variable {p q:Nat × Nat}
def acv (h:pLt p q):ltD (eP p) (eP q)=true:=by
 obtain ⟨a,b⟩:=p;obtain ⟨c,d⟩:=q;simp only [eP,ltD,aW,eN];rcases h with h | ⟨h1,h2⟩
 .have:¬ (D.int (a:Int)=D.int (c:Int)):=fun z=>by injection z with z;simp only at h;omega
  rw [if_neg this];simp only at h;simp;omega
 .simp only at h1 h2;subst h1;rw [if_pos rfl];have:¬ (D.int (b:Int)=D.int (d:Int)):=fun z=>by injection z with z;omega
  rw [if_neg this];simp;omega
def aaQ (h:pLt p q):p≠q:=by
 rintro rfl;rcases h with h | ⟨_,h⟩ <;> omega
variable {x y:Nat × Nat}
def V4 (c:Meet) {s t:Meet} (h:pLt x y):aW ((c++x::s).map eP) ((c++y::t).map eP)=true:=by
 induction c with
 | nil =>
  simp only [List.nil_append,List.map_cons,aW];rw [if_neg fun z=>aaQ h (HJ.inj _ _ z)];exact acv h
 | cons z c ih =>
  simp only [List.cons_append,List.map_cons,aW,if_true];exact ih
variable {a b:Meet}
def Qu (h:mLt a b):ltD (eM a) (eM b)=true:=by
 obtain ⟨c,x,y,s,t,rfl,rfl,h⟩:=h;simp only [eM,ltD];exact V4 c h
theorem mLt.app (h:mLt a b) (u v:Meet):mLt (a++u) (b++v):=by
 obtain ⟨c,x,y,s,t,rfl,rfl,h⟩:=h;exact ⟨c,x,y,s++u,t++v,by simp,by simp,h⟩
theorem mLt.last (c:Meet) (h:pLt x y):mLt (c++[x]) (c++[y]):=⟨c,x,y,[],[],rfl,rfl,h⟩
def K7 (h:mLt a b):a≠b:=by
 rintro rfl;have:=Qu h;rw [Ae] at this;cases this
theorem acq (p q:Nat × Nat):bJ (eP p) (eP q)=true:=by
 simp only [eP,bJ,cW];split
 .split
  .rfl
  .rfl
 .rfl
theorem Tv:∀ (a b:Meet),cW (a.map eP) (b.map eP)=true
 | [],b=>by simp [cW]
 | x::a,[]=>by simp [cW]
 | x::a,y::b=>by
  simp only [List.map_cons,cW];split
  .exact Tv a b
  .exact acq x y
def XH (a b:Meet):bJ (eM a) (eM b)=true:=by simp only [eM,bJ];exact Tv a b
variable {L:List Meet}
def Ka {ks:List Meet}{vs:List D} (hn:ks.Nodup) (hL:L.Pairwise mLt) (hm:∀ m,m∈ks↔m∈L) (hl:L.length < 64) (h0:∀ m∈L,m≠[]):lN (.dct (ks.map eM) vs)=.ok (.lst (L.map eM)):=by
 have nL:L.Nodup:=hL.imp fun h=>K7 h
 have perm:L.Perm ks:=(List.perm_ext_iff_of_nodup nL hn).mpr fun m=>(hm m).symm
 have hlen:=perm.length_eq;have hc:kY (ks.map eM):=fun a ha b hb=>by
  obtain ⟨x,_,rfl⟩:=yI.mp ha;obtain ⟨y,_,rfl⟩:=yI.mp hb;exact XH x y
 have hsort:nU (ks.map eM)=L.map eM:=Cm hc (perm.map eM) (List.pairwise_map.mpr (hL.imp fun h=>by
  unfold leD;exact Bv (Qu h)))
 have ok:oU (ks.map eM)=true:=by
  unfold oU;simp only [Bool.and_eq_true,Bool.or_eq_true,decide_eq_true_eq,List.length_map,List.all_eq_true];refine ⟨⟨⟨by omega,?_⟩,fun a ha b hb=>hc a ha b hb⟩,.inl ⟨jk jZ.key ks,.inr ?_⟩⟩
  .have:=gH jZ.dp ks;omega
  .intro d hd;obtain ⟨m,hmk,rfl⟩:=yI.mp hd;have:=h0 m ((hm m).mp hmk);cases m with
   | nil=>exact absurd rfl this
   | cons p m=>rfl
 simp only [lN,DW,qP,ok,if_true,hsort]
noncomputable def cD (rs:ze) (l:Nat):ze:=rs.flatMap fun r=>(List.range l).map fun s=>r++[s]
def rows (lv:zi):ze:=lv.foldl cD [[]]
def iK:zi->zi->Prop
 | [],[]=>True
 | l::ls,x::xs=>x < l/\iK ls xs
 | _,_=>False
theorem Gh:∀ {lv:zi}{rs:ze}{r:zi},r∈lv.foldl cD rs↔∃ a∈rs,∃ t,r=a++t/\iK lv t
 | [],rs,r=>by
  simp only [List.foldl_nil];constructor
  .intro h;exact ⟨r,h,[],by simp,trivial⟩
  .rintro ⟨a,ha,t,rfl,ht⟩;cases t with
   | nil=>simpa using ha
   | cons _ _=>exact ht.elim
 | l::lv,rs,r=>by
  rw [List.foldl_cons,Gh];constructor
  .rintro ⟨a,ha,t,rfl,ht⟩;unfold cD at ha;rw [List.mem_flatMap] at ha;obtain ⟨b,hb,ha⟩:=ha;obtain ⟨s,hs,rfl⟩:=yI.mp ha;exact ⟨b,hb,s::t,by simp,y9.mp hs,ht⟩
  .rintro ⟨a,ha,t,rfl,ht⟩;cases t with
   | nil=>exact ht.elim
   | cons s t =>
    refine ⟨a++[s],?_,t,by simp,ht.2⟩;unfold cD;rw [List.mem_flatMap];exact ⟨a,ha,yI.mpr ⟨s,y9.mpr ht.1,rfl⟩⟩
variable {lv r:zi}
def nO :r∈rows lv↔iK lv r:=by
 unfold rows;rw [Gh];constructor
 .rintro ⟨a,ha,t,rfl,ht⟩;rw [List.mem_singleton.mp ha];exact ht
 .intro h;exact ⟨[],by simp,r,by simp,h⟩
theorem iK.len:∀ {lv r:zi},iK lv r->r.length=lv.length
 | [],[],_=>rfl
 | _::_,_::_,h=>by simp [iK.len h.2]
 | [],_::_,h=>h.elim
 | _::_,[],h=>h.elim
theorem iK.get':∀ {lv r:zi}{i:Nat},iK lv r->∀ {x:Nat},r[i]?=some x->∃ l,lv[i]?=some l/\x < l
 | _,[],i,_,l,e=>by simp at e
 | [],x::r,i,h,_,e=>h.elim
 | l::lv,x::r,0,h,l',e=>by simp at e;subst e;exact ⟨l,rfl,h.1⟩
 | l::lv,x::r,i+1,h,l',e=>by simpa using iK.get' h.2 (i:=i) (by simpa using e)
noncomputable def prod (lv:zi):Nat:=lv.foldl (· * ·) 1
theorem FZ {α:Type} (k:Nat):∀ (l:List α),(l.map fun _=>k).sum=l.length * k
 | []=>by simp
 | a::l=>by simp [FZ k l,Nat.succ_mul,Nat.add_comm]
def yd (rs:ze) (l:Nat):(cD rs l).length=rs.length * l:=by
 unfold cD;rw [List.length_flatMap];simp only [List.length_map,List.length_range];exact FZ l rs
theorem GP:∀ (lv:zi) (rs:ze) (k:Nat),rs.length=k->(lv.foldl cD rs).length=lv.foldl (· * ·) k
 | [],rs,k,h=>h
 | l::lv,rs,k,h=>by
  rw [List.foldl_cons,List.foldl_cons];exact GP lv _ _ (by rw [yd,h])
theorem vG (lv:zi):(rows lv).length=prod lv:=GP lv [[]] 1 rfl
noncomputable def fQ:Nat->zi->List (Nat × Nat)
 | _,[]=>[]
 | n,l::ls=>(List.range l).map (fun s=>(n,s))++fQ (n+1) ls
theorem mH:∀ {n:Nat}{lv:zi}{p:Nat × Nat},p∈fQ n lv↔n<=p.1/\∃ l,lv[p.1 - n]?=some l/\p.2 < l
 | n,[],p=>by simp [fQ]
 | n,l::ls,p=>by
  obtain ⟨t,s⟩:=p;simp only [fQ,List.mem_append,mH,List.mem_map,List.mem_range,Prod.mk.injEq];constructor
  .rintro (⟨a,ha,rfl,rfl⟩ | ⟨h1,l',h2,h3⟩)
   .exact ⟨vy _,l,by simp,ha⟩
   .refine ⟨by omega,l',?_,h3⟩;rw [show t - n=(t - (n+1))+1 by omega];simpa using h2
  .rintro ⟨h1,l',h2,h3⟩;by_cases e:t=n
   .subst e;simp at h2;subst h2;exact .inl ⟨s,h3,rfl,rfl⟩
   .right;refine ⟨by omega,l',?_,h3⟩;rw [show t - n=(t - (n+1))+1 by omega] at h2;simpa using h2
theorem ud:∀ (n:Nat) (lv:zi),(fQ n lv).Pairwise pLt
 | n,[]=>List.Pairwise.nil
 | n,l::ls=>by
  simp only [fQ];rw [List.pairwise_append];refine ⟨List.pairwise_map.mpr (List.pairwise_lt_range.imp fun h=>.inr ⟨rfl,h⟩),ud (n+1) ls,fun a ha b hb=>?_⟩;obtain ⟨s,_,rfl⟩:=yI.mp ha;have:=(mH.mp hb).1;exact .inl (Nat.lt_of_succ_le this)
noncomputable def behind (m:Meet) (p:Nat × Nat):Bool:=match m.getLast? with | none=>true | some q=>decide (q.1 < p.1)
def among (ps:List (Nat × Nat)):Nat->List Meet
 | 0=>[[]]
 | k+1=>(among ps k).flatMap fun m=>(ps.filter (behind m)).map fun p=>m++[p]
abbrev gq (m:Meet):Prop:=m.Pairwise fun p q=>p.1 < q.1
variable {m:Meet}
def DQ (h:gq m):behind m p=true↔∀ q∈m,q.1 < p.1:=by
 unfold behind;cases e:m.getLast? with
 | none =>
  rw [List.getLast?_eq_none_iff] at e;subst e;simp
 | some q =>
  obtain ⟨m',rfl⟩:=List.getLast?_eq_some_iff.mp e;simp only [decide_eq_true_eq];constructor
  .intro hq x hx;rcases yT.mp hx with hx | hx
   .have:=(List.pairwise_append.mp h).2.2 x hx q (by simp);omega
   .rw [List.mem_singleton.mp hx];exact hq
  .intro hx;exact hx q (by simp)
theorem oX {ps:List (Nat × Nat)}:∀ {k:Nat}{m:Meet},m∈among ps k↔m.length=k/\gq m/\∀ p∈m,p∈ps
 | 0,m=>by
  simp only [among,List.mem_singleton];constructor
  .rintro rfl;simp
  .rintro ⟨h,_⟩;exact List.length_eq_zero_iff.mp h
 | k+1,m=>by
  simp only [among,List.mem_flatMap,List.mem_map,List.mem_filter];constructor
  .rintro ⟨a,ha,p,⟨hp,hb⟩,rfl⟩;obtain ⟨h1,h2,h3⟩:=oX.mp ha;refine ⟨by simp [h1],?_,fun q hq=>?_⟩
   .unfold gq;rw [List.pairwise_append];exact ⟨h2,by simp,fun x hx y hy=>by rw [List.mem_singleton.mp hy];exact (DQ h2).mp hb x hx⟩
   .rcases yT.mp hq with hq | hq
    .exact h3 q hq
    .rw [List.mem_singleton.mp hq];exact hp
  .rintro ⟨h1,h2,h3⟩;have hne:m≠[]:=fun z=>by subst z;simp at h1
   obtain ⟨a,p,rfl⟩:∃ a p,m=a++[p]:=⟨m.dropLast,m.getLast hne,(List.dropLast_concat_getLast hne).symm⟩;obtain ⟨q1,q2,q3⟩:=List.pairwise_append.mp h2;refine ⟨a,oX.mpr ⟨by simpa using h1,q1,fun x hx=>h3 x (by simp [hx])⟩,p,⟨h3 p (by simp),(DQ q1).mpr fun x hx=>q3 x hx p (by simp)⟩,rfl⟩
theorem sy {ps:List (Nat × Nat)} (h:ps.Pairwise pLt):∀ k,(among ps k).Pairwise mLt
 | 0=>by simp [among]
 | k+1=>by
  simp only [among];rw [List.pairwise_flatMap];refine ⟨fun m _=>List.pairwise_map.mpr ((h.filter _).imp fun q=>mLt.last m q),(sy h k).imp fun q x hx y hy=>?_⟩;obtain ⟨p,_,rfl⟩:=yI.mp hx;obtain ⟨p',_,rfl⟩:=yI.mp hy;exact q.app _ _
noncomputable def aQ:Nat->zi->List (Nat × Nat)
 | _,[]=>[]
 | n,x::xs=>(n,x)::aQ (n+1) xs
theorem lH:∀ {n:Nat}{r:zi}{p:Nat × Nat},p∈aQ n r↔n<=p.1/\r[p.1 - n]?=some p.2
 | n,[],p=>by simp [aQ]
 | n,x::xs,p=>by
  obtain ⟨t,s⟩:=p;simp only [aQ,List.mem_cons,lH,Prod.mk.injEq];constructor
  .rintro (⟨rfl,rfl⟩ | ⟨h1,h2⟩)
   .simp
   .refine ⟨by omega,?_⟩;rw [show t - n=(t - (n+1))+1 by omega];simpa using h2
  .rintro ⟨h1,h2⟩;by_cases e:t=n
   .subst e;simp at h2;exact .inl ⟨rfl,h2.symm⟩
   .right;refine ⟨by omega,?_⟩;rw [show t - n=(t - (n+1))+1 by omega] at h2;simpa using h2
theorem pJ:∀ (n:Nat) (r:zi),gq (aQ n r)
 | n,[]=>List.Pairwise.nil
 | n,x::xs=>by
  unfold gq aQ;rw [List.pairwise_cons];exact ⟨fun p hp=>by have:=(lH.mp hp).1;simp only;omega,pJ (n+1) xs⟩
noncomputable def cC (r:zi) (m:Meet):Bool:=m.all fun p=>decide (r[p.1]?=some p.2)
def w6 :cC r m=true↔∀ p∈m,r[p.1]?=some p.2:=by
 unfold cC;simp [List.all_eq_true]
variable {k:Nat}
def nD :m∈among (aQ 0 r) k↔m.length=k/\gq m/\cC r m=true:=by
 rw [oX,w6];refine and_congr_right fun _=>and_congr_right fun _=>?_
 constructor
 .intro h p hp;simpa using (lH.mp (h p hp)).2
 .intro h p hp;exact lH.mpr ⟨vS _,by simpa using h p hp⟩
noncomputable def gn (acc:List Meet) (p:Nat × Nat):List Meet:=acc++acc.map fun m=>m++[p]
def subs (l:Meet):List Meet:=l.foldl gn [[]]
theorem Gf:∀ {l:Meet}{acc:List Meet}{m:Meet},m∈l.foldl gn acc↔∃ a∈acc,∃ t,t.Sublist l/\m=a++t
 | [],acc,m=>by
  simp only [List.foldl_nil,List.sublist_nil];constructor
  .intro h;exact ⟨m,h,[],rfl,by simp⟩
  .rintro ⟨a,ha,t,rfl,rfl⟩;simpa using ha
 | p::l,acc,m=>by
  rw [List.foldl_cons,Gf];constructor
  .rintro ⟨a,ha,t,ht,rfl⟩;unfold gn at ha;rcases yT.mp ha with ha | ha
   .exact ⟨a,ha,t,ht.cons p,rfl⟩
   .obtain ⟨b,hb,rfl⟩:=yI.mp ha;exact ⟨b,hb,p::t,ht.cons_cons p,by simp⟩
  .rintro ⟨a,ha,t,ht,rfl⟩;cases ht with
   | cons _ h=>exact ⟨a,by unfold gn;simp [ha],t,h,rfl⟩
   | cons_cons _ h =>
    rename_i t';exact ⟨a++[p],by unfold gn;simp [ha],t',h,by simp⟩
theorem uQ:∀ {l m:Meet},gq l->gq m->(∀ p∈m,p∈l)->m.Sublist l
 | [],m,_,_,h=>by
  cases m with
  | nil=>exact List.Sublist.refl _
  | cons p m=>exact absurd (h p vi) (by simp)
 | q::l,[],_,_,_=>List.nil_sublist _
 | q::l,p::m,hl,hm,h=>by
  unfold gq at hl hm;rw [List.pairwise_cons] at hl hm;rcases vR.mp (h p vi) with rfl | hp
  .refine List.Sublist.cons_cons p (uQ hl.2 hm.2 fun x hx=>?_);rcases vR.mp (h x (ve _ hx)) with rfl | h'
   .have:=hm.1 x hx;omega
   .exact h'
  .refine List.Sublist.cons q (uQ hl.2 (List.pairwise_cons.mpr hm) fun x hx=>?_);rcases vR.mp (h x hx) with rfl | h'
   .exfalso;have h1:=hl.1 p hp;rcases vR.mp hx with rfl | hx
    .omega
    .have:=hm.1 x hx;omega
   .exact h'
def HD :m∈subs (aQ 0 r)↔gq m/\cC r m=true:=by
 unfold subs;rw [Gf,w6];constructor
 .rintro ⟨a,ha,t,ht,rfl⟩;rw [List.mem_singleton.mp ha,List.nil_append];refine ⟨(pJ 0 r).sublist ht,fun p hp=>?_⟩;simpa using (lH.mp (ht.subset hp)).2
 .rintro ⟨h1,h2⟩;exact ⟨[],by simp,m,uQ (pJ 0 r) h1 fun p hp=>lH.mpr ⟨vS _,by simpa using h2 p hp⟩,by simp⟩
theorem Gy:∀ (l:Meet) (acc:List Meet),(l.foldl gn acc).length=acc.length * 2 ^ l.length
 | [],acc=>by simp
 | p::l,acc=>by
  rw [List.foldl_cons,Gy];unfold gn;rw [List.length_append,List.length_map,List.length_cons,Nat.pow_succ,<- Nat.two_mul,Nat.mul_comm 2 acc.length,Nat.mul_assoc,Nat.mul_comm 2]
theorem jj:∀ (n:Nat) (r:zi),(aQ n r).length=r.length
 | _,[]=>rfl
 | n,x::xs=>by simp [aQ,jj (n+1) xs]
def rQ (lv:zi) (m:Meet):Prop:=gq m/\∀ p∈m,∃ l,lv[p.1]?=some l/\p.2 < l
structure WB (lv:zi) (bs:List Meet):Prop where
 one:1<=lv.length
 four:lv.length<=4
 lv1:∀ (i l:Nat),lv[i]?=some l->1<=l/\l<=3
 lv2:∀ (i l:Nat),lv[i]?=some l->2<=i->l<=2
 nb:bs.length<=3
 ban:∀ b∈bs,rQ lv b/\1<=b.length/\b.length<=3
def pW (bs:List Meet) (r:zi):Bool:=!(bs.any fun b=>cC r b)
def tests (lv:zi) (bs:List Meet):ze:=(rows lv).filter (pW bs)
def allM (lv:zi) (k:Nat):List Meet:=among (fQ 0 lv) k
def rT :m∈allM lv k↔m.length=k/\rQ lv m:=by
 unfold allM rQ;rw [oX];refine and_congr_right fun _=>and_congr_right fun _=>?_
 constructor
 .intro h p hp;simpa using (mH.mp (h p hp)).2
 .intro h p hp;exact mH.mpr ⟨vS _,by simpa using h p hp⟩
theorem uK (lv:zi) (k:Nat):(allM lv k).Pairwise mLt:=sy (ud 0 lv) k
theorem Om:∀ {lv:zi}{n:Nat}{m:Meet},(∀ (i l:Nat),lv[i]?=some l->1<=l)->gq m->(∀ p∈m,n<=p.1/\∃ l,lv[p.1 - n]?=some l/\p.2 < l)->∃ r,iK lv r/\∀ p∈m,r[p.1 - n]?=some p.2
 | [],n,m,_,_,h=>⟨[],trivial,fun p hp=>by obtain ⟨_,l,e,_⟩:=h p hp;simp at e⟩
 | l::lv,n,m,h1,hr,h=>by
  have h1':∀ (i l:Nat),lv[i]?=some l->1<=l:=fun i l' e=>h1 (i+1) l' (by simpa using e)
  have go:∀ (m':Meet),gq m'->(∀ p∈m',p∈m/\n+1<=p.1)->∃ r,iK lv r/\∀ p∈m',r[p.1 - (n+1)]?=some p.2:=fun m' hr' hm'=>Om h1' hr' fun p hp=>by
   obtain ⟨hpm,hn⟩:=hm' p hp;obtain ⟨_,l',e,hl⟩:=h p hpm;rw [show p.1 - n=(p.1 - (n+1))+1 by omega] at e;exact ⟨hn,l',by simpa using e,hl⟩
  have up:∀ {r:zi}{x:Nat}{p:Nat × Nat},n+1<=p.1->r[p.1 - (n+1)]?=some p.2->(x::r)[p.1 - n]?=some p.2:=fun {r x p} hn e=>by
   rw [show p.1 - n=(p.1 - (n+1))+1 by omega];simpa using e
  cases m with
  | nil =>
   obtain ⟨r,q1,q2⟩:=go [] List.Pairwise.nil (by simp);exact ⟨0::r,⟨h1 0 l rfl,q1⟩,by simp⟩
  | cons p m =>
   unfold gq at hr;rw [List.pairwise_cons] at hr;by_cases e:p.1=n
   .obtain ⟨r,q1,q2⟩:=go m hr.2 fun q hq=>⟨ve _ hq,by have:=hr.1 q hq;omega⟩
    obtain ⟨_,l',e',hl⟩:=h p vi;rw [e,Nat.sub_self] at e';simp at e';subst e';refine ⟨p.2::r,⟨hl,q1⟩,fun q hq=>?_⟩;rcases vR.mp hq with rfl | hq
    .rw [e,Nat.sub_self];rfl
    .exact up (by have:=hr.1 q hq;omega) (q2 q hq)
   .have hall:∀ q∈p::m,n+1<=q.1:=fun q hq=>by
     have h0:=(h p vi).1;rcases vR.mp hq with rfl | hq
     .omega
     .have:=hr.1 q hq;omega
    obtain ⟨r,q1,q2⟩:=go (p::m) (List.pairwise_cons.mpr hr) fun q hq=>⟨hq,hall q hq⟩
    exact ⟨0::r,⟨h1 0 l rfl,q1⟩,fun q hq=>up (hall q hq) (q2 q hq)⟩
def Vd (h1:∀ (i l:Nat),lv[i]?=some l->1<=l) (h:rQ lv m):∃ r∈rows lv,cC r m=true:=by
 obtain ⟨r,q1,q2⟩:=Om (n:=0) h1 h.1 fun p hp=>⟨vS _,by simpa using h.2 p hp⟩
 exact ⟨r,nO.mpr q1,w6.mpr fun p hp=>by simpa using q2 p hp⟩
theorem Lb (hr:iK lv r) (h:gq m) (hm:cC r m=true):rQ lv m :=
 ⟨h,fun p hp=>hr.get' (w6.mp hm p hp)⟩
def aB (lv:zi) (bs:List Meet) (k:Nat):List Meet:=(allM lv k).filter fun m=>(tests lv bs).any fun t=>cC t m
theorem bind_eq {α β:Type}{r:R α}{a:α} (h:r=.ok a) {f:α->R β}:(r >>= f)=f a:=by rw [h];rfl
def eBs (bs:List Meet):D:=.tup (bs.map eM)
theorem qD (r:zi):itemsOf .seq [au r]=.ok (r.map eN):=rfl
theorem qj (m:Meet):itemsOf .seq [eM m]=.ok (m.map eP):=rfl
theorem qN (bs:List Meet):itemsOf .seq [eBs bs]=.ok (bs.map eM):=rfl
theorem Ca:∀ (n:Nat) (r:zi),aU n (r.map eN)=(aQ n r).map eP
 | _,[]=>rfl
 | n,x::xs=>by simp [aU,aQ,Ca (n+1) xs,eP]
def qA (r:zi):itemsOf .enum [au r]=.ok ((aQ 0 r).map eP):=by
 show R.ok (aU 0 (r.map eN))=_
 rw [Ca]
def qB (r:zi):je .listEnum [au r]=.ok (.lst ((aQ 0 r).map eP)):=by
 show R.ok (D.lst (aU 0 (r.map eN)))=_
 rw [Ca]
def iQ (k:Nat) (h:k<=lim):itemsOf .rng [.int k]=.ok ((List.range k).map eN):=by
 show (if _ then _ else _)=_
 rw [if_pos ⟨by omega,by omega⟩];simp
theorem qk (r:zi):nA (au r)=.ok (.int r.length):=congrArg (fun n:Nat=>R.ok (D.int n)) (List.length_map eN)
def zB (r:Meet):nA (eM r)=.ok (.int r.length):=by simp [nA,eM]
def zC (enc:α->D) (l:List α):nA (.lst (l.map enc))=.ok (.int l.length):=by simp [nA]
def KN {s:Nat} (h:r.length < lim):kI (au r) (.tup [eN s])=.ok (au (r++[s])):=by
 simp only [kI,au,List.length_map,List.length_singleton];rw [if_pos (by omega)];simp
def Uh (h:m.length < lim):kI (eM m) (.tup [eP p])=.ok (eM (m++[p])):=by
 simp only [kI,eM,List.length_map,List.length_singleton];rw [if_pos (by omega)];simp
def Xv {α:Type}{enc:α->D}{l l':List α} (h:l.length+l'.length<=lim):kI (.lst (l.map enc)) (.lst (l'.map enc))=.ok (.lst ((l++l').map enc)):=by
 simp only [kI,List.length_map];rw [if_pos h];simp
def X3 {α:Type}{enc:α->D}{l l':List α} (h:l.length+l'.length<=lim):Jx (.lst (l.map enc)) (.lst (l'.map enc))=.ok (.lst ((l++l').map enc)):=by
 simp only [Jx,List.length_map];rw [if_pos h];simp
def tW {α:Type}{enc:α->D}{l:List α}{a:α} (h:l.length < lim):xZ (.lst (l.map enc)) (enc a)=.ok (.lst ((l++[a]).map enc)):=by
 simp only [xZ,List.length_map];rw [if_pos h];simp
theorem zD (p:Nat × Nat):ixD (eP p) (.int 0)=.ok (eN p.1):=rfl
theorem zE (p:Nat × Nat):ixD (eP p) (.int 1)=.ok (eN p.2):=rfl
theorem zF (lv:zi) (bs:List Meet):ixD (eB lv bs) (.int 0)=.ok (au lv):=rfl
theorem zG (lv:zi) (bs:List Meet):ixD (eB lv bs) (.int 1)=.ok (eBs bs):=rfl
variable {i:Nat}
def Ig {x:Nat} (h:r[i]?=some x):ixD (au r) (.int (i:Int))=.ok (eN x):=by
 have hl:i < r.length:=(yB.mp h).1;simp only [au,ixD,ixN,List.length_map];rw [if_pos (by omega),if_pos (by omega)];simp [h]
def Fe {α:Type}{enc:α->D}{l:List α}{x:α} (h:l[i]?=some x):ixD (.lst (l.map enc)) (.int (i:Int))=.ok (enc x):=by
 have hl:i < l.length:=(yB.mp h).1;simp only [ixD,ixN,List.length_map];rw [if_pos (by omega),if_pos (by omega)];simp [h]
def Yq (h:m.getLast?=some q):ixD (eM m) (.int (-1))=.ok (eP q):=by
 obtain ⟨m',rfl⟩:=List.getLast?_eq_some_iff.mp h;simp only [eM,ixD,ixN,List.length_map,List.length_append,List.length_singleton];rw [if_neg (by omega),if_pos (by omega)];simp [show (-1+((m'.length:Int)+1)).toNat=m'.length by omega]
def zN (a b:Int):aY .eq (.int a) (.int b)=.ok (decide (a=b)):=by
 have e:aY .eq (.int a) (.int b)=(if bw (.int a) (.int b)=true then R.ok (aH (.int a) (.int b)) else .stuck):=rfl;rw [e,if_pos (by simp [bw,dep,like])];congr 1
def zO (a b:Int):aY .ne (.int a) (.int b)=.ok (!decide (a=b)):=by
 have e:aY .ne (.int a) (.int b)=(if bw (.int a) (.int b)=true then R.ok (!aH (.int a) (.int b)) else .stuck):=rfl;rw [e,if_pos (by simp [bw,dep,like])];congr 2
def sV (a b:Nat):decide ((a:Int)=(b:Int))=decide (a=b):=by
 by_cases h:a=b
 .subst h;simp
 .rw [decide_eq_false h,decide_eq_false (by omega)]
theorem yU {α:Type} (p:α->Bool):∀ l:List α,boolsOf (l.map fun a=>D.bl (p a))=some (l.map p)
 | []=>rfl
 | a::l=>by simp [boolsOf,yU p l]
def Dp (p:α->Bool) (l:List α):je .all [.lst (l.map fun a=>D.bl (p a))]=.ok (.bl (l.all p)):=by
 rw [Jj (yU p l)];simp [List.all_map]
def acN (p:α->Bool) (l:List α):je .any [.lst (l.map fun a=>D.bl (p a))]=.ok (.bl (l.any p)):=by
 rw [Jg (yU p l)];simp [List.any_map]
theorem vh {α β:Type}{f:α->List β}{k:Nat}:∀ (l:List α),(∀ a∈l,(f a).length<=k)->(l.flatMap f).length<=l.length * k
 | [],_=>by simp
 | a::l,h=>by
  have h1:=h a vi;have h2:=vh l fun b hb=>h b (ve _ hb)
  simp only [List.flatMap_cons,List.length_append,List.length_cons,Nat.succ_mul];omega
theorem oR (ps:List (Nat × Nat)):∀ k,(among ps k).length<=ps.length ^ k
 | 0=>by simp [among]
 | k+1=>by
  have h:=vh (f:=fun m=>(ps.filter (behind m)).map fun p=>m++[p]) (k:=ps.length) (among ps k) fun m _=>by rw [List.length_map];exact yb _ _
  have h2:=Nat.mul_le_mul_right ps.length (oR ps k);rw [Nat.pow_succ];exact vF h h2
noncomputable def Pu:ze:=[1,2,3].flatMap fun a=>[a]::[1,2,3].flatMap fun b=>[a,b]::[1,2].flatMap fun c=>[a,b,c]::[1,2].map fun d=>[a,b,c,d]
theorem WB.mem {bs:List Meet} (h:WB lv bs):lv∈Pu:=by
 have h1:=h.lv1;have h2:=h.lv2;have h3:=h.four;have h4:=h.one;have in3:∀ {x:Nat},1<=x/\x<=3->x∈[1,2,3]:=fun {x} hx=>by simp;omega
 have in2:∀ {x:Nat},1<=x->x<=2->x∈[1,2]:=fun {x} hx hy=>by simp;omega
 unfold Pu;rcases lv with _ | ⟨a,_ | ⟨b,_ | ⟨c,_ | ⟨d,_ | ⟨e,es⟩⟩⟩⟩⟩
 .simp at h4
 .exact y6.mpr ⟨a,in3 (h1 0 a rfl),vi⟩
 .exact y6.mpr ⟨a,in3 (h1 0 a rfl),ve _ (y6.mpr ⟨b,in3 (h1 1 b rfl),vi⟩)⟩
 .exact y6.mpr ⟨a,in3 (h1 0 a rfl),ve _ (y6.mpr ⟨b,in3 (h1 1 b rfl),ve _ (y6.mpr ⟨c,in2 (h1 2 c rfl).1 (h2 2 c rfl (by omega)),vi⟩)⟩)⟩
 .exact y6.mpr ⟨a,in3 (h1 0 a rfl),ve _ (y6.mpr ⟨b,in3 (h1 1 b rfl),ve _ (y6.mpr ⟨c,in2 (h1 2 c rfl).1 (h2 2 c rfl (by omega)),ve _ (yI.mpr ⟨d,in2 (h1 3 d rfl).1 (h2 3 d rfl (by omega)),rfl⟩)⟩)⟩)⟩
 .simp at h3
def nF:∀ lv∈Pu,prod lv<=36/\(fQ 0 lv).length<=10/\(allM lv 1).length < 64/\(allM lv 2).length < 64/\(allM lv 3).length < 64:=by decide +kernel
theorem qO {γ:Type} (x:R α) (f:α->R β) (g:β->R γ):((x >>= f) >>= g)=(x >>= fun a=>f a >>= g):=by cases x <;> rfl
theorem zJ (a b:Int):aY .lt (.int a) (.int b)=.ok (decide (a < b)):=rfl
theorem zK (a b:Int):aY .le (.int a) (.int b)=.ok (decide (a<=b)):=rfl
theorem zL (a b:Int):aY .gt (.int a) (.int b)=.ok (decide (b < a)):=rfl
theorem zM (a b:Int):aY .ge (.int a) (.int b)=.ok (decide (b<=a)):=rfl
theorem qK (c:M) (b:Bool):yF c (.bl b)=.ok b:=rfl
theorem qL (e:M) (t:Tg) (k:IK) (s:List M) (h:Bool) (c:M) (p:List Bool) (ds:List D):yF (.comp e t k s h c p) (.lst ds)=.ok (!ds.isEmpty):=rfl
theorem qa (a b:D):ji .add a b=kI a b:=rfl
theorem wV (a b:Int):kI (.int a) (.int b)=.ok (.int (a+b)):=rfl
theorem wq (a b:Int):ji .sub (.int a) (.int b)=.ok (.int (a - b)):=rfl
def HN {a b:Int} (h:lQ a=true\/lQ b=true):ji .mul (.int a) (.int b)=.ok (.int (a * b)):=by
 show (if (lQ a || lQ b)=true then _ else _)=_
 rw [if_pos (by simpa using h)]
def pP {a b:Int} (h:0 < b):ji .mod (.int a) (.int b)=.ok (.int (a % b)):=by
 show (if 0 < b then _ else _)=_
 rw [if_pos h]
theorem qb (d:D):je .len [d]=nA d:=rfl
theorem qd (a b:Int):je .min2 [.int a,.int b]=.ok (.int (if b < a then b else a)):=rfl
theorem qC (d:D):je .sorted [d]=lN d:=rfl
theorem qM (l:List D):je .tuple [.lst l]=.ok (.tup l):=rfl
theorem qf (x:Int):iB (.int x) .int=true:=rfl
theorem qg (x:Int):iB (.int x) .bool=false:=rfl
theorem qh (x:List D):iB (.tup x) .tuple=true:=rfl
theorem qi (x:List D):iB (.lst x) .list=true:=rfl
theorem qE (ds:List D):itemsOf .seq [.lst ds]=.ok ds:=rfl
theorem iY {α β:Type} (f:α->β):∀ l:List α,l.flatMap (fun k=>[f k])=l.map f
 | []=>rfl
 | a::l=>by simp [iY f l]
theorem mQ {α:Type} (p:α->Bool):∀ l:List α,l.flatMap (fun a=>if p a then [a] else [])=l.filter p
 | []=>rfl
 | a::l=>by
  rw [List.flatMap_cons,mQ p l,List.filter_cons];cases p a <;> simp
theorem zip_map:∀ (a b:zi),uy (a.map eN) (b.map eN)=(a.zip b).map eP
 | [],b=>by cases b <;> rfl
 | x::a,[]=>rfl
 | x::a,y::b=>by simp only [List.map_cons,uy,List.zip_cons_cons,zip_map a b];rfl
theorem Rh (a b:zi):itemsOf .zip [au a,au b]=.ok ((a.zip b).map eP):=by
 rw [<- zip_map];rfl
abbrev mOf (k:Nat) (t:zi):List Meet:=among (aQ 0 t) k
def R6 (k:Nat) (t:zi):(mOf k t).Nodup:=by
 have h:(aQ 0 t).Pairwise pLt:=(pJ 0 t).imp fun h=>.inl h
 exact (sy h k).imp fun h=>K7 h
noncomputable def eGr {α:Type} (enc:α->D) (ks:List α) (f:α->List D):D:=.dct (ks.map enc) (ks.map fun a=>.lst (f a))
structure KEnc {α:Type} (enc:α->D):Prop where
 inj:∀ a b,enc a=enc b->a=b
 kok:∀ (ks:List α) a,kOk (ks.map enc) (enc a)=true
theorem Kw:KEnc eM:=⟨jZ.inj,Yd⟩
theorem Ge (r:zi):isKey (au r)=true:=by
 have h1:=lM.key r;have h2:=lM.dp r;unfold isKey;rw [h1,decide_eq_true (show dep (au r)<=6 by omega)];rfl
theorem V5:KEnc au:=by
 refine ⟨lM.inj,fun ks a=>?_⟩;have h:(ks.map au).all isKey=true:=by
  rw [List.all_eq_true];intro a ha;obtain ⟨x,_,rfl⟩:=yI.mp ha;exact Ge x
 unfold kOk;rw [Ge,h];rfl
noncomputable def eBt (bs:List Bool):D:=.tup (bs.map .bl)
theorem vY (bs:List Bool):sH (eBt bs)=true:=by
 show (bs.map D.bl).all uO=true
 rw [List.all_map,List.all_eq_true];intro b _;rfl
def Od:KEnc eBt:=by
 refine ⟨fun a b h=>?_,fun ks a=>?_⟩
 .unfold eBt at h;injection h with h;exact (List.map_inj_right fun x y e=>by injection e).mp h
 .have h:(ks.map eBt).all sH=true:=by
   rw [List.all_eq_true];intro a ha;obtain ⟨x,_,rfl⟩:=yI.mp ha;exact vY x
  unfold kOk;rw [vY,h,Bool.and_self,Bool.or_true]
variable {d:D}
section
variable {α:Type} [DecidableEq α] {enc:α->D}
theorem vK (K:KEnc enc) (f:α->List D) (a:α):∀ ks:List α,cT (ks.map enc) (ks.map fun a=>.lst (f a)) (enc a)=if a∈ks then some (.lst (f a)) else none
 | []=>rfl
 | x::ks=>by
  simp only [List.map_cons,cT];by_cases h:x=a
  .subst h;simp
  .rw [if_neg fun z=>h (K.inj _ _ z),vK K f a ks];have:a≠x:=fun z=>h z.symm
   simp [this]
theorem NK (K:KEnc enc) {ks:List α}{f:α->List D}{a:α} (hf:a ∉ ks->f a=[]):Ab (eGr enc ks f) (enc a) (.lst [])=.ok (.lst (f a)):=by
 have e:Ab (eGr enc ks f) (enc a) (.lst [])=.ok ((cT (ks.map enc) (ks.map fun a=>.lst (f a)) (enc a)).getD (.lst [])):=if_pos (K.kok ks a);rw [e,vK K];by_cases h:a∈ks
 .rw [if_pos h];rfl
 .rw [if_neg h,hf h];rfl
def acY (K:KEnc enc) {ks:List α}{f:α->List D}{a:α} (h:a∈ks):ixD (eGr enc ks f) (enc a)=.ok (.lst (f a)):=by
 have e:ixD (eGr enc ks f) (enc a)=(match cT (ks.map enc) (ks.map fun a=>.lst (f a)) (enc a) with | some d=>.ok d | none=>.stuck):=if_pos (K.kok ks a);rw [e,vK K,if_pos h]
noncomputable def yK (f:α->List D) (a:α) (d:D):α->List D:=fun x=>if x=a then f a++[d] else f x
def aaZ (K:KEnc enc) {ks:List α}{f:α->List D}{a:α} (h:ks.length < lim) (hf:a ∉ ks->f a=[]) (hl:(f a).length < lim):pG (eGr enc ks f) (enc a) d=.ok (eGr enc (fj ks a) (yK f a d)):=by
 have hm:enc a∈ks.map enc↔a∈ks:=⟨fun z=>by obtain ⟨b,hb,e⟩:=yI.mp z;rw [K.inj _ _ e] at hb;exact hb,fun z=>yI.mpr ⟨a,z,rfl⟩⟩;simp only [eGr,pG,List.length_map];rw [if_pos ⟨K.kok ks a,h,trivial⟩,vK K];unfold fj;by_cases hmem:a∈ks
 .rw [if_pos hmem,if_pos hmem];show (if (f a).length < lim then R.ok _ else .stuck)=_
  rw [if_pos hl];unfold iy;rw [if_pos (hm.mpr hmem)];congr 2;refine List.ext_getElem (by simp) fun i h1 h2=>?_
  simp only [List.getElem_map,List.getElem_zip,yK];by_cases e:ks[i]'(by simpa using h2)=a
  .rw [if_pos (by rw [e]),if_pos e]
  .rw [if_neg fun z=>e (K.inj _ _ z),if_neg e]
 .rw [if_neg hmem,if_neg hmem];have e1:ks.map (fun x=>D.lst (f x))=ks.map fun x=>D.lst (yK f a d x):=by
   refine List.map_congr_left fun x hx=>?_
   have:x≠a:=fun z=>hmem (z ▸ hx)
   simp [yK,this]
  rw [List.map_append,List.map_append,e1];simp [yK,hf hmem]
end
structure GrOk {α β:Type} [DecidableEq α] (κ:β->α) (w:β->D) (ds:List β) (s:List α × (α->List D)):Prop where
 ks:s.1=(ds.map κ).foldl fj []
 fn:∀ a,s.2 a=(ds.filter fun x=>decide (κ x=a)).map w
variable {α':Type}
section
variable {α β:Type} [DecidableEq α] {κ:β->α}{w:β->D}
def jT (κ:β->α) (w:β->D) (s:List α × (α->List D)) (x:β):List α × (α->List D):=(fj s.1 (κ x),yK s.2 (κ x) (w x))
theorem GrOk.nil:GrOk κ w [] ([],fun _=>[]):=⟨rfl,fun _=>rfl⟩
theorem GrOk.step {ds:List β}{s:List α × (α->List D)} (h:GrOk κ w ds s) (x:β):GrOk κ w (ds++[x]) (jT κ w s x):=by
 refine ⟨?_,fun a=>?_⟩
 .rw [List.map_append,List.foldl_append,<- h.ks];rfl
 .show yK s.2 (κ x) (w x) a=_
  unfold yK;rw [List.filter_append,List.map_append,h.fn,h.fn];by_cases e:a=κ x
  .subst e;rw [if_pos rfl];simp
  .rw [if_neg e];have:¬ κ x=a:=fun z=>e z.symm
   simp [this]
theorem GrOk.mem {ds:List β}{s:List α × (α->List D)} (h:GrOk κ w ds s) {a:α}:a∈s.1↔∃ x∈ds,κ x=a:=by
 rw [h.ks,uq];simp
theorem GrOk.out {ds:List β}{s:List α × (α->List D)} (h:GrOk κ w ds s) {a:α} (hn:a ∉ s.1):s.2 a=[]:=by
 rw [h.fn];have:(ds.filter fun x=>decide (κ x=a))=[]:=by
  rw [List.filter_eq_nil_iff];intro x hx e;exact hn (h.mem.mpr ⟨x,hx,by simpa using e⟩)
 rw [this];rfl
theorem J3:∀ (ks acc:List α),(ks.foldl fj acc).length<=acc.length+ks.length
 | [],acc=>by simp
 | k::ks,acc=>by
  have h1:=J3 ks (fj acc k);have h2:=vC acc k;simp only [List.foldl_cons,List.length_cons];omega
theorem GrOk.len {ds:List β}{s:List α × (α->List D)} (h:GrOk κ w ds s):s.1.length<=ds.length:=by
 have:=J3 (ds.map κ) [];rw [h.ks];simpa using this
theorem GrOk.flen {ds:List β}{s:List α × (α->List D)} (h:GrOk κ w ds s) (a:α):(s.2 a).length<=ds.length:=by
 rw [h.fn,List.length_map];exact yb _ _
theorem GrOk.sda {enc:α->D} (K:KEnc enc) {ds:List β}{s:List α × (α->List D)} (h:GrOk κ w ds s) (x:β) (hl:ds.length < lim):pG (eGr enc s.1 s.2) (enc (κ x)) (w x)=.ok (eGr enc (jT κ w s x).1 (jT κ w s x).2):=by
 have h1:=h.len;have h2:=h.flen (κ x);exact aaZ K (by omega) h.out (by omega)
def bV (κ:β->α) (w:β->D) (ds:List β):List α × (α->List D):=ds.foldl (jT κ w) ([],fun _=>[])
def BP (ds:List β):GrOk κ w ds (bV κ w ds):=by
 have key:∀ (rest done:List β) (s:List α × (α->List D)),GrOk κ w done s->GrOk κ w (done++rest) (rest.foldl (jT κ w) s):=by
  intro rest;induction rest with
  | nil=>intro done s h;rw [List.append_nil];exact h
  | cons x rest ih =>
   intro done s h;have:=ih (done++[x]) _ (h.step x);rw [List.append_assoc] at this;exact this
 exact key ds [] _ GrOk.nil
theorem vQ {enc:α->D} (K:KEnc enc) {e:β->D}{f:D->D->R D}:∀ (ds done:List β) (s:List α × (α->List D)),GrOk κ w done s->done.length+ds.length < lim->(∀ x∈ds,∀ ks g,f (e x) (eGr enc ks g)=pG (eGr enc ks g) (enc (κ x)) (w x))->GrOk κ w (done++ds) (ds.foldl (jT κ w) s)/\oF f (ds.map e) (eGr enc s.1 s.2)=.ok (eGr enc (ds.foldl (jT κ w) s).1 (ds.foldl (jT κ w) s).2)
 | [],done,s,hs,_,_=>⟨by rw [List.append_nil];exact hs,rfl⟩
 | x::ds,done,s,hs,hl,h=>by
  simp only [List.length_cons] at hl;obtain ⟨h1,h2⟩:=vQ K ds (done++[x]) _ (hs.step x) (by simp only [List.length_append,List.length_singleton];omega) fun y hy=>h y (ve _ hy)
  rw [List.append_assoc] at h1;refine ⟨h1,?_⟩;rw [List.map_cons,oF,h x List.mem_cons_self,hs.sda K x (by omega),qP];exact h2
theorem Uz {enc:α->D} (K:KEnc enc) {e:β->D}{f:D->D->R D}{ds:List β} (hl:ds.length < lim) (h:∀ x∈ds,∀ ks g,f (e x) (eGr enc ks g)=pG (eGr enc ks g) (enc (κ x)) (w x)):oF f (ds.map e) (.dct [] [])=.ok (eGr enc (bV κ w ds).1 (bV κ w ds).2) :=
 (vQ K ds [] ([],fun _=>[]) GrOk.nil (by simpa using hl) h).2
noncomputable def kJ (κ:β->α) (acc:List β):List β->List β
 | []=>acc
 | x::xs=>kJ κ (if κ x∈acc.map κ then acc else acc++[x]) xs
theorem GD (κ:β->α):∀ (xs acc:List β),(xs.map κ).foldl fj (acc.map κ)=(kJ κ acc xs).map κ
 | [],acc=>rfl
 | x::xs,acc=>by
  rw [List.map_cons,List.foldl_cons,kJ,<- GD κ xs];congr 1;unfold fj;split
  .rfl
  .rw [List.map_append];rfl
theorem rW (κ:β->α):∀ (xs acc:List β),(kJ κ acc xs).Sublist (acc++xs)
 | [],acc=>by rw [List.append_nil];exact List.Sublist.refl _
 | x::xs,acc=>by
  rw [kJ];have h:=rW κ xs (if κ x∈acc.map κ then acc else acc++[x]);refine h.trans ?_;split
  .exact List.Sublist.append_left (List.sublist_cons_self x xs) acc
  .rw [List.append_assoc];exact List.Sublist.refl _
theorem vW {α':Type} [DecidableEq α'] {κ:β->α}{κ':β->α'}:∀ (xs acc:List β),(∀ x∈acc++xs,∀ y∈acc++xs,κ x=κ y↔κ' x=κ' y)->kJ κ acc xs=kJ κ' acc xs
 | [],acc,h=>rfl
 | x::xs,acc,h=>by
  rw [kJ,kJ];have e:κ x∈acc.map κ↔κ' x∈acc.map κ':=by
   constructor
   .intro z;obtain ⟨y,hy,e⟩:=yI.mp z;exact yI.mpr ⟨y,hy,(h y (by simp [hy]) x (by simp)).mp e⟩
   .intro z;obtain ⟨y,hy,e⟩:=yI.mp z;exact yI.mpr ⟨y,hy,(h y (by simp [hy]) x (by simp)).mpr e⟩
  by_cases hc:κ x∈acc.map κ
  .rw [if_pos hc,if_pos (e.mp hc)];refine vW xs acc fun a ha b hb=>h a ?_ b ?_
   .rcases yT.mp ha with z | z <;> simp [z]
   .rcases yT.mp hb with z | z <;> simp [z]
  .rw [if_neg hc,if_neg fun z=>hc (e.mpr z)];refine vW xs (acc++[x]) fun a ha b hb=>h a ?_ b ?_
   .rw [List.append_assoc] at ha;exact ha
   .rw [List.append_assoc] at hb;exact hb
theorem yN (κ:β->α):∀ (xs done acc:List β),(∀ a∈acc,(done.filter fun x=>decide (κ x=κ a)).head?=some a)->(∀ y∈done,κ y∈acc.map κ)->∀ a∈kJ κ acc xs,((done++xs).filter fun x=>decide (κ x=κ a)).head?=some a
 | [],done,acc,h1,h2,a,ha=>by rw [List.append_nil];exact h1 a ha
 | x::xs,done,acc,h1,h2,a,ha=>by
  rw [kJ] at ha;have e:done++x::xs=(done++[x])++xs:=by rw [List.append_assoc];rfl
  rw [e];by_cases hc:κ x∈acc.map κ
  .rw [if_pos hc] at ha;refine yN κ xs (done++[x]) acc (fun b hb=>?_) (fun y hy=>?_) a ha
   .rw [List.filter_append];have:=h1 b hb;cases hf:done.filter fun x=>decide (κ x=κ b) with
    | nil=>rw [hf] at this;cases this
    | cons c cs=>rw [hf] at this;exact this
   .rcases yT.mp hy with z | z
    .exact h2 y z
    .rw [List.mem_singleton.mp z];exact hc
  .rw [if_neg hc] at ha;refine yN κ xs (done++[x]) (acc++[x]) (fun b hb=>?_) (fun y hy=>?_) a ha
   .rw [List.filter_append];rcases yT.mp hb with z | z
    .have:=h1 b z;cases hf:done.filter fun x=>decide (κ x=κ b) with
     | nil=>rw [hf] at this;cases this
     | cons c cs=>rw [hf] at this;exact this
    .have z':=yY.mp z;subst z';have hn:done.filter (fun y=>decide (κ y=κ b))=[]:=by
      rw [List.filter_eq_nil_iff];intro y hy e;exact hc (by rw [<- of_decide_eq_true e];exact h2 y hy)
     rw [hn];simp
   .rw [List.map_append];rcases yT.mp hy with z | z
    .exact vj _ (h2 y z)
    .rw [List.mem_singleton.mp z];exact vk _ (by simp)
def cR (κ:β->α) (L:List β):List (List β):=(kJ κ [] L).map fun a=>L.filter fun x=>decide (κ x=κ a)
def Dv (L:List β):(bV κ w L).1.map (bV κ w L).2=(cR κ L).map fun l=>l.map w:=by
 have h:=BP (κ:=κ) (w:=w) L;have e:(bV κ w L).1=(kJ κ [] L).map κ:=h.ks.trans (GD κ L []);rw [e,cR,List.map_map,List.map_map];refine List.map_congr_left fun a _=>?_
 exact h.fn (κ a)
def Lx [DecidableEq α'] {κ':β->α'} (L:List β) (h:∀ x∈L,∀ y∈L,κ x=κ y↔κ' x=κ' y):cR κ L=cR κ' L:=by
 unfold cR;rw [vW L [] h];refine List.map_congr_left fun a ha=>List.filter_congr fun x hx=>?_
 have hs:=(rW κ' L []).subset ha;have:=h x hx a (by simpa using hs);by_cases e:κ x=κ a
 .rw [decide_eq_true e,decide_eq_true (this.mp e)]
 .rw [decide_eq_false e,decide_eq_false fun z=>e (this.mpr z)]
end
def Jp [DecidableEq α] (κ:Meet->α)  (hL:L.Pairwise mLt):((cR κ L).map fun l=>D.lst (l.map eM)).Pairwise fun a b=>ltD a b=true:=by
 have hs:(kJ κ [] L).Pairwise mLt:=hL.sublist (rW κ L []);have hh:=yN κ L [] [] (fun a ha=>by cases ha) (fun y hy=>by cases hy);unfold cR;rw [List.map_map,List.pairwise_map];refine (List.pairwise_iff_forall_sublist.mpr fun {a b} hab=>?_);have hm:mLt a b:=(List.pairwise_iff_forall_sublist.mp hs) hab;have ha:a∈kJ κ [] L:=hab.subset (by simp);have hb:b∈kJ κ [] L:=hab.subset (by simp);have h1:=hh a ha;have h2:=hh b hb;rw [List.nil_append] at h1 h2;show ltD (D.lst ((L.filter fun x=>decide (κ x=κ a)).map eM)) (D.lst ((L.filter fun x=>decide (κ x=κ b)).map eM))=true
 cases ea:L.filter fun x=>decide (κ x=κ a) with
 | nil=>rw [ea] at h1;cases h1
 | cons x xs =>
  cases eb:L.filter fun x=>decide (κ x=κ b) with
  | nil=>rw [eb] at h2;cases h2
  | cons y ys =>
   rw [ea] at h1;rw [eb] at h2;cases h1;cases h2
   first | rw [ea,eb] | skip
   rw [List.map_cons,List.map_cons,ltD,aW,if_neg fun z=>K7 hm (jZ.inj _ _ z)];exact Qu hm
def Lw {ls:List (List Meet)} (hl:ls.length < 64) (hs:(ls.map fun l=>D.lst (l.map eM)).Pairwise fun a b=>ltD a b=true):lN (.lst (ls.map fun l=>.lst (l.map eM)))=.ok (.lst (ls.map fun l=>.lst (l.map eM))):=by
 have cms:∀ a b:List Meet,cW (a.map eM) (b.map eM)=true:=by
  intro a;induction a with
  | nil=>intro b;simp [cW]
  | cons x a ih =>
   intro b;cases b with
   | nil=>simp [cW]
   | cons y b =>
    simp only [List.map_cons,cW];split
    .exact ih b
    .exact XH x y
 have hc:kY (ls.map fun l=>D.lst (l.map eM)):=fun a ha b hb=>by
  obtain ⟨x,_,rfl⟩:=yI.mp ha;obtain ⟨y,_,rfl⟩:=yI.mp hb;rw [bJ];exact cms x y
 have hsort:nU (ls.map fun l=>D.lst (l.map eM))=ls.map fun l=>D.lst (l.map eM):=Cm hc (List.Perm.refl _) (hs.imp fun h=>by unfold leD;exact Bv h)
 have ok:oU (ls.map fun l=>D.lst (l.map eM))=true:=by
  unfold oU;simp only [Bool.and_eq_true,Bool.or_eq_true,decide_eq_true_eq,List.length_map,List.all_eq_true];refine ⟨⟨⟨hl,?_⟩,fun a ha b hb=>hc a ha b hb⟩,.inr ?_⟩
  .have:=gH (enc:=fun l:List Meet=>D.lst (l.map eM)) (n:=5) (fun l=>by
    rw [dep];have:=gH jZ.dp l;omega) ls
   omega
  .intro d hd;obtain ⟨m,_,rfl⟩:=yI.mp hd;exact jk jZ.key m
 simp only [lN,DW,qP,ok,if_true,hsort]
def plc (m:Meet):Nat->ze->zi
 | _,[]=>[]
 | n,t::ts=>if cC t m then n::plc m (n+1) ts else plc m (n+1) ts
noncomputable def fls:Nat->List Bool->zi
 | _,[]=>[]
 | n,r::rs=>if r then fls (n+1) rs else n::fls (n+1) rs
def aO (ts:ze) (m:Meet):List Bool:=ts.map fun t=>!cC t m
theorem zj (m:Meet):∀ (n:Nat) (ts:ze),fls n (aO ts m)=plc m n ts
 | n,[]=>rfl
 | n,t::ts=>by
  have ih:=zj m (n+1) ts;unfold aO at ih;rw [aO,List.map_cons,fls,plc,ih];cases cC t m <;> simp
theorem Dt:∀ (n:Nat) (rs:List Bool),∀ x∈fls n rs,n<=x
 | n,[],x,hx=>by cases hx
 | n,r::rs,x,hx=>by
  unfold fls at hx;split at hx
  .have:=Dt (n+1) rs x hx;omega
  .rcases vR.mp hx with z | z
   .omega
   .have:=Dt (n+1) rs x z;omega
theorem Et:∀ (n:Nat) (rs qs:List Bool),rs.length=qs.length->fls n rs=fls n qs->rs=qs
 | n,[],[],_,_=>rfl
 | n,[],_::_,h,_=>by simp at h
 | n,_::_,[],h,_=>by simp at h
 | n,r::rs,q::qs,h,e=>by
  have hl:rs.length=qs.length:=by simpa using h
  unfold fls at e;cases r <;> cases q
  .simp only [Bool.false_eq_true,if_false] at e;injection e with _ e;rw [Et (n+1) rs qs hl e]
  .simp only [Bool.false_eq_true,if_false,if_true] at e;have:=Dt (n+1) qs n (by rw [<- e];exact vi);omega
  .simp only [Bool.false_eq_true,if_false,if_true] at e;have:=Dt (n+1) rs n (by rw [e];exact vi);omega
  .simp only [if_true] at e;rw [Et (n+1) rs qs hl e]
variable {ts:ze}
def Ef {rs:List Bool} (h:rs.length=ts.length):plc m 0 ts=fls 0 rs↔aO ts m=rs:=by
 constructor
 .intro e;rw [<- zj] at e;exact Et 0 _ _ (by rw [h];simp [aO]) e
 .rintro rfl;exact (zj m 0 ts).symm
def Z1 {m':Meet}:plc m 0 ts=plc m' 0 ts↔aO ts m=aO ts m':=by
 rw [<- zj m' 0 ts];exact Ef (by simp [aO])
mutual
theorem Fi:∀ (d:D),dep d < 1000->aH d d=true
 | .non,_=>by simp [aH]
 | .bl _,_=>by simp [aH]
 | .int _,_=>by simp [aH]
 | .str _,_=>by simp [aH]
 | .tup ds,h=>by rw [dep] at h;rw [aH];exact Cv ds (by omega)
 | .lst ds,h=>by rw [dep] at h;rw [aH];exact Cv ds (by omega)
 | .dct _ _,h=>by rw [dep] at h;omega
theorem Cv:∀ (ds:List D),deps ds < 1000->dD ds ds=true
 | [],_=>by simp [dD]
 | d::ds,h=>by
  rw [deps] at h;rw [dD,Fi d (by omega),Cv ds (by omega)];rfl
end
theorem ab9 (h:dep d<=30) (k:like d d=true:=by rfl):aY .eq d d=.ok true:=by
 show (if bw d d=true then R.ok (aH d d) else .stuck)=_
 rw [Fi d (by omega),if_pos];unfold bw;rw [decide_eq_true h,k];rfl
theorem Qj (h:dep d<=30) (k:like d d=true:=by rfl):aY .ne d d=.ok false:=by
 show (if bw d d=true then R.ok (!aH d d) else .stuck)=_
 rw [Fi d (by omega),if_pos]
 .rfl
 unfold bw;rw [decide_eq_true h,k];rfl
theorem Wy (t:zi) (k:Nat):(among (aQ 0 t) k).Nodup:=R6 k t
theorem Ar (ds:List D):itemsOf .enum [.lst ds]=.ok (aU 0 ds):=rfl
end Mi
set_option maxHeartbeats 1000000
namespace L2
open PySem PySem.Spec PyProof.Rows
noncomputable def drop (H:Hp) (c:Addr):Hp:=fun b=>if b=c then none else H b
variable {H:Hp}{c:Addr}
theorem jQ :drop H c c=none:=if_pos rfl
theorem cG {b:Addr} (h:b≠c):drop H c b=H b:=if_neg h
noncomputable abbrev cA:HO:=.ext fun _=>True
section
variable {P:Program}{w:World}{H H1:Hp}{h h1:Heap}{c:Addr}{o:Obj}{u:HO}{fs:List Addr}
theorem Ac (e:h.get? c=some o):cj P w H h c (.frz o cA):=⟨e,trivial,⟨o,e⟩,fun _ _ _ _=>trivial⟩
theorem HOk.lend (ok:HOk P w H h) (hn:H c=none) (e:h.get? c=some o):HOk P w (upd H c (.frz o cA)) h:=fun b u q=>by
 by_cases hb:b=c
 .subst hb;rw [aA] at q;cases q;exact Ac e
 .rw [ao hb] at q;exact (ok b u q).stay (fun _ _ _ z=>z) (fun d z=>by rw [ao (ak z hn)];exact z) (fun d xs z=>by rw [ao (ak z hn)];exact z) (fun d _ z _=>by rw [ao (ak z hn)];exact z)
theorem HOk.drop (ok:HOk P w H h) (hf:H c=some (.frz o u)) (hl:¬ lamO o):HOk P w (drop H c) h:=fun b v q=>by
 have hb:b≠c:=fun z=>by subst z;rw [jQ] at q;cases q
 rw [cG hb] at q;have ne:∀ d y,H d=some y->y≠.frz o u->d≠c:=fun d y z n y'=>by subst y';rw [hf] at z;cases z;exact n rfl
 exact (ok b v q).stay (fun _ _ _ z=>z) (fun d z=>by rw [cG (ne d _ z fun y=>nomatch y)];exact z) (fun d xs z=>by rw [cG (ne d _ z fun y=>nomatch y)];exact z) (fun d od z g=>by
  rw [cG (ne d _ z fun y=>by cases y;exact hl g)];exact z)
def Zg (hn:H c=none) (e:h.get? c=some o) (hl:¬ lamO o) (hfs:c ∉ fs) (x:Un fs [] (upd H c (.frz o cA)) H1 h h1) (ok:HOk P w H1 h1):Un fs [] H (drop H1 c) h h1/\HOk P w (drop H1 c) h1:=by
 have f1:H1 c=some (.frz o cA):=x.frzs c o cA aA;have e1:h1.get? c=some o:=(ok c _ f1).1;have st:∀ b u,H b=some u->b≠c:=fun b u q z=>by subst z;rw [hn] at q;cases q
 refine ⟨⟨fun b ob q n hb hx=>?_,fun b ob q n hb hx=>?_,fun b ob q n hx=>?_,fun b ob q hx=>x.there b ob q hx,fun b xs q=>?_,fun b ob xs q=>?_,fun b ps q=>?_⟩,ok.drop f1 hl⟩
 .by_cases hbc:b=c
  .subst hbc;rw [e] at q;cases q;exact e1
  .exact x.keep b ob q (by rw [ao hbc];exact n) hb hx
 .have hbc:b≠c:=fun z=>hfs (z ▸ hb)
  exact x.slot b ob q (by rw [ao hbc];exact n) hb hx
 .by_cases hbc:b=c
  .subst hbc;exact jQ
  .rw [cG hbc];exact x.free b ob q (by rw [ao hbc];exact n) hx
 .rw [cG (st b _ q)];exact x.tups b xs (by rw [ao (st b _ q)];exact q)
 .rw [cG (st b _ q)];exact x.frzs b ob xs (by rw [ao (st b _ q)];exact q)
 .rw [cG (st b _ q)];exact x.tbls b ps (by rw [ao (st b _ q)];exact q)
def Vg (hf:H c=some (.frz o cA)) (e:h.get? c=some o) (hfs:c ∉ fs) (x:Un fs [] (drop H c) H1 h h1) (ok:HOk P w H1 h1):Un fs [] H (upd H1 c (.frz o cA)) h h1/\HOk P w (upd H1 c (.frz o cA)) h1:=by
 have n1:H1 c=none:=x.free c o e jQ (by simp);have e1:h1.get? c=some o:=x.keep c o e jQ hfs (by simp);refine ⟨⟨fun b ob q n hb hx=>?_,fun b ob q n hb hx=>?_,fun b ob q n hx=>?_,fun b ob q hx=>x.there b ob q hx,fun b xs q=>?_,fun b ob xs q=>?_,fun b ps q=>?_⟩,ok.lend n1 e1⟩
 .have hbc:b≠c:=fun z=>by subst z;rw [hf] at n;cases n
  exact x.keep b ob q (by rw [cG hbc];exact n) hb hx
 .have hbc:b≠c:=fun z=>hfs (z ▸ hb)
  exact x.slot b ob q (by rw [cG hbc];exact n) hb hx
 .have hbc:b≠c:=fun z=>by subst z;rw [hf] at n;cases n
  rw [ao hbc];exact x.free b ob q (by rw [cG hbc];exact n) hx
 .have hbc:b≠c:=fun z=>by subst z;rw [hf] at q;cases q
  rw [ao hbc];exact x.tups b xs (by rw [cG hbc];exact q)
 .by_cases hbc:b=c
  .subst hbc;rw [aA];rw [hf] at q;exact q
  .rw [ao hbc];exact x.frzs b ob xs (by rw [cG hbc];exact q)
 .have hbc:b≠c:=fun z=>by subst z;rw [hf] at q;cases q
  obtain ⟨m,z⟩:=x.tbls b ps (by rw [cG hbc];exact q);exact ⟨m,by rw [ao hbc];exact z⟩
end
variable {p:Pos}
def HB {p0:Pos}{c v:Value}{l:zg} (h:TriplesOk l) (e:codeAmong p0 (l++[rawInt p.line,rawInt p.col,c])=some v):codeAmong p0 l=some v\/v=c:=by
 fun_induction TriplesOk l with
 | case1 =>
  right;simp only [List.nil_append,rawInt,codeAmong] at e;split at e
  .cases e;rfl
  .cases e
 | case2 a t b u x rest ih =>
  simp only [List.cons_append,codeAmong] at e ⊢;split at e
  .rename_i hc;rw [if_pos hc];exact .inl e
  .rename_i hc;rw [if_neg hc];exact ih h e
 | case3=>exact h.elim
variable {Pt cc:Addr}{q:zt}{params:Arguments}{body:Expr}{scope:Scope}{pos:Pos}
section
variable {X:Cx}{pins:w4}{σ:St}{H H':Hp}{s:Shared}
theorem Inv.grew {h2:Heap}{tk:Nat} (I:Inv X pins σ H s) (hP:H Pt=some (.tbl q)) (hx:Heap.ExtBut Pt s.heap h2) (mono:∀ b o,H b=some o->H' b=some o) (new:∀ b,H' b≠none->H b=none->s.heap.objs.size<=b) (ok:HOk X.prog X.w H' h2) :
  Inv X pins σ H' { s with heap:=h2,toks:=tk }:=by
 have neP:∀ b,H b=none->b≠Pt:=fun b n z=>by subst z;rw [n] at hP;cases hP
 refine I.step (g':=s.gens) (d':=s.drawn) (ch:=[]) (fun _ z=>nomatch z) (fun b o _ _ _ e n=>hx b o (neP b n) e) (fun b o _ _ _ e n=>⟨o.slots,hx b o (neP b n) e⟩) (fun b o _ e n=>?_) (fun b o _ e=>?_) (fun b xs e=>mono _ _ e) (fun b o u e=>mono _ _ e) (fun b ps e=>⟨#[],by rw [mono _ _ e];simp⟩) (fun m hm=>hm.extBut hx (neP _ I.free)) ok I.bare
 .cases z:H' b with
  | none=>rfl
  | some u=>exact absurd (vT (vx e) (new b (by rw [z];simp) n)) (yf _)
 .by_cases hb:b=Pt
  .subst hb;obtain ⟨ps,e2,_⟩:=ok b _ (mono _ _ hP);exact ⟨_,e2⟩
  .exact ⟨o,hx b o hb e⟩
def W2 {E:zb}{Q:zb}{clos:List (Str × Addr)}
  (I:Inv X pins σ H s) (hcl:closureFor scope X.env=pure clos) (hcode:X.env.code=.ref cc) (C:PySem.W.CodeHd s.heap cc Pt) (hP:H Pt=some (.tbl q)) (hdef:defaultsOf params X.env=([],[])) (hqn:X.env.qual ++ "<lambda>"=fM)
  (h:∀ f c' oc pm ctv h' tk H',Inv X pins σ H' { s with heap:=h',toks:=tk } -> (∀ b o,H b=some o -> H' b=some o) -> (∀ b,H' b ≠ none -> H b=none -> s.heap.objs.size <= b) -> H f=none -> H' f=some (.frz (PySem.W.kla_obj "<lambda>" fM params body scope clos pm c' ctv) cA) ->
   H' c'=some (.frz oc cA)->lamO oc->(∀ b o,b≠Pt->s.heap.get? b=some o->h'.get? b=some o)->Q (.ref f) { s with heap:=h',toks:=tk }) :
  wpAny (model X.prog X.w) X.A (eval (.Lambda params body scope pos) X.env) Q E s:=by
 obtain ⟨ps,hPs,tr,good⟩:=I.hok Pt _ hP;obtain ⟨bm,ob,b1,b2,b3,b4,b5,b6,b7⟩:=I.mod.bm;have hg:s.heap.Ns mainGlobals X.mg:=I.mod.glob.keeps I.bk;have hgP:mainGlobals≠Pt:=fun z=>by
  obtain ⟨o,es,ep,e,_⟩:=I.mod.glob;have:=(I.bs _ _ e).2;rw [z,hP] at this;cases this
 have hbP:bm≠Pt:=fun z=>by
  have:=(I.bs _ _ b4).2;rw [z,hP] at this;cases this
 have hB:s.heap.BuiltinsAt X.mg Pt:=⟨bm,ob,b1,b2,b3,hbP,I.bk _ _ b4,b5,b6,b7⟩;refine PySem.W.kla_eval hdef ?_;rw [hqn];cases hca:codeAmong pos ps.toList with
 | none =>
  refine PySem.W.kla_makeFunction (mg:=X.mg) (ps:=ps) hcl I.ok.glob hg hcode C hPs tr hca hgP hB fun c' ctv h' tk hx hge hlt hrec htb=>?_
  obtain ⟨c₂,oc,vs,t,e2,hoc,hd,hv⟩:=hrec;cases e2;have nc:H c'=none:=I.hok.fresh hge;have szle:s.heap.objs.size<=h'.objs.size:=vF hge (Nat.le_of_lt hlt);have nf:H h'.objs.size=none:=I.hok.fresh szle;have hfc:h'.objs.size≠c':=vE hlt;have hx2:Heap.ExtBut Pt s.heap (h'.push (PySem.W.kla_obj "<lambda>" fM params body scope clos ((X.mg "__name__").getD .none) c' ctv)):=fun b o hb e=>vn _ (hx b o hb e)
  have mono:∀ b o,H b=some o -> upd (upd H c' (.frz oc cA)) h'.objs.size (.frz (PySem.W.kla_obj "<lambda>" fM params body scope clos ((X.mg "__name__").getD .none) c' ctv) cA) b=some o:=fun b o e=>by
   rw [ao (ak e nf),ao (ak e nc)];exact e
  have newb:∀ b,upd (upd H c' (.frz oc cA)) h'.objs.size (.frz (PySem.W.kla_obj "<lambda>" fM params body scope clos ((X.mg "__name__").getD .none) c' ctv) cA) b ≠ none -> H b=none -> s.heap.objs.size <= b:=fun b n1 n2=>by
   by_cases z:b=h'.objs.size
   .rw [z];exact szle
   .rw [ao z] at n1;by_cases z2:b=c'
    .rw [z2];exact hge
    .rw [ao z2] at n1;exact absurd n2 n1
  have cH:upd (upd H c' (.frz oc cA)) h'.objs.size (.frz (PySem.W.kla_obj "<lambda>" fM params body scope clos ((X.mg "__name__").getD .none) c' ctv) cA) c'=some (.frz oc cA):=by rw [ao (Ne.symm hfc),aA]
  have okk:HOk X.prog X.w (upd (upd H c' (.frz oc cA)) h'.objs.size (.frz (PySem.W.kla_obj "<lambda>" fM params body scope clos ((X.mg "__name__").getD .none) c' ctv) cA)) (h'.push (PySem.W.kla_obj "<lambda>" fM params body scope clos ((X.mg "__name__").getD .none) c' ctv)):=fun b u e=>by
   by_cases z:b=h'.objs.size
   .subst z;rw [aA] at e;cases e;exact Ac (vw _ rfl)
   .by_cases z2:b=c'
    .subst z2;rw [cH] at e;cases e;exact Ac (vn _ hoc)
    .have e':=e;rw [ao z,ao z2] at e';by_cases z3:b=Pt
     .subst z3;rw [hP] at e';cases e';refine ⟨_,vn _ htb,?_,fun p0 v hv0=>?_⟩
      .rw [Array.toList_append];exact TriplesOk_snoc _ _ _ _ tr
      .rw [Array.toList_append] at hv0;rcases HB tr hv0 with q1 | q1
       .obtain ⟨d,od,e1,g1,g2⟩:=good p0 v q1;exact ⟨d,od,e1,mono _ _ g1,g2⟩
       .exact ⟨c',oc,q1,cH,vs,t,hd,hv⟩
     .refine (I.hok b u e').stay (fun b2 o2 hb2 q2=>hx2 b2 o2 ?_ q2) (fun d z=>mono _ _ z) (fun d xs z=>mono _ _ z) (fun d od z _=>mono _ _ z);rcases hb2 with rfl | hb2
      .exact z3
      .rintro rfl;rw [hP] at hb2;cases hb2
  exact h h'.objs.size c' oc _ ctv _ tk _ (I.grew hP hx2 mono newb okk) mono newb nf aA cH ⟨vs,t,hd,hv⟩ (fun b o hb e=>hx2 b o hb e)
 | some v =>
  obtain ⟨c',oc,rfl,g1,g2⟩:=good pos v hca;refine PySem.W.kla_makeFunctionHit (mg:=X.mg) (ps:=ps) hcl I.ok.glob hg hcode C hPs tr hca hB fun ctv h' tk hk hsz=>?_
  have nf:H h'.objs.size=none:=I.hok.fresh hsz;have hk2:∀ b o,s.heap.get? b=some o -> (h'.push (PySem.W.kla_obj "<lambda>" fM params body scope clos ((X.mg "__name__").getD .none) c' ctv)).get? b=some o:=fun b o e=>vn _ (hk b o e)
  have mono:∀ b o,H b=some o -> upd H h'.objs.size (.frz (PySem.W.kla_obj "<lambda>" fM params body scope clos ((X.mg "__name__").getD .none) c' ctv) cA) b=some o:=fun b o e=>by rw [ao (ak e nf)]; exact e
  have newb:∀ b,upd H h'.objs.size (.frz (PySem.W.kla_obj "<lambda>" fM params body scope clos ((X.mg "__name__").getD .none) c' ctv) cA) b ≠ none -> H b=none -> s.heap.objs.size <= b:=fun b n1 n2=>by
   by_cases z:b=h'.objs.size
   .rw [z];exact hsz
   .rw [ao z] at n1;exact absurd n2 n1
  exact h h'.objs.size c' oc _ ctv _ tk _ (I.laid hk2 hsz (Ac (vw _ rfl))) mono newb nf aA (mono _ _ g1) g2 (fun b o _ e=>hk2 b o e)
end
structure LamScope (scope:Scope) (xb xt:Str):Prop where
 kind:scope.kind=.function
 co:scope.isCoroutine=false
 gen:scope.isGenerator=false
 nocell:∀ x∈scope.names,x.2≠.cell
 par:scope.names.lookup xt=some .local
 cap:scope.names.lookup xb=some .free
 only:∀ y,scope.names.lookup y=some .free->y=xb
 ne:xb≠xt
def tL (P:Program) (w:World) (K:zd) (mg:w8) (base:Heap) (xb xt:Str) (scope:Scope) (f c:Addr) (cdv:Value) (A:Around) (outer:List Env) (s:Shared) (H:Hp):Cx where
 prog:=P
 w:=w
 K:=K
 mg:=mg
 base:=base
 A:=A.deeper (PySem.W.envX fM scope s.heap.objs.size f cdv [(xb,c)])
 N:=[xb,xt]
 s₀:=s
 H₀:=drop H c
 env:=PySem.W.envX fM scope s.heap.objs.size f cdv [(xb,c)]
 outer:=outer
 stack:=PySem.W.envX fM scope s.heap.objs.size f cdv [(xb,c)]::outer
 ex:=[]
 calm:=true
 fn:=fun _=>false
 pn:=[]
 xe:=fun _ _=>False
variable {Q:VK}
section
variable {P:Program}{w:World}{K:zd}{mg:w8}{base:Heap}{A:Around}{outer:List Env}{s:Shared}{H:Hp}{f c c':Addr}{params:Arguments}{body:Expr}{scope:Scope}{pm ctv:Value}{oc ocell:Obj}{xb xt:Str}{ub u:Value}{vb vt:V}
def Yw {E:XK}{t:TE} (e0:Env0 P w K mg base A outer s H) (hdp:A.depth < recursionLimit) (hh:A.handled=none) (L:LamScope scope xb xt) (hf:H f=some (.frz (PySem.W.kla_obj "<lambda>" fM params body scope [(xb,c)] pm c' ctv) cA)) (hc':H c'=some (.frz oc cA)) (hlo:lamO oc)
  (hc:H c=some (.frz ocell cA)) (hcell:ocell.data=.cell (some ub)) (hbind:bindArgs (PySem.W.kla_fn "<lambda>" fM params body scope [(xb,c)] pm (.ref c') ctv) ⟨[u],[]⟩=pure [(xt,u)]) (rb:RelV vb ub) (rt:RelV vt u)
  (hbody:PE (tL P w K mg base xb xt scope f c (.ref c') A outer s H) body t) (ht:t [some vb,some vt] (drop H c) fun v H1=>H1 c=none->Q v (upd H1 c (.frz ocell cA))) :
  codeAny (model P w) A (.call (.ref f) ⟨[u],[]⟩) (CR CX0 outer P w H s Q E) s:=by
 have ef:=(e0.hok f _ hf).1;have ec':=(e0.hok c' _ hc').1;have ec:=(e0.hok c _ hc).1;have hnl:¬ lamO ocell:=fun ⟨vs,t,z,_⟩=>by rw [hcell] at z;cases z
 have cfr:c ∉ frs outer:=fun z=>by rw [e0.frf c z] at hc;cases hc
 have hcd:s.heap.CodeRec (.ref c') fM:=by
  obtain ⟨vs,t,h1,h2⟩:=hlo;exact ⟨c',oc,vs,t,rfl,ec',h1,h2⟩
 have lim:s.heap.NoLimit:=e0.mod.nolimit.keeps fun b o e=>(e0.bs b o e).1
 refine PySem.W.kla_callFunE hdp ef rfl L.co L.gen rfl hcd ?_;rw [hbind];refine z0 (wpAny_newFunctionEnv L.nocell (fun y hy=>by cases yY.mp hy;exact L.par) (fun h₁ hns hsb=>⟨lim.fresh _ hsb,?_⟩) L.kind);show codeAny _ _ (.expr body (PySem.W.envX fM scope s.heap.objs.size f (.ref c') [(xb,c)])) _ _
 have hk₁:∀ b o,s.heap.get? b=some o->h₁.get? b=some o:=fun b o e=>hsb.extBut b o (vz (vx e)) (vn _ e)
 have I:Inv (tL P w K mg base xb xt scope f c (.ref c') A outer s H) [] [some vb,some vt] (drop H c) { s with heap:=h₁,toks:=s.toks+1 }:=by
  have noA:∀ b:Addr,b ∉ (tL P w K mg base xb xt scope f c (.ref c') A outer s H).ex:=fun b z=>absurd (show b∈([]:List Addr) from z) (by simp)
  have look:∀ y d,(tL P w K mg base xb xt scope f c (.ref c') A outer s H).env.cells.lookup y=some d->y=xb/\d=c:=fun y d h=>by
   have h':(match y == xb with | true=>some c | false=>none)=some d:=h;split at h'
   .rename_i e;cases h';exact ⟨beq_iff_eq.mp e,rfl⟩
   .cases h'
  have lookc:(tL P w K mg base xb xt scope f c (.ref c') A outer s H).env.cells.lookup xb=some c:=by
   show (match xb == xb with | true=>some c | false=>none)=some c
   rw [beq_self_eq_true]
  have dn:∀ b,H b=none->drop H c b=none:=fun b n=>by
   by_cases z:b=c
   .rw [z];exact jQ
   .rw [cG z];exact n
  refine ⟨⟨e0.mod,L.kind,rfl,rfl,vy _,fun y z d h1 h2=>(look y d h1).1.trans (look z d h2).1.symm,fun y hy=>?_,fun y d z _=>(by cases z),fun _=>hh,Around.frames_deeper e0.frames,.inr ⟨rfl,rfl⟩,fun b z=>absurd z (noA b),fun b o e=>⟨(e0.bs b o e).1,dn b (e0.bs b o e).2⟩,e0.bsz,fun b _ _=>noA b,fun b z=>absurd z (noA b),e0.funs,fun b hb=>dn b (e0.frf b hb),?_⟩,
   rfl,e0.bare,Un.kept hk₁,⟨_,hns,fun i y v h1 h2 h3=>?_⟩,fun y d h=>?_,(e0.hok.drop hc hnl).fresh (vy _),fun y d h=>?_,fun p hp=>absurd (show p∈([]:w4) from hp) (by simp),(e0.hok.drop hc hnl).kept hk₁,rfl⟩
  .have hy:scope.names.lookup y=some .cell\/scope.names.lookup y=some .free:=hy;rcases hy with hy | hy
   .exact absurd rfl (L.nocell _ (jw hy))
   .exact ⟨c,by rw [L.only y hy];exact lookc⟩
  .intro a o fd d oc2 vs p e1 e2 e3 e4 e5 e6 e7;obtain ⟨q,e⟩:=e0.tab a o fd d oc2 vs p e1 e2 e3 e4 e5 e6 e7;refine ⟨q,?_⟩;show drop H c p=_
   rw [cG (fun z=>by rw [z,hc] at e;cases e)];exact e
  .match i,h1,h2 with
   | 0,h1,h2 =>
    cases h1;cases h2;exact ⟨ub,rb,.inr ⟨.inr L.cap,c,lookc,ocell,hk₁ _ _ ec,hcell⟩⟩
   | 1,h1,h2 =>
    cases h1;cases h2;refine ⟨u,rt,.inl ⟨L.par,?_⟩⟩;show (match xt == xt with | true=>some u | false=>none)=some u
    rw [beq_self_eq_true]
   | i+2,h1,h2=>cases h1
  .obtain ⟨_,rfl⟩:=look y d h;exact ⟨some ub,ocell,hk₁ _ _ ec,hcell⟩
  .obtain ⟨_,rfl⟩:=look y d h;exact jQ
 refine PySem.W.kla_codeExpr (wpAny_mono (hbody [] _ _ _ _ I ht) (fun v s' hq=>?_) fun _ _ z=>js z);obtain ⟨v',H1,J,rv,q⟩:=hq;obtain ⟨un,ok⟩:=Vg hc ec cfr J.base J.hok;exact ⟨v',_,J.os,J.bare,un,ok,rv,q (J.base.free c ocell ec jQ (show c ∉ ([]:List Addr) by simp))⟩
end
structure RunAt (P:Program) (w:World) (K:zd) (mg:w8) (base:Heap) (A:Around) (outer:List Env) (f:Addr) (fd:FuncData) (ps:zk) (sp:Sp):Prop where
 len:∀ vs H Q E,sp vs H Q E->vs.length=ps.length
 run:∀ (s:Shared) (H:Hp) (args:Args) (us:zg) (vs:List V) (Q:VK) (E:XK),Env0 P w K mg base A outer s H->BindsTo s fd args (ps.zip us)->Vals vs us->sp vs H Q E->codeAny (model P w) A (.call (.ref f) args) (CR CX0 outer P w H s Q E) s
def SX {P:Program}{w:World}{K:zd}{mg:w8}{base:Heap}{A:Around}{outer:List Env}{f:Addr}{name qual:Str}{body:zn}{dV kV doc pm cdv ct oc:Value}{an od:zv}
  {osl:zw}{N ps:zk}{sp:Sp} (lk:K.lookup f=some ⟨oc,od,.func (PySem.W.fnOf name qual params body scope dV kV doc pm an cdv ct),osl⟩) (hcd:PySem.W.codeIn K cdv qual=true) (S:FnScope N ps scope) (hdp:A.depth < recursionLimit) (hh:A.handled=none)
  (len:∀ vs H Q E,sp vs H Q E->vs.length=ps.length)
  (hbody:∀ (s:Shared) (H:Hp) (vs:List V) (Q:VK) (E:XK),sp vs H Q E ->
   ∃ t,PSs (fY CX0 P w K mg base N qual scope f cdv A outer s H E) body t/\t { nx:=fun _ H'=>Q .non H',rt:=Q } (start N vs) H) :
  RunAt P w K mg base A outer f (PySem.W.fnOf name qual params body scope dV kV doc pm an cdv ct) ps sp:=by
 refine ⟨len,fun s H args us vs Q E e0 hb r hsp=>?_⟩;have hl:=len _ _ _ _ hsp;have KX:K.In s.heap:=e0.mod.kin.keeps fun b o e=>(e0.bs b o e).1
 have lim:s.heap.NoLimit:=e0.mod.nolimit.keeps fun b o e=>(e0.bs b o e).1
 have hkind:∀ y∈ps.zip us,scope.names.lookup y.1=some .local\/(scope.names.lookup y.1=some .cell/\((cellsFrom (s.heap.objs.size+1) scope.names []).lookup y.1).isSome=true):=fun ⟨n,v⟩ hy=>by
  rcases S.par n (List.of_mem_zip hy).1 with q | q
  .exact .inl q
  .exact .inr ⟨q,PySem.W.cellsFrom_some _ _ _ (.inl q)⟩
 refine codeAny_call_function hdp (KX _ _ lk) rfl S.co S.gen rfl (PySem.W.codeRec_of KX hcd) (hb _ _ _ _ ?_);refine wpAny_newFunctionEnv_cells S.kind hkind fun env he s1 x=>?_
 subst he;refine ⟨lim.keeps x.toInCall.keep,codeAny_func ?_⟩;obtain ⟨t,ht,hq⟩:=hbody s H vs Q E hsp;have I:Inv (fY CX0 P w K mg base N qual scope f cdv A outer s H E) [] (start N vs) H s1:=Gp S hh e0 hl r x;refine wpAny_mono (ht [] s1 (start N vs) H _ I hq) (fun fl s' hs=>?_) fun e s' hs=>hs
 have fin:∀ {σ':St}{H':Hp}{v:V}{u:Value},Inv (fY CX0 P w K mg base N qual scope f cdv A outer s H E) [] σ' H' s'->RelV v u->Q v H'->CE outer P w H s Q u s' :=
  fun {σ' H' v u} J rv q=>⟨v,H',J.os,J.bare,J.base,J.hok,rv,q⟩
 cases fl with
 | ret u =>
  obtain ⟨v,σ',H',J,rv,q⟩:=hs;exact fin J rv q
 | next =>
  obtain ⟨σ',H',J,q⟩:=hs;exact fin (v:=V.non) (u:=Value.none) J rfl q
 | brk =>
  obtain ⟨_,_,_,q⟩:=hs;exact js q
 | cont =>
  obtain ⟨_,_,_,q⟩:=hs;exact js q
section
variable {X:Cx}{pins:w4}{σ:St}{H:Hp}{s:Shared}{k:Nat}{fa c:Addr}{fd:FuncData}{ps:zk}{sp:Sp}{xb:Str}{ocell:Obj}{ub:Value}
def Vz {vs:List V}{us:zg} (F:RunAt X.prog X.w X.K X.mg X.base X.A X.stack fa fd ps sp) (hb:Binds X.K fd ps []) (I:Inv X pins σ H s) (hcl:X.env.cells.lookup xb=some c) (hfn:X.fn xb=true)
  (ec:s.heap.get? c=some ocell) (hcell:ocell.data=.cell (some ub)) (r:Vals vs us) (h:sp vs (upd H c (.frz ocell cA)) (fun v H1=>Q v (drop H1 c)) E0):wpAny (model X.prog X.w) X.A (call (.ref fa) us) (EP X pins σ Q) X.xe s:=by
 have hn:H c=none:=I.freeC xb c hcl;have hnl:¬ lamO ocell:=fun ⟨vs,t,z,_⟩=>by rw [hcell] at z;cases z
 have c0:X.s₀.heap.objs.size<=c:=I.ok.cab xb c hfn hcl;have old:∀ b o,X.s₀.heap.get? b=some o->b≠c:=fun b o e z=>absurd (vT (vx e) (z ▸ c0)) (yf _)
 have cfr:c ∉ frs X.stack:=fun z=>by
  rcases vR.mp (I.stkSub c z) with e | e
  .exact I.cne xb c hcl e
  .obtain ⟨_,o,ho,_⟩:=I.ok.funs.mem e;exact old c o ho rfl
 have e0:=I.env0;have e1:Env0 X.prog X.w X.K X.mg X.base X.A X.stack s (upd H c (.frz ocell cA)):=⟨e0.frames,e0.mod,fun b o e=>⟨(e0.bs b o e).1,by rw [ao (old b o (I.ok.bs b o e).1)];exact (e0.bs b o e).2⟩,e0.bsz,e0.funs,fun b hb=>by rw [ao (fun z:b=c=>cfr (by rw [<- z];exact hb))];exact e0.frf b hb,e0.hok.lend hn ec,e0.bare,fun a o fd d oc vs p e1 e2 e3 e4 e5 e6 e7=>by
  obtain ⟨q,e⟩:=e0.tab a o fd d oc vs p e1 e2 e3 e4 e5 e6 e7;exact ⟨q,by rw [ao (ak e hn)];exact e⟩⟩
 have hl:(us++[]).length=ps.length:=by rw [List.append_nil,<- r.length];exact F.len _ _ _ _ h
 have hb':=hb s us I.kIn hl;rw [List.append_nil] at hb';refine wpAny_call (codeAny_mono (F.run s _ ⟨us,[]⟩ us vs _ E0 e1 hb' r h) fun r s' hq=>?_);cases r with
 | error e=>exact js hq
 | ok fl =>
  cases fl with
  | ret u =>
   obtain ⟨v,H',os,bare,un,ok,rv,q⟩:=hq;obtain ⟨un2,ok2⟩:=Zg hn ec hnl cfr un ok;exact I.after ⟨v,drop H' c,os,bare,un2,ok2,rv,q⟩
  | next=>exact js hq
  | brk=>exact js hq
  | cont=>exact js hq
def adg (X:Cx) (xb:Str) (params:Arguments) (body:Expr) (scope:Scope):TE:=fun σ H Q=>∀ f c' oc pm ctv c H',X.env.cells.lookup xb=some c -> (∀ b o,H b=some o -> H' b=some o) -> H f=none -> H c=none -> H' c=none -> H' f=some (.frz (PySem.W.kla_obj "<lambda>" fM params body scope [(xb,c)] pm c' ctv) cA) ->
 H' c'=some (.frz oc cA)->lamO oc->Q (.ref f) H'
def aaV (hsc:X.env.scope.names.lookup xb=some .cell) (hclo:∀ c,X.env.cells.lookup xb=some c->closureFor scope X.env=pure [(xb,c)]) (hcode:X.env.code=.ref cc)
  (C:∀ h:Heap,X.K.In h -> PySem.W.CodeHd h cc Pt) (hPt:∀ H,ug X.K X.mg H -> ∃ q,H Pt=some (.tbl q)) (hdef:defaultsOf params X.env=([],[])) (hqn:X.env.qual ++ "<lambda>"=fM) :
  PE X (.Lambda params body scope pos) (adg X xb params body scope):=by
 intro pins s σ H Q I h;obtain ⟨c,hc⟩:=I.ok.has xb (.inl hsc);obtain ⟨q,hP⟩:=hPt H I.env0.tab;have hn:H c=none:=I.freeC xb c hc;refine W2 I (hclo c hc) hcode (C _ I.kIn) hP hdef hqn fun f c' oc pm ctv h' tk H' J mono newb nf hf hc' hlo _=>?_
 exact ⟨.ref f,H',J,rfl,h f c' oc pm ctv c H' hc mono nf hn (J.freeC xb c hc) hf hc' hlo⟩
def Yz {lpos p2:Pos}{xc y:Str}{i0 i1:Nat} (F:RunAt X.prog X.w X.K X.mg X.base X.A X.stack fa fd ps sp) (hb:Binds X.K fd ps []) (hg:Gl X xc) (hm:X.mg xc=some (.ref fa)) (hk:PySem.W.keepIn X.K (.ref fa)=true)
  (h0:X.N[i0]?=some xb) (hsc:X.env.scope.names.lookup xb=some .cell) (hfn:X.fn xb=true) (h1:X.N[i1]?=some y) (hv1:Vis X.env.scope y) (hd1:(y == ("__debug__":Str))=false) (hd2:(y == ("__classdict__":Str))=false) (hdb:(xc == ("__debug__":Str))=false)
  (hclo:∀ c,X.env.cells.lookup xb=some c -> closureFor scope X.env=pure [(xb,c)]) (hcode:X.env.code=.ref cc) (C:∀ h:Heap,X.K.In h -> PySem.W.CodeHd h cc Pt) (hPt:∀ H,ug X.K X.mg H -> ∃ q,H Pt=some (.tbl q)) (hdef:defaultsOf params X.env=([],[])) (hqn:X.env.qual ++ "<lambda>"=fM) :
  PE X (.Call (.Name xc p) [.Name y p2,.Lambda params body scope lpos] [] pos) (fun σ H Q=>∃ vb vt,σ[i0]?=some (some vb)/\σ[i1]?=some (some vt)/\∀ f c' oc pm ctv c ocell ub H',(∀ b o,H b=some o->H' b=some o)->H c=none->H' c=none ->
   H' f=some (.frz (PySem.W.kla_obj "<lambda>" fM params body scope [(xb,c)] pm c' ctv) cA) -> H' c'=some (.frz oc cA) -> lamO oc -> ocell.data=.cell (some ub) -> RelV vb ub -> sp [vt,.ref f] (upd H' c (.frz ocell cA)) (fun v H1=>Q v (drop H1 c)) E0):=by
 intro pins s σ H Q I h;obtain ⟨vb,vt,e0,e1,h⟩:=h;refine wpAny_Call_Name_kw (rD I hg hm ?_ hdb);have pa:=fG (jW (pos:=p2) h1 hv1 hd1 hd2) (fG (aaV (X:=X) (pos:=lpos) (params:=params) (body:=body) hsc hclo hcode C hPt hdef hqn) jg);refine PySem.W.callWith_K (h₀:=X.base) I.ok.mod.kin hk (thn (pa pos pins s σ H (fun vs H1=>∃ f c' oc pm ctv c,vs=[vt,.ref f] /\ X.env.cells.lookup xb=some c /\ (∀ b o,H b=some o -> H1 b=some o) /\ H c=none /\ H1 f=some (.frz (PySem.W.kla_obj "<lambda>" fM params body scope [(xb,c)] pm c' ctv) cA) /\ H1 c'=some (.frz oc cA) /\ lamO oc) I ?_) fun us s1 ⟨vs,H1,I1,r,f,c',oc,pm,ctv,c,ev,hc,mono,hn,hf,hc',hlo⟩=>⟨I1.kIn,?_⟩)
 .exact ⟨vt,e1,fun f c' oc pm ctv c H' hc mono nf hn hn' hf hc' hlo=>⟨f,c',oc,pm,ctv,c,rfl,hc,mono,hn,hf,hc',hlo⟩⟩
 .subst ev;obtain ⟨m,hns,hl⟩:=I1.loc;obtain ⟨ub,rb,lk⟩:=hl i0 xb vb h0 e0 (.inr (.inl hsc));rcases lk with ⟨hk',_⟩ | ⟨_,c2,hc2,ocell,hoc,hcell⟩
  .have:X.env.scope.names.lookup xb=some .local:=hk';rw [hsc] at this;cases this
  .rw [hc] at hc2;cases hc2;exact Vz F hb I1 hc hfn hoc hcell r (h f c' oc pm ctv c ocell ub H1 mono hn (I1.freeC xb c hc) hf hc' hlo hcell rb)
def W5 {x:Str}{j:Nat}{e:Expr}{ta:TE}{W:Addr -> V -> Hp -> VK -> Prop} (hN:X.N[j]?=some x) (hv:Vis X.env.scope x) (hd1:(x == ("__debug__":Str))=false) (hd2:(x == ("__classdict__":Str))=false) (ha:PE X e ta) (hs:starEach [e] X.env=(false,eval e X.env)::starEach [] X.env)
  (hW:∀ f pins s σ H v u Q,Inv X pins σ H s->RelV v u->W f v H Q->PySem.W.FnAt f s.heap/\wpAny (model X.prog X.w) X.A (call (.ref f) [u]) (EP X pins σ Q) X.xe s) (hF:∀ f s H,HOk X.prog X.w H s->(∃ ob,H f=some (.frz ob cA)/\∃ oc od fd sl,ob=⟨oc,od,.func fd,sl⟩)->PySem.W.FnAt f s) :
  PE X (.Call (.Name x p) [e] [] pos) (fun σ H Q=>∃ f,σ[j]?=some (some (.ref f))/\(∃ ob,H f=some (.frz ob cA)/\∃ oc od fd sl,ob=⟨oc,od,.func fd,sl⟩)/\ta σ H fun v H1=>W f v H1 Q):=by
 intro pins s σ H Q I h;obtain ⟨f,ef,hf,ht⟩:=h;refine wpAny_Call_Name_kw (thn (jW (pos:=p) hN hv hd1 hd2 pins s σ H (fun v H1=>v=.ref f/\H1=H) I ⟨.ref f,ef,rfl,rfl⟩) fun fv s0 ⟨v0,H0,I0,r0,e0,eH⟩=>?_);subst e0 eH;obtain rfl:fv=Value.ref f:=r0;refine PySem.W.callWith_F (hF f _ _ I0.hok hf) (thn ((fG ha jg hs) pos pins s0 σ H0 (fun vs H1=>match vs with | [v]=>W f v H1 Q | _=>False) I0 ht) fun us s1 ⟨vs,H1,I1,r,hw⟩=>?_) hs rfl;rcases vs with _ | ⟨v,_ | ⟨v2,vs⟩⟩
 .exact hw.elim
 .obtain ⟨u,rfl,ru⟩:=vals1 r;exact hW f pins s1 σ H1 v u Q I1 ru hw
 .exact hw.elim
end
end L2
set_option maxHeartbeats 1000000
namespace Mi
open PySem L2
open PyProof.Rows hiding St
noncomputable def Ft (p:Pos):Arguments:={ posonlyargs:=[],args:=[{ arg:="test",annotation:=none,pos:=p }],vararg:=none,kwonlyargs:=[],kw_defaults:=[],kwarg:=none,defaults:=[] }
noncomputable def zy (p1 p2 p3 p4:Pos):Expr:=.Call (.Name "is_test" p1) [.Name "book" p2,.Name "test" p3] [] p4
noncomputable def eV:Scope:={ kind:=.function,names:=[(Str.ofString "test",.local),(Str.ofString "book",.free),(Str.ofString "is_test",.globalImplicit)],isGenerator:=false,isCoroutine:=false,more:=[] }
def FQ:LamScope eV "book" "test":=by
 refine ⟨rfl,rfl,rfl,by decide +kernel,by decide +kernel,by decide +kernel,fun y h=>?_,by decide +kernel⟩;have h2:=jw h;simp only [eV,List.mem_cons,List.not_mem_nil,or_false] at h2;rcases h2 with h2 | h2 | h2
 .cases h2
 .cases h2;rfl
 .cases h2
abbrev ab2 (p0 p1 p2 p3 p4:Pos) (c:Addr) (pm:Value) (c':Addr) (ctv:Value):Obj:=PySem.W.kla_obj "<lambda>" fM (Ft p0) (zy p1 p2 p3 p4) eV [("book",c)] pm c' ctv
def Af (p:D->R D):List D->Prop
 | []=>True
 | d::ds=>p d=.ok (.bl true)/\Af p ds
structure CloAt (g:G) (H Hs:Hp) (f:Addr) (b:D):Prop where
 ex:∃ p0 p1 p2 p3 p4 c c' oc ocell ub vb pm ctv,H f=some (.frz (ab2 p0 p1 p2 p3 p4 c pm c' ctv) cA)/\H c'=some (.frz oc cA)/\lamO oc/\H c=some (.frz ocell cA)/\ocell.data=.cell (some ub)/\RelV vb ub/\Hs c=none/\Rp g Hs b vb
variable {Hs:Hp}{f:Addr}{b:D}
theorem CloAt.grow {g:G}{H H' Hs':Hp} (x:CloAt g H Hs f b) (hs:Same Hs H) (w:Grow H Hs H' Hs'):CloAt g H' Hs' f b:=by
 obtain ⟨p0,p1,p2,p3,p4,c,c',oc,ocell,ub,vb,pm,ctv,h1,h2,h3,h4,h5,h6,h7,h8⟩:=x.ex;exact ⟨p0,p1,p2,p3,p4,c,c',oc,ocell,ub,vb,pm,ctv,w.keep _ _ h1,w.keep _ _ h2,h3,w.keep _ _ h4,h5,h6,(w.old _ _ h4).trans h7,h8.mono (w.same hs)⟩
structure FnsP (T:Tx) (cl:Nat->List D->R D) (P:Program) (w:World) (K:zd) (mg:w8) (base:Heap) (n:Nat):Prop where
 blt:∀ f∈nH,mg f=none
 gl:∀ x d,T.gl.lookup x=some d->GlV d (mg x)
 fns:∀ f x,T.F[f]?=some x->∃ a fd ps,FnOk P w K mg base CX0 n a fd ps (spD ⟨P,w,K⟩ (cl f) ps.length)/\mg x=some (.ref a)/\PySem.W.keepIn K (.ref a)=true/\Binds K fd ps []/\∀ ds d,cl f ds=.ok d->ds.length=ps.length
variable {X:Cx}{c:Addr}{cdv dV doc pm ct oc:Value}{p1 p2 p3 p4 p5 p6:Pos}{q:Nat}{params:Arguments}{an od:zv}{osl:zw}
section
variable {T:Tx}{cl:Nat->List D->R D}{P:Program}{w:World}{K:zd}{mg:w8}{base:Heap}{n:Nat}
theorem FnsP.cok (F:FnsP T cl X.prog X.w X.K X.mg X.base n) (hc:X.calm=true) (hnd:X.N.Nodup) (hr:Room n X.A):Cok T cl X:=by
 refine ⟨hc,hnd,by have:=hr.un;omega,F.blt,F.gl,fun f x hF=>?_⟩;obtain ⟨a,fd,ps,q1,q3,q4,q5,q6⟩:=F.fns f x hF;exact ⟨n,a,fd,ps,q1,hr,q3,q4,q5,q6⟩
variable {A:Around}{outer:List Env}{s:Shared}{H:Hp}
theorem TQ :ScRel eV (tL P w K mg base "book" "test" eV f c cdv A outer s H) :=
 ⟨fun y h=>vM h,fun y h=>vN h,fun y h=>h,fun y h=>by
  have h1:=nC h;refine ⟨h1,?_⟩;rcases h1 with e | e
  .exact .inr e
  .exact absurd rfl (FQ.nocell _ (jw e))⟩
def Wd {g:Nat}{Q:VK}{fa:Addr}{pins:w4}{σ:St}{v:V}{u:Value}{d z:D} (F:FnsP T cl X.prog X.w X.K X.mg X.base n) (hT:T.F[g]?=some (Str.ofString "is_test")) (hr:∀ env,Room n (X.A.deeper env)) (hdp:X.A.depth < recursionLimit) (hh:X.A.handled=none)
  (I:Inv X pins σ H s) (ru:RelV v u) (hs:Same Hs H) (hc:CloAt (gOf X) H Hs fa b) (rd:Rp (gOf X) Hs d v) (hz:cl g [b,d]=.ok z) (k:XD X H Hs Q z) :
  PySem.W.FnAt fa s.heap/\wpAny (model X.prog X.w) X.A (call (.ref fa) [u]) (EP X pins σ Q) X.xe s:=by
 obtain ⟨p0,p1,p2,p3,p4,c,c',oc,ocell,ub,vb,pm,ctv,h1,h2,h3,h4,h5,h6,h7,h8⟩:=hc.ex;have ef:=(I.hok fa _ h1).1;refine ⟨⟨_,_,_,_,ef⟩,?_⟩;have ok:okE T ["book","test"] (.call g [.var 0,.var 1]) eV (zy p1 p2 p3 p4)=true:=by
  show (aK "is_test" && dZ eV "is_test" && decide (T.F[g]?=some (Str.ofString "is_test")) && cB T ["book","test"] [.var 0,.var 1] eV [.Name "book" p2,.Name "test" p3] && [Expr.Name "book" p2,.Name "test" p3].all noStar)=true
  rw [decide_eq_true hT];rfl
 have C:Cok T cl (tL X.prog X.w X.K X.mg X.base "book" "test" eV fa c (.ref c') X.A X.stack s H):=FnsP.cok (X:=tL X.prog X.w X.K X.mg X.base "book" "test" eV fa c (.ref c') X.A X.stack s H) F rfl (show ([("book":Str),"test"]:zk).Nodup by decide +kernel) (hr _)
 have hb:=(good (T:=T) (cl:=cl) (.call g [.var 0,.var 1]) C TQ ok).1;have dropS:Same Hs (drop H c):=fun b o e=>by
  rw [cG (fun z=>by rw [z,h7] at e;cases e)];exact hs b o e
 refine wpAny_call (codeAny_mono (Yw (E:=E0) (vb:=vb) (vt:=v) (Q:=Q) I.env0 hdp hh FQ h1 h2 h3 h4 h5 ?_ h6 ru hb ?_) fun r s' hq=>?_)
 .rfl
 .refine ⟨[some b,some d],Hs,z,dropS,⟨rfl,fun i hi e he=>?_⟩,?_,fun v' H' Hs' g' r' n'=>?_⟩
  .match i,he with
   | 0,he=>cases he;exact ⟨vb,rfl,h8⟩
   | 1,he=>cases he;exact ⟨v,rfl,rd⟩
   | i+2,he=>cases he
  .show (do let ds <- bF cl [.var 0,.var 1] [some b,some d];cl g ds)=_
   exact hz
  .have hs'c:Hs' c=none:=g'.sub.free n';refine k v' _ Hs' ⟨fun a o e=>?_,fun a o e=>?_,fun a o e=>?_⟩ r'
   .by_cases za:a=c
    .subst za;rw [aA];rw [h4] at e;exact e
    .rw [ao za];exact g'.keep a o (by rw [cG za];exact e)
   .by_cases za:a=c
    .subst za;rw [hs'c,h7]
    .exact g'.old a o (by rw [cG za];exact e)
   .rw [ao (fun za=>by rw [za,hs'c] at e;cases e)];exact g'.sub a o e
 .cases r with
  | error e=>exact js hq
  | ok fl =>
   cases fl with
   | ret u=>exact I.after hq
   | next=>exact js hq
   | brk=>exact js hq
   | cont=>exact js hq
noncomputable def clN:zk:=["things","is_right","place","thing"]
noncomputable def dj:Scope:={ kind:=.function,names:=[(Str.ofString "things",.local),(Str.ofString "is_right",.local),(Str.ofString "place",.local),(Str.ofString "thing",.local),(Str.ofString "isinstance",.globalImplicit),(Str.ofString "list",.globalImplicit),(Str.ofString "BadTests",.globalImplicit),(Str.ofString "enumerate",.globalImplicit)],isGenerator:=false,isCoroutine:=false,more:=[] }
noncomputable def Im (p1 p2 p3 p4 p5:Pos) (r:zn):Stmt:=.If (.UnaryOp .Not (.Call (.Name "is_right" p1) [.Name "thing" p2] [] p3) p4) r [] p5
def yj (p1 p2 p3 p4 p5 p6:Pos) (e1 c1:Option Expr) (q1 q2 q3 q4 q5 q6 q7 q8 q9 q10 q11 q12 q13:Pos) (j:Nat) (r2:zn):zn :=
 [.If (.UnaryOp .Not (.Call (.Name "isinstance" p1) [.Name "things" p2,.Name "list" p3] [] p4) p5) [.Raise e1 c1 q13] [] p6,
  .For (.Tuple [.Name "place" q1,.Name "thing" q2] j q3) (.Call (.Name "enumerate" q4) [.Name "things" q5] [] q6) [Im q7 q8 q9 q10 q11 r2] [] q12]
noncomputable def clB (cl:Nat->List D->R D) (g:Nat) (b:D):Nat->List D->R D:=fun k ds=>if k=5000 then (match ds with | [t]=>cl g [b,t] | _=>.stuck) else cl k ds
section
variable {cl:Nat->List D->R D}{X:Cx}{n g:Nat}{T:Tx}{b:D}{E:Ent}{Es:Hp}{fa:Addr}{O inv:zi}
def aak {r:zn} (F:FnsP T cl X.prog X.w X.K X.mg X.base n) (hT:T.F[g]?=some (Str.ofString "is_test")) (hr:∀ env,Room n (X.A.deeper env)) (hdp:X.A.depth < recursionLimit) (hh:X.A.handled=none) (hN:X.N=clN) (hsc:X.env.scope=dj)
  (hp:E.pins=[(1,fa)]) (hs:Same Es E.hp) (hc:CloAt (gOf X) E.hp Es fa b):PS X (Im p1 p2 p3 p4 p5 r) (tMS X E Es O (some (without O [3])) inv (cF (clB cl g b) (.chk 1 (.var 3)))):=by
 have vis:∀ x∈clN,Vis X.env.scope x:=fun x hx=>by
  rw [hsc];refine .inl ?_;have:∀ x∈clN,dj.names.lookup x=some .local:=by decide +kernel
  exact this x hx
 have hpe:PE X (.Name "thing" p2) (aa2 3):=jW (by rw [hN]; rfl) (vis _ (by decide +kernel)) (by decide +kernel) (by decide +kernel)
 have hcall:=W5 (X:=X) (p:=p1) (pos:=p3) (W:=fun f v H Q=>∃ Hs d z,Same Hs H /\ CloAt (gOf X) H Hs f b /\ Rp (gOf X) Hs d v /\ cl g [b,d]=.ok z /\ XD X H Hs Q z) (j:=1) (x:="is_right") (by rw [hN]; rfl) (vis _ (by decide +kernel)) (by decide +kernel) (by decide +kernel) hpe rfl
  (fun f pins s σ H v u Q I ru ⟨Hs,d,z,h1,h2,h3,h4,h5⟩=>Wd F hT hr hdp hh I ru h1 h2 h3 h4 h5)
  (fun f s H ok ⟨ob,h1,oc,od,fd,sl,h2⟩=>by subst h2;exact ⟨oc,od,fd,sl,(ok f _ h1).1⟩)
 have hpt:=Rq (pos:=p4) (Tj hcall (pD rfl));refine bZ (QJ hpt yC Ai) fun D σ H=>?_
 rintro ⟨ρ,Hs,o,Fr,h,k⟩;rw [T5] at h;obtain ⟨d,hd,h⟩:=aj h;obtain ⟨z,hz,h⟩:=aj h;have hz':cl g [b,d]=.ok z:=hz;cases z <;> try (cases h;done)
 rename_i bb;cases bb <;> try (cases h;done)
 cases h;obtain ⟨Hs1,F1,m1,vs⟩:=Fr.pubU [3];have hd3:ρ[3]?=some (some d):=rH hd;obtain ⟨v,ev,rv⟩:=vs.2 3 (yY.mpr rfl) d hd3;have ep:=F1.pin (1,fa) (by rw [hp];exact yY.mpr rfl);have cg:=hc.grow hs F1.grow;refine ⟨fa,ep,?_,v,ev,Hs1,d,.bl true,F1.sub,cg,rv,hz',fun v' H' Hs' g' r'=>⟨true,mW.mp r',?_⟩⟩
 .obtain ⟨p0,p1,p2,p3,p4,c,c',oc,ocell,ub,vb,pm,ctv,h1,_⟩:=cg.ex;exact ⟨_,h1,_,_,_,_,rfl⟩
 .show (if (!true)=true then Li D σ H' else _)
  exact k _ rfl σ H' Hs' (F1.grown g') (m1.trans (g'.same F1.sub))
theorem JL {ts0:D}:∀ (ts:List D) (k:Nat),Af (fun t=>cl g [b,t]) ts->lA (fun d ρ=>do let ρ1 <- eU (.two 2 3) d ρ;cQ (clB cl g b) [.chk 1 (.var 3)] ρ1) [some ts0,none,none,none] (aU k ts) [some ts0,none,none,none]=.ok (.nx [some ts0,none,none,none])
 | [],_,_=>rfl
 | t::ts,k,h=>by
  have h1:(clB cl g b) 5000 [t]=.ok (.bl true):=h.1;show lA _ _ (.tup [.int k,t]::aU (k+1) ts) _=_
  unfold lA;have h2:(eU (.two 2 3) (.tup [.int k,t]) [some ts0,none,none,none] >>= fun ρ1=>cQ (clB cl g b) [.chk 1 (.var 3)] ρ1)=.ok (.nx [some ts0,none,some (.int k),some t]):=by
   show (cF (clB cl g b) (.chk 1 (.var 3)) [some ts0,none,some (.int k),some t] >>= vL _ [])=_
   rw [T5];show (((clB cl g b) 5000 [t] >>= fun r=>V8 [some ts0,none,some (.int k),some t] r) >>= vL _ [])=_
   rw [h1];rfl
  show ((eU (.two 2 3) (.tup [.int k,t]) [some ts0,none,none,none] >>= fun ρ1=>cQ (clB cl g b) [.chk 1 (.var 3)] ρ1) >>= _)=_
  rw [h2];exact JL ts (k+1) h.2
end
def adb (g:G) (cl:Nat->List D->R D) (q:Nat):Sp:=fun vs H Q _=>∃ vt fa b ts Hs,vs=[vt,.ref fa]/\Same Hs H/\CloAt g H Hs fa b/\Rp g Hs (.lst ts) vt/\Af (fun t=>cl q [b,t]) ts/\∀ H' Hs',Grow H Hs H' Hs'->Q .non H'
theorem ac2 {cl':Nat->List D->R D} (F:FnsP T cl P w K mg base n):FnsP ⟨[],[]⟩ cl' P w K mg base n:=⟨F.blt,fun x d h=>(by cases h),fun f x h=>(by simp at h)⟩
theorem acB (r:Room (n+1) A) (e1 e2 e3:Env):Room n (((A.deeper e1).deeper e2).deeper e3) :=
 ⟨r.hd,by have:=r.dp;show A.depth+1+1+1+3 * n+5 < _;omega,by have:=r.un;show A.units+3+3+3+16 * n+200 < _;omega⟩
theorem acC (r:Room (n+1) A) (e1 e2:Env):Room n ((A.deeper e1).deeper e2) :=
 ⟨r.hd,by have:=r.dp;show A.depth+1+1+3 * n+5 < _;omega,by have:=r.un;show A.units+3+3+16 * n+200 < _;omega⟩
def aav {kV:Value}{x1 c1:Option Expr}{q1 q2 q3 q4 q5 q6 q7 q8 q9 q10 q11 q12 q13:Pos}{j:Nat}{r2:zn}{e1:Env}
  (F:FnsP T cl P w K mg base n) (hT:T.F[q]?=some (Str.ofString "is_test")) (hr:Room (n+1) A)
  (lk:K.lookup f=some ⟨oc,od,.func (PySem.W.fnOf "check_list" "check_list" params (yj p1 p2 p3 p4 p5 p6 x1 c1 q1 q2 q3 q4 q5 q6 q7 q8 q9 q10 q11 q12 q13 j r2) dj dV kV doc pm an cdv ct),osl⟩) (hcd:PySem.W.codeIn K cdv "check_list"=true) :
  RunAt P w K mg base (A.deeper e1) outer f (PySem.W.fnOf "check_list" "check_list" params (yj p1 p2 p3 p4 p5 p6 x1 c1 q1 q2 q3 q4 q5 q6 q7 q8 q9 q10 q11 q12 q13 j r2) dj dV kV doc pm an cdv ct) ["things","is_right"] (adb ⟨P,w,K⟩ cl q):=by
 have S:FnScope clN ["things","is_right"] dj:=tV (by decide +kernel)
 refine SX lk hcd S (by have:=hr.dp;show A.depth+1 < _;omega) hr.hd (fun vs H Q E h=>?_) fun s H vs Q E h=>?_
 .obtain ⟨vt,fa,b,ts,Hs,rfl,_⟩:=h;rfl
 .obtain ⟨vt,fa,b,ts,Hs,rfl,hs,hc,rt,hall,k⟩:=h;have hr2:=acC hr e1 (envOfC "check_list" dj s.heap.objs.size f cdv)
  have C:Cok ⟨[],[]⟩ (clB cl q b) (fY CX0 P w K mg base clN "check_list" dj f cdv (A.deeper e1) outer s H E):=FnsP.cok (X:=fY CX0 P w K mg base clN "check_list" dj f cdv (A.deeper e1) outer s H E) (ac2 F) rfl S.nd hr2
  have SR:ScRel dj (fY CX0 P w K mg base clN "check_list" dj f cdv (A.deeper e1) outer s H E):=⟨fun y h=>vM h,fun y h=>vN h,fun y h=>h,fun y h=>⟨nC h,.inl rfl⟩⟩
  have h1:=Ag (T:=⟨[],[]⟩) (cl:=clB cl q b) (.ifs (.not (.isin (.var 0) .list)) [.rai] []) (fY CX0 P w K mg base clN "check_list" dj f cdv (A.deeper e1) outer s H E) dj (.If (.UnaryOp .Not (.Call (.Name "isinstance" p1) [.Name "things" p2,.Name "list" p3] [] p4) p5) [.Raise x1 c1 q13] [] p6) [] [] (some []) ⟨H,[(1,fa)]⟩ Hs (fun z hz=>by simp [WX,BW]) C SR PassesOwn.leaving rfl rfl
  have h2:=aak (cl:=cl) (g:=q) (X:=fY CX0 P w K mg base clN "check_list" dj f cdv (A.deeper e1) outer s H E) (T:=T) (b:=b) (E:=⟨H,[(1,fa)]⟩) (Es:=Hs) (fa:=fa) (O:=[]) (inv:=[]) (p1:=q7) (p2:=q8) (p3:=q9) (p4:=q10) (p5:=q11) (r:=r2) F hT (fun env=>acB hr e1 _ env) (by have:=hr.dp; show A.depth+1+1 < _; omega) hr.hd rfl rfl rfl hs hc
  have h3:=Rm (T:=⟨[],[]⟩) (cl:=clB cl q b) (X:=fY CX0 P w K mg base clN "check_list" dj f cdv (A.deeper e1) outer s H E) (sc:=dj) (E:=⟨H,[(1,fa)]⟩) (Es:=Hs) (O:=[]) (inv:=[]) (pos:=q12) (t:=.two 2 3) (k:=.enum) (src:=[.var 0]) (b:=[.chk 1 (.var 3)]) (tg:=.Tuple [.Name "place" q1,.Name "thing" q2] j q3) (iter:=.Call (.Name "enumerate" q4) [.Name "things" q5] [] q6) (body:=[Im q7 q8 q9 q10 q11 r2]) (O2:=[]) (y:=some []) C SR PassesOwn.leaving (fun z hz=>by rw [List.mem_singleton.mp hz]; show (1:Nat) ∉ [2,3]; decide) rfl rfl rfl (fun i hi=>by cases hi) (fun O3 _ i hi=>by cases hi) (zY ?_)
  .refine ⟨_,ni h1 (zY h3),?_⟩;have FR0:FR ⟨P,w,K⟩ ⟨H,[(1,fa)]⟩ Hs [] [some (.lst ts),none,none,none] [some vt,some (.ref fa),none,none] H Hs:=by
    refine ⟨Grow.refl hs,rfl,fun i d h _=>?_,fun i hi=>(by cases hi),fun i hi=>(by cases hi),fun z hz=>by rw [List.mem_singleton.mp hz];rfl⟩
    match i,h with
    | 0,h=>cases h;exact ⟨vt,rfl,rt⟩
    | 1,h=>cases h
    | 2,h=>cases h
    | 3,h=>cases h
    | i+4,h=>cases h
   refine ⟨[some (.lst ts),none,none,none],Hs,.nx [some (.lst ts),none,none,none],FR0,rfl,fun O1 e σ' H' Hs' F' s'=>?_⟩;cases e;refine ⟨[some (.lst ts),none,none,none],Hs',.nx [some (.lst ts),none,none,none],F',JL ts 0 hall,fun O1 e σ2 H2 Hs2 F2 s2=>?_⟩;exact k H2 Hs2 F2.grow
  .refine bZ h2 fun D σ H=>?_
   rintro ⟨ρ,Hs,o,Fr,h,kk⟩;refine ⟨ρ,Hs,o,Fr,?_,kk⟩;obtain ⟨o1,ho1,h4⟩:=aj (show (cF (clB cl q b) (.chk 1 (.var 3)) ρ >>= vL (clB cl q b) [])=.ok o from h);cases o1 <;> cases h4 <;> exact ho1
noncomputable def ctN:zk:=["book","tests"]
noncomputable def jh:Scope:={ kind:=.function,names:=[(Str.ofString "book",.cell),(Str.ofString "tests",.local),(Str.ofString "check_list",.globalImplicit)],isGenerator:=false,isCoroutine:=false,more:=[] }
def Ds (p1 p2 p3 p4 p5 p6 p7 p8 p9 p10:Pos):zn:=[.Expr (.Call (.Name "check_list" p1) [.Name "tests" p2,.Lambda (Ft p3) (zy p4 p5 p6 p7) eV p8] [] p9) p10]
def YG {env:Env} (h:env.cells.lookup (Str.ofString "book")=some c):closureFor eV env=pure [(Str.ofString "book",c)]:=by
 unfold closureFor;simp [eV,cellOf,h]
structure LamK (K:zd) (mg:w8) (act:Addr) (cdv:Value):Prop where
 cl:∃ f params dV kV doc pm cv ct oc an od osl p1 p2 p3 p4 p5 p6 x1 c1 q1 q2 q3 q4 q5 q6 q7 q8 q9 q10 q11 q12 q13 j r2,K.lookup f=some ⟨oc,od,.func (PySem.W.fnOf "check_list" "check_list" params (yj p1 p2 p3 p4 p5 p6 x1 c1 q1 q2 q3 q4 q5 q6 q7 q8 q9 q10 q11 q12 q13 j r2) dj dV kV doc pm an cv ct),osl⟩ /\ PySem.W.codeIn K cv "check_list"=true /\
  mg (Str.ofString "check_list")=some (.ref f) /\ PySem.W.keepIn K (.ref f)=true /\ Binds K (PySem.W.fnOf "check_list" "check_list" params (yj p1 p2 p3 p4 p5 p6 x1 c1 q1 q2 q3 q4 q5 q6 q7 q8 q9 q10 q11 q12 q13 j r2) dj dV kV doc pm an cv ct) ["things","is_right"] []
 code:∃ cc Pt oc vs file tf flags tg inF text tt,cdv=.ref cc /\ K.lookup cc=some oc /\ oc.cls=.type "code" /\ oc.data=.fields vs /\ vs[11]?=some (.ref Pt) /\ vs.getD 11 .none=.ref Pt /\ vs.getD 18 .none=.str file tf /\ vs.getD 7 .none=.int flags tg /\ vs.getD 9 .none=.bool inF /\ vs.getD 10 .none=.int text tt /\ cc ≠ Pt
 me:mg "check_tests"=some (.ref act)
def W7 {act:Addr}{kV:Value}{p7 p8 p9 p10:Pos}{c:List D->R D}
  (F:FnsP T cl P w K mg base n) (hT:T.F[q]?=some (Str.ofString "is_test")) (hc:∀ ds z,c ds=.ok z -> ∃ b ts,ds=[b,.lst ts] /\ z=.non /\ Af (fun t=>cl q [b,t]) ts)
  (lk:K.lookup act=some ⟨oc,od,.func (PySem.W.fnOf "check_tests" "check_tests" params (Ds p1 p2 p3 p4 p5 p6 p7 p8 p9 p10) jh dV kV doc pm an cdv ct),osl⟩) (hcd:PySem.W.codeIn K cdv "check_tests"=true) (L:LamK K mg act cdv) :
  FnOk P w K mg base CX0 (n+1) act (PySem.W.fnOf "check_tests" "check_tests" params (Ds p1 p2 p3 p4 p5 p6 p7 p8 p9 p10) jh dV kV doc pm an cdv ct) ["book","tests"] (spD ⟨P,w,K⟩ c 2):=by
 have S:FnScope ctN ["book","tests"] jh:=tV (by decide +kernel)
 have len:∀ (vs:List V) (H:Hp) (Q:VK) (E:XK),spD ⟨P,w,K⟩ c 2 vs H Q E -> vs.length=([("book":Str),"tests"]:zk).length:=fun vs H Q E h=>by
  obtain ⟨ds,Hs,z,h,_⟩:=h;exact h
 refine ⟨len,fun A outer s H args us vs Q E hr e0 hb r hsp=>(SX (N:=ctN) lk hcd S (by have:=hr.dp;omega) hr.hd len fun s H vs Q E h=>?_).run s H args us vs Q E e0 hb r hsp⟩;obtain ⟨ds,Hs,z,hlen,hs,rs,hcz,k⟩:=h;obtain ⟨b,ts,rfl,rfl,hall⟩:=hc _ _ hcz;obtain ⟨vb,ws,rfl,rb,rs2⟩:=rs.cons_inv;obtain ⟨vt,ws,rfl,rt,rs3⟩:=rs2.cons_inv;cases rs3.nil_inv;obtain ⟨fc,params',dV',kV',doc',pm',cv',ct',oc',an',od',osl',a1,a2,a3,a4,a5,a6,x1,c1,b1,b2,b3,b4,b5,b6,b7,b8,b9,b10,b11,b12,b13,j,r2,g1,g2,g3,g4,g5⟩:=L.cl;obtain ⟨cc,Pt,ocd,vsd,file,tf,flags,tg,inF,text,tt,d1,d2,d3,d4,d5,d6,d7,d8,d9,d10,d11⟩:=L.code;have RA:=aav (e1:=envOfC "check_tests" jh s.heap.objs.size act cdv) (outer:=envOfC "check_tests" jh s.heap.objs.size act cdv::outer) F hT hr g1 g2
 have hpe:=Yz (X:=fY CX0 P w K mg base ctN "check_tests" jh act cdv A outer s H E) (xb:="book") (y:="tests") (xc:="check_list") (i0:=0) (i1:=1) (params:=Ft p3) (body:=zy p4 p5 p6 p7) (scope:=eV) (lpos:=p8) (p:=p1) (p2:=p2) (pos:=p9) (cc:=cc) (Pt:=Pt)
  RA g5 (show jh.names.lookup (Str.ofString "check_list")=some .globalImplicit by decide +kernel) g3 g4 rfl (show jh.names.lookup (Str.ofString "book")=some .cell by decide +kernel) rfl rfl (.inl (show jh.names.lookup (Str.ofString "tests")=some .local by decide +kernel)) (by decide +kernel) (by decide +kernel) (by decide +kernel)
  (fun c h=>YG h) d1 (fun h X=>⟨ocd,vsd,file,tf,flags,tg,inF,text,tt,X _ _ d2,d3,d4,d5,d6,d7,d8,d9,d10,d11⟩) (fun H' tab=>tab act _ _ cc ocd vsd Pt L.me lk rfl d1 d2 d4 d5) rfl (show ("check_tests":Str) ++ ".<locals>." ++ "<lambda>"=fM by decide +kernel)
 refine ⟨_,zY (rJ hpe (jL rfl)),?_⟩;refine ⟨vb,vt,rfl,rfl,fun f c' oc pm ctv cx ocell ub H' mono hn hn' hf hc' hlo hcell rub=>?_⟩;have nf:f≠cx:=fun z=>by rw [z,hn'] at hf;cases hf
 have nc:c'≠cx:=fun z=>by rw [z,hn'] at hc';cases hc'
 have hsc:Hs cx=none:=hs.free hn;refine ⟨vt,f,b,ts,Hs,rfl,fun a o e=>?_,⟨p3,p4,p5,p6,p7,cx,c',oc,ocell,ub,vb,pm,ctv,by rw [ao nf];exact hf,by rw [ao nc];exact hc',hlo,aA,hcell,rub,hsc,rb⟩,rt,hall,fun H1 Hs1 w1=>?_⟩
 .rw [ao (fun z=>by rw [z,hsc] at e;cases e)];exact mono _ _ (hs a o e)
 .have o1:Hs1 cx=none:=(w1.old cx _ aA).trans hsc;refine k .non (drop H1 cx) Hs1 ⟨fun a o e=>?_,fun a o e=>?_,fun a o e=>?_⟩ (yp.mpr rfl)
  .have na:a≠cx:=fun z=>by rw [z,hn] at e;cases e
   rw [cG na];exact w1.keep a o (by rw [ao na];exact mono _ _ e)
  .have na:a≠cx:=fun z=>by rw [z,hn] at e;cases e
   exact w1.old a o (by rw [ao na];exact mono _ _ e)
  .rw [cG (fun z=>by rw [z,o1] at e;cases e)];exact w1.sub a o e
end
end Mi
namespace L2
open PySem PySem.Spec PyProof.Rows
variable {P:Program}{w:World}{H:Hp}{h:Heap}
theorem cj.there {a:Addr}{o:HO} (x:cj P w H h a o):∃ u,h.get? a=some u:=by
 cases o with
 | lst xs=>obtain ⟨_,_,_,_,e⟩:=x;exact ⟨_,e⟩
 | tup xs=>obtain ⟨_,_,_,_,e,_⟩:=x;exact ⟨_,e⟩
 | dK kvs=>obtain ⟨_,_,_,_,o,_,_,e,_⟩:=x;exact ⟨_,e⟩
 | dT kvs=>obtain ⟨_,_,_,_,o,_,_,e,_⟩:=x;exact ⟨_,e⟩
 | set S n=>obtain ⟨o,_,_,_,e,_⟩:=x;exact ⟨_,e⟩
 | ins C dx fs=>obtain ⟨_,_,_,e,_⟩:=x;exact ⟨_,e⟩
 | own y=>obtain ⟨_,e⟩:=x;exact ⟨_,e⟩
 | xd fs=>obtain ⟨_,⟨_,_,_,e,_⟩,_⟩:=x;exact ⟨_,e⟩
 | rng lo hi=>obtain ⟨_,_,_,e⟩:=x;exact ⟨_,e⟩
 | frz ob u=>obtain ⟨e,_⟩:=x;exact ⟨_,e⟩
 | tbl ps=>obtain ⟨_,e,_⟩:=x;exact ⟨_,e⟩
 | met f y=>exact ⟨_,(show h.get? a=some _ from x)⟩
 | ext φ=>obtain ⟨_,⟨_,e⟩,_⟩:=x;exact ⟨_,e⟩
def StB (fs:List Addr) (h:Heap) (H':Hp) (h1 B:Heap):Prop:=∀ b o,h1.get? b=some o->((∃ u,h.get? b=some u)\/H' b≠none)->b ∉ fs->B.get? b=some o
def zZ {fs:List Addr}{H':Hp}{h1 h2 B:Heap} (u:Un fs [] H H' h h1) (hok:HOk P w H' h1) (ffr:∀ b∈fs,H' b=none) (ff:∀ b∈fs,∀ o,h1.get? b=some o->∀ vs,o.data≠.fields vs)
  (hB:StB fs h H' h1 B) (st:B.StaysIn h2) (up:h1.UpToSlots h2):Un fs [] H H' h h2/\HOk P w H' h2/\StB fs h H' h2 B:=by
 have trk:∀ b o,h1.get? b=some o->H' b≠none->B.get? b=some o:=fun b o e n=>hB b o e (.inr n) fun z=>n (ffr b z)
 refine ⟨⟨fun b o e n hb hx=>st b o (hB b o (u.keep b o e n hb hx) (.inl ⟨o,e⟩) hb),fun b o e n hb hx=>?_,u.free,fun b o e hx=>?_,u.tups,u.frzs,u.tbls⟩,fun a o e=>?_,fun b o e hh hb=>?_⟩
 .obtain ⟨sl,e1⟩:=u.slot b o e n hb hx;obtain ⟨sl',e2⟩:=up b _ e1 (ff b hb _ e1);exact ⟨sl',e2⟩
 .obtain ⟨o',e1⟩:=u.there b o e hx;by_cases hb:b∈fs
  .obtain ⟨sl,e2⟩:=up b o' e1 (ff b hb o' e1);exact ⟨_,e2⟩
  .exact ⟨o',st b o' (hB b o' e1 (.inl ⟨o,e⟩) hb)⟩
 .refine (hok a o e).stay (fun b v hc q=>st b v (trk b v q ?_)) (fun _ q=>q) fun _ _ q=>q
  rcases hc with rfl | hc
  .rw [e];exact fun z=>nomatch z
  .rw [hc];exact fun z=>nomatch z
 .obtain ⟨o',e'⟩:∃ o',h1.get? b=some o':=by
   rcases hh with ⟨v,e0⟩ | n
   .exact u.there b v e0 (by simp)
   .cases q:H' b with
    | none=>exact absurd q n
    | some ob=>exact (hok b ob q).there
  have e2:=hB b o' e' hh hb;have e3:=st b o' e2;rw [e] at e3;cases e3;exact e2
def CX1 (P:Program) (w:World):CXT:=fun outer H s E ev s'=>∃ (e C:Addr) (a0:Value) (H':Hp) (B:Heap),ev=.ref e/\s'.os=s.os/\AllBare s'.gens/\Un (frs outer) [] H H' s.heap s'.heap/\HOk P w H' s'.heap /\
 Heap.FlyingW B outer e (.ref C) a0 s'.heap/\StB (frs outer) s.heap H' s'.heap B/\E (.ref C) none H'
section
variable {X:Cx}{pins:w4}{σ:St}{H H':Hp}{s s':Shared}{E:XK}{e C:Addr}{h'':Heap}{args:zg}{E2:zb}
theorem yW (hst:X.stack=X.env::X.outer) (hf:X.env.frame=some X.env.locals):frs X.stack=X.env.locals::X.fs:=by
 rw [hst];unfold frs;rw [List.filterMap_cons,hf];rfl
theorem Inv.notLoc (I:Inv X pins σ H' s') {b:Addr} (h:(∃ u,X.s₀.heap.get? b=some u)\/H' b≠none):b≠X.env.locals:=by
 rcases h with ⟨u,e⟩ | n
 .exact vz (vT (vx e) I.ok.above)
 .rintro rfl;exact n I.free
theorem Inv.fsData (I:Inv X pins σ H' s'):∀ b∈X.fs,∀ o,s'.heap.get? b=some o->∀ vs,o.data≠.fields vs:=fun b hb o e vs=>by
 obtain ⟨_,o',e',d⟩:=I.funs.mem hb;rw [e] at e';cases e';exact d vs
theorem Inv.fsFree (I:Inv X pins σ H' s'):∀ b∈X.fs,H' b=none:=fun b hb=>by
 obtain ⟨_,o,ho,_⟩:=I.ok.funs.mem hb;exact I.base.free b o ho (I.ok.frf b hb) fun z=>I.ok.exfs b z hb
def abd (hex:X.ex=[]) (hst:X.stack=X.env::X.outer) (hf:X.env.frame=some X.env.locals) (I:Inv X pins σ H' s') (hx:Heap.MadeExcOf s'.heap h'' e (.ref C) args) (hE:E (.ref C) none H') :
  wpAny (model X.prog X.w) X.A (leaving X.env (.ref e)) (fun _ s''=>CX1 X.prog X.w X.outer X.H₀ X.s₀ E (.ref e) s'') E2 { s' with heap:=h'' }:=by
 have I2:Inv X pins σ H' { s' with heap:=h'' }:=I.kept (t':=s'.toks) hx.keeps;have fr:=I.stack;have hin:∀ env∈X.stack,∀ b,env.frame=some b->b∈frs X.stack:=fun env he b hb=>List.mem_filterMap.mpr ⟨env,he,hb⟩
 have fh:=PySem.W.funFrames_hide (h:=s'.heap) fr hin;rw [hst] at fh;refine wpAny_leaves_madeW (base:=PySem.W.hideAll s'.heap (frs (X.env::X.outer))) (h:=s'.heap) (L:=X.env.locals) (by rw [I.ok.frames,hst]) hf (fun b o q=>PySem.W.of_hideAll _ q) fh hx fun h4 t fl _ _ up=>?_
 have hB:StB X.fs X.s₀.heap H' h'' (PySem.W.hideAll s'.heap (frs (X.env::X.outer))):=fun b o eb hh hb=>by
  obtain ⟨o',e'⟩:∃ o',s'.heap.get? b=some o':=by
   rcases hh with ⟨v,e0⟩ | n
   .exact I.base.there b v e0 (by rw [hex];simp)
   .cases q:H' b with
    | none=>exact absurd q n
    | some ob=>exact (I.hok b ob q).there
  have e2:=hx.keeps b o' e';rw [eb] at e2;cases e2;refine PySem.W.hideAll_get _ e' ?_;rw [<- hst,yW hst hf];intro z;rcases vR.mp z with z | z
  .exact I.notLoc hh z
  .exact hb z
 have u:=I2.base;rw [hex] at u;obtain ⟨u1,u2,u3⟩:=zZ u I2.hok I2.fsFree I2.fsData hB fl.1 up;exact ⟨e,C,_,H',_,rfl,I.os,I.bare,u1,u2,fl,u3,hE⟩
def W9 (hex:X.ex=[]) (hst:X.stack=X.env::X.outer) (hf:X.env.frame=some X.env.locals) {ev:Value} (I:Inv X pins σ H s) (hc:CX1 X.prog X.w X.stack H s E ev s') :
  wpAny (model X.prog X.w) X.A (leaving X.env ev) (fun _ s''=>CX1 X.prog X.w X.outer X.H₀ X.s₀ E ev s'') E2 s':=by
 obtain ⟨e,C,a0,H',B,rfl,ho,hg,u,hok,fl,hB,hE⟩:=hc;have I':Inv X pins σ H' s':=I.call' (ch:=[]) ho u hok hg fun b hb=>nomatch hb
 rw [hst] at fl;refine wpAny_leaves_onW (L:=X.env.locals) (by rw [I.ok.frames,hst]) hf fl fun h4 fl4 up=>?_
 have hB':StB X.fs X.s₀.heap H' s'.heap B:=fun b o eb hh hb=>by
  refine hB b o eb ?_ ?_
  .rcases hh with ⟨v,e0⟩ | n
   .exact .inl (I.base.there b v e0 (by rw [hex];simp))
   .exact .inr n
  .rw [yW hst hf];intro z;rcases vR.mp z with z | z
   .exact I'.notLoc hh z
   .exact hb z
 have u':=I'.base;rw [hex] at u';obtain ⟨u1,u2,u3⟩:=zZ u' I'.hok I'.fsFree I'.fsData hB' fl4.1 up;exact ⟨e,C,a0,H',B,rfl,I'.os,I'.bare,u1,u2,fl4,u3,hE⟩
end
structure XOk (X:Cx) (E:XK):Prop where
 rz:∀ (pins:w4) (σ:St) (H':Hp) (s':Shared) (e C:Addr) (h'':Heap) (args:zg),Inv X pins σ H' s'->Heap.MadeExcOf s'.heap h'' e (.ref C) args->E (.ref C) none H'->X.xe (.ref e) { s' with heap:=h'' }
 pass:Passes (CX1 X.prog X.w) X E
theorem Uu {K:zd}{mg:w8}{base:Heap}{N:zk}{qual:Str}{scope:Scope}{f:Addr}{cd:Value}{A:Around}{outer:List Env}{s:Shared}{E:XK} :
  XOk (fY (CX1 P w) P w K mg base N qual scope f cd A outer s H E) E :=
 ⟨fun pins σ H' s' e C h'' args I hx hE=>abd (X:=fY (CX1 P w) P w K mg base N qual scope f cd A outer s H E) rfl rfl rfl I hx hE,fun pins σ H1 s1 ev s' I hc=>W9 (X:=fY (CX1 P w) P w K mg base N qual scope f cd A outer s H E) rfl rfl rfl I hc⟩
section
variable {P:Program}{w:World}{K:zd}{mg:w8}{base:Heap}{k:Nat}{f:Addr}{fd:FuncData}{ps:zk}{sp spx:Sp}
theorem FnOk.calmed (F:FnOk P w K mg base (CX1 P w) k f fd ps spx) (h:∀ vs H Q E,sp vs H Q E->spx vs H Q E0):FnOk P w K mg base CX0 k f fd ps sp :=
 ⟨fun vs H Q E q=>F.len _ _ _ _ (h vs H Q E q),fun A outer s H args us vs Q E hr he hb hv hs=>codeAny_mono (F.run A outer s H args us vs Q E0 hr he hb hv (h vs H Q E hs)) fun r s' hq=>by
  cases r with
  | error e=>obtain ⟨_,_,_,_,_,_,_,_,_,_,_,_,z⟩:=hq;exact z.elim
  | ok fl=>cases fl <;> exact hq⟩
theorem FnOk.lifted (F:FnOk P w K mg base CX0 k f fd ps sp):FnOk P w K mg base (CX1 P w) k f fd ps sp :=
 ⟨F.len,fun A outer s H args us vs Q E hr he hb hv hs=>codeAny_mono (F.run A outer s H args us vs Q E hr he hb hv hs) fun r s' hq=>by
  cases r with
  | error e=>exact js hq
  | ok fl=>cases fl <;> exact hq⟩
end
noncomputable abbrev Ie:zg:=[.type "ValueError",.type "Exception",.type "BaseException",.type "object"]
section
variable {X:Cx}{E:XK}{x:Str}{C:Addr}{np cpos pos tp:Pos}{tx:Str}{k:Nat}
def VL (XO:XOk X E) (hc:X.calm=true) (hg:Gl X x) (hm:X.mg x=some (.ref C)) (hq:PySem.W.excIn X.K C Ie "ValueError.__new__"=true) (hd:(x == ("__debug__":Str))=false) :
  PS X (.Raise (some (.Call (.Name x np) [.Constant (.str tx) k tp] [] cpos)) none pos) (fun _ _ H=>E (.ref C) none H):=by
 intro pins s σ H D I hE;unfold PySem.W.excIn at hq;split at hq
 .rename_i dd cd sl ho;split at hq
  .rename_i C' bm k0 k1 k2 k3 n k5 hm' hs;simp only [Bool.and_eq_true,beq_iff_eq,Bool.not_eq_true'] at hq;obtain ⟨⟨⟨⟨⟨rfl,rfl⟩,hdel⟩,ht⟩,hok⟩,hni⟩:=hq;obtain ⟨nm,bs,mro,ns,qn,hdc,sn,sub,ab,col,del⟩:=cd;dsimp only at hm' hdel hok hni;subst hm' hdel;have hsl:sl=#[k0,k1,k2,k3,some (.builtin "ValueError.__new__"),k5]:=by
    obtain ⟨l⟩:=sl;simp only at hs;rw [hs]
   subst hsl;have T0:=PySem.W.tail_of_in (bmB:=Ie) I.kIn ht;refine wpAny_Raise_call_subT (C:=C') (nm:=nm) (q:=qn) (N:=ns) (bs:=bs) (bm:=bm) (hdct:=hdc) (sn:=sn) (sub:=sub) (ab:=ab) (col:=col) (dd:=dd) (k0:=k0) (k1:=k1) (k2:=k2) (k3:=k3) (k5:=k5) (mN:=X.base.nsMap ns) PySem.F.excBase_ValueError (T0.hasType PySem.F.excBase_ValueError.hasBase) (I.ok.hd hc) rfl (PySem.W.nsMap_none_of_in I.mod.kin hok hni) (rD I hg hm ⟨rfl,?_⟩ hd);have hpa:=(fG (Kq (X:=X)) jg:PA X [.Constant (.str tx) k tp] _) cpos pins s σ H (fun vs H1=>H1=H/\vs.length=1) I ⟨rfl,rfl⟩;refine Calls.evalArgs_plain (thn hpa fun us s1 ⟨vs,H1,I1,r1,e1,e2⟩=>?_);subst e1;refine ⟨rfl,by rw [<- r1.length,e2];decide,I1.kIn _ _ ho,(Heap.Ns.of_isNs (PySem.W.isNs_of_in I.mod.kin hok)).keeps I1.bk,PySem.W.tail_of_in I1.kIn ht,fun h' e hmd=>?_⟩;exact XO.rz pins σ H1 s1 e _ h' _ I1 hmd hE
  .cases hq
 .cases hq
end
end L2
namespace PySem.W
open PySem PySem.Spec PySem.Calls PyProof.Rows Builtin Builtin.Getset_descriptor
variable {h:Heap}
open Builtin.ObjectAttr in
section
variable {prog:Program}{w:World}{A:Around}{E:zb}{s:Shared}{K:Frag}{x C:Addr}
structure XcK (K:Frag) (C:Addr):Prop where
 exc:excIn K C L2.Ie "ValueError.__new__"=true
 cls:(clsIn K C).isSome=true
 get:findIn K (.ref C) "__class__"=some (some (.builtin "object.__class__"))
 spec:specialIn K (.builtin "object.__class__") "__get__"=some (some (.builtin "getset_descriptor.__get__"))
 take:takesIn K (.builtin "object.__class__")=some true
 obj:mroIn K C (.type "object")=some true
 ga:findIn K (.ref C) "__getattribute__"=some (some (.builtin "BaseException.__getattribute__"))
 no:findIn K (.ref C) "__getattr__"=some none
 sub:subIn K (.ref C) (.type "BaseException")=some true
def Bp (x C:Addr) (h:Heap):Prop:=∃ o,h.get? x=some o/\o.cls=.ref C
theorem Bp.ty {M:Model} (I:Bp x C h):Looks M h (typeOf (.ref x)) (.ref C):=by
 obtain ⟨o,h1,h2⟩:=I;exact h2 ▸ (Looks.ld h1).andThen .now
variable (Z:XcK K C)
include Z
theorem Yl {M:Model} (X:K.In h):Looks M h (find (.ref x) (.ref C) "__class__") (.bind (.builtin "getset_descriptor.__get__") (.builtin "object.__class__")) :=
 (looks_findIn (M:=M) X Z.get).andThen ((show Looks M h (getOf (some (.builtin "object.__class__"))) _ from looks_specialIn X Z.spec).andThen
  ((show Looks M h (dataDescriptor? (some (.builtin "object.__class__")) (some (.builtin "getset_descriptor.__get__"))) (some (.builtin "getset_descriptor.__get__",.builtin "object.__class__")) from (looks_takesIn (M:=M) X Z.take).andThen .now).andThen (Looks.tag .now)))
def aaJ {tp:Value}{R:Result -> Shared -> Prop} (X:K.In s.heap) (I:Bp x C s.heap) (hR:R (.ok (.ret (.ref C))) s):codeAny (model prog w) A (.call (.builtin "getset_descriptor.__get__") ⟨[.builtin "object.__class__",.ref x,tp],[]⟩) R s:=by
 obtain ⟨hh,g,dr,t,os⟩:=s;have L0:=I.ty (M:=model prog w);have L1:=looks_mroIn (M:=model prog w) X Z.obj;refine codeAny_call_builtin KF.slot_gs.plain KF.entry_gs (KF.slot_gs.check _ _ _ _ _ _ _ _ KF.type_class (KF.args_gs _ _ _) (show wpAny _ _ (Builtin.«getset_descriptor.__get__» _) _ _ _ from ?_));unfold Builtin.«getset_descriptor.__get__» descrGet;rw [dga_obj];refine zz (z0 ?_);unfold descrGetter descrCheckInstance descrNameAndClass isInstance;simp only [KF.owner_class]
 repeat lk
 refine ⟨Code.quiet_builtin _ (by decide +kernel),codeAny_builtin KF.entry_class (show wpAny _ _ (Builtin.«object.__class__» _) _ _ _ from ?_)⟩;unfold Builtin.«object.__class__» shownTypeOf;repeat lk
 exact hR
def V7 {tk:Tok}{Q:Fin->Shared->Prop} (X:K.In s.heap) (I:Bp x C s.heap) (hq:Q (.done (.ret (.ref C))) s) :
  wpAny (model prog w) A (Builtin.«object.__getattribute__» ⟨[.ref x,.str "__class__" tk],[]⟩) Q E s:=by
 obtain ⟨hh,gg,d,t,os⟩:=s;have L0:=I.ty (M:=model prog w);have L1:=Yl (x:=x) (M:=model prog w) Z X;unfold Builtin.«object.__getattribute__»
 repeat (first | refine wpAny_call (aaJ Z X I ?_) | lk)
 exact hq
def Ww {M:Model}{nameV:Value}{Q:Unit -> Shared -> Prop} (X:K.In s.heap) (I:Bp x C s.heap) (hq:Q () s):wpAny M A (checkBuiltinCall "BaseException.__getattribute__" ⟨[.ref x,nameV],[]⟩) Q E s:=by
 obtain ⟨hh,gg,d,t,os⟩:=s;have L0:=I.ty (M:=M);have L1:=looks_subIn (M:=M) X Z.sub;have ek:builtinKind "BaseException.__getattribute__"=some .slot:=by decide +kernel
 have es:splitId "BaseException.__getattribute__"=some ("BaseException","__getattribute__"):=by decide +kernel
 have ea:=F.args_bexc_ga (.ref x) nameV;simp only [checkBuiltinCall,ek,es];unfold isInstance
 repeat (first | assumption | lk | wp_step)
def Yv {Q:Option Value -> Shared -> Prop} (X:K.In s.heap) (I:Bp x C s.heap) (hq:Q (some (.ref C)) { s with toks:=s.toks+1 }):wpAny (model prog w) A (getAttr? (.ref x) "__class__") Q E s:=by
 obtain ⟨hh,g,d,t,os⟩:=s;have L0:=I.ty (M:=model prog w);have L1:=looks_findIn (M:=model prog w) X Z.ga;have L2:=looks_findIn (M:=model prog w) X Z.no;have f3:=F.attr_ValueError.ga.bind (.ref x);have y2:(Value.builtin "BaseException.__getattribute__" == Value.builtin "object.__getattribute__")=false:=by decide +kernel
 have y1:(onTheHeap (Value.ref C) && Value.builtin "BaseException.__getattribute__" == Value.builtin "object.__getattribute__")=false:=by rw [y2]; rfl
 unfold getAttr? getAttrBy? getAttrBy;refine zz (wpAny_mkText (zz (wpAny_attempt (wpAny_holding (zz (L0.at (zz (L1.at (show wpAny _ _ _ _ _ _ from ?_)))))))));dsimp only;rw [y1,if_neg Bool.false_ne_true];show wpAny _ _ (getAttrByItsOwn _ _ _ _ _ _) _ _ _
 repeat (any_goals (first | assumption | with_reducible refine L2.at ?_ | wp_step))
 refine codeAny_call_builtin F.attr_ValueError.ga.plain F.entry_bexc_ga (Ww Z X I (V7 Z X I ?_))
 repeat (any_goals (first | assumption | wp_step))
theorem VG:KitX K (.ref x) (.ref C) (Bp x C) where
 ty:=fun _ _ _ I=>I.ty
 it:=fun _ _ X _=>by
  obtain ⟨cz,hz⟩:=y0.mp Z.cls;unfold clsIn at hz;split at hz
  .rename_i c1 d1 cd1 sl1 h1;intro A2 Q2 E2 s2 k2 q2;unfold isType loadHead;exact zz (wpAny_loadPart (k2 _ _ (X _ _ h1)) (z0 q2))
  .cases hz
 ne:=fun h tp dd its n sl X htp=>by
  obtain ⟨cz,hz⟩:=y0.mp Z.cls;refine Bool.eq_false_iff.mpr fun q=>?_
  cases Value.ref.inj (beq_iff_eq.mp q);unfold clsIn at hz;split at hz
  .rename_i c1 d1 cd1 sl1 h1;exact absurd ((X _ _ h1).symm.trans htp) (fun z=>by cases z)
  .cases hz
 ca:=fun X I k=>Yv Z X I k
end
end PySem.W
namespace L2
open PySem PySem.Spec PyProof.Rows
noncomputable def Vw:Value->V
 | .ref a=>.ref a
 | .type n=>.ty n
 | _=>.non
def JW (X:Cx) (k:Str) (c:Value):Prop:=(∃ a,c=.ref a /\ X.mg k=some (.ref a)) \/ (∃ n,c=.type n /\ X.mg k=none /\ bootBuiltins k=some (.type n) /\ k ≠ "__name__")
section
variable {X:Cx}{e C:Addr}{oe:Obj}{n k:Str}{c:Value}{p1 p2 p3 p4:Pos}{i:Nat}
def abP (hg:Gl X k) (h:JW X k c) (hd:(k == ("__debug__":Str))=false):PE X (.Name k p1) (tC (Vw c)):=by
 rcases h with ⟨a,rfl,hm⟩ | ⟨n,rfl,hm,hb,hn⟩
 .exact Ed hg hm rfl hd
 .exact rE hg hm hb rfl hn hd
def U8 (h:JW X k c) {u:Value} (r:RelV (Vw c) u):u=c:=by
 rcases h with ⟨a,rfl,_⟩ | ⟨n,rfl,_⟩ <;> exact r
def adi (X:Cx) (e C:Addr):List V->Hp->VK->Prop:=fun xs H Q=>∃ k c b,JW X k c/\xs=[.ref e,Vw c]/\PySem.W.kitOne X.K (.ref C) c=some b/\Q (.bl b) H
def Vp (hpn:(e,oe) ∈ X.pn) (hc:oe.cls=.ref C) (Z:PySem.W.XcK X.K C):lu X (.builtin "isinstance") (adi X e C):=by
 intro pins s σ H xs us Q I r h;obtain ⟨k,c,b,hk,rfl,hkit,q⟩:=h;obtain ⟨u,w',rfl,ru,rw'⟩:=vals2 r;cases ru;have hw:=U8 hk rw';subst hw;have hp:=I.pin (e,oe) (vj _ hpn);refine PySem.W.kia_one (PySem.W.VG Z) I.kIn ⟨oe,hp.1,hc⟩ hkit (fun z=>nomatch z) fun tk=>⟨.bl b,H,I.tok _,rfl,q⟩
inductive IsxAll (X:Cx) (n:Str) (C:Addr):zl->List V->Prop
 | nil:IsxAll X n C [] []
 | cons {p1 p2 p3 p4:Pos}{k:Str}{c:Value}{b:Bool}{es:zl}{bs:List V}:Gl X k -> (k == ("__debug__":Str))=false -> JW X k c -> PySem.W.kitOne X.K (.ref C) c=some b -> IsxAll X n C es bs ->
   IsxAll X n C (.Call (.Name "isinstance" p1) [.Name n p2,.Name k p3] [] p4::es) (.bl b::bs)
 | txt {p:Pos}{j:Nat}{k:Str}{es:zl}{bs:List V}:IsxAll X n C es bs->IsxAll X n C (.Constant (.str k) j p::es) (.str k::bs)
theorem VH:bootBuiltins "isinstance"=some (.builtin "isinstance"):=boot_isinstance
theorem KC (hpn:(e,oe) ∈ X.pn) (hc:oe.cls=.ref C) (Z:PySem.W.XcK X.K C) (hi:X.N[i]?=some n) (hv:Vis X.env.scope n) (hd1:(n == ("__debug__":Str))=false) (hd2:(n == ("__classdict__":Str))=false)
  (hg:Gl X "isinstance") (hm:X.mg "isinstance"=none):∀ {es:zl}{bs:List V},IsxAll X n C es bs -> PA X es (fun σ H Q=>σ[i]?=some (some (.ref e)) /\ Q bs H)
 | _,_,.nil=>fun pos pins s σ H Q I h=>jg pos pins s σ H Q I h.2
 | _,_,.cons hgk hdk hk hkit t=>fun pos pins s σ H Q I h=>by
  have ih:=KC hpn hc Z hi hv hd1 hd2 hg hm t;refine fG (lC (Vp hpn hc Z) hg hm VH (fG (jW hi hv hd1 hd2) (fG (abP hgk hk hdk) jg)) (by decide) (by decide)) ih rfl pos pins s σ H Q I ?_;exact ⟨.ref e,h.1,_,_,_,hk,rfl,hkit,h.1,h.2⟩
 | _,_,.txt t=>fun pos pins s σ H Q I h=>by
  have ih:=KC hpn hc Z hi hv hd1 hd2 hg hm t;exact fG Kq ih rfl pos pins s σ H Q I h
end
variable {pn:w4}{oe:Obj}{e:Addr}{n:Str}
section
variable {X:Cx}{pins pins':w4}{σ:St}{H H':Hp}{s s':Shared}{h':Heap}{D:Ends}
theorem Inv.lost {m':w8}{t:Nat} (I:Inv X pins σ H s) (hn:h'.Ns X.env.locals m') (hs:Heap.SameBut X.env.locals s.heap h'):Inv X pins (List.replicate X.N.length none) H { s with heap:=h',toks:=t }:=by
 have ne:∀ b o,X.s₀.heap.get? b=some o->b≠X.env.locals:=fun b o e=>vz (vT (vx e) I.ok.above)
 refine ⟨I.ok,I.os,I.bare,⟨fun b o e n hb hx=>(hs.2 b (ne b o e)).trans (I.base.keep b o e n hb hx),fun b o e n hb hx=>?_,I.base.free,fun b o e hx=>?_,I.base.tups,I.base.frzs,I.base.tbls⟩,⟨m',hn,fun i x v e1 e2=>?_⟩,fun y c e=>?_,I.free,I.freeC,fun p hp=>?_,fun b ob e=>?_,by simp⟩
 .obtain ⟨sl,e1⟩:=I.base.slot b o e n hb hx;exact ⟨sl,(hs.2 b (ne b o e)).trans e1⟩
 .obtain ⟨o',e1⟩:=I.base.there b o e hx;exact ⟨o',(hs.2 b (ne b o e)).trans e1⟩
 .rw [List.getElem?_replicate] at e2;split at e2 <;> cases e2
 .obtain ⟨w',z⟩:=I.cell y c e;exact ⟨w',z.sameBut hs (I.cne y c e)⟩
 .obtain ⟨e,n,ne',nf,d⟩:=I.pin p hp;exact ⟨(hs.2 p.1 ne').trans e,n,ne',nf,d⟩
 .refine (I.hok b ob e).stay (fun c v hc q=>(hs.2 c ?_).trans q) (fun _ q=>q) fun _ _ q=>q
  rintro rfl;rcases hc with rfl | hc
  .rw [I.free] at e;cases e
  .rw [I.free] at hc;cases hc
def Qp (X:Cx) (pins:w4) (D:Ends) (hs:List ExceptHandler):zb:=fun ev s1=>wpAny (model X.prog X.w) X.A (noteFrame ev X.env) (fun _ s2=>wpAny (model X.prog X.w) X.A (setFlight ev none) (fun _ s3=>wpAny (model X.prog X.w) X.A (handleBy ev X.env hs) (SP X pins D) X.xe s3) X.xe s2) X.xe s1
noncomputable abbrev nP (X:Cx) (pins:w4) (D:Ends) (hs:List ExceptHandler):Cx:={ X with pn:=X.pn++pins,xe:=Qp X pins D hs }
theorem Cx.Ok.re (ok:X.Ok) (pn:w4) (E:zb):({ X with pn:=pn,xe:=E }:Cx).Ok :=
 ⟨ok.mod,ok.kind,ok.glob,ok.blt,ok.above,ok.inj,ok.has,ok.cab,ok.hd,ok.frames,ok.stk,ok.exf,ok.bs,ok.bsz,ok.noex,ok.exfs,ok.funs,ok.frf,ok.tab⟩
theorem Cx.Ok.unre {E:zb} (ok:({ X with pn:=pn,xe:=E }:Cx).Ok):X.Ok :=
 ⟨ok.mod,ok.kind,ok.glob,ok.blt,ok.above,ok.inj,ok.has,ok.cab,ok.hd,ok.frames,ok.stk,ok.exf,ok.bs,ok.bsz,ok.noex,ok.exfs,ok.funs,ok.frf,ok.tab⟩
theorem Inv.toTry {hs:List ExceptHandler} (I:Inv X pins σ H s):Inv (nP X pins D hs) [] σ H s :=
 ⟨I.ok.re _ _,I.os,I.bare,I.base,I.loc,I.cell,I.free,I.freeC,fun p hp=>I.pin p (by rw [List.append_nil] at hp;exact hp),I.hok,I.len⟩
theorem Inv.ofTry {hs:List ExceptHandler} (I:Inv (nP X pins D hs) pins' σ H s):Inv X pins σ H s :=
 ⟨I.ok.unre,I.os,I.bare,I.base,I.loc,I.cell,I.free,I.freeC,fun p hp=>I.pin p (vj _ hp),I.hok,I.len⟩
theorem SP.ofTry {hs:List ExceptHandler}{f:Flow} (h:SP (nP X pins D hs) pins' D f s):SP X pins D f s:=by
 cases f with
 | next=>obtain ⟨σ',H',I,q⟩:=h;exact ⟨σ',H',I.ofTry,q⟩
 | brk=>obtain ⟨σ',H',I,q⟩:=h;exact ⟨σ',H',I.ofTry,q⟩
 | cont=>obtain ⟨σ',H',I,q⟩:=h;exact ⟨σ',H',I.ofTry,q⟩
 | ret u=>obtain ⟨v,σ',H',I,r,q⟩:=h;exact ⟨v,σ',H',I.ofTry,r,q⟩
def Zd {body:zn}{h₀:ExceptHandler}{pos:Pos}{tb:TS} (I:Inv X pins σ H s) (hb:PSs (nP X pins D [h₀]) body tb) (ht:tb D σ H) :
  wpAny (model X.prog X.w) X.A (exec (.Try body [h₀] [] [] pos) X.env) (SP X pins D) X.xe s:=by
 refine wpAny_Try_except (wpAny_mono (hb [] s σ H D I.toTry ht) (fun f s1 q=>?_) fun e s1 q=>q);have q':=SP.ofTry q;cases f with
 | next=>exact z0 q'
 | brk=>exact q'
 | cont=>exact q'
 | ret u=>exact q'
noncomputable abbrev hCx (X:Cx) (pn:w4) (e:Addr):Cx:={ X with A:=X.A.mark (some (.ref e)),calm:=false,pn:=pn,xe:=fun _ _=>False }
theorem Cx.Ok.toH (ok:X.Ok) (pn:w4) (e:Addr):(hCx X pn e).Ok :=
 ⟨ok.mod,ok.kind,ok.glob,ok.blt,ok.above,ok.inj,ok.has,ok.cab,(fun z=>nomatch z),ok.frames,ok.stk,ok.exf,ok.bs,ok.bsz,ok.noex,ok.exfs,ok.funs,ok.frf,ok.tab⟩
theorem Inv.toH (I:Inv X pins σ H s) (e:Addr)  (h1:s.heap.get? e=some oe) (h2:H e=none) (h3:e≠X.env.locals) (h4:e ∉ X.fs) (h5:∀ v,oe.data≠.cell v):Inv (hCx X ((e,oe)::(X.pn++pins)) e) [] σ H s :=
 ⟨I.ok.toH _ _,I.os,I.bare,I.base,I.loc,I.cell,I.free,I.freeC,fun p hp=>by
  rw [List.append_nil] at hp;rcases vR.mp hp with rfl | hp
  .exact ⟨h1,h2,h3,h4,h5⟩
  .exact I.pin p hp,I.hok,I.len⟩
theorem Inv.ofH (ok:X.Ok) (I:Inv (hCx X ((e,oe)::(X.pn++pins)) e) pins' σ H s):Inv X pins σ H s :=
 ⟨ok,I.os,I.bare,I.base,I.loc,I.cell,I.free,I.freeC,fun p hp=>I.pin p (vj _ (ve _ hp)),I.hok,I.len⟩
def abH (X:Cx) (i:Nat) (C:Addr) (re:Expr) (H':Hp) (Q:VK):Prop:=∃ t:TE,(∀ pn e oe,(e,oe)∈pn->oe.cls=.ref C->PE (hCx X pn e) re (fun σ H Q=>σ[i]?=some (some (.ref e))/\t σ H Q))/\∀ σ,t σ H' Q
def abv (X:Cx) (D:Ends) (i:Nat) (Ch:Addr) (re:Expr):XK:=fun c _ H'=>∃ C,c=.ref C/\PySem.W.XcK X.K C/\PySem.W.exmOne X.K (.ref C) (.ref Ch)=some true/\abH X i C re H' D.rt
theorem IsxAll.toH {n:Str}{C e:Addr}{pn:w4}:∀ {es:zl}{bs:List V},IsxAll X n C es bs->IsxAll (hCx X pn e) n C es bs
 | _,_,.nil=>.nil
 | _,_,.cons a b c d t=>.cons a b c d (IsxAll.toH t)
 | _,_,.txt t=>.txt (IsxAll.toH t)
section
variable {i:Nat}{n:Str}{C:Addr}{H₁:Hp}{Q:VK} (Z:PySem.W.XcK X.K C) (hi:X.N[i]?=some n) (hloc:X.env.scope.names.lookup n=some .local) (hd1:(n == ("__debug__":Str))=false) (hd2:(n == ("__classdict__":Str))=false) (hgi:Gl X "isinstance") (hmi:X.mg "isinstance"=none)
include Z hi hloc hd1 hd2 hgi hmi
def Wt {es:zl}{bs:List V}{lp:Pos} (hall:IsxAll X n C es bs) (hbl:bs.length<=sizeLine) (hrt:∀ p,H₁ p=none->Q (.ref p) (upd H₁ p (.lst bs))):abH X i C (.List es lp) H₁ Q:=by
 refine ⟨fun σ H Q=>bs.length<=sizeLine/\∀ p,H p=none->Q (.ref p) (upd H p (.lst bs)),fun pn e oe hm hc=>?_,fun σ=>⟨hbl,hrt⟩⟩;intro pins s σ H Q I h;refine uW (KC (X:=hCx X pn e) (i:=i) hm hc Z hi (.inl hloc) hd1 hd2 hgi hmi hall.toH) pins s σ H Q I ?_;exact ⟨h.1,h.2.1,h.2.2⟩
end
def caught {i:Nat}{hx:Str}{re:Expr}{np rp hp:Pos}{Ch:Addr}{ev:Value} (hst:X.stack=X.env::X.outer) (hf:X.env.frame=some X.env.locals) (hN:X.N.Nodup) (hi:X.N[i]?=some n) (hloc:X.env.scope.names.lookup n=some .local)
  (hgx:Gl X hx) (hmx:X.mg hx=some (.ref Ch)) (hdx:(hx == ("__debug__":Str))=false)
  (I:Inv X pins σ H s) (hc:CX1 X.prog X.w X.stack H s (abv X D i Ch re) ev s') :
  Qp X pins D [.ExceptHandler (some (.Name hx np)) (some n) [.Return (some re) rp] hp] ev s':=by
 obtain ⟨e,C,a0,H',B,rfl,ho,hg,u,hok,fl,hB,hE⟩:=hc;have I':Inv X pins σ H' s':=I.call' (ch:=[]) ho u hok hg fun b hb=>nomatch hb
 have ffr:=I'.stkFree;have ffd:∀ b∈frs X.stack,∀ o,s'.heap.get? b=some o->∀ vs,o.data≠.fields vs:=fun b hb o e vs=>by
  obtain ⟨_,o',e',d⟩:=I'.stack.mem hb;rw [e] at e';cases e';exact d vs
 obtain ⟨C',hCe,Z,hmatch,tr,hpe,htr⟩:=hE;cases hCe;show wpAny _ _ (noteFrame (.ref e) X.env) _ _ _
 have fl0:=fl;rw [hst] at fl0;refine wpAny_looks_onW (L:=X.env.locals) (by rw [I.ok.frames,hst]) hf fl0 fun h4 hd4 up4=>?_
 refine wpAny_landsW hd4 fun h5 fl5 up5=>?_
 obtain ⟨u5,hok5,hB5⟩:=zZ u hok ffr ffd hB fl5.1 (up4.trans up5);have I5:Inv X pins σ H' { s' with heap:=h5 }:=I.call' (s':={ s' with heap:=h5 }) (ch:=[]) ho u5 hok5 hg fun b hb=>nomatch hb
 have own:∀ {h:Heap}{σ0:St},Heap.FlyingW B (X.env::X.outer) e (.ref C) a0 h->StB (frs X.stack) s.heap H' h B->Inv X pins σ0 H' { s' with heap:=h }->∃ oe,h.get? e=some oe/\oe.cls=.ref C/\H' e=none/\e≠X.env.locals/\e ∉ X.fs/\(∀ v,oe.data≠.cell v):=fun {h σ0} fy hb J=>by
  obtain ⟨oe,vs,he,hcl,hdt,_⟩:=fy.first;have hne:e ∉ frs X.stack:=fun z=>by
   obtain ⟨_,o',e',d⟩:=J.stack.mem z;have e'':h.get? e=some o':=e';rw [he] at e'';cases e'';exact d vs hdt
  have hne2:=hne;rw [yW hst hf] at hne2;refine ⟨oe,he,hcl,?_,fun z=>hne2 (by rw [z];exact vi),fun z=>hne2 (ve _ z),fun v z=>by rw [hdt] at z;cases z⟩;cases q:H' e with
  | none=>rfl
  | some ob =>
   have:=hB;have z:=hb e oe he (.inr (by rw [q];exact fun z=>nomatch z)) hne;rw [fy.2.1] at z;cases z
 obtain ⟨oe,he,hcl,hHe,hel,hefs,hcell⟩:=own fl5 hB5 I5;have J5:=I5.toH e he hHe hel hefs hcell;refine wpAny_handleBy_cons (codeAny_handlers_test ?_) (by intro q;cases q);refine rD (X:=hCx X ((e,oe)::(X.pn++pins)) e) J5 hgx hmx ?_ hdx;have LT:PySem.W.Looks (model X.prog X.w) h5 (typeOf (.ref e)) (.ref C):=hcl ▸ (PySem.W.Looks.ld he).andThen .now;refine (PySem.W.exm_one (M:=model X.prog X.w) (h:=h5) I5.kIn LT hmatch).here ?_;show codeAny _ _ _ _ _
 refine codeAny_handlers_suite_as ?_;refine lands_againW fl5 fun h6 fl6 up6=>?_
 obtain ⟨u6,hok6,hB6⟩:=zZ u hok ffr ffd hB fl6.1 ((up4.trans up5).trans up6);have I6:Inv X pins σ H' { s' with heap:=h6 }:=I.call' (s':={ s' with heap:=h6 }) (ch:=[]) ho u6 hok6 hg fun b hb=>nomatch hb
 obtain ⟨oe6,he6,hcl6,hHe6,hel6,hefs6,hcell6⟩:=own fl6 hB6 I6;have J6:=I6.toH e he6 hHe6 hel6 hefs6 hcell6;have hset:(σ.set i (some (V.ref e)))[i]?=some (some (.ref e)):=by
  rw [List.getElem?_set_self];have:=I.len;rw [this];exact (yB.mp hi).1
 refine Ij (X:=hCx X ((e,oe6)::(X.pn++pins)) e) J6 hN hi (.inl hloc) (show RelV (.ref e) (.ref e) from rfl) (fun s7 J7=>?_) (.inr hloc);refine wpAny_mono ((zY (Ja (hpe _ _ _ vi hcl6))) [] s7 _ H' { nx:=fun _ _=>False,rt:=D.rt } J7 ⟨hset,htr _⟩) (fun f s8 q=>?_) fun _ _ z=>z.elim
 cases f with
 | next=>obtain ⟨_,_,_,z⟩:=q;exact z.elim
 | brk=>obtain ⟨_,_,_,z⟩:=q;exact z.elim
 | cont=>obtain ⟨_,_,_,z⟩:=q;exact z.elim
 | ret uu =>
  obtain ⟨v,σ8,H8,J8,rv,q8⟩:=q;obtain ⟨m8,hn8,_⟩:=J8.loc;have I8:Inv X pins σ8 _ s8:=J8.ofH I.ok;refine wpAny_nameGoes hloc hn8 (by rw [I.ok.kind];rfl) fun h9 m9 hn9 hs9=>?_
  exact ⟨v,_,_,I8.lost hn9 hs9,rv,q8⟩
end
end L2
namespace Mi
open PySem L2
open PyProof.Rows hiding St
noncomputable def vP (k:D->R Out):R D->R Out
 | .ok d=>k d
 | .exc x=>.exc x
 | .stuck=>.stuck
theorem dY (k:D->R Out) (d:D):vP k (.ok d)=k d:=rfl
theorem cP (k:D->R Out) (x:Xc):vP k (.exc x)=.exc x:=rfl
def vO (T:Tx) (N:zk) (sc:Scope) (f:Nat) (es:List M) (e:Expr):Bool:=jE e fun x as=>aK x && dZ sc x && decide (T.F[f]?=some x) && cB T N es sc as && as.all noStar && !as.isEmpty
def XEnd (g:G) (E:Ent) (Es Hs:Hp) (O':Ow) (D:Ends) (Ez:Str->Hp->Prop):R Out->Prop
 | .ok o=>jH g E Es Hs O' [] D o
 | .exc x=>∀ H' Hs',Grow E.hp Es H' Hs'->Ez x.cls H'
 | .stuck=>False
theorem XEnd.mono {g:G}{E:Ent}{Es Hs Hs1:Hp}{O':Ow}{D:Ends}{Ez:Str->Hp->Prop}{r:R Out} (h:XEnd g E Es Hs O' D Ez r) (m:Same Hs Hs1):XEnd g E Es Hs1 O' D Ez r:=by
 cases r with
 | ok o=>exact jH.mono (inv:=[]) h m
 | exc x=>exact h
 | stuck=>exact h
def tMX (X:Cx) (E:Ent) (Es:Hp) (O:zi) (O':Ow) (Ez:Str->Hp->Prop) (run:En->R Out):TS:=fun D σ H=>∃ ρ Hs,FR (gOf X) E Es O ρ σ H Hs/\XEnd (gOf X) E Es Hs O' D Ez (run ρ)
def aa7 (g:G) (mg:w8) (H Hs:Hp) (Q:VK) (E:XK):R D->Prop
 | .ok d=>∀ v H' Hs',Grow H Hs H' Hs'->Rp g Hs' d v->Q v H'
 | .exc x=>∀ H' Hs' C,mg x.cls=some (.ref C)->Grow H Hs H' Hs'->E (.ref C) none H'
 | .stuck=>False
def spX (g:G) (mg:w8) (c:List D->R D) (np:Nat):Sp:=fun vs H Q E=>∃ ds Hs,vs.length=np/\Same Hs H/\Rps g Hs ds vs/\aa7 g mg H Hs Q E (c ds)
section
variable {T:Tx}{sc:Scope}
def Fq {N:zk}{f:Nat}{es:List M}{e:Expr} (h:vO T N sc f es e=true):∃ x p y ys q,e=.Call (.Name x p) (y::ys) [] q/\aK x=true/\dZ sc x=true/\T.F[f]?=some x/\cB T N es sc (y::ys)=true/\(y::ys).all noStar=true:=by
 obtain ⟨x,p,as,q,rfl,h2⟩:=eG h;simp only [Bool.and_eq_true,decide_eq_true_eq,Bool.not_eq_true'] at h2;obtain ⟨⟨⟨⟨⟨h1,h3⟩,h4⟩,h5⟩,h6⟩,h7⟩:=h2;rcases as with _ | ⟨y,ys⟩
 .cases h7
 exact ⟨x,p,y,ys,q,rfl,h1,h3,h4,h5,h6⟩
end
end Mi
namespace L2
open PySem PySem.Spec PyProof.Rows
end L2
namespace Mi
open PySem L2
open PyProof.Rows hiding St
section
variable {X:Cx}{U:zi}{Ek:XK}{r:En->R D}
def tIx (X:Cx) (Ek:XK) (U:zi) (r:En->R D):TI:=fun σ H R=>∃ ρ Hs,Same Hs H/\Vs (gOf X) ρ σ Hs U/\match r ρ with
 | .ok (.lst ds)=>∀ J H' Hs',Grow H Hs H' Hs'->Src (gOf X) J Hs' ds->R J H'
 | .exc x=>∀ H' Hs' C,X.mg x.cls=some (.ref C)->Grow H Hs H' Hs'->Ek (.ref C) none H'
 | _=>False
noncomputable def abW (f:D->R D):List D->R (List D)
 | []=>.ok []
 | d::ds=>do
  let y <- f d
  let ys <- abW f ds
  .ok (y::ys)
def ab1:D->R (List D)
 | .lst ds=>if ds.length<=lim then .ok ds else .stuck
 | _=>.stuck
def ab3 (rr:R (List D)):R D:=do
 let ys <- rr
 if ys.length<=lim then .ok (.lst ys) else .stuck
end
inductive XE where
 | m (e:M)
 | call (f:Nat) (es:List M)
 | comp (elt:XE) (tg:Tg) (src:XE) (cap:List Bool)
 | tupl (e:XE)
noncomputable def noX:R D->R D
 | .ok d=>.ok d
 | _=>.stuck
noncomputable def acX (cl:List D->R D):R (List D)->R D
 | .ok ds=>cl ds
 | _=>.stuck
noncomputable def acf:D->R D
 | .lst ds=>.ok (.tup ds)
 | _=>.stuck
def J0 (cl:Nat->List D->R D):XE->En->R D
 | .m e,ρ=>noX (evE cl e ρ)
 | .call f es,ρ=>acX (cl f) (bF cl es ρ)
 | .comp elt t src cap,ρ=>do
  let s <- J0 cl src ρ
  let ds <- ab1 s
  ab3 (abW (fun d=>do let ρ' <- eU t d (bA cap ρ);J0 cl elt ρ') ds)
 | .tupl e,ρ=>do
  let d <- J0 cl e ρ
  acf d
def HS:XE->zi
 | .m e=>aD e
 | .call _ es=>aP es
 | .comp elt _ src _=>HS src++HS elt
 | .tupl e=>HS e
end Mi
namespace Mi
open PySem L2
open PyProof.Rows hiding St
end Mi
namespace Mi
open PySem L2
open PyProof.Rows hiding St
noncomputable def lE (x k:Str):Bool:=decide (x=k) || decide (k=("TestError":Str)) || decide (k=("ValueError":Str))
inductive HR where
 | one (i:Nat) (k:Str) | con (b:Bool)
inductive XS where
 | n (m:MS) | rai (c:Str) | ce (f:Nat) (es:List M) | cr (f:Nat) (es:List M) | cs (i f:Nat) (es:List M)
 | cn (i f g:Nat) (es:List M)
 | xr (e:XE) | xs (i:Nat) (e:XE)
 | ifs (c:M) (a b:List XS) | tr (b:List XS) (i:Nat) (hc:Str) (ks:List (Bool × Str)) (xs:zk) | tc (b:List XS) (hc:Str) (h:HR) (xs:zk) | any | lam (g:Nat)
noncomputable def Ra:R Out->R Out
 | .ok o=>.ok o
 | _=>.stuck
def oZ (cl:Nat->List D->R D) (f:Nat) (k:D->R Out):R (List D)->R Out
 | .ok ds=>vP k (cl f ds)
 | _=>.stuck
def heD (x:Str) (k:Bool × Str):D:=if k.1=true then .str k.2 else .bl (lE x k.2)
def uV (hc:Str) (ks:List (Bool × Str)) (xs:zk):R Out->R Out
 | .exc x=>if xs.contains x.cls && lE x.cls hc && decide (ks.length<=lim) then .ok (.rt (.lst (ks.map (heD x.cls)))) else .stuck
 | r=>r
def hrD (x:Str):HR->Bool
 | .one _ k=>lE x k
 | .con b=>b
def Yu (hc:Str) (h:HR) (xs:zk):R Out->R Out
 | .exc x=>if xs.contains x.cls && lE x.cls hc then .ok (.rt (.bl (hrD x.cls h))) else .stuck
 | r=>r
noncomputable def nestD:R D->R Out
 | .exc x=>.exc x
 | _=>.stuck
def ace (cl:Nat->List D->R D) (g:Nat):R (List D)->R Out
 | .ok ds=>nestD (cl g ds)
 | _=>.stuck
noncomputable def Dc (a b:R Out):R D->R Out
 | .ok (.bl true)=>a
 | .ok (.bl false)=>b
 | _=>.stuck
noncomputable def nM (p:D->R D):List D->R Unit
 | []=>.ok ()
 | d::ds=>(match p d with
   | .ok (.bl true)=>nM p ds
   | _=>.stuck)
def PL (cl:Nat->List D->R D) (g:Nat) (ρ:En):R Out:=match eZ ρ 0,eZ ρ 1 with
 | .ok b,.ok (.lst ts)=>(match nM (fun t=>cl g [b,t]) ts with
   | .ok _=>.ok (.nx ρ)
   | _=>.stuck)
 | _,_=>.stuck
mutual
noncomputable def jA (cl:Nat->List D->R D):XS->En->R Out
 | .n m,ρ=>Ra (cF cl m ρ)
 | .rai c,_=>.exc ⟨c,.non⟩
 | .ce f es,ρ=>oZ cl f (fun _=>.ok (.nx ρ)) (bF cl es ρ)
 | .cr f es,ρ=>oZ cl f (fun d=>.ok (.rt d)) (bF cl es ρ)
 | .cs i f es,ρ=>oZ cl f (fun d=>.ok (.nx (ρ.set i (some d)))) (bF cl es ρ)
 | .cn _ _ g es,ρ=>ace cl g (bF cl es ρ)
 | .xr e,ρ=>vP (fun d=>.ok (.rt d)) (J0 cl e ρ)
 | .xs i e,ρ=>vP (fun d=>.ok (.nx (ρ.set i (some d)))) (J0 cl e ρ)
 | .ifs c a b,ρ=>Dc (bN cl a ρ) (bN cl b ρ) (evE cl c ρ)
 | .tr b _ hc ks xs,ρ=>uV hc ks xs (bN cl b ρ)
 | .tc b hc h xs,ρ=>Yu hc h xs (bN cl b ρ)
 | .any,_=>.stuck
 | .lam g,ρ=>PL cl g ρ
noncomputable def bN (cl:Nat->List D->R D):List XS->En->R Out
 | [],ρ=>.ok (.nx ρ)
 | m::ms,ρ=>(match jA cl m ρ with
   | .ok (.nx ρ')=>bN cl ms ρ'
   | r=>r)
end
section
variable (cl:Nat->List D->R D) (ρ:En)
theorem fW (m:MS):jA cl (.n m) ρ=Ra (cF cl m ρ):=rfl
theorem cM (c:Str):jA cl (.rai c) ρ=.exc ⟨c,.non⟩:=rfl
theorem dN (f:Nat) (es:List M):jA cl (.ce f es) ρ=oZ cl f (fun _=>.ok (.nx ρ)) (bF cl es ρ):=rfl
theorem dG (f:Nat) (es:List M):jA cl (.cr f es) ρ=oZ cl f (fun d=>.ok (.rt d)) (bF cl es ρ):=rfl
theorem dF (i f:Nat) (es:List M):jA cl (.cs i f es) ρ=oZ cl f (fun d=>.ok (.nx (ρ.set i (some d)))) (bF cl es ρ):=rfl
theorem cu (c:M) (a b:List XS):jA cl (.ifs c a b) ρ=Dc (bN cl a ρ) (bN cl b ρ) (evE cl c ρ):=rfl
theorem dB (b:List XS) (i:Nat) (hc:Str) (ks:List (Bool × Str)) (xs:zk):jA cl (.tr b i hc ks xs) ρ=uV hc ks xs (bN cl b ρ):=rfl
theorem cO:jA cl .any ρ=.stuck:=rfl
def v5 (ms:List XS):R Out->R Out
 | .ok (.nx ρ')=>bN cl ms ρ'
 | r=>r
theorem bO:bN cl [] ρ=.ok (.nx ρ):=rfl
theorem aN (m:XS) (ms:List XS):bN cl (m::ms) ρ=v5 cl ms (jA cl m ρ):=rfl
theorem dJ (ms:List XS):v5 cl ms (.ok (.nx ρ))=bN cl ms ρ:=rfl
theorem dR (ms:List XS) (d:D):v5 cl ms (.ok (.rt d))=.ok (.rt d):=rfl
theorem cL (ms:List XS) (x:Xc):v5 cl ms (.exc x)=.exc x:=rfl
theorem bU (o:Out):Ra (.ok o)=.ok o:=rfl
theorem dh (f:Nat) (k:D->R Out) (ds:List D):oZ cl f k (.ok ds)=vP k (cl f ds):=rfl
theorem fV (a b:R Out):Dc a b (.ok (.bl true))=a:=rfl
theorem fU (a b:R Out):Dc a b (.ok (.bl false))=b:=rfl
theorem dM (hc:Str) (ks:List (Bool × Str)) (xs:zk) (o:Out):uV hc ks xs (.ok o)=.ok o:=rfl
end
structure XT where
 xs:zk
 hs:zk
 kx:zk
def WL (sc:Scope) (st:Stmt) (c:Str):Bool:=isS 16 st && match st with
 | .Raise (some e) none _=>jE e fun x es=>(match es with
  | [a]=>isK 19 a && (match a with | .Constant (.str _) _ _=>decide (x=c) && aK x && dZ sc x | _=>false)
  | _=>false)
 | _=>false
variable {s:Stmt}{b:Bool}
theorem R3 (h:(isS 16 s && b)=true):∃ x y p,s=.Raise x y p:=Stmt.Raise.elim s (su h) fun _ _ _=>⟨_,_,_,rfl⟩
theorem Yr (h:(isS 17 s && b)=true):∃ x y z w p,s=.Try x y z w p:=Stmt.Try.elim s (su h) fun _ _ _ _ _=>⟨_,_,_,_,_,rfl⟩
variable {e:Expr}
theorem yX (h:(isK 19 e && b)=true):∃ x y p,e=.Constant x y p:=Expr.Constant.elim (motive_1:=fun e=>∃ x y p,e=.Constant x y p) e (iT h) fun _ _ _=>⟨_,_,_,rfl⟩
def YT {sc:Scope}{st:Stmt}{c:Str} (h:WL sc st c=true):∃ np tx k tp cp pos,st=.Raise (some (.Call (.Name c np) [.Constant (.str tx) k tp] [] cp)) none pos/\aK c=true/\dZ sc c=true:=by
 obtain ⟨x,y,p,rfl⟩:=R3 h;cases x with
 | none=>cases h
 | some e =>
  cases y with
  | some _=>cases h
  | none =>
   obtain ⟨x,np,es,q,rfl,h2⟩:=eG (show jE e _=true from h);rcases es with _ | ⟨a,_ | ⟨a2,es⟩⟩ <;> try (cases h2;done)
   obtain ⟨c',k,tp,rfl⟩:=yX (show (isK 19 a && _)=true from h2);cases c' <;> try (cases h2;done)
   replace h2:(decide (x=c) && aK x && dZ sc x)=true:=h2;simp only [Bool.and_eq_true,decide_eq_true_eq] at h2;obtain ⟨⟨rfl,h3⟩,h4⟩:=h2;exact ⟨np,_,k,tp,q,p,rfl,h3,h4⟩
def xW (sc:Scope) (n:Str):zl->List (Bool × Str)->Bool
 | [],[]=>true
 | e::es,k::ks=>(if k.1=true then isK 19 e && (match e with | .Constant (.str s) _ _=>decide (s=k.2) | _=>false) else jE e fun x as=>match as with
  | [a,b]=>isK 23 a && (isK 23 b && (match a,b with | .Name y _,.Name z _=>decide (x="isinstance") && decide (y=n) && decide (z=k.2) && dZ sc z && aK z | _,_=>false))
  | _=>false) && xW sc n es ks
 | _,_=>false
noncomputable def Vy (sc:Scope) (x:Str):Bool:=match sc.names.lookup x with
 | some .local=>true | _=>false
def Ws (xt:XT) (N:zk) (sc:Scope) (i:Nat) (hc:Str) (ks:List (Bool × Str)) (xs:zk):List ExceptHandler->Bool
 | [.ExceptHandler (some h) (some n) [r] _]=>isK 23 h && (isS 3 r && (match h,r with
  | .Name x _,.Return (some l) _=>isK 24 l && (match l with
   | .List es _=>decide (x=hc) && dZ sc x && aK x && decide (N[i]?=some n) && Vy sc n && aK n && dZ sc "isinstance" && xW sc n es ks && xt.hs.contains hc && (ks.all fun k=>k.1 || xt.kx.contains k.2) && (xs.all fun x=>xt.xs.contains x)
   | _=>false)
  | _,_=>false))
 | _=>false
mutual
noncomputable def okX (T:Tx) (xt:XT) (N:zk) (sc:Scope) (ra:Bool):XS->Stmt->Bool
 | .n m,st=>okS T N sc m st
 | .rai c,st=>ra && xt.xs.contains c && WL sc st c
 | .ce f es,st=>isS 24 st && match st with | .Expr v _=>vO T N sc f es v | _=>false
 | .cr f es,st=>isS 3 st && match st with | .Return (some v) _=>vO T N sc f es v | _=>false
 | .cs i f es,st=>isS 5 st && match st with | .Assign [tg] v _=>tgB N sc (.one i) tg && vO T N sc f es v | _=>false
 | .cn _ _ _ _,_=>false
 | .xr _,_=>false
 | .xs _ _,_=>false
 | .ifs c a b,st=>isS 12 st && match st with | .If c' a' b' _=>okE T N c sc c' && uR T xt N sc ra a a' && uR T xt N sc ra b b' | _=>false
 | .tr b i hc ks xs,st=>isS 17 st && match st with | .Try body hs [] [] _=>uR T xt N sc false b body && Ws xt N sc i hc ks xs hs | _=>false
 | .tc _ _ _ _,_=>false
 | .any,_=>true
 | .lam _,_=>false
noncomputable def uR (T:Tx) (xt:XT) (N:zk) (sc:Scope) (ra:Bool):List XS->zn->Bool
 | [],sts=>sts.isEmpty
 | m::ms,sts=>match sts with | st::sts=>okX T xt N sc ra m st && uR T xt N sc ra ms sts | []=>false
end
mutual
noncomputable def Qk:XS->zi->Option Ow
 | .n m,O=>uJ [] m O
 | .rai _,O=>some none
 | .ce _ es,O=>some (some (without O (aP es)))
 | .cr _ es,O=>some none
 | .cs i _ es,O=>some (some (without (without O (aP es)) [i]))
 | .cn _ _ _ _,O=>some none
 | .xr _,O=>some none
 | .xs i e,O=>some (some (without (without O (HS e)) [i]))
 | .ifs c a b,O=>do
  let x <- j8 a O
  let y <- j8 b O
  some (jc x y)
 | .tr b _ _ _ _,O=>j8 b O
 | .tc b _ _ _,O=>j8 b O
 | .any,O=>some none
 | .lam _,O=>some (some O)
noncomputable def j8:List XS->zi->Option Ow
 | [],O=>some (some O)
 | m::ms,O=>do
  let x <- Qk m O
  match x with
  | none=>some none
  | some O1=>j8 ms O1
end
structure XF (xt:XT) (K:zd) (mg:w8):Prop where
 cls:∀ x∈xt.xs,∃ C,mg x=some (.ref C)/\PySem.W.XcK K C
 mat:∀ x∈xt.xs,∀ h∈xt.hs,∃ C Ch,mg x=some (.ref C)/\mg h=some (.ref Ch)/\PySem.W.exmOne K (.ref C) (.ref Ch)=some (lE x h)
 kit:∀ x ∈ xt.xs,∀ k ∈ xt.kx,∃ C c,mg x=some (.ref C) /\ ((∃ a,c=.ref a /\ mg k=some (.ref a)) \/ (∃ n,c=.type n /\ mg k=none /\ bootBuiltins k=some (.type n) /\ k ≠ "__name__")) /\ PySem.W.kitOne K (.ref C) c=some (lE x k)
structure XCok (T:Tx) (xt:XT) (cl:Nat->List D->R D) (X:Cx) (Ek:XK) (Ez:Str->Hp->Prop) (ra:Bool):Prop where
 pass:Passes (CX1 X.prog X.w) X Ek
 rz:ra=true->XOk X Ek
 ez:∀ x C H',X.mg x=some (.ref C)->Ez x H'->Ek (.ref C) none H'
 facts:XF xt X.K X.mg
 fns:∀ f x,T.F[f]?=some x->∃ k a fd ps,FnOk X.prog X.w X.K X.mg X.base (CX1 X.prog X.w) k a fd ps (spX (gOf X) X.mg (cl f) ps.length)/\Room k X.A/\X.mg x=some (.ref a)/\PySem.W.keepIn X.K (.ref a)=true/\Binds X.K fd ps []/\(∀ ds,cl f ds≠.stuck->ds.length=ps.length)
 hst:X.stack=X.env::X.outer
 hfr:X.env.frame=some X.env.locals
variable {f:Nat}{ms:List M}{g:G}{Hs:Hp}{x y:Ow}{r:R Out}
section
variable {T:Tx}{xt:XT}{cl:Nat->List D->R D}{X:Cx}{sc:Scope}{E:Ent}{Es:Hp}{O:zi}{pos:Pos}{Ek:XK}{Ez:Str->Hp->Prop}{ra:Bool}
def QC (C:Cok T cl X) (S:ScRel sc X) (XC:XCok T xt cl X Ek Ez ra) (h:vO T X.N sc f ms e=true) :
  PE X e (fun σ H Q=>∃ ρ Hs ds,Same Hs H/\Vs (gOf X) ρ σ Hs (aP ms)/\bF cl ms ρ=.ok ds/\aa7 (gOf X) X.mg H Hs Q Ek (cl f ds)):=by
 obtain ⟨x,p,y,ys,q,rfl,ho,hg,hF,h2,hn⟩:=Fq h;unfold aK at ho;simp only [Bool.and_eq_true,Bool.not_eq_true'] at ho;obtain ⟨k,a,fd,ps,FX,hr,hm,hk,hb,hlen⟩:=XC.fns f x hF;have pa:=jM C S (fun m _=>good m) h2 hn;simp only [List.all_cons,Bool.and_eq_true] at hn;refine bG (N5 FX hr (S.glb _ hg) hm hk hb .nil XC.pass pa ho.1.1 (aC hn.1) (iu hn.2)) fun σ H Q=>?_
 rintro ⟨ρ,Hs,ds,hs,hv,hev,hk⟩;refine ⟨ρ,Hs,ds,hs,hv,hev,fun vs H1 Hs1 g1 r1=>?_⟩;show spX (gOf X) X.mg (cl f) ps.length (vs++[]) H1 Q Ek
 rw [List.append_nil];have hne:cl f ds≠.stuck:=fun z=>by rw [z] at hk;exact hk
 refine ⟨ds,Hs1,by rw [<- r1.length];exact hlen ds hne,g1.sub,r1,?_⟩;cases hcl:cl f ds with
 | ok d=>rw [hcl] at hk;exact fun v H' Hs' g r=>hk v H' Hs' (g1.trans g) r
 | exc x=>rw [hcl] at hk;exact fun H' Hs' C hC g=>hk H' Hs' C hC (g1.trans g)
 | stuck=>exact absurd hcl hne
def vB {k:D->R Out}{re:R (List D)}{O':Ow}{D:Ends} (h:XEnd g E Es Hs O' D Ez (oZ cl f k re)):∃ ds,re=.ok ds/\XEnd g E Es Hs O' D Ez (vP k (cl f ds)):=by
 cases re with
 | ok ds=>exact ⟨ds,rfl,h⟩
 | exc x=>exact h.elim
 | stuck=>exact h.elim
def ab8 (C:Cok T cl X) (S:ScRel sc X) (XC:XCok T xt cl X Ek Ez ra) (h:vO T X.N sc f ms e=true):PS X (.Expr e pos) (tMX X E Es O (some (without O (aP ms))) Ez (jA cl (.ce f ms))):=by
 have hnc:gJ e=true:=by obtain ⟨x,p,y,ys,q,rfl,_⟩:=Fq h;rfl
 refine bZ (rJ (QC C S XC h) (jL hnc)) fun D σ H=>?_
 rintro ⟨ρ,Hs,F,k⟩;obtain ⟨ds,hds,k⟩:=vB k;obtain ⟨Hs1,F1,m1,vs⟩:=F.pubU (aP ms);refine ⟨ρ,Hs1,ds,F1.sub,vs,hds,?_⟩;cases hcl:cl f ds with
 | ok d=>rw [hcl] at k;exact fun v H' Hs' g r=>k _ rfl _ _ _ (F1.grown g) (m1.trans (g.same F1.sub))
 | exc x=>rw [hcl] at k;exact fun H' Hs' C' hC g=>XC.ez _ _ _ hC (k H' Hs' (F1.grow.trans g))
 | stuck=>rw [hcl] at k;exact k
def acr (C:Cok T cl X) (S:ScRel sc X) (XC:XCok T xt cl X Ek Ez ra) (h:vO T X.N sc f ms e=true):PS X (.Return (some e) pos) (tMX X E Es O none Ez (jA cl (.cr f ms))):=by
 refine bZ (Ja (QC C S XC h)) fun D σ H=>?_
 rintro ⟨ρ,Hs,F,k⟩;obtain ⟨ds,hds,k⟩:=vB k;obtain ⟨Hs1,F1,m1,vs⟩:=F.pubU (aP ms);refine ⟨ρ,Hs1,ds,F1.sub,vs,hds,?_⟩;cases hcl:cl f ds with
 | ok d=>rw [hcl] at k;exact fun v H' Hs' g r=>k v H' Hs' (F1.grow.trans g) r
 | exc x=>rw [hcl] at k;exact fun H' Hs' C' hC g=>XC.ez _ _ _ hC (k H' Hs' (F1.grow.trans g))
 | stuck=>rw [hcl] at k;exact k
def acU {i:Nat}{tg:Expr} (C:Cok T cl X) (S:ScRel sc X) (XC:XCok T xt cl X Ek Ez ra) (hq:∀ q∈E.pins,q.1 ∉ aM (.one i)) (h1:tgB X.N sc (.one i) tg=true) (h:vO T X.N sc f ms e=true) :
  PS X (.Assign [tg] e pos) (tMX X E Es O (some (without (without O (aP ms)) [i])) Ez (jA cl (.cs i f ms))):=by
 have hnc:gJ e=true/\pI (.one i) e=true:=by obtain ⟨x,p,y,ys,q,rfl,_⟩:=Fq h;exact ⟨rfl,rfl⟩
 refine bZ (oY (QC C S XC h) (nZ C S h1) (jL (t:=some tg) (l:=pos.line) (env:=X.env) hnc.1) (lK hnc.2 h1) (assign1 h1)) fun D σ H=>?_
 rintro ⟨ρ,Hs,F,k⟩;obtain ⟨ds,hds,k⟩:=vB k;obtain ⟨Hs1,F1,m1,vs⟩:=F.pubU (aP ms);refine ⟨ρ,Hs1,ds,F1.sub,vs,hds,?_⟩;cases hcl:cl f ds with
 | ok d =>
  rw [hcl] at k;intro v H' Hs' g r;have F2:=F1.grown g;refine rF (X:=X) (t:=.one i) (ρ:=ρ) g.sub rfl r fun l hl hrl eρ=>?_
  have F3:=F2.putL (by rw [hl];exact hq) hrl;rw [hl,<- eρ] at F3;exact k _ rfl _ _ _ F3 (m1.trans (g.same F1.sub))
 | exc x=>rw [hcl] at k;exact fun H' Hs' C' hC g=>XC.ez _ _ _ hC (k H' Hs' (F1.grow.trans g))
 | stuck=>rw [hcl] at k;exact k
theorem XEnd.meetL {D:Ends} (h:XEnd g E Es Hs (jc x y) D Ez r):XEnd g E Es Hs x D Ez r:=by
 cases r with
 | ok o=>exact jH.meetL (inv:=[]) h
 | exc x=>exact h
 | stuck=>exact h
theorem XEnd.meetR {D:Ends} (h:XEnd g E Es Hs (jc x y) D Ez r):XEnd g E Es Hs y D Ez r:=by
 cases r with
 | ok o=>exact jH.meetR (inv:=[]) h
 | exc x=>exact h
 | stuck=>exact h
def acW {c:M}{a b:List XS}{c':Expr}{a' b':zn} (C:Cok T cl X) (S:ScRel sc X) (h1:okE T X.N c sc c'=true) (ha:PSs X a' (tMX X E Es O x Ez (bN cl a))) (hb:PSs X b' (tMX X E Es O y Ez (bN cl b))) :
  PS X (.If c' a' b' pos) (tMX X E Es O (jc x y) Ez (jA cl (.ifs c a b))):=by
 refine bZ (QJ (good c C S h1).2 ha hb) fun D σ H=>?_
 rintro ⟨ρ,Hs,F,k⟩;replace k:XEnd (gOf X) E Es Hs (jc x y) D Ez (Dc (bN cl a ρ) (bN cl b ρ) (evE cl c ρ)):=k;obtain ⟨Hs1,F1,m1,vs,w1⟩:=F.pubW (aD c);cases hc:evE cl c ρ with
 | exc z=>rw [hc] at k;exact k.elim
 | stuck=>rw [hc] at k;exact k.elim
 | ok d =>
  rw [hc] at k;cases d <;> try (exact k.elim)
  rename_i t;refine ⟨ρ,Hs1,t,F1.sub,vs,hc,fun H1 Hs2 g2=>?_⟩;obtain ⟨Hs3,g3,_,_⟩:=Yb F.sub w1 g2;have m2:=g3.same F.sub;cases t with
  | true=>(try dsimp only);rw [if_pos rfl];exact ⟨ρ,Hs3,F.grown g3,(XEnd.meetL k).mono m2⟩
  | false=>(try dsimp only);rw [if_neg (by decide)];exact ⟨ρ,Hs3,F.grown g3,(XEnd.meetR k).mono m2⟩
end
end Mi
namespace Mi
open PySem L2
open PyProof.Rows hiding St
variable {i:Nat}{hc:Str}{xs:zk}{pins:w4}
section
variable {T:Tx}{xt:XT}{cl:Nat->List D->R D}{X:Cx}{sc:Scope}{E:Ent}{Es:Hp}{O:zi}{pos:Pos}{Ek:XK}{Ez:Str->Hp->Prop}{ra:Bool}
def heV (x:Str) (k:Bool × Str):V:=if k.1=true then .str k.2 else .bl (lE x k.2)
theorem Ey {n x:Str}{C:Addr} (S:ScRel sc X):∀ {es:zl}{ks:List (Bool × Str)},xW sc n es ks=true->(∀ k∈ks,k.1=false->∃ c,JW X k.2 c/\PySem.W.kitOne X.K (.ref C) c=some (lE x k.2))->IsxAll X n C es (ks.map (heV x))
 | [],[],_,_=>.nil
 | [],_::_,h,_=>by cases h
 | _::_,[],h,_=>by cases h
 | e::es,(true,k)::ks,h,hk=>by
  have h1:((isK 19 e && _) && xW sc n es ks)=true:=h;rw [Bool.and_eq_true] at h1;obtain ⟨c,j,p,rfl⟩:=yX h1.1;cases c <;> try (cases h;done)
  rename_i s;have h4:(decide (s=k) && xW sc n es ks)=true:=h;rw [Bool.and_eq_true,decide_eq_true_eq] at h4;obtain ⟨rfl,_⟩:=h4;exact .txt (Ey S h1.2 fun q hq=>hk q (ve _ hq))
 | e::es,(false,k)::ks,h,hk=>by
  replace h:(jE e _ && xW sc n es ks)=true:=h;rw [Bool.and_eq_true] at h;obtain ⟨h1,h2⟩:=h;obtain ⟨f,p,as,q,rfl,h3⟩:=eG h1;rcases as with _ | ⟨a,_ | ⟨b,_ | ⟨c,as⟩⟩⟩ <;> try (cases h3;done)
  obtain ⟨y,p2,rfl⟩:=eO (show (isK 23 a && _)=true from h3);obtain ⟨z,p3,rfl⟩:=eO (show (isK 23 b && _)=true from h3);replace h3:(decide (f="isinstance") && decide (y=n) && decide (z=k) && dZ sc z && aK z)=true:=h3
  simp only [Bool.and_eq_true,decide_eq_true_eq] at h3;obtain ⟨⟨⟨⟨rfl,rfl⟩,rfl⟩,h4⟩,h5⟩:=h3;obtain ⟨c,c1,c2⟩:=hk (false,z) vi rfl;unfold aK at h5;simp only [Bool.and_eq_true,Bool.not_eq_true'] at h5;exact .cons (S.glb _ h4) h5.1.1 c1 c2 (Ey S h2 fun q hq=>hk q (ve _ hq))
structure HanOk (xt:XT) (N:zk) (sc:Scope) (i:Nat) (hc:Str) (ks:List (Bool × Str)) (xs:zk) (hs:List ExceptHandler):Prop where
 ex:∃ np n es lp rp hp,hs=[.ExceptHandler (some (.Name hc np)) (some n) [.Return (some (.List es lp)) rp] hp] /\ dZ sc hc=true /\ aK hc=true /\ N[i]?=some n /\ sc.names.lookup n=some .local /\ aK n=true /\ dZ sc "isinstance"=true /\ xW sc n es ks=true /\
  hc∈xt.hs/\(∀ k∈ks,k.1=false->k.2∈xt.kx)/\(∀ x∈xs,x∈xt.xs)
def Zc {N:zk}{ks:List (Bool × Str)}{hs:List ExceptHandler} (h:Ws xt N sc i hc ks xs hs=true):HanOk xt N sc i hc ks xs hs:=by
 rcases hs with _ | ⟨⟨t,nm,body,hp⟩,_ | ⟨h2,hs⟩⟩
 .cases h
 .cases t with
  | none=>cases h
  | some t =>
   cases nm with
   | none=>cases h
   | some n =>
    rcases body with _ | ⟨r,_ | ⟨r2,body⟩⟩
    .cases h
    .replace h:(isK 23 t && (isS 3 r && _))=true:=h;obtain ⟨x,np,rfl⟩:=eO h;obtain ⟨v,rp,rfl⟩:=v7 (show (isS 3 r && _)=true from h);cases v with
     | none=>cases h
     | some l =>
      obtain ⟨es,lp,rfl⟩:=nj (show (isK 24 l && _)=true from h);replace h:(decide (x=hc) && dZ sc x && aK x && decide (N[i]?=some n) && Vy sc n && aK n && dZ sc "isinstance" && xW sc n es ks && xt.hs.contains hc && (ks.all fun k=>k.1 || xt.kx.contains k.2) && (xs.all fun x=>xt.xs.contains x))=true:=h
      simp only [Bool.and_eq_true,decide_eq_true_eq,List.all_eq_true] at h;obtain ⟨⟨⟨⟨⟨⟨⟨⟨⟨⟨rfl,a2⟩,a3⟩,a4⟩,a5⟩,a6⟩,a7⟩,a8⟩,a9⟩,b1⟩,b2⟩:=h;refine ⟨np,n,es,lp,rp,hp,rfl,a2,a3,a4,?_,a6,a7,a8,by simpa using a9,fun k hk hf=>by simpa [hf] using b1 k hk,fun y hy=>by simpa using b2 y hy⟩;unfold Vy at a5;split at a5
      .assumption
      .cases a5
    .cases h
 .cases t <;> cases nm <;> rcases body with _ | ⟨r,_ | ⟨r2,body⟩⟩ <;> cases h
def Ezt (D:Ends) (hc:Str) (ks:List (Bool × Str)) (xs:zk):Str->Hp->Prop:=fun x H'=>(xs.contains x && lE x hc && decide (ks.length<=lim))=true/\∀ p,H' p=none->D.rt (.ref p) (upd H' p (.lst (ks.map (heV x))))
theorem Zx {D:Ends}{hs:List ExceptHandler} (C:Cok T cl X):Cok T cl (nP X pins D hs):=⟨C.calm,C.nd,C.un,C.blt,C.gl,C.fns⟩
theorem ZL {D:Ends}{hs:List ExceptHandler} (S:ScRel sc X):ScRel sc (nP X pins D hs):=⟨S.glb,S.vis,S.cf,S.own⟩
structure Clause (xt:XT) (X:Cx) (D:Ends) (hc:Str) (hs:List ExceptHandler) (Ek:Addr->XK) (Ez:Str->Hp->Prop):Prop where
 mem:hc∈xt.hs
 mine:∀ x H',Ez x H'->x∈xt.xs/\lE x hc=true
 pass:∀ Ch (pins pins':w4) σ H s ev s',X.mg hc=some (.ref Ch)->Inv X pins σ H s->CX1 X.prog X.w X.stack H s (Ek Ch) ev s'->Qp X pins D hs ev s'
 ez:∀ Ch C x H',X.mg x=some (.ref C)->PySem.W.XcK X.K C->PySem.W.exmOne X.K (.ref C) (.ref Ch)=some true->Ez x H'->Ek Ch (.ref C) none H'
def Mw {D:Ends}{hs:List ExceptHandler}{Ek1:Addr->XK}{Ez1:Str->Hp->Prop} (XC:XCok T xt cl X Ek Ez ra) (hh:Clause xt X D hc hs Ek1 Ez1) :
  ∃ Ek',XCok T xt cl (nP X pins D hs) Ek' Ez1 false:=by
 have ⟨Ch,hCh⟩:∃ Ch,(∀ x∈xt.xs,∃ C,X.mg x=some (.ref C)/\PySem.W.exmOne X.K (.ref C) (.ref Ch)=some (lE x hc))/\(X.mg hc=some (.ref Ch)\/xt.xs=[]):=by
  cases hxs:xt.xs with
  | nil=>exact ⟨0,⟨fun x hx'=>(by cases hx'),.inr rfl⟩⟩
  | cons x0 xs0 =>
   obtain ⟨C0,Ch,_,e2,_⟩:=XC.facts.mat x0 (by rw [hxs];exact vi) hc hh.mem;refine ⟨Ch,⟨fun x hx'=>?_,.inl e2⟩⟩;obtain ⟨C1,Ch1,e3,e4,e5⟩:=XC.facts.mat x (by rw [hxs];exact hx') hc hh.mem;rw [e2] at e4;cases e4;exact ⟨C1,e3,e5⟩
 rcases hCh.2 with hmx | hnil
 .refine ⟨Ek1 Ch,⟨fun pins' σ H s ev s' I hcx=>hh.pass Ch _ pins' σ H s ev s' hmx I.ofTry hcx,fun z=>(by cases z),fun x C' H' hC k=>?_,XC.facts,XC.fns,XC.hst,XC.hfr⟩⟩;have e1':X.mg x=some (.ref C'):=hC;obtain ⟨hxm,hsub⟩:=hh.mine x H' k;obtain ⟨C1,e1,e2⟩:=hCh.1 x hxm;rw [e1'] at e1;cases e1;obtain ⟨C2,e3,Z⟩:=XC.facts.cls x hxm;rw [e1'] at e3;cases e3;exact hh.ez Ch C' x H' e1' Z (by rw [e2,hsub]) k
 .refine ⟨fun _ _ _=>False,⟨fun pins' σ H s ev s' I hcx=>?_,fun z=>(by cases z),fun x C' H' hC k=>?_,XC.facts,XC.fns,XC.hst,XC.hfr⟩⟩
  .obtain ⟨_,_,_,_,_,_,_,_,_,_,_,_,z⟩:=hcx;exact z.elim
  .have hxm:=(hh.mine x H' k).1;rw [hnil] at hxm;cases hxm
def QD {D:Ends}{ks:List (Bool × Str)}{hs:List ExceptHandler} (hsc:sc=X.env.scope) (C:Cok T cl X) (S:ScRel sc X) (F:XF xt X.K X.mg) (hst:X.stack=X.env::X.outer) (hfr:X.env.frame=some X.env.locals) (hh:HanOk xt X.N sc i hc ks xs hs) :
  ∃ Ek',Clause xt X D hc hs Ek' (Ezt D hc ks xs):=by
 obtain ⟨np,n,es,lp,rp,hp,rfl,g1,o1,hi,hloc,o2,g2,hx,m1,m2,m3⟩:=hh.ex;unfold aK at o1 o2;simp only [Bool.and_eq_true,Bool.not_eq_true'] at o1 o2;have hmi:X.mg "isinstance"=none:=C.blt _ (by decide +kernel)
 refine ⟨fun Ch=>abv X D i Ch (.List es lp),m1,fun x H' k=>?_,fun Ch pins pins' σ H s ev s' hm I hcx=>caught hst hfr C.nd hi (by rw [<- hsc];exact hloc) (S.glb _ g1) hm o1.1.1 I hcx,fun Ch C' x H' e1 Z em k=>?_⟩
 .have k1:=k.1;simp only [Bool.and_eq_true,decide_eq_true_eq] at k1;exact ⟨m3 x (by simpa using k1.1.1),k1.1.2⟩
 .obtain ⟨k1,k2⟩:=k;simp only [Bool.and_eq_true,decide_eq_true_eq] at k1;refine ⟨C',rfl,Z,em,Wt Z hi (by rw [<- hsc];exact hloc) o2.1.1 o2.1.2 (S.glb _ g2) hmi (Ey (X:=X) (C:=C') (x:=x) S hx fun k hk hf=>?_) (by rw [List.length_map];exact vF k1.2 jt) fun p hp=>?_⟩
  .obtain ⟨C3,c,e4,e5,e6⟩:=F.kit x (m3 x (by simpa using k1.1.1)) k.2 (m2 k hk hf);rw [e1] at e4;cases e4;exact ⟨c,e5,e6⟩
  .exact k2 p hp
theorem xU {g:G}{H:Hp}{x:Str}:∀ ks:List (Bool × Str),Rps g H (ks.map (heD x)) (ks.map (heV x))
 | []=>Rps.nil
 | (true,k)::ks=>Rps.cons (KH.mpr rfl) (xU ks)
 | (false,k)::ks=>Rps.cons (mW.mpr rfl) (xU ks)
def aa1 {b:List XS}{ks:List (Bool × Str)}{body:zn}{hs:List ExceptHandler}{O':Ow} (hh:HanOk xt X.N sc i hc ks xs hs) (hb:∀ (pins:w4) (D:Ends),PSs (nP X pins D hs) body (tMX (nP X pins D hs) E Es O O' (Ezt D hc ks xs) (bN cl b))) :
  PS X (.Try body hs [] [] pos) (tMX X E Es O O' Ez (jA cl (.tr b i hc ks xs))):=by
 obtain ⟨np,n,es,lp,rp,hp,rfl,_⟩:=hh.ex;intro pins s σ H D I ht;obtain ⟨ρ,Hs,F,k⟩:=ht;refine Zd I (hb pins D) ⟨ρ,Hs,F,?_⟩;replace k:XEnd (gOf X) E Es Hs O' D Ez (uV hc ks xs (bN cl b ρ)):=k;cases hr:bN cl b ρ with
 | ok o=>rw [hr] at k;exact k
 | stuck=>rw [hr] at k;exact k
 | exc x =>
  rw [hr] at k;replace k:XEnd (gOf X) E Es Hs O' D Ez (if (xs.contains x.cls && lE x.cls hc && decide (ks.length<=lim))=true then .ok (.rt (.lst (ks.map (heD x.cls)))) else .stuck):=k;intro H' Hs' gr;by_cases hcond:(xs.contains x.cls && lE x.cls hc && decide (ks.length<=lim))=true
  .rw [if_pos hcond] at k;refine ⟨hcond,fun p hp=>k (.ref p) _ _ (gr.trans (Grow.new (o:=.lst (ks.map (heV x.cls))) gr.sub hp)) (cN.mpr ⟨p,_,rfl,SqL.of aA,xU ks⟩)⟩
  .rw [if_neg hcond] at k;exact k.elim
end
def X6 (T:Tx) (xt:XT) (cl:Nat->List D->R D) (m:XS):Prop:=∀ (X:Cx) (sc:Scope) (st:Stmt) (O:zi) (O':Ow) (E:Ent) (Es:Hp) (Ek:XK) (Ez:Str->Hp->Prop) (ra:Bool),E.pins=[]->sc=X.env.scope->Cok T cl X->ScRel sc X->PassesOwn (model X.prog X.w) X.A X.env X.xe->XCok T xt cl X Ek Ez ra ->
 okX T xt X.N sc ra m st=true->Qk m O=some O'->PS X st (tMX X E Es O O' Ez (jA cl m))
theorem yt {T:Tx}{xt:XT}{cl:Nat->List D->R D}:∀ {ms:List XS},(∀ m∈ms,X6 T xt cl m)->∀ {X:Cx}{sc:Scope}{sts:zn}{O:zi}{O':Ow}{E:Ent}{Es:Hp}{Ek:XK}{Ez:Str->Hp->Prop}{ra:Bool},E.pins=[]->sc=X.env.scope->Cok T cl X->ScRel sc X->PassesOwn (model X.prog X.w) X.A X.env X.xe->XCok T xt cl X Ek Ez ra ->
  uR T xt X.N sc ra ms sts=true->j8 ms O=some O'->PSs X sts (tMX X E Es O O' Ez (bN cl ms))
 | [],G,X,sc,sts,O,O',E,Es,Ek,Ez,ra,hq,hsc,C,S,hp,XC,h,hc=>by
  replace h:sts.isEmpty=true:=h;rw [List.isEmpty_iff] at h;subst h;cases hc;refine rG Ai fun D σ H=>?_
  rintro ⟨ρ,Hs,F,k⟩;exact k O rfl σ H Hs F (Same.refl _)
 | m::ms,G,X,sc,[],O,O',E,Es,Ek,Ez,ra,hq,hsc,C,S,hp,XC,h,hc=>by cases h
 | m::ms,G,X,sc,st::sts,O,O',E,Es,Ek,Ez,ra,hq,hsc,C,S,hp,XC,h,hc=>by
  replace h:(okX T xt X.N sc ra m st && uR T xt X.N sc ra ms sts)=true:=h;rw [Bool.and_eq_true] at h;replace hc:(Qk m O).bind (fun x=>match x with | none=>some none | some O1=>j8 ms O1)=some O':=hc;cases e1:Qk m O with
  | none=>rw [e1] at hc;cases hc
  | some x =>
   rw [e1] at hc;have h1:=G m vi X sc st O _ E Es Ek Ez ra hq hsc C S hp XC h.1 e1;cases x with
   | none =>
    have hc':O'=none:=by
     have:some (none:Ow)=some O':=hc;cases this;rfl
    subst hc';refine rG (ni h1 (yC (sts:=sts))) fun D σ H=>?_
    rintro ⟨ρ,Hs,F,k⟩;rw [aN] at k;refine ⟨ρ,Hs,F,?_⟩;cases hr:jA cl m ρ with
    | exc x=>rw [hr] at k;exact k
    | stuck=>rw [hr] at k;exact k
    | ok o =>
     rw [hr] at k;cases o with
     | nx ρ'=>intro O1 e;cases e
     | rt d=>exact k
   | some O1 =>
    have h2:=yt (fun q hq=>G q (ve _ hq)) (E:=E) (Es:=Es) hq hsc C S hp XC h.2 (show j8 ms O1=some O' from hc);refine rG (ni h1 h2) fun D σ H=>?_
    rintro ⟨ρ,Hs,F,k⟩;rw [aN] at k;refine ⟨ρ,Hs,F,?_⟩;cases hr:jA cl m ρ with
    | exc x=>rw [hr] at k;exact k
    | stuck=>rw [hr] at k;exact k
    | ok o =>
     rw [hr] at k;cases o with
     | nx ρ' =>
      intro O2 e σ' H' Hs' F' s';cases e;exact ⟨ρ',Hs',F',XEnd.mono k s'⟩
     | rt d=>exact k
theorem HW {T:Tx}{xt:XT}{cl:Nat->List D->R D}:∀ m:XS,X6 T xt cl m
 | .n m=>fun X sc st O O' E Es Ek Ez ra hq hsc C S hp XC h hc=>by
  refine bZ (Ag m X sc st [] O O' E Es (fun q hm=>by rw [hq] at hm;cases hm) C S hp h hc) fun D σ H=>?_
  rintro ⟨ρ,Hs,F,k⟩;rw [fW] at k;cases hr:cF cl m ρ with
  | exc x=>rw [hr] at k;exact k.elim
  | stuck=>rw [hr] at k;exact k.elim
  | ok o=>rw [hr] at k;exact ⟨ρ,Hs,o,F,hr,k⟩
 | .rai c=>fun X sc st O O' E Es Ek Ez ra hq hsc C S hp XC h hc=>by
  replace h:(ra && xt.xs.contains c && WL sc st c)=true:=h;rw [Bool.and_eq_true,Bool.and_eq_true] at h;obtain ⟨⟨h1,h2⟩,h3⟩:=h;obtain ⟨np,tx,k,tp,cp,pos,rfl,ho,hg⟩:=YT h3;obtain ⟨Cc,hm,Z⟩:=XC.facts.cls c (by simpa using h2);unfold aK at ho;simp only [Bool.and_eq_true,Bool.not_eq_true'] at ho;refine bZ (VL (XC.rz h1) C.calm (S.glb _ hg) hm Z.exc ho.1.1) fun D σ H=>?_
  rintro ⟨ρ,Hs,F,k⟩;exact XC.ez c Cc H hm (k H Hs F.grow)
 | .ce f es=>fun X sc st O O' E Es Ek Ez ra hq hsc C S hp XC h hc=>by
  obtain ⟨v,p,rfl⟩:=vJ h;cases hc;exact ab8 C S XC h
 | .cr f es=>fun X sc st O O' E Es Ek Ez ra hq hsc C S hp XC h hc=>by
  obtain ⟨v,p,rfl⟩:=v7 h;cases v with
  | none=>cases h
  | some v =>
   cases hc;exact acr C S XC h
 | .cs i f es=>fun X sc st O O' E Es Ek Ez ra hq hsc C S hp XC h hc=>by
  obtain ⟨tgs,v,p,rfl⟩:=vU h;rcases tgs with _ | ⟨tg,_ | ⟨tg2,tgs⟩⟩ <;> try (cases h;done)
  replace h:(tgB X.N sc (.one i) tg && vO T X.N sc f es v)=true:=h;rw [Bool.and_eq_true] at h;cases hc;exact acU C S XC (fun q hm=>by rw [hq] at hm;cases hm) h.1 h.2
 | .cn i f g es=>fun X sc st O O' E Es Ek Ez ra hq hsc C S hp XC h hc=>by cases h
 | .xr e=>fun X sc st O O' E Es Ek Ez ra hq hsc C S hp XC h hc=>by cases h
 | .xs i e=>fun X sc st O O' E Es Ek Ez ra hq hsc C S hp XC h hc=>by cases h
 | .ifs c a b=>fun X sc st O O' E Es Ek Ez ra hq hsc C S hp XC h hc=>by
  obtain ⟨_,_,_,_,rfl⟩:=Um h;rename_i c' a' b' p;replace h:(okE T X.N c sc c' && uR T xt X.N sc ra a a' && uR T xt X.N sc ra b b')=true:=h;simp only [Bool.and_eq_true] at h;obtain ⟨⟨h1,h2⟩,h3⟩:=h;replace hc:(j8 a O).bind (fun x=>(j8 b O).bind fun y=>some (jc x y))=some O':=hc;cases e1:j8 a O with
  | none=>rw [e1] at hc;cases hc
  | some x =>
   rw [e1] at hc;cases e2:j8 b O with
   | none=>rw [e2] at hc;cases hc
   | some y =>
    rw [e2] at hc;cases (show some (jc x y)=some O' from hc);exact acW C S h1 (yt (fun m _=>HW m) hq hsc C S hp XC h2 e1) (yt (fun m _=>HW m) hq hsc C S hp XC h3 e2)
 | .tr b i hcl ks xs=>fun X sc st O O' E Es Ek Ez ra hq hsc C S hp XC h hc=>by
  obtain ⟨body,hs,els,fin,p,rfl⟩:=Yr h;cases els <;> cases fin <;> try (cases h;done)
  replace h:(uR T xt X.N sc false b body && Ws xt X.N sc i hcl ks xs hs)=true:=h;rw [Bool.and_eq_true] at h;have hh:=Zc h.2;refine aa1 hh fun pins D=>?_
  obtain ⟨_,cla⟩:=QD (D:=D) hsc C S XC.facts XC.hst XC.hfr hh;obtain ⟨Ek',XC'⟩:=Mw (pins:=pins) XC cla;exact yt (fun m _=>HW m) (X:=nP X pins D hs) hq hsc (Zx C) (ZL S) PassesOwn.looking XC' h.1 hc
 | .tc b hcl hr xs=>fun X sc st O O' E Es Ek Ez ra hq hsc C S hp XC h hc=>by cases h
 | .lam g=>fun X sc st O O' E Es Ek Ez ra hq hsc C S hp XC h hc=>by cases h
 | .any=>fun X sc st O O' E Es Ek Ez ra hq hsc C S hp XC h hc=>by
  refine bZ K6 fun D σ H=>?_
  rintro ⟨ρ,Hs,F,k⟩;exact k
termination_by m=>sizeOf m
decreasing_by
 all_goals simp_wf
 all_goals (have:=List.sizeOf_lt_of_mem ‹_∈_›;omega)
end Mi
namespace Mi
open PySem L2
open PyProof.Rows hiding St
noncomputable def kE:R Out->R D
 | .ok (.rt d)=>.ok d
 | .ok (.nx _)=>.ok .non
 | _=>.stuck
noncomputable def mX:R Out->R D
 | .ok (.rt d)=>.ok d
 | .ok (.nx _)=>.ok .non
 | .exc x=>.exc x
 | _=>.stuck
noncomputable def st0 (d:Def) (args:List D):En:=args.map some++List.replicate (d.nn - d.np) none
def tE (cl:Nat->List D->R D) (tab:List Def) (f:Nat) (args:List D):R D:=match tab[f]? with
 | some d=>if args.length=d.np/\d.nrm=true then kE (cQ cl d.body (st0 d args)) else .stuck
 | none=>.stuck
def Aa (cl:Nat->List D->R D) (b:List XS) (args:List D):Option Def->R D
 | none=>.stuck
 | some d=>if args.length=d.np then mX (bN cl b (st0 d args)) else .stuck
abbrev uP:=List (Nat × List XS)
def aq (tab:List Def) (xt:uP):Nat->Nat->List D->R D
 | 0,_,_=>.stuck
 | n+1,f,args=>match xt.lookup f with
  | some b=>Aa (aq tab xt n) b args tab[f]?
  | none=>tE (aq tab xt n) tab f args
section
variable {tab:List Def}{xt:uP}{n f:Nat}{d:Def}{args:List D}{z:D}{b:List XS}
def Xd (hx:xt.lookup f=none) (ht:tab[f]?=some d) (hl:args.length=d.np) (hn:d.nrm=true):aq tab xt (n+1) f args=kE (cQ (aq tab xt n) d.body (st0 d args)):=by
 show (match xt.lookup f with | some b=>_ | none=>_)=_
 rw [hx];show tE _ _ _ _=_
 unfold tE;rw [ht];exact if_pos ⟨hl,hn⟩
def RQ (hx:xt.lookup f=some b) (ht:tab[f]?=some d) (hl:args.length=d.np):aq tab xt (n+1) f args=mX (bN (aq tab xt n) b (st0 d args)):=by
 show (match xt.lookup f with | some b=>_ | none=>_)=_
 rw [hx];show Aa _ _ _ _=_
 rw [ht];exact if_pos hl
theorem bM (d:D):kE (.ok (.rt d))=.ok d:=rfl
theorem bT (ρ:En):kE (.ok (.nx ρ))=.ok .non:=rfl
theorem bQ (d:D):mX (.ok (.rt d))=.ok d:=rfl
theorem bR (ρ:En):mX (.ok (.nx ρ))=.ok .non:=rfl
theorem bf (x:Xc):mX (.exc x)=.exc x:=rfl
def Jw (hx:xt.lookup f=none) (ht:tab[f]?=some d) (h:aq tab xt (n+1) f args=.ok z):∃ o,args.length=d.np/\d.nrm=true/\cQ (aq tab xt n) d.body (st0 d args)=.ok o/\(o=.rt z\/(z=.non/\∃ ρ,o=.nx ρ)):=by
 replace h:(match xt.lookup f with | some b=>Aa (aq tab xt n) b args tab[f]? | none=>tE (aq tab xt n) tab f args)=.ok z:=h;rw [hx] at h;unfold tE at h;rw [ht] at h;obtain ⟨hl,h1⟩:=dH h;cases hr:cQ (aq tab xt n) d.body (st0 d args) with
 | exc x=>rw [hr] at h1;cases h1
 | stuck=>rw [hr] at h1;cases h1
 | ok o =>
  rw [hr] at h1;refine ⟨o,hl.1,hl.2,rfl,?_⟩;cases o with
  | rt d'=>cases h1;exact .inl rfl
  | nx ρ=>cases h1;exact .inr ⟨rfl,ρ,rfl⟩
def Bj (hx:xt.lookup f=none) {x:Xc} (h:aq tab xt (n+1) f args=.exc x):False:=by
 replace h:(match xt.lookup f with | some b=>Aa (aq tab xt n) b args tab[f]? | none=>tE (aq tab xt n) tab f args)=.exc x:=h;rw [hx] at h;replace h:tE (aq tab xt n) tab f args=.exc x:=h;have e1:∀ r,kE r≠.exc x:=fun r=>by
  cases r with
  | ok o=>cases o <;> exact fun z=>nomatch z
  | exc _=>exact fun z=>nomatch z
  | stuck=>exact fun z=>nomatch z
 unfold tE at h;split at h
 .split at h
  .exact e1 _ h
  .cases h
 .cases h
end
def rN (T:Tx) (xtt:XT) (d:Def) (b:List XS) (N ps:zk) (st:Stmt):Bool :=
 Cw N ps (aL st) && decide (d.np=ps.length) && decide (d.nn=N.length) && uR T xtt N (aL st) true b (cI st) && (j8 b []).isSome && !U3 d && !d.nrm
structure LamD (T:Tx) (K:zd) (mg:w8) (x:Str) (b:List XS) (d:Def) (ps:zk) (st:Stmt) (a:Addr) (fd:FuncData):Prop where
 ex:∃ q p1 p2 p3 p4 p5 p6 p7 p8 p9 p10,b=[.lam q] /\ T.F[q]?=some (Str.ofString "is_test") /\ cI st=Ds p1 p2 p3 p4 p5 p6 p7 p8 p9 p10
 sc:aL st=jh
 nm:x=Str.ofString "check_tests"
 par:ps=[("book":Str),"tests"]
 np:d.np=2
 nn:d.nn=2
 nomut:U3 d=false
 nonrm:d.nrm=false
 lam:LamK K mg a fd.code
structure PrX (T:Tx) (xtt:XT) (tab:List Def) (xt:uP) (K:zd) (mg:w8):Prop where
 len:tab.length<=1000
 xlen:∀ f b,xt.lookup f=some b->f < 1000
 blt:∀ f∈nH,mg f=none
 gl:∀ x d,T.gl.lookup x=some d->GlV d (mg x)
 facts:XF xtt K mg
 fn:∀ (f:Nat) (x:Str),T.F[f]?=some x->∃ d N ps st a fd,tab[f]?=some d/\Fun K x x st a fd/\mg x=some (.ref a)/\Binds K fd ps []/\(match xt.lookup f with | none=>bY T d N ps st=true | some b=>rN T xtt d b N ps st=true\/LamD T K mg x b d ps st a fd)
def KR (T:Tx) (tab:List Def) (xt:uP) (P:Program) (w:World) (K:zd) (mg:w8) (base:Heap) (n:Nat):Prop:=∀ (f:Nat) (x:Str),T.F[f]?=some x ->
  ∃ a fd ps,FnOk P w K mg base CX0 n a fd ps (spD ⟨P,w,K⟩ (aq tab xt n f) ps.length)/\mg x=some (.ref a)/\PySem.W.keepIn K (.ref a)=true/\Binds K fd ps []/\(∀ ds d,aq tab xt n f ds=.ok d->ds.length=ps.length) /\
   FnOk P w K mg base (CX1 P w) n a fd ps (spX ⟨P,w,K⟩ mg (aq tab xt n f) ps.length)/\∀ ds,aq tab xt n f ds≠.stuck->ds.length=ps.length
variable {CX:CXT}{cdv:Value}{A:Around}{outer:List Env}{s:Shared}{H:Hp}{E:XK}{q:Str}{xe:zb}
section
variable {T:Tx}{xtt:XT}{tab:List Def}{xt:uP}{P:Program}{w:World}{K:zd}{mg:w8}{base:Heap}{n:Nat}{f:Nat}{x:Str}{d:Def}{N ps:zk}{st:Stmt}{a:Addr}{fd:FuncData}{b:List XS}
def O6 (Pr:PrX T xtt tab xt K mg) (IH:KR T tab xt P w K mg base n)  (S:FnScope N ps (aL st)) (hr:Room n (A.deeper (envOfC q (aL st) s.heap.objs.size a cdv)))  :
  Cok T (aq tab xt n) ((fY CX P w K mg base N q (aL st) a cdv A outer s H E).wish xe):=by
 refine ⟨rfl,S.nd,?_,Pr.blt,Pr.gl,fun f' x' hF'=>?_⟩
 .have:=hr.un;show (A.deeper _).units+100 < cLine
  omega
 .obtain ⟨a',fd',ps',q1,q2,q3,q4,q5,_⟩:=IH f' x' hF';exact ⟨n,a',fd',ps',q1,hr,q2,q3,q4,q5⟩
theorem Gg :ScRel (aL st) ((fY CX P w K mg base N q (aL st) a cdv A outer s H E).wish xe) :=
 ⟨fun y h=>vM h,fun y h=>vN h,fun y h=>h,fun y h=>⟨nC h,.inl rfl⟩⟩
def Ln (Pr:PrX T xtt tab xt K mg) (IH:KR T tab xt P w K mg base n) (hx:xt.lookup f=none) (ht:tab[f]?=some d) (F:Fun K x x st a fd) (hd:bY T d N ps st=true) :
  FnOk P w K mg base CX0 (n+1) a fd ps (spD ⟨P,w,K⟩ (aq tab xt (n+1) f) ps.length)/\∀ ds z,aq tab xt (n+1) f ds=.ok z->ds.length=ps.length:=by
 unfold bY at hd;simp only [Bool.and_eq_true,decide_eq_true_eq] at hd;obtain ⟨⟨⟨⟨h1,h2⟩,h3⟩,h4⟩,h5⟩:=hd;have S:=tV h1;refine ⟨F.ok S (fun vs H Q E h=>?_) (fun cdv A outer s H vs Q E hr h=>?_),fun ds z h=>?_⟩
 .obtain ⟨ds,Hs,z,h,_⟩:=h;exact h
 .obtain ⟨ds,Hs,z,hlen,hs,r,hc,k⟩:=h;obtain ⟨o,hnp,hnr,hrun,ho⟩:=Jw hx ht hc;rw [hnr] at h5;obtain ⟨O',hO⟩:=y0.mp (show (jf [] d.body []).isSome=true from h5);have C:=O6 (CX:=CX0) (outer:=outer) (H:=H) (E:=E) (xe:=fun _ _=>False) Pr IH S hr;have SR:=Gg (CX:=CX0) (P:=P) (w:=w) (K:=K) (mg:=mg) (base:=base) (N:=N) (st:=st) (a:=a) (cdv:=cdv) (A:=A) (outer:=outer) (s:=s) (H:=H) (E:=E) (q:=x) (xe:=fun _ _=>False);refine ⟨_,DG (E:=⟨H,[]⟩) (Es:=Hs) (fun m _=>Ag m) (fun q hm=>by cases hm) C SR PassesOwn.never h4 hO,?_⟩;refine ⟨_,Hs,o,?_,hrun,?_⟩
  .have hl:=r.length;exact Kf hs r (by rw [h3,h2];omega)
  .rcases ho with rfl | ⟨rfl,ρ',rfl⟩
   .exact fun v H' Hs' g' r'=>k v H' Hs' g' r'
   .exact fun O1 _ σ' H' Hs' F' _=>k .non H' Hs' F'.grow (yp.mpr rfl)
 .obtain ⟨o,hnp,_⟩:=Jw hx ht h;rw [hnp,h2]
def Zy (Pr:PrX T xtt tab xt K mg) (IH:KR T tab xt P w K mg base n) (hx:xt.lookup f=some b) (ht:tab[f]?=some d) (F:Fun K x x st a fd) (hd:rN T xtt d b N ps st=true) :
  FnOk P w K mg base (CX1 P w) (n+1) a fd ps (spX ⟨P,w,K⟩ mg (aq tab xt (n+1) f) ps.length)/\∀ ds,aq tab xt (n+1) f ds≠.stuck->ds.length=ps.length:=by
 unfold rN at hd;simp only [Bool.and_eq_true,decide_eq_true_eq] at hd;obtain ⟨⟨⟨⟨⟨⟨h1,h2⟩,h3⟩,h4⟩,h5⟩,h6⟩,h7⟩:=hd;have S:=tV h1;obtain ⟨O',hO⟩:=y0.mp h5;have ce:∀ ds,aq tab xt (n+1) f ds=if ds.length=d.np then mX (bN (aq tab xt n) b (st0 d ds)) else .stuck:=fun ds=>by
  show (match xt.lookup f with | some b=>_ | none=>_)=_
  rw [hx];show Aa _ _ _ _=_
  rw [ht];rfl
 refine ⟨?_,fun ds h=>?_⟩
 .obtain ⟨oc,od,kV,doc,pm,an,cdv,ct,osl,rfl,lk,hcd⟩:=F.ex;refine Xx lk hcd S (fun vs H Q E h=>?_) fun A outer s H vs Q E hr h=>?_
  .obtain ⟨ds,Hs,h,_⟩:=h;exact h
  .obtain ⟨ds,Hs,hlen,hs,r,k⟩:=h;rw [ce] at k;have hl:=r.length;have hdl:ds.length=d.np:=by omega
   rw [if_pos hdl] at k;have C:=O6 (CX:=CX1 P w) (outer:=outer) (H:=H) (E:=E) (xe:=(fY (CX1 P w) P w K mg base N x (aL st) a cdv A outer s H E).xe) Pr IH S hr;have SR:=Gg (CX:=CX1 P w) (P:=P) (w:=w) (K:=K) (mg:=mg) (base:=base) (N:=N) (st:=st) (a:=a) (cdv:=cdv) (A:=A) (outer:=outer) (s:=s) (H:=H) (E:=E) (q:=x) (xe:=(fY (CX1 P w) P w K mg base N x (aL st) a cdv A outer s H E).xe);have XC:XCok T xtt (aq tab xt n) (fY (CX1 P w) P w K mg base N x (aL st) a cdv A outer s H E) E (fun y H'=>∀ C,mg y=some (.ref C)->E (.ref C) none H') true :=
    ⟨Uu.pass,fun _=>Uu,fun y C H' hC k=>k C hC,Pr.facts,fun f' x' hF'=>by
     obtain ⟨a',fd',ps',q1,q2,q3,q4,q5,q9,q10⟩:=IH f' x' hF';exact ⟨n,a',fd',ps',q9,hr,q2,q3,q4,q10⟩,rfl,rfl⟩
   refine ⟨_,yt (E:=⟨H,[]⟩) (Es:=Hs) (O:=[]) (fun m _=>HW m) rfl rfl C SR PassesOwn.leaving XC h4 hO,?_⟩;refine ⟨st0 d ds,Hs,Kf hs r (by rw [h3,h2];omega),?_⟩;cases hr2:bN (aq tab xt n) b (st0 d ds) with
   | stuck=>rw [hr2] at k;exact k
   | exc y=>rw [hr2] at k;exact fun H' Hs' g C hC=>k H' Hs' C hC g
   | ok o =>
    rw [hr2] at k;cases o with
    | rt z=>exact fun v H' Hs' g' r'=>k v H' Hs' g' r'
    | nx ρ'=>exact fun O1 _ σ' H' Hs' F' _=>k .non H' Hs' F'.grow (yp.mpr rfl)
 .rw [ce] at h;by_cases hl:ds.length=d.np
  .rw [hl,h2]
  .rw [if_neg hl] at h;exact absurd rfl h
theorem O8 {p:D->R D}:∀ {ts:List D}{u:Unit},nM p ts=.ok u->Af p ts
 | [],_,_=>trivial
 | t::ts,u,h=>by
  replace h:(match p t with | .ok (.bl true)=>nM p ts | _=>.stuck)=.ok u:=h;split at h
  .rename_i e;exact ⟨e,O8 h⟩
  .cases h
def YB (Pr:PrX T xtt tab xt K mg) (IH:KR T tab xt P w K mg base n) (hx:xt.lookup f=some b) (ht:tab[f]?=some d) (F:Fun K x x st a fd) (hd:LamD T K mg x b d ps st a fd) :
  FnOk P w K mg base CX0 (n+1) a fd ps (spD ⟨P,w,K⟩ (aq tab xt (n+1) f) ps.length)/\(∀ ds z,aq tab xt (n+1) f ds=.ok z->ds.length=ps.length)/\∀ ds y,aq tab xt (n+1) f ds=.exc y->False:=by
 obtain ⟨q,p1,p2,p3,p4,p5,p6,p7,p8,p9,p10,rfl,hT,hbd⟩:=hd.ex;have ce:∀ ds,aq tab xt (n+1) f ds=if ds.length=d.np then mX (bN (aq tab xt n) [.lam q] (st0 d ds)) else .stuck:=fun ds=>by
  show (match xt.lookup f with | some b=>_ | none=>_)=_
  rw [hx];show Aa _ _ _ _=_
  rw [ht];rfl
 have two:∀ ds:List D,ds.length=d.np->∃ u v,ds=[u,v]/\st0 d ds=[some u,some v]:=fun ds hl=>by
  rw [hd.np] at hl
  match ds,hl with
  | [u,v],_ =>
   refine ⟨u,v,rfl,?_⟩;unfold st0;rw [hd.nn,hd.np];rfl
 have lam:∀ u v,mX (bN (aq tab xt n) [.lam q] [some u,some v])=(match v with | .lst ts=>(match nM (fun t=>aq tab xt n q [u,t]) ts with | .ok _=>.ok .non | _=>.stuck) | _=>.stuck):=fun u v=>by
  show mX (v5 _ [] (PL (aq tab xt n) q [some u,some v]))=_
  cases v <;> try rfl
  rename_i ts;show mX (v5 _ [] (match nM (fun t=>aq tab xt n q [u,t]) ts with | .ok _=>.ok (.nx [some u,some (.lst ts)]) | _=>.stuck))=(match nM (fun t=>aq tab xt n q [u,t]) ts with | .ok _=>.ok .non | _=>.stuck)
  cases nM (fun t=>aq tab xt n q [u,t]) ts <;> rfl
 have hc:∀ ds z,aq tab xt (n+1) f ds=.ok z->∃ u ts,ds=[u,.lst ts]/\z=.non/\Af (fun t=>aq tab xt n q [u,t]) ts:=fun ds z h=>by
  rw [ce] at h;obtain ⟨hl,h1⟩:=dH h;obtain ⟨u,v,rfl,e⟩:=two ds hl;rw [e,lam] at h1;cases v <;> try (cases h1;done)
  rename_i ts;replace h1:(match nM (fun t=>aq tab xt n q [u,t]) ts with | .ok _=>R.ok D.non | _=>.stuck)=.ok z:=h1;split at h1
  .rename_i e2;cases h1;exact ⟨u,ts,rfl,rfl,O8 e2⟩
  .cases h1
 refine ⟨?_,fun ds z h=>?_,fun ds y h=>?_⟩
 .have FP:FnsP T (aq tab xt n) P w K mg base n:=⟨Pr.blt,Pr.gl,fun f' x' hF'=>by
   obtain ⟨a',fd',ps',q1,q2,q3,q4,q5,_⟩:=IH f' x' hF';exact ⟨a',fd',ps',q1,q2,q3,q4,q5⟩⟩
  have hlam:=hd.lam;have hnm:=hd.nm;have hpar:=hd.par;subst hnm hpar;obtain ⟨oc,od,kV,doc,pm,an,cdv,ct,osl,rfl,lk,hcd⟩:=F.ex;rw [hbd,hd.sc] at lk ⊢;exact W7 FP hT hc lk hcd hlam
 .obtain ⟨u,ts,rfl,_⟩:=hc ds z h;rw [hd.par];rfl
 .rw [ce] at h;by_cases hl:ds.length=d.np
  .rw [if_pos hl] at h;obtain ⟨u,v,rfl,e⟩:=two ds hl;rw [e,lam] at h;cases v <;> try (cases h;done)
   rename_i ts;replace h:(match nM (fun t=>aq tab xt n q [u,t]) ts with | .ok _=>R.ok D.non | _=>.stuck)=.exc y:=h;split at h <;> cases h
  .rw [if_neg hl] at h;cases h
def DR (c:List D->R D) (np:Nat) (hne:∀ ds x,c ds=.exc x->False) (vs:List V) (H:Hp) (Q:VK) (E:XK) (h:spX ⟨P,w,K⟩ mg c np vs H Q E):spD ⟨P,w,K⟩ c np vs H Q E:=by
 obtain ⟨ds,Hs,h1,h2,h3,k⟩:=h;cases hc:c ds with
 | ok d=>rw [hc] at k;exact ⟨ds,Hs,d,h1,h2,h3,hc,k⟩
 | exc x=>exact (hne ds x hc).elim
 | stuck=>rw [hc] at k;exact k.elim
def Py (c:List D->R D) (np:Nat) (vs:List V) (H:Hp) (Q:VK) (E:XK) (h:spD ⟨P,w,K⟩ c np vs H Q E):spX ⟨P,w,K⟩ mg c np vs H Q E0:=by
 obtain ⟨ds,Hs,d,h1,h2,h3,hc,k⟩:=h;refine ⟨ds,Hs,h1,h2,h3,?_⟩;rw [hc];exact k
end
theorem zf {T:Tx}{xtt:XT}{tab:List Def}{xt:uP}{P:Program}{w:World}{K:zd}{mg:w8} (Pr:PrX T xtt tab xt K mg) (base:Heap):∀ (n:Nat),KR T tab xt P w K mg base n
 | 0,f,x,hF=>by
  obtain ⟨d,N,ps,st,a,fd,ht,F,hm,hb,hd⟩:=Pr.fn f x hF;refine ⟨a,fd,ps,⟨fun vs H Q E h=>?_,fun A outer s H args us vs Q E hr he hbt hv h=>?_⟩,hm,F.kp,hb,fun ds d h=>?_,⟨fun vs H Q E h=>?_,fun A outer s H args us vs Q E hr he hbt hv h=>?_⟩,fun ds h=>?_⟩
  .obtain ⟨ds,Hs,d,_,_,_,h,_⟩:=h;cases h
  .obtain ⟨ds,Hs,d,_,_,_,h,_⟩:=h;cases h
  .cases h
  .obtain ⟨ds,Hs,_,_,_,h⟩:=h;exact h.elim
  .obtain ⟨ds,Hs,_,_,_,h⟩:=h;exact h.elim
  .exact absurd rfl h
 | n+1,f,x,hF=>by
  obtain ⟨d,N,ps,st,a,fd,ht,F,hm,hb,hd⟩:=Pr.fn f x hF;cases hx:xt.lookup f with
  | none =>
   rw [hx] at hd;obtain ⟨q1,q2⟩:=Ln Pr (zf Pr base n) hx ht F hd;refine ⟨a,fd,ps,q1,hm,F.kp,hb,q2,q1.lifted.imp (DR _ _ fun ds y h=>Bj hx h),fun ds h=>?_⟩;cases hc:aq tab xt (n+1) f ds with
   | ok z=>exact q2 ds z hc
   | exc y=>exact (Bj hx hc).elim
   | stuck=>exact absurd hc h
  | some b =>
   rw [hx] at hd;have both:FnOk P w K mg base CX0 (n+1) a fd ps (spD ⟨P,w,K⟩ (aq tab xt (n+1) f) ps.length)/\FnOk P w K mg base (CX1 P w) (n+1) a fd ps (spX ⟨P,w,K⟩ mg (aq tab xt (n+1) f) ps.length)/\∀ ds,aq tab xt (n+1) f ds≠.stuck->ds.length=ps.length:=by
    rcases hd with hd | hd
    .obtain ⟨q1,q2⟩:=Zy Pr (zf Pr base n) hx ht F hd;exact ⟨q1.calmed (Py _ _),q1,q2⟩
    .obtain ⟨q1,q2,q3⟩:=YB Pr (zf Pr base n) hx ht F hd;refine ⟨q1,q1.lifted.imp (DR _ _ fun ds y h=>q3 ds y h),fun ds h=>?_⟩;cases hc:aq tab xt (n+1) f ds with
     | ok z=>exact q2 ds z hc
     | exc y=>exact (q3 ds y hc).elim
     | stuck=>exact absurd hc h
   obtain ⟨q0,q1,q2⟩:=both;exact ⟨a,fd,ps,q0,hm,F.kp,hb,fun ds z h=>q2 ds (by rw [h];exact fun z=>nomatch z),q1,q2⟩
variable {xt:uP}
def acI {l:PySem.W.OpenLaw}{q:Program}{loose:zk}{XP:(w8)->Heap->Prop}{YP:World->Heap->Prop}{dr:DefRec}{K:Params->zd}{T:Tx}{xtt:XT}{tab:List Def}{n fl:Nat}{par:Str}{N:zk}{st:Stmt}{d:Def}
  (hn:l.most=some 63) (hdf:dr.params.defaults=[]) (hr:Room (n+1) callerA) (ht:tab[fl]?=some d) (hx:xt.lookup fl=none) (hd:bY T d N [par] st=true)
  (hY:∀ (w:World) (h:Heap),YP w h->(K w.params).In h) (hKc:∀ (p:Params) (b:Addr) (o:Obj),(K p).lookup b=some o->Pn o) (hT:∀ (w:World) (s₀:Shared) (mg mb:w8) (h:Heap),PySem.W.Ground q loose [] XP w s₀ mg mb h->YP w h->∃ tP,Dq mg h tP)
  (F:∀ (w:World) (mg:w8) (h:Heap),(K w.params).In h->h.Ns mainGlobals mg->PrX T xtt tab xt (K w.params) mg)
  (FL:∀ (w:World),FF (K w.params) dr.name st)
  (hb:∀ (kV doc pm:Value) (an:zv) (cdv ct u:Value),bindArgs (PySem.W.fnOf dr.name dr.name (dI st) (cI st) (aL st) .none kV doc pm an cdv ct) ⟨[u],[]⟩=pure [(par,u)])
  (law:∀ ns:List Int,ns.length<=63->aq tab xt (n+1) fl [.lst (ns.map D.int)]=.ok (.bl true)) :
  PySem.W.WalkO q loose XP YP l.row.toRowW dr [] (fun f vs=>PySem.call f vs):=by
 refine L2.Zj (n:=63) (k:=n+1) (x:=par) (CX:=fun _=>CX0) (sp:=fun w=>spD ⟨l.prog,w,K w.params⟩ (aq tab xt (n+1) fl) 1) hn (by decide) hdf hr hY hKc hT (fun w mg fa h KX G hmg=>?_) (fun w H a ns hl hO hS=>?_) (fun _ _ _ _ _ z=>z)
 .obtain ⟨a,fd,ha,FF⟩:=(FL w).ex;have e:=hmg.symm.trans (PySem.W.mg_of KX G ha);cases e;refine ⟨fd,fun s u=>?_,fun base kb nb=>(Ln (F w mg h KX G) (zf (F w mg h KX G) base n) hx ht FF hd).1⟩;obtain ⟨oc,od,kV,doc,pm,an,cdv,ct,osl,rfl,lk,hcd⟩:=FF.ex;exact .of_eq (hb kV doc pm an cdv ct u)
 .exact ⟨[.lst (ns.map D.int)],H,.bl true,rfl,Same.refl _,Rps.one (cN.mpr ⟨a,_,rfl,hS,Ih ns⟩),law ns hl,fun v H' Hs' g' r=>mW.mp r⟩
end Mi
namespace Mi
open PySem L2
open PyProof.Rows hiding St
open PySem.W (Frag nsIn excIn clsIn findIn findObj specialIn takesIn mroIn subIn exmOne kitOne XcK)
theorem SJ:∀ {l:uP}{f:Nat}{b:List XS},l.lookup f=some b->(f,b)∈l
 | [],_,_,h=>by cases h
 | (k,v)::l,f,b,h=>by
  rw [List.lookup_cons] at h;split at h
  .rename_i e;cases h;rw [beq_iff_eq.mp e];exact vi
  .exact ve _ (SJ h)
def xcB (K:Frag) (C:Addr):Bool:=excIn K C Ie "ValueError.__new__" && (clsIn K C).isSome && (findIn K (.ref C) "__class__" == some (some (.builtin "object.__class__"))) && (specialIn K (.builtin "object.__class__") "__get__" == some (some (.builtin "getset_descriptor.__get__"))) &&
 (takesIn K (.builtin "object.__class__") == some true) && (mroIn K C (.type "object") == some true) && (findIn K (.ref C) "__getattribute__" == some (some (.builtin "BaseException.__getattribute__"))) && (findIn K (.ref C) "__getattr__" == some none) && (subIn K (.ref C) (.type "BaseException") == some true)
variable {K:Frag}
def abk {C:Addr} (h:xcB K C=true):XcK K C:=by
 unfold xcB at h;simp only [Bool.and_eq_true,beq_iff_eq] at h;obtain ⟨⟨⟨⟨⟨⟨⟨⟨a,b⟩,c⟩,d⟩,e⟩,f⟩,g⟩,i⟩,j⟩:=h;exact ⟨a,b,c,d,e,f,g,i,j⟩
noncomputable def kxB (K:Frag) (p:Str × Value):Bool:=match p.2 with
 | .ref a=>nsIn K mainGlobals p.1 == some (some (.ref a))
 | .type n=>(nsIn K mainGlobals p.1 == some none) && (bootBuiltins p.1 == some (.type n)) && !(p.1 == ("__name__":Str))
 | _=>false
def xfB (K:Frag) (cs hs:List (Str × Addr)) (ks:List (Str × Value)):Bool :=
 (cs.all fun p=>(nsIn K mainGlobals p.1 == some (some (.ref p.2))) && xcB K p.2) && (hs.all fun p=>nsIn K mainGlobals p.1 == some (some (.ref p.2))) && (ks.all fun p=>kxB K p) &&
 (cs.all fun p=>(hs.all fun q=>exmOne K (.ref p.2) (.ref q.2) == some (lE p.1 q.1)) && (ks.all fun q=>kitOne K (.ref p.2) q.2 == some (lE p.1 q.1)))
def acF {h:Heap}{mg:w8}{cs hs:List (Str × Addr)}{ks:List (Str × Value)} (X:K.In h) (G:h.Ns mainGlobals mg) (hb:xfB K cs hs ks=true):XF ⟨cs.map (·.1),hs.map (·.1),ks.map (·.1)⟩ K mg:=by
 unfold xfB at hb;simp only [Bool.and_eq_true,List.all_eq_true,beq_iff_eq] at hb;obtain ⟨⟨⟨h1,h2⟩,h3⟩,h4⟩:=hb;refine ⟨fun x hx=>?_,fun x hx k hk=>?_,fun x hx k hk=>?_⟩
 .obtain ⟨p,hp,rfl⟩:=yI.mp hx;exact ⟨p.2,PySem.W.mg_of X G (h1 p hp).1,abk (h1 p hp).2⟩
 .obtain ⟨p,hp,rfl⟩:=yI.mp hx;obtain ⟨q,hq,rfl⟩:=yI.mp hk;exact ⟨p.2,q.2,PySem.W.mg_of X G (h1 p hp).1,PySem.W.mg_of X G (h2 q hq),(h4 p hp).1 q hq⟩
 .obtain ⟨p,hp,rfl⟩:=yI.mp hx;obtain ⟨q,hq,rfl⟩:=yI.mp hk;refine ⟨p.2,q.2,PySem.W.mg_of X G (h1 p hp).1,?_,(h4 p hp).2 q hq⟩;have h5:=h3 q hq;obtain ⟨nm,v⟩:=q;cases v <;> try (cases h5;done)
  .rename_i n;replace h5:((nsIn K mainGlobals nm == some none) && (bootBuiltins nm == some (.type n)) && !(nm == ("__name__":Str)))=true:=h5
   simp only [Bool.and_eq_true,beq_iff_eq,Bool.not_eq_true',beq_eq_false_iff_ne] at h5;exact .inr ⟨n,rfl,PySem.W.mg_none_of X G h5.1.1,h5.1.2,h5.2⟩
  .rename_i a;replace h5:(nsIn K mainGlobals nm == some (some (.ref a)))=true:=h5;exact .inl ⟨a,rfl,PySem.W.mg_of X G (beq_iff_eq.mp h5)⟩
end Mi
set_option maxHeartbeats 1000000
namespace Mi
open PySem L2
open PyProof.Rows hiding St
noncomputable def z9 (K:zd):Value->Bool
 | .ref cc=>(match K.lookup cc with
  | some ⟨.type t,_,.fields vs,_⟩=>decide (t="code") && (match (vs[11]?:Option Value) with
   | some (.ref p)=>(match vs.getD 18 .none with
    | .str _ _=>(match vs.getD 7 .none with
     | .int _ _=>(match vs.getD 9 .none with
      | .bool _=>(match vs.getD 10 .none with
       | .int _ _=>decide (cc≠p)
       | _=>false)
      | _=>false)
     | _=>false)
    | _=>false)
   | _=>false)
  | _=>false)
 | _=>false
variable {K:zd}
def Qq {v:Value} (h:z9 K v=true):∃ cc Pt oc vs file tf flags tg inF text tt,v=.ref cc /\ K.lookup cc=some oc /\ oc.cls=.type "code" /\ oc.data=.fields vs /\ vs[11]?=some (.ref Pt) /\ vs.getD 11 .none=.ref Pt /\ vs.getD 18 .none=.str file tf /\ vs.getD 7 .none=.int flags tg /\ vs.getD 9 .none=.bool inF /\ vs.getD 10 .none=.int text tt /\ cc ≠ Pt:=by
 unfold z9 at h;split at h <;> try (cases h;done)
 rename_i cc;split at h <;> try (cases h;done)
 rename_i t dd vs sl e;rw [Bool.and_eq_true] at h;obtain ⟨h0,h⟩:=h;cases of_decide_eq_true h0;split at h <;> try (cases h;done)
 rename_i p e11;split at h <;> try (cases h;done)
 rename_i f18 t18 e18;split at h <;> try (cases h;done)
 rename_i f7 t7 e7;split at h <;> try (cases h;done)
 rename_i f9 e9;split at h <;> try (cases h;done)
 rename_i f10 t10 e10;refine ⟨cc,p,_,vs,f18,t18,f7,t7,f9,f10,t10,rfl,e,rfl,rfl,e11,?_,e18,e7,e9,e10,of_decide_eq_true h⟩;simp [Array.getD_eq_getD_getElem?,e11]
structure FL (K:zd) (x:Str) (st:Stmt):Prop where
 ex:∃ a fd,PySem.W.nsIn K mainGlobals x=some (some (.ref a))/\Fun K x x st a fd/\z9 K fd.code=true
variable {st:Stmt}
theorem acS {x:Str}{f:Addr}{oc:Value}{od an:zv}{osl:zw}{kV doc pm cdv ct:Value} (a:PySem.W.nsIn K mainGlobals x=some (some (.ref f)))
  (l:K.lookup f=some ⟨oc,od,.func (PySem.W.fnOf x x (dI st) (cI st) (aL st) .none kV doc pm an cdv ct),osl⟩) (c:PySem.W.codeIn K cdv x=true) (k:PySem.W.keepIn K (.ref f)=true) (h:z9 K cdv=true):FL K x st :=
 ⟨⟨f,_,a,TF l c k,h⟩⟩
variable {h:Heap}
def aa3 {T:Tx}{xtt:XT}{tab:List Def}{xt:uP}{mg:w8}{stc:Stmt}{d:Def}{i q:Nat}{p1 p2 p3 p4 p5 p6 p7 p8 p9 p10:Pos}{a1 a2 a3 a4 a5 a6:Pos}{x1 c1:Option Expr}{b1 b2 b3 b4 b5 b6 b7 b8 b9 b10 b11 b12 b13:Pos}{j:Nat}{r2:zn}
  (X:K.In h) (G:h.Ns mainGlobals mg) (fl:FL K (Str.ofString "check_tests") st) (fc:FF K (Str.ofString "check_list") stc) (hx:xt.lookup i=some [.lam q]) (ht:tab[i]?=some d) (hq:T.F[q]?=some (Str.ofString "is_test"))
  (hb:cI st=Ds p1 p2 p3 p4 p5 p6 p7 p8 p9 p10) (hs:aL st=jh) (hbc:cI stc=yj a1 a2 a3 a4 a5 a6 x1 c1 b1 b2 b3 b4 b5 b6 b7 b8 b9 b10 b11 b12 b13 j r2) (hsc:aL stc=dj) (hnp:d.np=2) (hnn:d.nn=2) (hmu:U3 d=false) (hnr:d.nrm=false)
  (hb1:∀ (kV doc pm:Value) (an:zv) (cdv ct:Value) (us:zg),us.length=([("book":Str),"tests"]:zk).length -> bindArgs (PySem.W.fnOf (Str.ofString "check_tests") (Str.ofString "check_tests") (dI st) (cI st) (aL st) .none kV doc pm an cdv ct) ⟨us,[]⟩=pure (([("book":Str),"tests"]:zk).zip us))
  (hb2:∀ (kV doc pm:Value) (an:zv) (cdv ct:Value) (us:zg),us.length=([("things":Str),"is_right"]:zk).length -> bindArgs (PySem.W.fnOf (Str.ofString "check_list") (Str.ofString "check_list") (dI stc) (cI stc) (aL stc) .none kV doc pm an cdv ct) ⟨us,[]⟩=pure (([("things":Str),"is_right"]:zk).zip us)) :
  ∃ d N ps st a fd,tab[i]?=some d /\ Fun K (Str.ofString "check_tests") (Str.ofString "check_tests") st a fd /\ mg (Str.ofString "check_tests")=some (.ref a) /\ L2.Binds K fd ps [] /\ (match xt.lookup i with | none=>bY T d N ps st=true | some b=>rN T xtt d b N ps st=true \/ LamD T K mg (Str.ofString "check_tests") b d ps st a fd):=by
 obtain ⟨a,fd,e,F,hco⟩:=fl.ex;obtain ⟨ac,fdc,ec,FC⟩:=fc.ex;have me:=PySem.W.mg_of X G e;refine ⟨d,[],[("book":Str),"tests"],st,a,fd,ht,F,me,F.binds hb1,?_⟩
 rw [hx];refine .inr ⟨⟨q,p1,p2,p3,p4,p5,p6,p7,p8,p9,p10,rfl,hq,hb⟩,hs,rfl,rfl,hnp,hnn,hmu,hnr,?_,Qq hco,me⟩;have bc:=FC.binds hb2;have kp:=FC.kp;obtain ⟨oc,od,kV,doc,pm,an,cdv,ct,osl,rfl,lk,hcd⟩:=FC.ex;rw [hbc,hsc] at lk bc;exact ⟨ac,dI stc,.none,kV,doc,pm,cdv,ct,oc,an,od,osl,a1,a2,a3,a4,a5,a6,x1,c1,b1,b2,b3,b4,b5,b6,b7,b8,b9,b10,b11,b12,b13,j,r2,lk,hcd,PySem.W.mg_of X G ec,kp,bc⟩
theorem Og:∀ {l:w4}{f:Addr}{b:Obj},l.lookup f=some b->(f,b)∈l
 | [],_,_,h=>by cases h
 | (k,v)::l,f,b,h=>by
  rw [List.lookup_cons] at h;split at h
  .rename_i e;cases h;rw [beq_iff_eq.mp e];exact vi
  .exact ve _ (Og h)
noncomputable def Xh (o:Obj):Bool:=match o.data,o.cls with
 | .fields _,.none=>false
 | _,_=>true
theorem acn (h:(K.all fun p=>Xh p.2)=true) (b:Addr) (o:Obj) (e:K.lookup b=some o):Pn o:=fun vs z1 z2=>by
 have:=y4.mp h (b,o) (Og e);unfold Xh at this;rw [z1,z2] at this;cases this
def tab_of {q:Program}{loose:zk}{XP:(Str -> Option Value) -> Heap -> Prop}{w:World}{s₀:Shared}{mg mb:Str -> Option Value} (hr:((recsOf q).any fun d=>decide (d.name=Str.ofString "check_tests"))=true) (G:PySem.W.Ground q loose [] XP w s₀ mg mb h):∃ tP,Dq mg h tP:=by
 obtain ⟨d,hd,e⟩:=List.any_eq_true.mp hr;obtain ⟨a,o,fd,c,P,t1,t2,t3,t4,_,t6⟩:=G.T.tab d hd;rw [of_decide_eq_true e] at t1;exact ⟨some P,a,o,fd,c,t1,t2,t3,t4,t6⟩
theorem us5 {α:Type}{p:List α->Prop} (h:∀ a b c d e,p [a,b,c,d,e]):∀ us:List α,us.length=5->p us
 | [_,_,_,_,_],_=>h _ _ _ _ _
end Mi
namespace E14
open PySem L2 Mi
noncomputable def T:Tx:=⟨[("is_whole":Str),("is_tuple":Str),("are_levels":Str),("is_setting":Str),("is_meeting":Str),("is_book":Str),("checked":Str),("meets":Str),("meets_any":Str),("all_rows":Str),("all_tests":Str),("is_row":Str),("is_test":Str),("check_tests":Str),("most_strength":Str),("check_book_and_strength":Str),("is_behind":Str),("meetings_among":Str),("meetings_of":Str),("met_by":Str),("possible":Str),("check_all":Str),("places_by_meeting":Str),("are_results":Str),("suspects":Str),("next_test":Str),("lists_by_results":Str),("blurred":Str),("_law_cell":Str),("_law_mix":Str),("_law_book":Str),("_law_rows":Str),("_law_meets":Str),("_law_tests":Str),("_law_meetings":Str),("_law_possible":Str),("_law_drawn":Str),("_law_strength":Str),("_law_told":Str),("law":Str)],[("MOST_THINGS",.int 6),("MOST_SETTINGS",.int 4),("MOST_ROWS",.int 400),("MOST_BANS",.int 12),("MOST_IN_MEETING",.int 3)]⟩
noncomputable def pO:Def:=⟨3,3,[.ret (.and [.isin (.var 0) .int,.not (.isin (.var 0) .bool),.chain .le .le (.var 1) (.var 0) (.var 2)])],true⟩
noncomputable def pZ:Def:=⟨3,3,[.ret (.and [.isin (.var 0) .tuple,.chain .le .le (.var 1) (.blt .len [.var 0]) (.var 2)])],true⟩
noncomputable def mF:Def:=⟨1,3,[.ifs (.not (.call 1 [.var 0,.con (.int 1),.con (.int 6)])) [.ret (.con (.bl false))] [],.set (.one 1) (.con (.int 1)),.forr (.one 2) .seq [.var 0] [.ifs (.not (.call 0 [.var 2,.con (.int 1),.con (.int 4)])) [.ret (.con (.bl false))] [],.set (.one 1) (.bin .mul (.var 1) (.var 2))],.ret (.cmp .le (.var 1) (.con (.int 400)))],true⟩
noncomputable def mJ:Def:=⟨2,2,[.ifs (.or [.not (.call 1 [.var 1,.con (.int 2),.con (.int 2)]),.not (.call 0 [.ix (.var 1) (.con (.int 0)),.con (.int 0),.bin .sub (.blt .len [.var 0]) (.con (.int 1))])]) [.ret (.con (.bl false))] [],.ret (.call 0 [.ix (.var 1) (.con (.int 1)),.con (.int 0),.bin .sub (.ix (.var 0) (.ix (.var 1) (.con (.int 0)))) (.con (.int 1))])],true⟩
noncomputable def lY:Def:=⟨2,4,[.ifs (.not (.call 1 [.var 1,.con (.int 1),.con (.int 3)])) [.ret (.con (.bl false))] [],.set (.one 2) (.con (.int 0)),.forr (.one 3) .seq [.var 1] [.ifs (.or [.not (.call 3 [.var 0,.var 3]),.cmp .lt (.ix (.var 3) (.con (.int 0))) (.var 2)]) [.ret (.con (.bl false))] [],.set (.one 2) (.bin .add (.ix (.var 3) (.con (.int 0))) (.con (.int 1)))],.ret (.con (.bl true))],true⟩
noncomputable def tY:Def:=⟨1,2,[.ifs (.or [.not (.call 1 [.var 0,.con (.int 2),.con (.int 2)]),.not (.call 2 [.ix (.var 0) (.con (.int 0))]),.not (.call 1 [.ix (.var 0) (.con (.int 1)),.con (.int 0),.con (.int 12)])]) [.ret (.con (.bl false))] [],.ret (.blt .all [.comp (.call 4 [.ix (.var 0) (.con (.int 0)),.var 1]) (.one 1) .seq [.ix (.var 0) (.con (.int 1))] false (.con (.bl true)) [true,false]])],true⟩
noncomputable def uo:Def:=⟨1,1,[.ifs (.not (.call 5 [.var 0])) [.rai] [],.ret (.var 0)],true⟩
noncomputable def Ah:Def:=⟨2,3,[.ret (.blt .all [.comp (.cmp .eq (.ix (.var 0) (.ix (.var 2) (.con (.int 0)))) (.ix (.var 2) (.con (.int 1)))) (.one 2) .seq [.var 1] false (.con (.bl true)) [true,false,false]])],true⟩
noncomputable def oG:Def:=⟨2,3,[.ret (.blt .any [.comp (.call 7 [.var 0,.var 2]) (.one 2) .seq [.var 1] false (.con (.bl true)) [true,false,false]])],true⟩
noncomputable def pY:Def:=⟨1,6,[.set (.one 1) (.lst [.tup []]),.forr (.one 2) .seq [.var 0] [.set (.one 3) (.lst []),.forr (.one 4) .seq [.var 1] [.ext 3 (.comp (.bin .add (.var 4) (.tup [.var 5])) (.one 5) .rng [.var 2] false (.con (.bl true)) [false,false,false,false,true,false])],.set (.one 1) (.var 3)],.ret (.var 1)],true⟩
noncomputable def oJ:Def:=⟨1,2,[.expr (.call 6 [.var 0]),.ret (.comp (.var 1) (.one 1) .seq [.call 9 [.ix (.var 0) (.con (.int 0))]] true (.not (.call 8 [.var 1,.ix (.var 0) (.con (.int 1))])) [true,false])],true⟩
noncomputable def v9:Def:=⟨2,4,[.ifs (.not (.call 1 [.var 1,.blt .len [.var 0],.blt .len [.var 0]])) [.ret (.con (.bl false))] [],.ret (.blt .all [.comp (.call 0 [.var 2,.con (.int 0),.bin .sub (.var 3) (.con (.int 1))]) (.two 2 3) .zip [.var 1,.var 0] false (.con (.bl true)) [false,false,false,false]])],true⟩
noncomputable def tX:Def:=⟨2,2,[.ret (.and [.call 11 [.ix (.var 0) (.con (.int 0)),.var 1],.not (.call 8 [.var 1,.ix (.var 0) (.con (.int 1))])])],true⟩
noncomputable def pq:Def:=⟨2,2,[.rai],false⟩
noncomputable def xG:List XS:=[.lam 12]
noncomputable def jF:Def:=⟨1,1,[.ret (.blt .min2 [.con (.int 3),.blt .len [.ix (.var 0) (.con (.int 0))]])],true⟩
noncomputable def dX:Def:=⟨2,2,[.expr (.call 6 [.var 0]),.ifs (.not (.call 0 [.var 1,.con (.int 1),.call 14 [.var 0]])) [.rai] []],true⟩
noncomputable def oE:Def:=⟨2,2,[.ret (.or [.cmp .eq (.blt .len [.var 1]) (.con (.int 0)),.cmp .lt (.ix (.ix (.var 1) (.neg (.con (.int 1)))) (.con (.int 0))) (.ix (.var 0) (.con (.int 0)))])],true⟩
noncomputable def jl:Def:=⟨2,7,[.set (.one 2) (.lst [.tup []]),.forr (.one 3) .rng [.var 1] [.set (.one 4) (.lst []),.forr (.one 5) .seq [.var 2] [.ext 4 (.comp (.bin .add (.var 5) (.tup [.var 6])) (.one 6) .seq [.var 0] true (.call 16 [.var 6,.var 5]) [false,false,false,false,false,true,false])],.set (.one 2) (.var 4)],.ret (.var 2)],true⟩
noncomputable def lq:Def:=⟨2,2,[.ret (.call 17 [.blt .listEnum [.var 0],.var 1])],true⟩
noncomputable def vD:Def:=⟨2,5,[.set (.one 2) .dct0,.forr (.one 3) .seq [.var 0] [.forr (.one 4) .seq [.call 18 [.var 3,.var 1]] [.put 2 (.var 4) (.con (.bl true))]],.ret (.var 2)],true⟩
noncomputable def rB:Def:=⟨2,2,[.expr (.call 15 [.var 0,.var 1]),.ret (.blt .sorted [.call 19 [.call 10 [.var 0],.var 1]])],true⟩
noncomputable def oM:Def:=⟨3,3,[.rai],false⟩
noncomputable def nQ:List XS:=[.n (.expr (.call 15 [.var 0,.var 1])),.ce 13 [.var 0,.var 2]]
noncomputable def iw:Def:=⟨2,6,[.set (.one 2) .dct0,.grp 2 (.forr (.two 3 4) .enum [.var 0] (.forr (.one 5) .seq [.call 18 [.var 4,.var 1]] (.sda (.var 5) (.var 3)))),.ret (.var 2)],true⟩
noncomputable def iI:Def:=⟨2,3,[.ifs (.or [.not (.isin (.var 1) .list),.cmp .ne (.blt .len [.var 1]) (.blt .len [.var 0])]) [.ret (.con (.bl false))] [],.ret (.blt .all [.comp (.isin (.var 2) .bool) (.one 2) .seq [.var 1] false (.con (.bl true)) [false,false,false]])],true⟩
noncomputable def mL:Def:=⟨4,9,[.rai],false⟩
noncomputable def mj:List XS:=[.ce 21 [.var 0,.var 1,.var 2],.ifs (.not (.call 23 [.var 2,.var 3])) [.rai "BadResults"] [],.n (.set (.one 4) (.call 22 [.var 2,.var 1])),.n (.set (.one 5) (.comp (.var 6) (.two 6 7) .enum [.var 3] true (.not (.var 7)) [false,false,false,false,false,false,false,false,false])),.n (.ret (.comp (.var 8) (.one 8) .seq [.call 20 [.var 0,.var 1]] true (.cmp .eq (.dget (.var 4) (.var 8) (.lst [])) (.var 5)) [false,false,false,false,true,true,false,false,false]))]
noncomputable def uD:Def:=⟨4,7,[.rai],false⟩
noncomputable def uG:List XS:=[.cs 4 24 [.var 0,.var 1,.var 2,.var 3],.any,.any,.any]
noncomputable def iJ:Def:=⟨3,6,[.set (.one 3) (.call 22 [.var 2,.var 1]),.set (.one 4) .dct0,.grp 4 (.forr (.one 5) .seq [.call 20 [.var 0,.var 1]] (.sda (.blt .tuple [.dget (.var 3) (.var 5) (.lst [])]) (.var 5))),.ret (.vals 4)],true⟩
noncomputable def tR:Def:=⟨3,4,[.rai],false⟩
noncomputable def uh:List XS:=[.ce 21 [.var 0,.var 1,.var 2],.n (.ret (.comp (.var 3) (.one 3) .seq [.call 26 [.var 0,.var 1,.var 2]] true (.cmp .gt (.blt .len [.var 3]) (.con (.int 1))) [false,false,false,false]))]
noncomputable def nW:Def:=⟨2,2,[.ifs (.cmp .lt (.var 1) (.blt .len [.var 0])) [.ret (.ix (.var 0) (.var 1))] [],.ret (.con (.int 0))],true⟩
noncomputable def pN:Def:=⟨3,3,[.ret (.bin .mod (.bin .mod (.bin .mul (.var 0) (.con (.int 48271))) (.var 1)) (.var 2))],true⟩
noncomputable def oA:Def:=⟨2,11,[.set (.one 2) (.call 28 [.var 0,.var 1]),.set (.one 3) (.bin .add (.con (.int 1)) (.call 29 [.var 2,.con (.int 9973),.con (.int 4)])),.set (.one 4) (.lst []),.forr (.one 5) .rng [.var 3] [.set (.one 7) (.con (.int 2)),.ifs (.or [.cmp .lt (.var 5) (.con (.int 2)),.cmp .gt (.blt .len [.var 0]) (.con (.int 63))]) [.set (.one 7) (.con (.int 3))] [],.app 4 (.bin .add (.con (.int 1)) (.call 29 [.bin .add (.bin .add (.call 28 [.var 0,.bin .add (.var 1) (.con (.int 1))]) (.bin .mul (.bin .mul (.con (.int 31)) (.var 5)) (.var 5))) (.var 5),.con (.int 9967),.var 7]))],.set (.one 6) (.lst []),.forr (.one 5) .rng [.call 29 [.var 2,.con (.int 9949),.con (.int 4)]] [.set (.one 8) (.bin .add (.bin .add (.call 28 [.var 0,.bin .add (.var 1) (.con (.int 2))]) (.bin .mul (.bin .mul (.con (.int 53)) (.var 5)) (.var 5))) (.bin .mul (.con (.int 7)) (.var 5))),.set (.one 9) (.slc (.comp (.var 10) (.one 10) .rng [.var 3] true (.cmp .eq (.call 29 [.bin .add (.var 8) (.bin .mul (.con (.int 17)) (.var 10)),.con (.int 9941),.con (.int 2)]) (.con (.int 1))) [false,false,false,false,false,false,false,false,true,false,false]) (.con .non) (.con (.int 3))),.ifs (.cmp .eq (.var 9) (.lst [])) [.set (.one 9) (.lst [.call 29 [.var 8,.con (.int 9931),.var 3]])] [],.app 6 (.blt .tuple [.comp (.tup [.var 10,.call 29 [.bin .add (.var 8) (.bin .mul (.con (.int 5)) (.var 10)),.con (.int 9929),.ix (.var 4) (.var 10)]]) (.one 10) .seq [.var 9] false (.con (.bl true)) [false,false,false,false,true,false,false,false,true,false,false]])],.ret (.tup [.blt .tuple [.var 4],.blt .tuple [.var 6]])],true⟩
noncomputable def nR:Def:=⟨1,6,[.set (.one 1) (.lst [.tup []]),.forr (.one 2) .seq [.var 0] [.set (.one 3) (.lst []),.forr (.one 4) .seq [.var 1] [.set (.one 3) (.bin .add (.var 3) (.comp (.bin .add (.var 4) (.tup [.var 5])) (.one 5) .rng [.var 2] false (.con (.bl true)) [false,false,false,false,true,false]))],.set (.one 1) (.var 3)],.ret (.var 1)],true⟩
noncomputable def lZ:Def:=⟨2,3,[.ret (.cmp .eq (.comp (.var 2) (.one 2) .seq [.var 1] true (.cmp .ne (.ix (.var 0) (.ix (.var 2) (.con (.int 0)))) (.ix (.var 2) (.con (.int 1)))) [true,false,false]) (.lst []))],true⟩
noncomputable def mY:Def:=⟨1,4,[.set (.one 1) (.lst []),.forr (.one 2) .seq [.call 31 [.ix (.var 0) (.con (.int 0))]] [.ifs (.cmp .eq (.comp (.var 3) (.one 3) .seq [.ix (.var 0) (.con (.int 1))] true (.call 32 [.var 2,.var 3]) [false,false,true,false]) (.lst [])) [.app 1 (.var 2)] []],.ret (.var 1)],true⟩
noncomputable def jJ:Def:=⟨2,8,[.set (.one 2) .dct0,.forr (.one 3) .seq [.call 31 [.ix (.var 0) (.con (.int 0))]] [.set (.one 4) (.lst [.tup []]),.forr (.two 5 6) .enum [.var 3] [.set (.one 4) (.bin .add (.var 4) (.comp (.bin .add (.var 7) (.tup [.tup [.var 5,.var 6]])) (.one 7) .seq [.var 4] false (.con (.bl true)) [false,false,false,false,false,true,true,false]))],.forr (.one 7) .seq [.var 4] [.ifs (.cmp .eq (.blt .len [.var 7]) (.var 1)) [.put 2 (.var 7) (.con (.bl true))] []]],.ret (.blt .sorted [.var 2])],true⟩
noncomputable def jD:Def:=⟨2,6,[.set (.one 2) (.call 33 [.var 0]),.set (.one 3) (.lst []),.forr (.one 4) .seq [.call 34 [.var 0,.var 1]] [.ifs (.cmp .ne (.comp (.var 5) (.one 5) .seq [.var 2] true (.call 32 [.var 5,.var 4]) [false,false,false,false,true,false]) (.lst [])) [.app 3 (.var 4)] []],.ret (.var 3)],true⟩
noncomputable def jY:Def:=⟨4,7,[.set (.one 4) (.call 33 [.var 2]),.set (.one 5) (.lst []),.ifs (.cmp .ne (.var 4) (.lst [])) [.forr (.one 6) .rng [.call 29 [.call 28 [.var 0,.var 1],.con (.int 9923),.bin .add (.var 3) (.con (.int 1))]] [.app 5 (.ix (.var 4) (.call 29 [.bin .add (.bin .add (.call 28 [.var 0,.var 1]) (.bin .mul (.bin .mul (.con (.int 29)) (.var 6)) (.var 6))) (.var 6),.con (.int 9907),.blt .len [.var 4]]))]] [],.ret (.var 5)],true⟩
noncomputable def jB:Def:=⟨2,2,[.ret (.blt .min2 [.ix (.lst [.con (.int 2),.con (.int 2),.con (.int 1),.con (.int 3)]) (.bin .mod (.var 1) (.con (.int 4))),.blt .len [.ix (.var 0) (.con (.int 0))]])],true⟩
noncomputable def n8:Def:=⟨5,6,[.rai],false⟩
noncomputable def n6:List XS:=[.tr [.ifs (.cmp .eq (.var 0) (.con (.int 0))) [.cr 24 [.var 1,.var 2,.var 3,.var 4]] [],.cr 25 [.var 1,.var 2,.var 3,.var 4]] 5 "TestError" [(false,"BadResults"),(false,"ValueError"),(true,"refused")] ["BadBook","BadStrength","BadResults"]]
noncomputable def zp:Def:=⟨1,19,[.set (.one 1) (.call 30 [.var 0,.con (.int 2)]),.set (.one 2) (.call 37 [.var 1,.call 28 [.var 0,.con (.int 0)]]),.set (.one 3) (.call 36 [.var 0,.con (.int 5),.var 1,.con (.int 6)]),.set (.one 4) (.call 35 [.var 1,.var 2]),.set (.one 5) (.comp (.cmp .eq (.call 29 [.bin .add (.call 28 [.var 0,.con (.int 1)]) (.bin .mul (.con (.int 13)) (.var 16)),.con (.int 9859),.con (.int 2)]) (.con (.int 1))) (.one 16) .rng [.blt .len [.var 3]] false (.con (.bl true)) [true,false,false,false,false,false,false,false,false,false,false,false,false,false,false,false,false,false,false]),.ifs (.and [.cmp .ne (.var 4) (.lst []),.cmp .gt (.bin .mod (.call 28 [.var 0,.con (.int 1)]) (.con (.int 4))) (.con (.int 0))]) [.set (.one 12) (.ix (.var 4) (.bin .mod (.call 28 [.var 0,.con (.int 1)]) (.blt .len [.var 4]))),.set (.one 5) (.comp (.not (.call 32 [.var 17,.var 12])) (.one 17) .seq [.var 3] false (.con (.bl true)) [false,false,false,false,false,false,false,false,false,false,false,false,true,false,false,false,false,false,false])] [],.ifs (.cmp .eq (.bin .mod (.call 28 [.var 0,.con (.int 0)]) (.con (.int 6))) (.con (.int 5))) [.set (.one 13) (.lst [.con .non,.blt .tuple [.var 5],.bin .add (.var 5) (.lst [.con (.bl true)]),.bin .mul (.lst [.con (.int 1)]) (.bin .add (.blt .len [.var 3]) (.con (.int 1))),.bin .add (.slc (.var 5) (.con .non) (.neg (.con (.int 1)))) (.lst [.con .non]),.lst [.var 5]]),.set (.one 14) (.ix (.var 13) (.bin .mod (.call 28 [.var 0,.con (.int 1)]) (.bin .add (.con (.int 4)) (.blt .int [.cmp .ne (.var 3) (.lst [])])))),.ret (.cmp .eq (.comp (.var 18) (.one 18) .rng [.con (.int 2)] true (.cmp .ne (.call 38 [.var 18,.var 1,.var 2,.var 3,.var 14]) (.lst [.con (.bl true),.con (.bl true),.con (.str "refused")])) [false,true,true,true,false,false,false,false,false,false,false,false,false,false,true,false,false,false,false]) (.lst []))] [],.set (.one 6) (.tup [.blt .list [.var 3],.blt .list [.var 5]]),.set (.one 7) (.lst []),.set (.one 8) .dct0,.forr (.one 9) .seq [.var 4] [.set (.one 15) (.comp (.not (.call 32 [.var 17,.var 9])) (.one 17) .seq [.var 3] false (.con (.bl true)) [false,false,false,false,false,false,false,false,false,true,false,false,false,false,false,false,false,false,false]),.ifs (.cmp .eq (.var 15) (.var 5)) [.app 7 (.var 9)] [],.acc 8 (.blt .tuple [.var 15]) (.var 9)],.ifs (.or [.cmp .ne (.call 38 [.con (.int 0),.var 1,.var 2,.var 3,.var 5]) (.var 7),.cmp .ne (.tup [.var 3,.var 5]) (.var 6)]) [.ret (.con (.bl false))] [],.set (.one 10) (.blt .sorted [.comp (.ix (.var 8) (.var 15)) (.one 15) .seq [.var 8] true (.cmp .gt (.blt .len [.ix (.var 8) (.var 15)]) (.con (.int 1))) [false,false,false,false,false,false,false,false,true,false,false,false,false,false,false,false,false,false,false]]),.set (.one 11) (.call 27 [.var 1,.var 2,.var 3]),.ret (.and [.isin (.var 11) .list,.cmp .eq (.var 11) (.var 10)])],true⟩
def tab:List Def:=[pO,pZ,mF,mJ,lY,tY,uo,Ah,oG,pY,oJ,v9,tX,pq,jF,dX,oE,jl,lq,vD,rB,oM,iw,iI,mL,uD,iJ,tR,nW,pN,oA,nR,lZ,mY,jJ,jD,jY,jB,n8,zp]
def aG:uP:=[(13,xG),(21,nQ),(24,mj),(25,uG),(27,uh),(38,n6)]
noncomputable def cs:List (Str × Addr):=[("BadBook",37),("BadStrength",49),("BadResults",80)]
noncomputable def hs:List (Str × Addr):=[("TestError",24)]
noncomputable def ks:List (Str × Value):=[("BadResults",.ref 80),("ValueError",.type "ValueError")]
def xtt:XT:=⟨cs.map (·.1),hs.map (·.1),ks.map (·.1)⟩
variable {n f:Nat}{d:Def}{args:List D}
def bH (ht:tab[f]?=some d) (hl:args.length=d.np) (hn:d.nrm=true:=by rfl) (hx:aG.lookup f=none:=by rfl):aq tab aG (n+1) f args=kE (cQ (aq tab aG n) d.body (args.map some++List.replicate (d.nn - d.np) none)):=Xd hx ht hl hn
theorem lW {b:List XS} (ht:tab[f]?=some d) (hx:aG.lookup f=some b) (hl:args.length=d.np):aq tab aG (n+1) f args=mX (bN (aq tab aG n) b (args.map some++List.replicate (d.nn - d.np) none)):=RQ hx ht hl
theorem Qd:tab[0]?=some pO:=rfl
def Ni:bY T pO ["thing","least","most"] ["thing","least","most"] (top 12)=true:=by decide +kernel
theorem QK:tab[1]?=some pZ:=rfl
def MK:bY T pZ ["thing","least","most"] ["thing","least","most"] (top 13)=true:=by decide +kernel
theorem JB:tab[2]?=some mF:=rfl
def Hi:bY T mF ["thing","rows","level"] ["thing"] (top 14)=true:=by decide +kernel
theorem JX:tab[3]?=some mJ:=rfl
def Hf:bY T mJ ["levels","thing"] ["levels","thing"] (top 15)=true:=by decide +kernel
theorem JV:tab[4]?=some lY:=rfl
def Hg:bY T lY ["levels","thing","behind","pair"] ["levels","thing"] (top 16)=true:=by decide +kernel
theorem S6:tab[5]?=some tY:=rfl
def Qi:bY T tY ["thing","ban"] ["thing"] (top 17)=true:=by decide +kernel
theorem TV:tab[6]?=some uo:=rfl
def Qf:bY T uo ["book"] ["book"] (top 18)=true:=by decide +kernel
theorem Yk:tab[7]?=some Ah:=rfl
def Xn:bY T Ah ["row","meeting","pair"] ["row","meeting"] (top 19)=true:=by decide +kernel
theorem M8:tab[8]?=some oG:=rfl
def K3:bY T oG ["row","meetings","meeting"] ["row","meetings"] (top 20)=true:=by decide +kernel
theorem Pq:tab[9]?=some pY:=rfl
def LK:bY T pY ["levels","rows","level","longer","row","setting"] ["levels"] (top 21)=true:=by decide +kernel
theorem Mg:tab[10]?=some oJ:=rfl
def JF:bY T oJ ["book","row"] ["book"] (top 22)=true:=by decide +kernel
theorem VN:tab[11]?=some v9:=rfl
def RJ:bY T v9 ["levels","thing","setting","level"] ["levels","thing"] (top 23)=true:=by decide +kernel
theorem Uo:tab[12]?=some tX:=rfl
def QG:bY T tX ["book","thing"] ["book","thing"] (top 24)=true:=by decide +kernel
theorem xg:tab[13]?=some pq:=rfl
theorem xK:aG.lookup 13=some xG:=rfl
theorem Dy:tab[14]?=some jF:=rfl
def Br:bY T jF ["book"] ["book"] (top 28)=true:=by decide +kernel
theorem pX:tab[15]?=some dX:=rfl
def pH:bY T dX ["book","strength"] ["book","strength"] (top 29)=true:=by decide +kernel
theorem Mh:tab[16]?=some oE:=rfl
def Ks:bY T oE ["pair","meeting"] ["pair","meeting"] (top 30)=true:=by decide +kernel
theorem Cr:tab[17]?=some jl:=rfl
def Al:bY T jl ["pairs","many","meetings","step","longer","meeting","pair"] ["pairs","many"] (top 31)=true:=by decide +kernel
theorem Hy:tab[18]?=some lq:=rfl
def Eo:bY T lq ["test","strength"] ["test","strength"] (top 32)=true:=by decide +kernel
theorem Wx:tab[19]?=some vD:=rfl
def Tp:bY T vD ["tests","strength","met","test","meeting"] ["tests","strength"] (top 33)=true:=by decide +kernel
theorem PK:tab[20]?=some rB:=rfl
def Mv:bY T rB ["book","strength"] ["book","strength"] (top 34)=true:=by decide +kernel
theorem MJ:tab[21]?=some oM:=rfl
theorem Mu:aG.lookup 21=some nQ:=rfl
def KQ:rN T xtt oM nQ ["book","strength","tests"] ["book","strength","tests"] (top 36)=true:=by decide +kernel
theorem xP:tab[22]?=some iw:=rfl
def v8:bY T iw ["tests","strength","places","place","test","meeting"] ["tests","strength"] (top 37)=true:=by decide +kernel
theorem kZ:tab[23]?=some iI:=rfl
def Em:bY T iI ["tests","thing","result"] ["tests","thing"] (top 39)=true:=by decide +kernel
theorem CJ:tab[24]?=some mL:=rfl
theorem Dm:aG.lookup 24=some mj:=rfl
def M4:rN T xtt mL mj ["book","strength","tests","results","places","faulty","place","result","meeting"] ["book","strength","tests","results"] (top 40)=true:=by decide +kernel
theorem Mr:tab[25]?=some uD:=rfl
theorem Nb:aG.lookup 25=some uG:=rfl
def Ku:rN T xtt uD uG ["book","strength","tests","results","meetings","every","place"] ["book","strength","tests","results"] (top 42)=true:=by decide +kernel
theorem yO:tab[26]?=some iJ:=rfl
def xQ:bY T iJ ["book","strength","tests","places","lists","meeting"] ["book","strength","tests"] (top 43)=true:=by decide +kernel
theorem R4:tab[27]?=some tR:=rfl
theorem Rr:aG.lookup 27=some uh:=rfl
def PJ:rN T xtt tR uh ["book","strength","tests","meetings"] ["book","strength","tests"] (top 44)=true:=by decide +kernel
theorem Mj:tab[28]?=some nW:=rfl
def Lj:bY T nW ["_law_script","_law_k"] ["_law_script","_law_k"] (top 46)=true:=by decide +kernel
theorem Ph:tab[29]?=some pN:=rfl
def Ng:bY T pN ["_law_cell_here","_law_prime","_law_many"] ["_law_cell_here","_law_prime","_law_many"] (top 47)=true:=by decide +kernel
theorem Mx:tab[30]?=some oA:=rfl
def Kl:bY T oA ["_law_script","_law_at","_law_cell_here","_law_many","_law_levels","_law_k","_law_bans","_law_most","_law_seed","_law_things","_law_thing"] ["_law_script","_law_at"] (top 48)=true:=by decide +kernel
theorem Nf:tab[31]?=some nR:=rfl
def Iv:bY T nR ["_law_levels","_law_found","_law_level","_law_more","_law_row","_law_setting"] ["_law_levels"] (top 49)=true:=by decide +kernel
theorem Jo:tab[32]?=some lZ:=rfl
def Hq:bY T lZ ["_law_test","_law_meeting","_law_pair"] ["_law_test","_law_meeting"] (top 50)=true:=by decide +kernel
theorem JR:tab[33]?=some mY:=rfl
def G6:bY T mY ["_law_book_here","_law_found","_law_row","_law_ban"] ["_law_book_here"] (top 51)=true:=by decide +kernel
theorem Du:tab[34]?=some jJ:=rfl
def BX:bY T jJ ["_law_book_here","_law_strength_here","_law_found","_law_row","_law_some","_law_thing","_law_setting","_law_one"] ["_law_book_here","_law_strength_here"] (top 52)=true:=by decide +kernel
theorem CW:tab[35]?=some jD:=rfl
def Cq:bY T jD ["_law_book_here","_law_strength_here","_law_tests_here","_law_found","_law_one","_law_test"] ["_law_book_here","_law_strength_here"] (top 53)=true:=by decide +kernel
theorem Je:tab[36]?=some jY:=rfl
def Hu:bY T jY ["_law_script","_law_at","_law_book_here","_law_most","_law_tests_here","_law_found","_law_k"] ["_law_script","_law_at","_law_book_here","_law_most"] (top 54)=true:=by decide +kernel
theorem Dk:tab[37]?=some jB:=rfl
def Cg:bY T jB ["_law_book_here","_law_cell_here"] ["_law_book_here","_law_cell_here"] (top 55)=true:=by decide +kernel
theorem uz:tab[38]?=some n8:=rfl
theorem uN:aG.lookup 38=some n6:=rfl
def K4:rN T xtt n8 n6 ["_law_way","_law_book_here","_law_strength_here","_law_tests_here","_law_results","e"] ["_law_way","_law_book_here","_law_strength_here","_law_tests_here","_law_results"] (top 56)=true:=by decide +kernel
theorem acH:tab[39]?=some zp:=rfl
def Ru:bY T zp ["_law_script","_law_book_here","_law_strength_here","_law_tests_here","_law_some","_law_results","_law_handed","_law_due","_law_groups","_law_one","_law_many","_law_found","_law_fault","_law_odd","_law_bad","_law_row","_law_k","_law_test","_law_way"] ["_law_script"] (top 57)=true:=by decide +kernel
section
variable {K:zd}{h:Heap}{mg:w8}
def aJ {x:Str}{st:Stmt}{N ps:zk}{i:Nat} (X:K.In h) (G:h.Ns mainGlobals mg) (f:FF K x st) (ht:tab[i]?=some d) (ok:match aG.lookup i with | none=>bY T d N ps st=true | some b=>rN T xtt d b N ps st=true)
  (hb:∀ (kV doc pm:Value) (an:zv) (cdv ct:Value) (us:zg),us.length=ps.length->bindArgs (PySem.W.fnOf x x (dI st) (cI st) (aL st) .none kV doc pm an cdv ct) ⟨us,[]⟩=pure (ps.zip us)) :
  ∃ d N ps st a fd,tab[i]?=some d/\Fun K x x st a fd/\mg x=some (.ref a)/\L2.Binds K fd ps []/\(match aG.lookup i with | none=>bY T d N ps st=true | some b=>rN T xtt d b N ps st=true\/LamD T K mg x b d ps st a fd):=by
 obtain ⟨a,fd,e,F⟩:=f.ex;refine ⟨d,N,ps,st,a,fd,ht,F,PySem.W.mg_of X G e,F.binds hb,?_⟩;cases hx:aG.lookup i with
 | none=>rw [hx] at ok;exact ok
 | some b=>rw [hx] at ok;exact .inl ok
theorem pr (X:K.In h) (G:h.Ns mainGlobals mg) (f0:FF K "is_whole" (top 12)) (f1:FF K "is_tuple" (top 13)) (f2:FF K "are_levels" (top 14)) (f3:FF K "is_setting" (top 15)) (f4:FF K "is_meeting" (top 16)) (f5:FF K "is_book" (top 17)) (f6:FF K "checked" (top 18)) (f7:FF K "meets" (top 19)) (f8:FF K "meets_any" (top 20)) (f9:FF K "all_rows" (top 21)) (f10:FF K "all_tests" (top 22)) (f11:FF K "is_row" (top 23)) (f12:FF K "is_test" (top 24)) (f13:FL K "check_tests" (top 26)) (f14:FF K "most_strength" (top 28)) (f15:FF K "check_book_and_strength" (top 29)) (f16:FF K "is_behind" (top 30)) (f17:FF K "meetings_among" (top 31)) (f18:FF K "meetings_of" (top 32)) (f19:FF K "met_by" (top 33)) (f20:FF K "possible" (top 34)) (f21:FF K "check_all" (top 36)) (f22:FF K "places_by_meeting" (top 37)) (f23:FF K "are_results" (top 39)) (f24:FF K "suspects" (top 40)) (f25:FF K "next_test" (top 42)) (f26:FF K "lists_by_results" (top 43)) (f27:FF K "blurred" (top 44)) (f28:FF K "_law_cell" (top 46)) (f29:FF K "_law_mix" (top 47)) (f30:FF K "_law_book" (top 48)) (f31:FF K "_law_rows" (top 49)) (f32:FF K "_law_meets" (top 50)) (f33:FF K "_law_tests" (top 51)) (f34:FF K "_law_meetings" (top 52)) (f35:FF K "_law_possible" (top 53)) (f36:FF K "_law_drawn" (top 54)) (f37:FF K "_law_strength" (top 55)) (f38:FF K "_law_told" (top 56)) (f39:FF K "law" (top 57)) (fcl:FF K "check_list" (top 25)) (g0:GF K "MOST_THINGS" (.int 6)) (g1:GF K "MOST_SETTINGS" (.int 4)) (g2:GF K "MOST_ROWS" (.int 400)) (g3:GF K "MOST_BANS" (.int 12)) (g4:GF K "MOST_IN_MEETING" (.int 3)) (hb:∀ f ∈ nH,PySem.W.nsIn K mainGlobals f=some none) (hxf:xfB K cs hs ks=true):PrX T xtt tab aG K mg:=by
 refine ⟨by decide,fun f b hf=>?_,fun f hf=>PySem.W.mg_none_of X G (hb f hf),fun x i e=>?_,acF X G hxf,fun f x e=>?_⟩
 .have hm:∀ p∈aG,p.1 < 1000:=by decide
  exact hm (f,b) (SJ hf)
 .have key:∀ (l:List (Str × D)),l.lookup x=some i->(∀ p∈l,GF K p.1 p.2)->GlV i (mg x):=by
   intro l;induction l with
   | nil=>intro e;cases e
   | cons q l ih =>
    intro e H;rw [List.lookup_cons] at e;split at e
    .rename_i hx;obtain ⟨v,e2,g⟩:=(H q vi).ex;cases e;rw [PySem.W.mg_of X G (by rw [beq_iff_eq.mp hx];exact e2)];exact g
    .exact ih e fun p hp=>H p (ve _ hp)
  refine key T.gl e fun p hp=>?_
  simp only [T,List.mem_cons,List.not_mem_nil,or_false] at hp;rcases hp with rfl | rfl | rfl | rfl | rfl
  .exact g0
  .exact g1
  .exact g2
  .exact g3
  .exact g4
 .have hlt:f < 40:=(yB.mp e).1
  match f,hlt,e with
  | 0,_,e=>cases e;exact aJ X G f0 rfl Ni fun _ _ _ _ _ _=>us3 fun _ _ _=>rfl
  | 1,_,e=>cases e;exact aJ X G f1 rfl MK fun _ _ _ _ _ _=>us3 fun _ _ _=>rfl
  | 2,_,e=>cases e;exact aJ X G f2 rfl Hi fun _ _ _ _ _ _=>us1 fun _=>rfl
  | 3,_,e=>cases e;exact aJ X G f3 rfl Hf fun _ _ _ _ _ _=>us2 fun _ _=>rfl
  | 4,_,e=>cases e;exact aJ X G f4 rfl Hg fun _ _ _ _ _ _=>us2 fun _ _=>rfl
  | 5,_,e=>cases e;exact aJ X G f5 rfl Qi fun _ _ _ _ _ _=>us1 fun _=>rfl
  | 6,_,e=>cases e;exact aJ X G f6 rfl Qf fun _ _ _ _ _ _=>us1 fun _=>rfl
  | 7,_,e=>cases e;exact aJ X G f7 rfl Xn fun _ _ _ _ _ _=>us2 fun _ _=>rfl
  | 8,_,e=>cases e;exact aJ X G f8 rfl K3 fun _ _ _ _ _ _=>us2 fun _ _=>rfl
  | 9,_,e=>cases e;exact aJ X G f9 rfl LK fun _ _ _ _ _ _=>us1 fun _=>rfl
  | 10,_,e=>cases e;exact aJ X G f10 rfl JF fun _ _ _ _ _ _=>us1 fun _=>rfl
  | 11,_,e=>cases e;exact aJ X G f11 rfl RJ fun _ _ _ _ _ _=>us2 fun _ _=>rfl
  | 12,_,e=>cases e;exact aJ X G f12 rfl QG fun _ _ _ _ _ _=>us2 fun _ _=>rfl
  | 13,_,e=>cases e;exact aa3 (d:=pq) (q:=12) X G f13 fcl xK xg rfl rfl rfl rfl rfl rfl rfl rfl rfl (fun _ _ _ _ _ _=>us2 fun _ _=>rfl) (fun _ _ _ _ _ _=>us2 fun _ _=>rfl)
  | 14,_,e=>cases e;exact aJ X G f14 rfl Br fun _ _ _ _ _ _=>us1 fun _=>rfl
  | 15,_,e=>cases e;exact aJ X G f15 rfl pH fun _ _ _ _ _ _=>us2 fun _ _=>rfl
  | 16,_,e=>cases e;exact aJ X G f16 rfl Ks fun _ _ _ _ _ _=>us2 fun _ _=>rfl
  | 17,_,e=>cases e;exact aJ X G f17 rfl Al fun _ _ _ _ _ _=>us2 fun _ _=>rfl
  | 18,_,e=>cases e;exact aJ X G f18 rfl Eo fun _ _ _ _ _ _=>us2 fun _ _=>rfl
  | 19,_,e=>cases e;exact aJ X G f19 rfl Tp fun _ _ _ _ _ _=>us2 fun _ _=>rfl
  | 20,_,e=>cases e;exact aJ X G f20 rfl Mv fun _ _ _ _ _ _=>us2 fun _ _=>rfl
  | 21,_,e=>cases e;exact aJ X G f21 rfl KQ fun _ _ _ _ _ _=>us3 fun _ _ _=>rfl
  | 22,_,e=>cases e;exact aJ X G f22 rfl v8 fun _ _ _ _ _ _=>us2 fun _ _=>rfl
  | 23,_,e=>cases e;exact aJ X G f23 rfl Em fun _ _ _ _ _ _=>us2 fun _ _=>rfl
  | 24,_,e=>cases e;exact aJ X G f24 rfl M4 fun _ _ _ _ _ _=>us4 fun _ _ _ _=>rfl
  | 25,_,e=>cases e;exact aJ X G f25 rfl Ku fun _ _ _ _ _ _=>us4 fun _ _ _ _=>rfl
  | 26,_,e=>cases e;exact aJ X G f26 rfl xQ fun _ _ _ _ _ _=>us3 fun _ _ _=>rfl
  | 27,_,e=>cases e;exact aJ X G f27 rfl PJ fun _ _ _ _ _ _=>us3 fun _ _ _=>rfl
  | 28,_,e=>cases e;exact aJ X G f28 rfl Lj fun _ _ _ _ _ _=>us2 fun _ _=>rfl
  | 29,_,e=>cases e;exact aJ X G f29 rfl Ng fun _ _ _ _ _ _=>us3 fun _ _ _=>rfl
  | 30,_,e=>cases e;exact aJ X G f30 rfl Kl fun _ _ _ _ _ _=>us2 fun _ _=>rfl
  | 31,_,e=>cases e;exact aJ X G f31 rfl Iv fun _ _ _ _ _ _=>us1 fun _=>rfl
  | 32,_,e=>cases e;exact aJ X G f32 rfl Hq fun _ _ _ _ _ _=>us2 fun _ _=>rfl
  | 33,_,e=>cases e;exact aJ X G f33 rfl G6 fun _ _ _ _ _ _=>us1 fun _=>rfl
  | 34,_,e=>cases e;exact aJ X G f34 rfl BX fun _ _ _ _ _ _=>us2 fun _ _=>rfl
  | 35,_,e=>cases e;exact aJ X G f35 rfl Cq fun _ _ _ _ _ _=>us2 fun _ _=>rfl
  | 36,_,e=>cases e;exact aJ X G f36 rfl Hu fun _ _ _ _ _ _=>us4 fun _ _ _ _=>rfl
  | 37,_,e=>cases e;exact aJ X G f37 rfl Cg fun _ _ _ _ _ _=>us2 fun _ _=>rfl
  | 38,_,e=>cases e;exact aJ X G f38 rfl K4 fun _ _ _ _ _ _=>us5 fun _ _ _ _ _=>rfl
  | 39,_,e=>cases e;exact aJ X G f39 rfl Ru fun _ _ _ _ _ _=>us1 fun _=>rfl
end
end E14
set_option maxHeartbeats 400000
namespace E14
open PySem L2 Mi
def ev9:Lean.MacroM (Array (Lean.TSyntax `Lean.Parser.Tactic.simpLemma)):=("qO qP qp qQ qF qG qq qr qu qv qR qw qx qy qz wA wB wC wD wE wF wG qH wH wf wI wJ wg wK qS qT wL qU qV qW qI qX qJ wM qY wj wk qZ qK qL wN wO wP wQ wR wS wl wm wn wo ^wT ^wU zJ zK zL zM zN zO qa wV wq qb qd qC qM qf qg qh qi bM bT wr wt wu wv ww wx wy zP zQ zR zS zT zU wW wX wY if_true wz zA zX if_false qD qj qN qE qA qB qk zB zC zD zE zF zG wZ wa wb wc wd we zV zW zH zI qm fW cM dN dG dF cu dB cO bO aN dJ dR cL bU dh dY cP fV fU dM bQ bR bf".splitOn " ").toArray.mapM fun s=>if s.startsWith "^" then `(Lean.Parser.Tactic.simpLemma| ↓$(Lean.mkIdent (.mkSimple (s.drop 1).toString)):ident) else `(Lean.Parser.Tactic.simpLemma| $(Lean.mkIdent s.toName):ident)
local macro_rules | `(tactic| simpa only [$xs,*])=>do let ys<-ev9;`(tactic| simp only [$ys:simpLemma,*,$xs,*])
local macro_rules | `(tactic| simpa [$xs,*])=>do let ys<-ev9;`(tactic| simp [$ys:simpLemma,*,$xs,*])
local macro_rules | `(tactic| simpa only [] using $h:ident)=>do let ys<-ev9;`(tactic| simp only [$ys:simpLemma,*] at $h:ident)
variable {n:Nat}
def rm (x a b:Int):aq tab aG (n+1) 0 [.int x,.int a,.int b]=.ok (.bl (decide (a<=x) && decide (x<=b))):=by
 rw [bH Qd rfl];delta pO;simpa only [];by_cases h:a<=x <;> by_cases h2:x<=b <;> simpa only [h,h2,decide_true,decide_false,Bool.and_true,Bool.and_false,Bool.and_self,qZ]
def lX (ds:List D) (a b:Int):aq tab aG (n+1) 1 [.tup ds,.int a,.int b]=.ok (.bl (decide (a<=ds.length) && decide ((ds.length:Int)<=b))):=by
 rw [bH QK rfl];delta pZ;simpa only [nA];by_cases h:a<=ds.length <;> by_cases h2:(ds.length:Int)<=b <;> simpa only [h,h2,decide_true,decide_false,Bool.and_true,Bool.and_false,Bool.and_self,qZ]
def vg (r:zi) (a b:Int):aq tab aG (n+1) 1 [au r,.int a,.int b]=.ok (.bl (decide (a<=r.length) && decide ((r.length:Int)<=b))):=by
 have:=lX (n:=n) (r.map eN) a b;rw [List.length_map] at this;exact this
def J9 (r:Meet) (a b:Int):aq tab aG (n+1) 1 [eM r,.int a,.int b]=.ok (.bl (decide (a<=r.length) && decide ((r.length:Int)<=b))):=by
 have:=lX (n:=n) (r.map eP) a b;rw [List.length_map] at this;exact this
def Ho (r:List Meet) (a b:Int):aq tab aG (n+1) 1 [eBs r,.int a,.int b]=.ok (.bl (decide (a<=r.length) && decide ((r.length:Int)<=b))):=by
 have:=lX (n:=n) (r.map eM) a b;rw [List.length_map] at this;exact this
theorem Lh (p:Nat × Nat):aq tab aG (n+1) 1 [eP p,.int 2,.int 2]=.ok (.bl true):=lX (n:=n) [eN p.1,eN p.2] 2 2
theorem IV (lv:zi) (bs:List Meet):aq tab aG (n+1) 1 [eB lv bs,.int 2,.int 2]=.ok (.bl true):=lX (n:=n) [au lv,eBs bs] 2 2
theorem Rx {x:Nat} (h:x<=1000000):lQ (x:Int)=true:=Nat.ble_eq_true_of_le (by omega)
def Ii (lv:zi) (h1:1<=lv.length) (h6:lv.length<=6) (hl:∀ l∈lv,1<=l/\l<=4):aq tab aG (n+2) 2 [au lv]=.ok (.bl (decide (prod lv<=400))):=by
 rw [bH JB rfl];delta mF;simpa only [vg,decide_eq_true (show (1:Int)<=lv.length by omega),decide_eq_true (show (lv.length:Int)<=6 by omega),Bool.and_self];rw [bind_eq (a:=.nx [some (au lv),some (.int (prod lv:Nat)),none])]
 .simpa only [];congr 2;by_cases h:prod lv<=400
  .rw [decide_eq_true h,decide_eq_true (by omega)]
  .rw [decide_eq_false h,decide_eq_false (by omega)]
 .refine Mf eN (fun a:Nat=>[some (au lv),some (.int (a:Int)),none]) (fun a l=>a * l) (fun _=>True) lv (fun a l hlm _=>⟨trivial,?_⟩) 1 trivial;have:=hl l hlm;have hmul:ji .mul (.int (a:Int)) (.int (l:Int))=.ok (.int ((a:Int) * (l:Int))):=HN (.inr (Rx (by omega)));simpa only [rm,decide_eq_true (show (1:Int)<=l by omega),decide_eq_true (show (l:Int)<=4 by omega),Bool.and_self,hmul];exact ⟨_,rfl,by simp [aV]⟩
variable {lv:zi}{l:Nat}
def K1 {p:Nat × Nat} (h1:lv[p.1]?=some l) (h2:p.2 < l):aq tab aG (n+2) 3 [au lv,eP p]=.ok (.bl true):=by
 have hlt:p.1 < lv.length:=(yB.mp h1).1;rw [bH JX rfl];delta mJ;simpa only [Lh,rm,Ig h1,decide_eq_true (show (0:Int)<=p.1 by omega),decide_eq_true (show (p.1:Int)<=lv.length - 1 by omega),decide_eq_true (show (0:Int)<=p.2 by omega),decide_eq_true (show (p.2:Int)<=l - 1 by omega),Bool.and_self]
variable {m:Meet}
def Il (h:rQ lv m) (h1:1<=m.length) (h3:m.length<=3):aq tab aG (n+3) 4 [au lv,eM m]=.ok (.bl true):=by
 rw [bH JV rfl];delta lY;simpa only [J9,decide_eq_true (show (1:Int)<=m.length by omega),decide_eq_true (show (m.length:Int)<=3 by omega),Bool.and_self];rw [bind_eq (a:=.nx [some (au lv),some (eM m),some (.int (m.foldl (fun _ p=>p.1+1) 0:Nat)),none])]
 .simpa only []
 .refine cY eP (fun a:Nat=>[some (au lv),some (eM m),some (.int (a:Int)),none]) (fun _ p=>p.1+1) (fun b rest=>gq rest/\∀ q∈rest,b<=q.1/\∃ l,lv[q.1]?=some l/\q.2 < l) (fun b p rest hp=>?_) m 0 ⟨h.1,fun q hq=>⟨vS _,h.2 q hq⟩⟩;obtain ⟨hr,hq⟩:=hp;unfold gq at hr;rw [List.pairwise_cons] at hr;obtain ⟨hb,l,hl,hlt⟩:=hq p vi;refine ⟨⟨hr.2,fun q hq'=>⟨by have:=hr.1 q hq';omega,(hq q (ve _ hq')).2⟩⟩,?_⟩;simpa only [K1 hl hlt,decide_eq_false (show ¬ ((p.1:Int) < b) by omega)];exact ⟨_,rfl,by simp [aV]⟩
variable {bs:List Meet}
theorem WB.lvAll (h:WB lv bs):∀ l∈lv,1<=l/\l<=4:=fun l hl=>by
 obtain ⟨i,hi⟩:=List.mem_iff_getElem?.mp hl;have:=h.lv1 i l hi;omega
def Tq (h:WB lv bs):aq tab aG (n+4) 5 [eB lv bs]=.ok (.bl true):=by
 have f:=nF lv h.mem;have h1:=h.one;have h4:=h.four;have hb:=h.nb;rw [bH S6 rfl];delta tY;simpa only [IV,Ho,Ii lv h.one (by omega) (WB.lvAll h),decide_eq_true (show prod lv<=400 by omega),decide_eq_true (show (0:Int)<=bs.length by omega),decide_eq_true (show (bs.length:Int)<=12 by omega),Bool.and_self];rw [bind_eq (a:=bs.map fun _=>D.bl true)]
 .simpa only [List.length_map,if_pos (show bs.length<=lim by unfold lim;omega)];rw [bind_eq (Dp (fun _=>true) bs)];simp [kE]
 .refine cX bs fun b hbm=>?_
  obtain ⟨q1,q2,q3⟩:=h.ban b hbm;simpa only [Il q1 q2 q3]
def Gk (h:WB lv bs):aq tab aG (n+5) 6 [eB lv bs]=.ok (eB lv bs):=by
 rw [bH TV rfl];delta uo;simpa only [Tq h]
variable {r:zi}
def YZ (h:∀ p∈m,p.1 < r.length) (hl:m.length<=lim):aq tab aG (n+1) 7 [au r,eM m]=.ok (.bl (cC r m)):=by
 rw [bH Yk rfl];delta Ah;simpa only [];rw [bind_eq (a:=m.map fun p=>D.bl (decide (r[p.1]?=some p.2)))]
 .simpa only [List.length_map,if_pos hl];rw [bind_eq (Dp (fun p:Nat × Nat=>decide (r[p.1]?=some p.2)) m)];rfl
 .refine cX m fun p hp=>?_
  obtain ⟨x,hx⟩:∃ x,r[p.1]?=some x:=⟨_,List.getElem?_eq_getElem (h p hp)⟩;simpa only [Ig hx,sV,hx,Option.some.injEq]
def Aw (h:∀ b∈bs,(∀ p∈b,p.1 < r.length)/\b.length<=lim) (hl:bs.length<=lim):aq tab aG (n+2) 8 [au r,eBs bs]=.ok (.bl (bs.any fun b=>cC r b)):=by
 rw [bH M8 rfl];delta oG;simpa only [];rw [bind_eq (a:=bs.map fun b=>D.bl (cC r b))]
 .simpa only [List.length_map,if_pos hl];rw [bind_eq (acN (fun b=>cC r b) bs)];rfl
 .refine cX bs fun b hb=>?_
  simpa only [YZ (h b hb).1 (h b hb).2]
theorem Az (rs:ze) (l:Nat):rs.flatMap (fun r=>(List.range l).map fun s=>r++[s])=cD rs l:=rfl
def Ak {rs:ze} (h:1<=l):rs.length<=(cD rs l).length:=by
 rw [yd];exact Nat.le_mul_of_pos_right _ h
def uY (lv0:zi) (rs:ze) (rest:zi):Prop:=rest.foldl cD rs=rows lv0/\(∀ r∈rs,r.length+rest.length=lv0.length)/\∀ l∈rest,1<=l
theorem vo:∀ (rest:zi) (rs:ze),(∀ l∈rest,1<=l)->rs.length<=(rest.foldl cD rs).length
 | [],rs,_=>vy _
 | l::rest,rs,h=>vF (Ak (h l vi)) (vo rest _ fun x hx=>h x (ve _ hx))
theorem uY.step {lv0 rest:zi}{rs:ze} (h:uY lv0 rs (l::rest)):uY lv0 (cD rs l) rest/\(cD rs l).length<=prod lv0:=by
 obtain ⟨h1,h2,h3⟩:=h;have h4:∀ x∈rest,1<=x:=fun x hx=>h3 x (ve _ hx)
 refine ⟨⟨h1,fun r hr=>?_,h4⟩,?_⟩
 .unfold cD at hr;obtain ⟨a,ha,hr⟩:=y6.mp hr;obtain ⟨s,_,rfl⟩:=yI.mp hr;have:=h2 a ha;simp only [List.length_cons,List.length_append,List.length_nil] at this ⊢;omega
 .have:=vo rest (cD rs l) h4;rw [<- vG,<- h1];exact this
theorem Qt (h1:∀ l∈lv,1<=l) (hp:prod lv<=lim) (hlen:lv.length<=lim) (hl:∀ l∈lv,l<=lim):aq tab aG (n+1) 9 [au lv]=.ok (.lst ((rows lv).map au)):=by
 rw [bH Pq rfl];delta pY;simpa only [if_pos (show 0<=lim from Nat.zero_le _),if_pos (show 1<=lim by decide)];rw [bind_eq (a:=.nx [some (au lv),some (.lst ((rows lv).map au)),none,none,none,none])]
 .simpa only []
 .refine cY eN (fun rs:ze=>[some (au lv),some (.lst (rs.map au)),none,none,none,none]) cD (fun rs rest=>uY lv rs rest/\∀ l∈rest,l<=lim) (fun rs l rest hi=>?_) lv [[]] ⟨⟨rfl,by simp,h1⟩,hl⟩;obtain ⟨hi,hll⟩:=hi;obtain ⟨hs,hsz⟩:=hi.step;have hrl:∀ r∈rs,r.length < lim:=fun r hr=>by
   have:=hi.2.1 r hr;simp only [List.length_cons] at this;omega
  refine ⟨⟨hs,fun x hx=>hll x (ve _ hx)⟩,?_⟩;simpa only [if_pos (show 0<=lim from Nat.zero_le _)];rw [bind_eq (a:=.nx [some (au lv),some (.lst (rs.map au)),some (eN l),some (.lst ((cD rs l).map au)),none,none])]
  .simpa only [];exact ⟨_,rfl,by simp [aV]⟩
  .refine iV au (fun acc:ze=>[some (au lv),some (.lst (rs.map au)),some (eN l),some (.lst (acc.map au)),none,none]) (fun r=>(List.range l).map fun s=>r++[s]) lim rs (fun acc r hr hB=>?_) [] (by rw [Az,List.length_nil];omega);simpa only [iQ l (hll l List.mem_cons_self)];rw [bind_eq (a:=((List.range l).map fun s=>r++[s]).map au)]
   .have hll':=hll l vi;simpa only [List.length_map,List.length_range,if_pos hll'];rw [bind_eq (X3 (enc:=au) hB)];exact ⟨_,rfl,by simp [aV]⟩
   .rw [List.map_map];refine cX (List.range l) fun s hs=>?_
    simpa only [KN (hrl r hr),if_pos (show 1<=lim by decide)];rfl
def Mp (h:WB lv bs):aq tab aG (n+6) 10 [eB lv bs]=.ok (.lst ((tests lv bs).map au)):=by
 have f:=nF lv h.mem;have h4:=h.four;have hb:=h.nb;have hlim:lim=100000:=rfl;rw [bH Mg rfl];delta oJ;simpa only [Gk h,Qt (fun l hl=>(WB.lvAll h l hl).1) (show prod lv<=lim by omega) (show lv.length<=lim by omega) (fun l hl=>by have:=WB.lvAll h l hl;omega)];rw [bind_eq (a:=(tests lv bs).map au)]
 .have:(tests lv bs).length<=lim:=by
   have h1:=yb (pW bs) (rows lv);rw [vG] at h1;unfold tests;omega
  simpa only [List.length_map,if_pos this]
 .refine bW (rows lv) fun r hr=>?_
  have hok:=nO.mp hr;simpa only [Aw (r:=r) (bs:=bs) (fun b hbm=>⟨fun p hp=>by
   obtain ⟨l,e,_⟩:=(h.ban b hbm).1.2 p hp;rw [hok.len];exact (yB.mp e).1,by have:=(h.ban b hbm).2.2;omega⟩) (by omega)]
  unfold pW;cases (bs.any fun b=>cC r b) <;> simpa []
def DY (lv:zi) (bs:List Meet):aq tab aG (n+1) 14 [eB lv bs]=.ok (.int (min 3 lv.length:Nat)):=by
 rw [bH Dy rfl];delta jF;simpa only [];congr 2;split <;> omega
variable {k:Nat}
def Pg (h:WB lv bs)  (h1:1<=k) (h3:k<=3) (hk:k<=lv.length):aq tab aG (n+6) 15 [eB lv bs,.int k]=.ok .non:=by
 rw [bH pX rfl];delta dX;simpa only [Gk h,DY,rm,decide_eq_true (show (1:Int)<=k by omega),decide_eq_true (show (k:Int)<=(min 3 lv.length:Nat) by omega),Bool.and_self]
def Lz (p:Nat × Nat) (m:Meet):aq tab aG (n+1) 16 [eP p,eM m]=.ok (.bl (behind m p)):=by
 rw [bH Mh rfl];delta oE;simpa only [];cases e:m.getLast? with
 | none =>
  rw [List.getLast?_eq_none_iff] at e;subst e;simp [behind,kE]
 | some q =>
  have hm:m≠[]:=fun z=>by subst z;simp at e
  have hl:¬ ((m.length:Int)=0):=fun z=>hm (List.length_eq_zero_iff.mp (by omega))
  simpa only [decide_eq_false hl,show (-(1:Int))=-1 from rfl,Yq e];unfold behind;rw [e];simp only [bM];congr 2;by_cases h:q.1 < p.1
  .rw [decide_eq_true h,decide_eq_true (by omega)]
  .rw [decide_eq_false h,decide_eq_false (by omega)]
def Cp {ps:List (Nat × Nat)} (hk:k<=3) (hps:ps.length<=16):aq tab aG (n+2) 17 [.lst (ps.map eP),.int k]=.ok (.lst ((among ps k).map eM)):=by
 have hlim:lim=100000:=rfl;have hpow:∀ j,j<=3->ps.length ^ j<=4096:=fun j hj=>by
  have h1:ps.length ^ j<=16 ^ j:=Nat.pow_le_pow_left hps j;have h2:16 ^ j<=16 ^ 3:=Nat.pow_le_pow_right (by omega) hj;have h3:(16:Nat) ^ 3=4096:=by decide
  omega
 rw [bH Cr rfl];delta jl;simpa only [if_pos (show 0<=lim from Nat.zero_le _),if_pos (show 0+1<=lim by decide),iQ k (show k<=lim by omega)];rw [bind_eq (a:=.nx [some (.lst (ps.map eP)),some (.int (k:Int)),some (.lst ((among ps k).map eM)),none,none,none,none])]
 .simpa only []
 .refine (cY eN (fun j:Nat=>[some (.lst (ps.map eP)),some (.int (k:Int)),some (.lst ((among ps j).map eM)),none,none,none,none]) (fun j _=>j+1) (fun j rest=>j+rest.length=k) (fun j s rest hj=>?_) (List.range k) 0 (by simp)).trans ?_
  .simp only [List.length_cons] at hj;refine ⟨by omega,?_⟩;simpa only [if_pos (show 0<=lim from Nat.zero_le _)];have hla:=oR ps (j+1);have hp1:=hpow (j+1) (by omega);have hp0:=hpow j (by omega);have hla0:=oR ps j;rw [bind_eq (a:=.nx [some (.lst (ps.map eP)),some (.int (k:Int)),some (.lst ((among ps j).map eM)),some (.int (s:Int)),some (.lst ((among ps (j+1)).map eM)),none,none])]
   .simpa only [];exact ⟨_,rfl,by simp [aV]⟩
   .refine iV eM (fun acc:List Meet=>[some (.lst (ps.map eP)),some (.int (k:Int)),some (.lst ((among ps j).map eM)),some (.int (s:Int)),some (.lst (acc.map eM)),none,none]) (fun m=>(ps.filter (behind m)).map fun p=>m++[p]) lim (among ps j) (fun acc m hm hB=>?_) [] (by
      show 0+(among ps (j+1)).length<=lim
      omega)
    simpa only [];rw [bind_eq (a:=((ps.filter (behind m)).map fun p=>m++[p]).map eM)]
    .have:(ps.filter (behind m)).length<=lim:=by
      have:=yb (behind m) ps;omega
     simpa only [List.length_map,if_pos this];rw [bind_eq (X3 (enc:=eM) hB)];exact ⟨_,rfl,by simp [aV]⟩
    .rw [List.map_map];refine bW ps fun p hp=>?_
     have hml:m.length < lim:=by
      have:=(oX.mp hm).1;omega
     simpa only [Lz,Uh hml,if_pos (show 0+1<=lim by decide)];cases behind m p <;> simpa []
  .have e:∀ (l:zi) (a:Nat),l.foldl (fun j _=>j+1) a=a+l.length:=by
    intro l;induction l with
    | nil=>simp
    | cons x l ih=>intro a;simp [ih];omega
   rw [e,List.length_range,Nat.zero_add]
def vH (ts:ze) (k:Nat):List Meet:=(ts.flatMap fun t=>among (aQ 0 t) k).foldl fj []
variable {ts:ze}
def R0 :m∈vH ts k↔m.length=k/\gq m/\∃ t∈ts,cC t m=true:=by
 unfold vH;rw [uq];simp only [List.not_mem_nil,false_or,List.mem_flatMap,nD];constructor
 .rintro ⟨t,ht,h1,h2,h3⟩;exact ⟨h1,h2,t,ht,h3⟩
 .rintro ⟨h1,h2,t,ht,h3⟩;exact ⟨t,ht,h1,h2,h3⟩
theorem LQ (ts:ze) (k:Nat):(vH ts k).Nodup:=uF List.nodup_nil
variable {t:zi}
def xq (hk:k<=3) (hle:(aQ 0 t).length<=16):aq tab aG (n+3) 18 [au t,.int k]=.ok (.lst ((among (aQ 0 t) k).map eM)):=by
 rw [bH Hy rfl];delta lq;simpa only [Cp hk hle]
def VJ (hk:k<=3) (ht:∀ t∈ts,t.length<=6) (hts:ts.length<=400):aq tab aG (n+4) 19 [.lst (ts.map au),.int k]=.ok (eK (vH ts k)):=by
 have hlim:lim=100000:=rfl;have ham:∀ t∈ts,(among (aQ 0 t) k).length<=216:=fun t h=>by
  have h1:=oR (aQ 0 t) k;rw [jj] at h1;have h2:t.length ^ k<=6 ^ k:=Nat.pow_le_pow_left (ht t h) k;have h3:6 ^ k<=6 ^ 3:=Nat.pow_le_pow_right (by omega) hk;have h4:(6:Nat) ^ 3=216:=by decide
  omega
 rw [bH Wx rfl];delta vD;simpa only [];rw [bind_eq (a:=.nx [some (.lst (ts.map au)),some (.int (k:Int)),some (eK (vH ts k)),none,none])]
 .simpa only []
 .refine (cY au (fun ks:List Meet=>[some (.lst (ts.map au)),some (.int (k:Int)),some (eK ks),none,none]) (fun ks t=>(among (aQ 0 t) k).foldl fj ks) (fun ks rest=>(∀ t∈rest,t∈ts)/\ks.length+rest.length * 216<=86400) (fun ks t rest hp=>?_) ts [] ⟨fun _ h=>h,by simp only [List.length_nil];omega⟩).trans ?_
  .obtain ⟨hin,hsz⟩:=hp;have htm:=hin t vi;have hat:=ham t htm;have hfl:=yh (among (aQ 0 t) k) ks;simp only [List.length_cons,Nat.succ_mul] at hsz;refine ⟨⟨fun x hx=>hin x (ve _ hx),by omega⟩,?_⟩;have hle:(aQ 0 t).length<=16:=by rw [jj];have:=ht t htm;omega
   simpa only [xq hk hle];rw [bind_eq (a:=.nx [some (.lst (ts.map au)),some (.int (k:Int)),some (eK ((among (aQ 0 t) k).foldl fj ks)),some (au t),none])]
   .exact ⟨_,rfl,by simp [aV]⟩
   .refine cY eM (fun ks:List Meet=>[some (.lst (ts.map au)),some (.int (k:Int)),some (eK ks),some (au t),none]) fj (fun ks rest=>ks.length+rest.length<=90000) (fun ks m rest hp=>?_) (among (aQ 0 t) k) ks (by omega);simp only [List.length_cons] at hp;have:=vC ks m;refine ⟨by omega,?_⟩;simpa only [];rw [bind_eq (Rk ks m (by omega))];exact ⟨_,rfl,by simp [aV]⟩
  .unfold vH;rw [List.foldl_flatMap]
def tZ (h:WB lv bs):(tests lv bs).length<=36:=by
 have f:=nF lv h.mem;have h1:=yb (pW bs) (rows lv);rw [vG] at h1;unfold tests;omega
theorem o7 (ht:t∈tests lv bs):iK lv t:=nO.mp (y8.mp ht).1
theorem uM (h:WB lv bs):∀ t∈tests lv bs,t.length<=6:=fun t ht=>by
 rw [(o7 ht).len];have:=h.four;omega
def yg :m∈aB lv bs k↔m.length=k/\gq m/\∃ t∈tests lv bs,cC t m=true:=by
 unfold aB;rw [List.mem_filter,rT,List.any_eq_true];constructor
 .rintro ⟨⟨h1,h2⟩,h3⟩;exact ⟨h1,h2.1,h3⟩
 .rintro ⟨h1,h2,t,ht,h3⟩;exact ⟨⟨h1,Lb (o7 ht) h2 h3⟩,t,ht,h3⟩
def vq (h:WB lv bs)  (h1:1<=k) (h3:k<=3):(allM lv k).length < 64:=by
 have f:=nF lv h.mem;have:k=1\/k=2\/k=3:=by omega
 rcases this with rfl | rfl | rfl
 .exact f.2.2.1
 .exact f.2.2.2.1
 .exact f.2.2.2.2
theorem NZ (h1:1<=k):∀ m∈allM lv k,m≠[]:=fun m hm z=>by
 have:=(rT.mp hm).1;subst z;simp at this;omega
def CG (h:WB lv bs)  (h1:1<=k) (h3:k<=3) (hk:k<=lv.length):aq tab aG (n+7) 20 [eB lv bs,.int k]=.ok (.lst ((aB lv bs k).map eM)):=by
 have hl:=tZ h;have ha:=vq h h1 h3;rw [bH PK rfl];have hsort:lN (eK (vH (tests lv bs) k))=.ok (.lst ((aB lv bs k).map eM)):=by
  refine Ka (LQ _ _) ((uK lv k).filter _) (fun m=>?_) ?_ fun m hm=>NZ h1 m (y8.mp hm).1
  .rw [R0,yg]
  .have:=yb (fun m=>(tests lv bs).any fun t=>cC t m) (allM lv k);unfold aB;omega
 delta rB;simpa only [Pg h h1 h3 hk,Mp h,VJ h3 (uM h) (show (tests lv bs).length<=400 by omega),hsort]
noncomputable def bx (ns:List Int) (k:Nat):Int:=ns.getD k 0
def oO (ns:List Int) (k:Nat):aq tab aG (n+1) 28 [.lst (ns.map D.int),.int k]=.ok (.int (bx ns k)):=by
 rw [bH Mj rfl];delta nW;simpa only [];unfold bx;by_cases h:k < ns.length
 .have e:ns[k]?=some ns[k]:=List.getElem?_eq_getElem h;simpa only [decide_eq_true (show (k:Int) < ns.length by omega),Fe (enc:=D.int) e,List.getD,e,Option.getD]
 .simpa only [decide_eq_false (show ¬ ((k:Int) < ns.length) by omega),List.getD,List.getElem?_eq_none (Nat.le_of_not_lt h),Option.getD]
noncomputable def cJ (c p m:Int):Nat:=(c * 48271 % p % m).toNat
variable {c p:Int}
theorem G5 {m:Int} (hm:0 < m):((cJ c p m:Nat):Int)=c * 48271 % p % m:=Int.toNat_of_nonneg (Int.emod_nonneg _ (by omega))
def lJ {m:Int} (hm:0 < m):((cJ c p m:Nat):Int) < m:=by rw [G5 hm];exact Int.emod_lt_of_pos _ hm
def mz {m:Int} (hp:0 < p) (hm:0 < m):aq tab aG (n+1) 29 [.int c,.int p,.int m]=.ok (.int (cJ c p m:Nat)):=by
 rw [bH Ph rfl];have e:ji .mul (.int c) (.int 48271)=.ok (.int (c * 48271)):=HN (.inr rfl);delta pN;simpa only [e,pP hp,pP hm,G5 hm]
def bC (ns:List Int) (a:Nat):Nat:=1+cJ (bx ns a) 9973 4
noncomputable def kO (k:Nat):Nat:=if k < 2 then 3 else 2
def dw (ns:List Int) (a k:Nat):Nat:=1+cJ (bx ns (a+1)+31 * (k:Int) * (k:Int)+(k:Int)) 9967 (kO k:Nat)
def gP (ns:List Int) (a:Nat):zi:=(List.range (bC ns a)).map (dw ns a)
def fO (ns:List Int) (a k:Nat):Int:=bx ns (a+2)+53 * (k:Int) * (k:Int)+7 * (k:Int)
def drawn (ns:List Int) (a k:Nat):zi:=((List.range (bC ns a)).filter fun (x:Nat)=>decide (cJ (fO ns a k+17 * (x:Int)) 9941 2=1)).take 3
def fJ (ns:List Int) (a k:Nat):zi:=if (drawn ns a k).isEmpty then [cJ (fO ns a k) 9931 (bC ns a:Nat)] else drawn ns a k
def iz (ns:List Int) (a k:Nat):Meet:=(fJ ns a k).map fun (x:Nat)=>(x,cJ (fO ns a k+5 * (x:Int)) 9929 ((gP ns a).getD x 1:Nat))
def jR (ns:List Int) (a:Nat):List Meet:=(List.range (cJ (bx ns a) 9949 4)).map (iz ns a)
def Ci (ns:List Int) (a:Nat):1<=bC ns a/\bC ns a<=4:=by
 have:=lJ (c:=bx ns a) (p:=9973) (m:=4) (by decide);unfold bC;omega
def Vh (k:Nat):0 < ((kO k:Nat):Int):=by unfold kO;split <;> decide
def sO (ns:List Int) (a k:Nat):1<=dw ns a k/\dw ns a k<=kO k:=by
 have:=lJ (c:=bx ns (a+1)+31 * (k:Int) * (k:Int)+(k:Int)) (p:=9967) (Vh k);unfold dw;omega
def SQ (ns:List Int) (a:Nat):(gP ns a).length=bC ns a:=by simp [gP]
variable {ns:List Int}{a i:Nat}
def RK (h:(gP ns a)[i]?=some l):l=dw ns a i/\i < bC ns a:=by
 unfold gP at h;rw [List.getElem?_map] at h;cases e:(List.range (bC ns a))[i]? with
 | none=>rw [e] at h;cases h
 | some j =>
  rw [e] at h;obtain ⟨h1,h2⟩:=yB.mp e;simp at h1 h2;subst h2;cases h;exact ⟨rfl,h1⟩
theorem zq (h:i < bC ns a):(gP ns a)[i]?=some (dw ns a i):=by
 unfold gP;rw [List.getElem?_map,List.getElem?_range h];rfl
theorem Ul :∀ x∈drawn ns a k,x < bC ns a:=fun x hx=>by
 unfold drawn at hx;have:=List.mem_of_mem_take hx;exact y9.mp (y8.mp this).1
def oW (ns:List Int) (a k:Nat):(fJ ns a k).Pairwise (· < ·)/\(∀ x∈fJ ns a k,x < bC ns a)/\1<=(fJ ns a k).length/\(fJ ns a k).length<=3:=by
 have hm:=Ci ns a;unfold fJ;split
 .have:=lJ (c:=fO ns a k) (p:=9931) (m:=(bC ns a:Nat)) (by omega);refine ⟨by simp,fun x hx=>?_,by simp,by simp⟩;rw [List.mem_singleton.mp hx];omega
 .rename_i h;refine ⟨?_,Ul,?_,?_⟩
  .unfold drawn;exact ((List.pairwise_lt_range.filter _).sublist (List.take_sublist _ _))
  .cases e:drawn ns a k with
   | nil=>rw [e] at h;simp at h
   | cons _ _=>simp
  .unfold drawn;rw [List.length_take];omega
def Z6 (ns:List Int) (a:Nat):WB (gP ns a) (jR ns a):=by
 have hm:=Ci ns a;refine ⟨by rw [SQ];omega,by rw [SQ];omega,fun i l h=>?_,fun i l h h2=>?_,?_,fun b hb=>?_⟩
 .obtain ⟨rfl,_⟩:=RK h;have:=sO ns a i;have h3:kO i<=3:=by unfold kO;split <;> decide
  omega
 .obtain ⟨rfl,_⟩:=RK h;have:=sO ns a i;have h3:kO i=2:=by unfold kO;rw [if_neg (by omega)]
  omega
 .have:=lJ (c:=bx ns a) (p:=9949) (m:=4) (by decide);unfold jR;rw [List.length_map,List.length_range];omega
 .unfold jR at hb;obtain ⟨k,_,rfl⟩:=yI.mp hb;obtain ⟨t1,t2,t3,t4⟩:=oW ns a k;refine ⟨⟨?_,fun p hp=>?_⟩,?_,?_⟩
  .unfold iz gq;exact List.pairwise_map.mpr t1
  .unfold iz at hp;obtain ⟨x,hx,rfl⟩:=yI.mp hp;have hx':=t2 x hx;refine ⟨dw ns a x,zq hx',?_⟩;have e:(gP ns a).getD x 1=dw ns a x:=by simp [List.getD,zq hx']
   simp only [e];have hl:=sO ns a x;have:=lJ (c:=fO ns a k+5 * (x:Int)) (p:=9929) (m:=(dw ns a x:Nat)) (by omega);omega
  .unfold iz;rw [List.length_map];exact t3
  .unfold iz;rw [List.length_map];exact t4
def one_add (x:Nat):(1:Int)+(x:Int)=((1+x:Nat):Int):=by omega
def ac6 (ds:List D):cutD ds none (some 3)=ds.take 3:=by
 unfold cutD;rw [HT.V9];have e:HT.sIx ds.length ds.length (some 3)=min 3 ds.length:=HT.ZS ds.length ds.length 3;rw [e,Nat.sub_zero,List.drop_zero];by_cases h:3<=ds.length
 .rw [Nat.min_eq_left h]
 .rw [Nat.min_eq_right (by omega),List.take_of_length_le (by omega),List.take_of_length_le (by omega)]
theorem JC (x:Nat) (h:x<=1000):lQ (x:Int)=true:=Nat.ble_eq_true_of_le (by omega)
theorem tK {c:Nat} (h:c<=1000) (x:Int):ji .mul (.int (c:Int)) (.int x)=.ok (.int ((c:Int) * x)):=HN (.inl (JC c h))
theorem mul_k (h:k<=1000) (x:Int):ji .mul (.int x) (.int (k:Int))=.ok (.int (x * (k:Int))):=HN (.inr (JC k h))
theorem aax (hns:ns.length<=63) (a:Nat):aq tab aG (n+2) 30 [.lst (ns.map D.int),.int a]=.ok (eB (gP ns a) (jR ns a)):=by
 have hm:=Ci ns a;have hlim:lim=100000:=rfl;have hbn:=lJ (c:=bx ns a) (p:=9949) (m:=4) (by decide);rw [bH Mx rfl];have ea:∀ j:Nat,(a:Int)+(j:Int)=((a+j:Nat):Int):=fun j=>by omega
 have ea1:(a:Int)+1=((a+1:Nat):Int):=by omega
 have ea2:(a:Int)+2=((a+2:Nat):Int):=by omega
 have em:(1:Int)+(cJ (bx ns a) 9973 4:Nat)=((bC ns a:Nat):Int):=by unfold bC;omega
 delta oA;simpa only [oO,mz (show (0:Int) < 9973 by decide) (show (0:Int) < 4 by decide),em,if_pos (show 0<=lim from Nat.zero_le _),iQ (bC ns a) (show bC ns a<=lim by omega)];rw [bind_eq (a:=.nx [some (.lst (ns.map D.int)),some (.int (a:Int)),some (.int (bx ns a)),some (.int (bC ns a:Nat)),some (.lst ((gP ns a).map eN)),none,none,none,none,none,none])]
 .simpa only [mz (show (0:Int) < 9949 by decide) (show (0:Int) < 4 by decide),if_pos (show 0<=lim from Nat.zero_le _),iQ (cJ (bx ns a) 9949 4) (show cJ (bx ns a) 9949 4<=lim by omega)];rw [bind_eq (a:=.nx [some (.lst (ns.map D.int)),some (.int (a:Int)),some (.int (bx ns a)),some (.int (bC ns a:Nat)),some (.lst ((gP ns a).map eN)),none,some (.lst ((jR ns a).map eM)),none,none,none,none])]
  .simpa only [if_pos (show 0+1+1<=lim by decide)];rfl
  .refine (iV eN (fun acc:List Meet=>[some (.lst (ns.map D.int)),some (.int (a:Int)),some (.int (bx ns a)),some (.int (bC ns a:Nat)),some (.lst ((gP ns a).map eN)),none,some (.lst (acc.map eM)),none,none,none,none]) (fun k=>[iz ns a k]) lim (List.range (cJ (bx ns a) 9949 4)) (fun acc k hk hB=>?_) [] ?_).trans ?_
   .have hk':=y9.mp hk;have m53:=tK (show 53<=1000 by decide) (k:Int);have m53k:=mul_k (show k<=1000 by omega) (((53:Nat):Int) * (k:Int));have m7:=tK (show 7<=1000 by decide) (k:Int);have es:bx ns (a+2)+((53:Nat):Int) * (k:Int) * (k:Int)+((7:Nat):Int) * (k:Int)=fO ns a k:=rfl;simp only [show ((53:Nat):Int)=53 from rfl,show ((7:Nat):Int)=7 from rfl] at m53 m53k m7 es;simpa only [ea2,oO,m53,m53k,m7,es,if_pos (show 0<=lim from Nat.zero_le _),iQ (bC ns a) (show bC ns a<=lim by omega)];rw [bind_eq (a:=((List.range (bC ns a)).filter fun (x:Nat)=>decide (cJ (fO ns a k+17 * (x:Int)) 9941 2=1)).map eN)]
    .have hfl:=yb (fun x:Nat=>decide (cJ (fO ns a k+17 * (x:Int)) 9941 2=1)) (List.range (bC ns a));rw [List.length_range] at hfl;have hfl2:((List.range (bC ns a)).filter fun (x:Nat)=>decide (cJ (fO ns a k+17 * (x:Int)) 9941 2=1)).length<=lim:=by omega
     have ed:(((List.range (bC ns a)).filter fun (x:Nat)=>decide (cJ (fO ns a k+17 * (x:Int)) 9941 2=1)).map eN).take 3=(drawn ns a k).map eN:=by unfold drawn;rw [List.map_take]
     simpa only [List.length_map,if_pos hfl2,slD,ac6,ed,yZ.cmpEq0];have hal:acc.length < lim:=by simp only [List.length_singleton] at hB;omega
     by_cases hd:(drawn ns a k).isEmpty=true
     .have et:fJ ns a k=[cJ (fO ns a k) 9931 (bC ns a:Nat)]:=if_pos hd;simpa only [hd,mz (show (0:Int) < 9931 by decide) (show (0:Int) < (bC ns a:Nat) by omega),if_pos (show 0+1<=lim by decide)];rw [show ([D.int ((cJ (fO ns a k) 9931 (bC ns a:Nat):Nat):Int)]:List D)=(fJ ns a k).map eN by rw [et];rfl];rw [bind_eq (a:=(iz ns a k).map eP)]
      .have hbl:(iz ns a k).length<=lim:=by
        have:=(oW ns a k).2.2.2;unfold iz;rw [List.length_map];omega
       simpa only [List.length_map,if_pos hbl];rw [bind_eq (show xZ (.lst (acc.map eM)) (.tup ((iz ns a k).map eP))=_ from tW (enc:=eM) (a:=iz ns a k) hal)];exact ⟨_,rfl,by simp [aV]⟩
      .rw [show iz ns a k=(fJ ns a k).map fun (x:Nat)=>(x,cJ (fO ns a k+5 * (x:Int)) 9929 ((gP ns a).getD x 1:Nat)) from rfl,List.map_map];refine cX (fJ ns a k) fun x hx=>?_
       have hx':=(oW ns a k).2.1 x hx;have m5:=tK (show 5<=1000 by decide) (x:Int);simp only [show ((5:Nat):Int)=5 from rfl] at m5;have eg:(gP ns a).getD x 1=dw ns a x:=by simp [List.getD,zq hx']
       have hlp:=sO ns a x;simpa only [m5,Fe (enc:=eN) (zq hx'),mz (show (0:Int) < 9929 by decide) (show (0:Int) < (dw ns a x:Nat) by omega),if_pos (show 0+1+1<=lim by decide)];simp only [Function.comp,eg,eP]
     .have et:fJ ns a k=drawn ns a k:=if_neg hd;simpa only [eq_false_of_ne_true hd];rw [<- et];rw [bind_eq (a:=(iz ns a k).map eP)]
      .have hbl:(iz ns a k).length<=lim:=by
        have:=(oW ns a k).2.2.2;unfold iz;rw [List.length_map];omega
       simpa only [List.length_map,if_pos hbl];rw [bind_eq (show xZ (.lst (acc.map eM)) (.tup ((iz ns a k).map eP))=_ from tW (enc:=eM) (a:=iz ns a k) hal)];exact ⟨_,rfl,by simp [aV]⟩
      .rw [show iz ns a k=(fJ ns a k).map fun (x:Nat)=>(x,cJ (fO ns a k+5 * (x:Int)) 9929 ((gP ns a).getD x 1:Nat)) from rfl,List.map_map];refine cX (fJ ns a k) fun x hx=>?_
       have hx':=(oW ns a k).2.1 x hx;have m5:=tK (show 5<=1000 by decide) (x:Int);simp only [show ((5:Nat):Int)=5 from rfl] at m5;have eg:(gP ns a).getD x 1=dw ns a x:=by simp [List.getD,zq hx']
       have hlp:=sO ns a x;simpa only [m5,Fe (enc:=eN) (zq hx'),mz (show (0:Int) < 9929 by decide) (show (0:Int) < (dw ns a x:Nat) by omega),if_pos (show 0+1+1<=lim by decide)];simp only [Function.comp,eg,eP]
    .refine bW (List.range (bC ns a)) fun x hx=>?_
     have m17:=tK (show 17<=1000 by decide) (x:Int);simp only [show ((17:Nat):Int)=17 from rfl] at m17;simpa only [m17,mz (show (0:Int) < 9941 by decide) (show (0:Int) < 2 by decide)];have e1:decide (((cJ (fO ns a k+17 * (x:Int)) 9941 2:Nat):Int)=1)=decide (cJ (fO ns a k+17 * (x:Int)) 9941 2=1):=sV _ 1;rw [e1];by_cases hh:cJ (fO ns a k+17 * (x:Int)) 9941 2=1 <;> simpa [hh]
   .rw [iY,List.length_nil,List.length_map,List.length_range];omega
   .rw [iY];rfl
 .refine (iV eN (fun acc:zi=>[some (.lst (ns.map D.int)),some (.int (a:Int)),some (.int (bx ns a)),some (.int (bC ns a:Nat)),some (.lst (acc.map eN)),none,none,none,none,none,none]) (fun k=>[dw ns a k]) lim (List.range (bC ns a)) (fun acc k hk hB=>?_) [] ?_).trans ?_
  .have hk':=y9.mp hk;have m31:=tK (show 31<=1000 by decide) (k:Int);have m31k:=mul_k (show k<=1000 by omega) (((31:Nat):Int) * (k:Int));simp only [show ((31:Nat):Int)=31 from rfl] at m31 m31k;have hal:acc.length < lim:=by simp only [List.length_singleton] at hB;omega
   have h63:decide ((63:Int) < (ns.length:Int))=false:=v4 (by omega);by_cases h2:k < 2
   .have e3:kO k=3:=if_pos h2;have el:dw ns a k=1+cJ (bx ns (a+1)+31 * (k:Int) * (k:Int)+(k:Int)) 9967 3:=by unfold dw;rw [e3];rfl
    simpa only [decide_eq_true (show (k:Int) < 2 by omega),ea1,oO,m31,m31k,mz (show (0:Int) < 9967 by decide) (show (0:Int) < 3 by decide),one_add,<- el];rw [bind_eq (tW (enc:=eN) hal)];exact ⟨_,rfl,by simp [aV]⟩
   .have e3:kO k=2:=if_neg h2;have el:dw ns a k=1+cJ (bx ns (a+1)+31 * (k:Int) * (k:Int)+(k:Int)) 9967 2:=by unfold dw;rw [e3];rfl
    simpa only [decide_eq_false (show ¬ ((k:Int) < 2) by omega),h63,ea1,oO,m31,m31k,mz (show (0:Int) < 9967 by decide) (show (0:Int) < 2 by decide),one_add,<- el];rw [bind_eq (tW (enc:=eN) hal)];exact ⟨_,rfl,by simp [aV]⟩
  .rw [iY,List.length_nil,List.length_map,List.length_range];omega
  .rw [iY];rfl
theorem Np (h1:∀ l∈lv,1<=l) (hp:prod lv<=lim) (hlen:lv.length<=lim) (hl:∀ l∈lv,l<=lim):aq tab aG (n+1) 31 [au lv]=.ok (.lst ((rows lv).map au)):=by
 rw [bH Nf rfl];delta nR;simpa only [if_pos (show 0<=lim from Nat.zero_le _),if_pos (show 0+1<=lim by decide)];rw [bind_eq (a:=.nx [some (au lv),some (.lst ((rows lv).map au)),none,none,none,none])]
 .simpa only []
 .refine cY eN (fun rs:ze=>[some (au lv),some (.lst (rs.map au)),none,none,none,none]) cD (fun rs rest=>uY lv rs rest/\∀ l∈rest,l<=lim) (fun rs l rest hi=>?_) lv [[]] ⟨⟨rfl,by simp,h1⟩,hl⟩;obtain ⟨hi,hll⟩:=hi;obtain ⟨hs,hsz⟩:=hi.step;have hrl:∀ r∈rs,r.length < lim:=fun r hr=>by
   have:=hi.2.1 r hr;simp only [List.length_cons] at this;omega
  refine ⟨⟨hs,fun x hx=>hll x (ve _ hx)⟩,?_⟩;simpa only [if_pos (show 0<=lim from Nat.zero_le _)];rw [bind_eq (a:=.nx [some (au lv),some (.lst (rs.map au)),some (eN l),some (.lst ((cD rs l).map au)),none,none])]
  .simpa only [];exact ⟨_,rfl,by simp [aV]⟩
  .refine iV au (fun acc:ze=>[some (au lv),some (.lst (rs.map au)),some (eN l),some (.lst (acc.map au)),none,none]) (fun r=>(List.range l).map fun s=>r++[s]) lim rs (fun acc r hr hB=>?_) [] (by rw [Az,List.length_nil];omega);simpa only [iQ l (hll l List.mem_cons_self)];rw [bind_eq (a:=((List.range l).map fun s=>r++[s]).map au)]
   .have hll':=hll l vi;simpa only [List.length_map,List.length_range,if_pos hll'];rw [bind_eq (Xv (enc:=au) hB)];exact ⟨_,rfl,by simp [aV]⟩
   .rw [List.map_map];refine cX (List.range l) fun s hs=>?_
    simpa only [KN (hrl r hr),if_pos (show 0+1<=lim by decide)];rfl
def Cd (h:∀ p∈m,p.1 < r.length) (hl:m.length<=lim):aq tab aG (n+1) 32 [au r,eM m]=.ok (.bl (cC r m)):=by
 rw [bH Jo rfl];delta lZ;simpa only [if_pos (show 0<=lim from Nat.zero_le _)];rw [bind_eq (a:=(m.filter fun p=>!decide (r[p.1]?=some p.2)).map eP)]
 .have:=yb (fun p:Nat × Nat=>!decide (r[p.1]?=some p.2)) m;have h2:(m.filter fun p=>!decide (r[p.1]?=some p.2)).length<=lim:=by omega
  simpa only [List.length_map,if_pos h2,HJ.cmpEq0];congr 2;unfold cC;rw [Bool.eq_iff_iff,List.isEmpty_iff,List.filter_eq_nil_iff,List.all_eq_true];simp
 .refine bW m fun p hp=>?_
  obtain ⟨x,hx⟩:∃ x,r[p.1]?=some x:=⟨_,List.getElem?_eq_getElem (h p hp)⟩;simpa only [Ig hx,sV,hx,Option.some.injEq];by_cases hh:x=p.2 <;> simpa [hh]
def KY (h:WB lv bs)  (hr:iK lv r) {b:Meet} (hb:b∈bs):(∀ p∈b,p.1 < r.length)/\b.length<=lim:=by
 have hlim:lim=100000:=rfl;refine ⟨fun p hp=>?_,by have:=(h.ban b hb).2.2;omega⟩;obtain ⟨l,e,_⟩:=(h.ban b hb).1.2 p hp;rw [hr.len];exact (yB.mp e).1
theorem BR (h:WB lv bs):aq tab aG (n+2) 33 [eB lv bs]=.ok (.lst ((tests lv bs).map au)):=by
 have f:=nF lv h.mem;have h4:=h.four;have hb:=h.nb;have hlim:lim=100000:=rfl;rw [bH JR rfl];delta mY;simpa only [if_pos (show 0<=lim from Nat.zero_le _),Np (fun l hl=>(WB.lvAll h l hl).1) (show prod lv<=lim by omega) (show lv.length<=lim by omega) (fun l hl=>by have:=WB.lvAll h l hl;omega)];rw [bind_eq (a:=.nx [some (eB lv bs),some (.lst ((tests lv bs).map au)),none,none])]
 .simpa only []
 .refine (iV au (fun acc:ze=>[some (eB lv bs),some (.lst (acc.map au)),none,none]) (fun r=>if pW bs r then [r] else []) lim (rows lv) (fun acc r hr hB=>?_) [] ?_).trans ?_
  .have hok:=nO.mp hr;simpa only [if_pos (show 0<=lim from Nat.zero_le _)];rw [bind_eq (a:=(bs.filter fun b=>cC r b).map eM)]
   .have:=yb (fun b=>cC r b) bs;have h2:(bs.filter fun b=>cC r b).length<=lim:=by omega
    simpa only [List.length_map,if_pos h2,jZ.cmpEq0];have et:(bs.filter fun b=>cC r b).isEmpty=pW bs r:=by
     unfold pW;rw [Bool.eq_iff_iff,List.isEmpty_iff,List.filter_eq_nil_iff];simp
    rw [et];cases e:pW bs r with
    | false=>simpa only [];exact ⟨_,rfl,by simp [aV]⟩
    | true =>
     rw [e] at hB;have hal:acc.length < lim:=by simp at hB;omega
     simpa only [];rw [bind_eq (tW (enc:=au) hal)];exact ⟨_,rfl,by simp [aV]⟩
   .refine bW bs fun b hbm=>?_
    simpa only [Cd (KY h hok hbm).1 (KY h hok hbm).2];cases cC r b <;> simpa []
  .rw [mQ,List.length_nil];have:=tZ h;unfold tests at this;omega
  .rw [mQ];rfl
def Dh (lv:zi) (k:Nat):List Meet:=((rows lv).flatMap fun r=>(subs (aQ 0 r)).filter fun m=>decide (m.length=k)).foldl fj []
def Ss (h1:∀ (i l:Nat),lv[i]?=some l->1<=l):m∈Dh lv k↔m∈allM lv k:=by
 unfold Dh;rw [uq,rT];simp only [List.not_mem_nil,false_or,List.mem_flatMap,List.mem_filter,HD,decide_eq_true_eq];constructor
 .rintro ⟨r,hr,⟨h2,h3⟩,h4⟩;exact ⟨h4,Lb (nO.mp hr) h2 h3⟩
 .rintro ⟨h4,h5⟩;obtain ⟨r,hr,h6⟩:=Vd h1 h5;exact ⟨r,hr,⟨h5.1,h6⟩,h4⟩
theorem abD {t s:Nat} (h:m.length < lim):kI (eM m) (.tup [.tup [.int (t:Int),.int (s:Int)]])=.ok (eM (m++[(t,s)])):=Uh (p:=(t,s)) h
theorem Lq {α β:Type} (p:β->Bool) (g:α->β->α):∀ (l:List β) (a:α),l.foldl (fun a x=>if p x then g a x else a) a=(l.filter p).foldl g a
 | [],a=>rfl
 | x::l,a=>by
  rw [List.foldl_cons,Lq p g l,List.filter_cons];cases p x <;> simp
def LC (h:WB lv bs)  (h1:1<=k) (h3:k<=3):aq tab aG (n+2) 34 [eB lv bs,.int k]=.ok (.lst ((allM lv k).map eM)):=by
 have f:=nF lv h.mem;have h4:=h.four;have hlim:lim=100000:=rfl;rw [bH Du rfl];have hsort:lN (eK (Dh lv k))=.ok (.lst ((allM lv k).map eM)) :=
  Ka (uF List.nodup_nil) (uK lv k) (fun m=>Ss fun i l e=>(h.lv1 i l e).1) (vq h h1 h3) (NZ h1)
 delta jJ;simpa only [if_pos (show 0<=lim from Nat.zero_le _),Np (fun l hl=>(WB.lvAll h l hl).1) (show prod lv<=lim by omega) (show lv.length<=lim by omega) (fun l hl=>by have:=WB.lvAll h l hl;omega)];rw [bind_eq (a:=.nx [some (eB lv bs),some (.int (k:Int)),some (eK (Dh lv k)),none,none,none,none,none])]
 .simpa only [hsort]
 .refine (cY au (fun ks:List Meet=>[some (eB lv bs),some (.int (k:Int)),some (eK ks),none,none,none,none,none]) (fun ks r=>((subs (aQ 0 r)).filter fun m=>decide (m.length=k)).foldl fj ks) (fun ks rest=>(∀ r∈rest,r∈rows lv)/\ks.length+rest.length * 16<=640) (fun ks r rest hp=>?_) (rows lv) [] ⟨fun _ h=>h,by rw [vG,List.length_nil];omega⟩).trans ?_
  .obtain ⟨hin,hsz⟩:=hp;have hok:=nO.mp (hin r vi);have hrl:=hok.len;have hsl:(subs (aQ 0 r)).length<=16:=by
    unfold subs;rw [Gy,jj,List.length_singleton,Nat.one_mul];have:2 ^ r.length<=2 ^ 4:=Nat.pow_le_pow_right (by omega) (by omega);have e:(2:Nat) ^ 4=16:=by decide
    omega
   have hfl:=yh ((subs (aQ 0 r)).filter fun m=>decide (m.length=k)) ks;have hff:=yb (fun m:Meet=>decide (m.length=k)) (subs (aQ 0 r));simp only [List.length_cons,Nat.succ_mul] at hsz;refine ⟨⟨fun x hx=>hin x (ve _ hx),by omega⟩,?_⟩;simpa only [if_pos (show 0<=lim from Nat.zero_le _),if_pos (show 0+1<=lim by decide)];rw [bind_eq (a:=.nx [some (eB lv bs),some (.int (k:Int)),some (eK ks),some (au r),some (.lst ((subs (aQ 0 r)).map eM)),none,none,none])]
   .simpa only [];rw [bind_eq (a:=.nx [some (eB lv bs),some (.int (k:Int)),some (eK (((subs (aQ 0 r)).filter fun m=>decide (m.length=k)).foldl fj ks)),some (au r),some (.lst ((subs (aQ 0 r)).map eM)),none,none,none])]
    .exact ⟨_,rfl,by simp [aV]⟩
    .refine (cY eM (fun ks:List Meet=>[some (eB lv bs),some (.int (k:Int)),some (eK ks),some (au r),some (.lst ((subs (aQ 0 r)).map eM)),none,none,none]) (fun ks m=>if decide (m.length=k) then fj ks m else ks) (fun ks rest=>ks.length+rest.length<=90000) (fun ks m rest hp=>?_) (subs (aQ 0 r)) ks (by omega)).trans ?_
     .simp only [List.length_cons] at hp;have:=vC ks m;by_cases hm:m.length=k
      .refine ⟨by simp only [hm];simp;omega,?_⟩;simpa only [sV,hm,decide_eq_true (Eq.refl k)];rw [bind_eq (Rk ks m (by omega))];exact ⟨_,rfl,by simp [aV]⟩
      .refine ⟨by simp only [hm];simp;omega,?_⟩;simpa only [sV,decide_eq_false hm];exact ⟨_,rfl,by simp [aV]⟩
     .rw [Lq]
   .refine (cY eP (fun acc:List Meet=>[some (eB lv bs),some (.int (k:Int)),some (eK ks),some (au r),some (.lst (acc.map eM)),none,none,none]) gn (fun acc rest=>acc.length * 2 ^ rest.length<=16/\∀ m∈acc,m.length+rest.length<=4) (fun acc p rest hp=>?_) (aQ 0 r) [[]] ⟨?_,?_⟩).trans ?_
    .obtain ⟨q1,q2⟩:=hp;have hal:acc.length<=8:=by
      rw [List.length_cons,Nat.pow_succ] at q1;have:1<=2 ^ rest.length:=Nat.one_le_two_pow;have h5:acc.length * 2<=acc.length * (2 ^ rest.length * 2):=Nat.mul_le_mul_left _ (by omega);omega
     refine ⟨⟨?_,fun m hm=>?_⟩,?_⟩
     .unfold gn;rw [List.length_append,List.length_map,<- Nat.two_mul,Nat.mul_comm 2,Nat.mul_assoc];rw [List.length_cons,Nat.pow_succ,Nat.mul_comm (2 ^ rest.length)] at q1;exact q1
     .unfold gn at hm;rcases yT.mp hm with hm | hm
      .have:=q2 m hm;simp only [List.length_cons] at this;omega
      .obtain ⟨m',hm',rfl⟩:=yI.mp hm;have:=q2 m' hm';simp only [List.length_cons,List.length_append,List.length_nil] at this ⊢;omega
     .simpa only [eP];rw [bind_eq (a:=(acc.map fun m=>m++[p]).map eM)]
      .simpa only [List.length_map,if_pos (show acc.length<=lim by omega)];rw [bind_eq (Xv (enc:=eM) (l:=acc) (l':=acc.map fun m=>m++[p]) (by rw [List.length_map];omega))];exact ⟨_,rfl,by simp [aV,gn]⟩
      .rw [List.map_map];refine cX acc fun m hm=>?_
       have:=q2 m hm;simp only [List.length_cons] at this;simpa only [abD (show m.length < lim by omega),if_pos (show 0+1<=lim by decide),if_pos (show 0+1+1<=lim by decide)];rfl
    .rw [jj,List.length_singleton,Nat.one_mul];have:2 ^ r.length<=2 ^ 4:=Nat.pow_le_pow_right (by omega) (by omega);have e:(2:Nat) ^ 4=16:=by decide
     omega
    .intro m hm;rw [List.mem_singleton.mp hm,jj,List.length_nil];omega
    .rfl
  .unfold Dh;rw [List.foldl_flatMap]
theorem N8 (hr:iK lv r)  (hm:rQ lv m):∀ p∈m,p.1 < r.length:=fun p hp=>by
 obtain ⟨l,e,_⟩:=hm.2 p hp;rw [hr.len];exact (yB.mp e).1
theorem Nk (h:WB lv bs)  (h1:1<=k) (h3:k<=3):aq tab aG (n+3) 35 [eB lv bs,.int k]=.ok (.lst ((aB lv bs k).map eM)):=by
 have hlim:lim=100000:=rfl;have htl:=tZ h;have ha:=vq h h1 h3;rw [bH CW rfl];delta jD;simpa only [if_pos (show 0<=lim from Nat.zero_le _),BR h,LC h h1 h3];rw [bind_eq (a:=.nx [some (eB lv bs),some (.int (k:Int)),some (.lst ((tests lv bs).map au)),some (.lst ((aB lv bs k).map eM)),none,none])]
 .simpa only []
 .refine (iV eM (fun acc:List Meet=>[some (eB lv bs),some (.int (k:Int)),some (.lst ((tests lv bs).map au)),some (.lst (acc.map eM)),none,none]) (fun m=>if ((tests lv bs).any fun t=>cC t m) then [m] else []) lim (allM lv k) (fun acc m hm hB=>?_) [] ?_).trans ?_
  .have hmo:=(rT.mp hm);simpa only [if_pos (show 0<=lim from Nat.zero_le _)];rw [bind_eq (a:=((tests lv bs).filter fun t=>cC t m).map au)]
   .have:=yb (fun t=>cC t m) (tests lv bs);have h2:((tests lv bs).filter fun t=>cC t m).length<=lim:=by omega
    simpa only [List.length_map,if_pos h2,lM.cmpNe0];have et:(!((tests lv bs).filter fun t=>cC t m).isEmpty)=(tests lv bs).any fun t=>cC t m:=by
     rw [Bool.eq_iff_iff];simp [List.any_eq_true,List.filter_eq_nil_iff]
    rw [et];cases e:(tests lv bs).any fun t=>cC t m with
    | false=>simpa only [];exact ⟨_,rfl,by simp [aV]⟩
    | true =>
     rw [e] at hB;have hal:acc.length < lim:=by simp at hB;omega
     simpa only [];rw [bind_eq (tW (enc:=eM) hal)];exact ⟨_,rfl,by simp [aV]⟩
   .refine bW (tests lv bs) fun t ht=>?_
    simpa only [Cd (N8 (o7 ht) hmo.2) (show m.length<=lim by omega)];cases cC t m <;> simpa []
  .rw [mQ,List.length_nil];have:=yb (fun m=>(tests lv bs).any fun t=>cC t m) (allM lv k);omega
  .rw [mQ];rfl
def M6 (h:WB lv bs) (c:Int):∃ k:Nat,1<=k/\k<=3/\k<=lv.length/\aq tab aG (n+1) 37 [eB lv bs,.int c]=.ok (.int k):=by
 have h1:=h.one;rw [bH Dk rfl];delta jB;simpa only [if_pos (show 0+1+1+1+1<=lim by decide),pP (show (0:Int) < 4 by decide)];have h0:=Int.emod_nonneg c (show (4:Int)≠0 by decide);have h4:=Int.emod_lt_of_pos c (show (0:Int) < 4 by decide);have key:∃ s:Nat,1<=s/\s<=3/\ixD (.lst [.int 2,.int 2,.int 1,.int 3]) (.int (c % 4))=.ok (.int (s:Int)):=by
  have:c % 4=0\/c % 4=1\/c % 4=2\/c % 4=3:=by omega
  rcases this with e | e | e | e <;> rw [e]
  .exact ⟨2,by decide,by decide,rfl⟩
  .exact ⟨2,by decide,by decide,rfl⟩
  .exact ⟨1,by decide,by decide,rfl⟩
  .exact ⟨3,by decide,by decide,rfl⟩
 obtain ⟨s,q1,q2,q3⟩:=key;refine ⟨min s lv.length,by omega,by omega,by omega,?_⟩;simpa only [q3];congr 2;split <;> omega
theorem Nu:∀ {lv r:zi},iK lv r->∀ p∈r.zip lv,p.1 < p.2
 | [],[],_,p,h=>by simp at h
 | l::lv,x::r,h,p,hp=>by
  rw [List.zip_cons_cons,List.mem_cons] at hp;rcases hp with rfl | hp
  .exact h.1
  .exact Nu h.2 p hp
def U5 (hr:iK lv r) (hl:lv.length<=6):aq tab aG (n+2) 11 [au lv,au r]=.ok (.bl true):=by
 have hlim:lim=100000:=rfl;have hlen:=hr.len;have hz:(r.zip lv).length<=lim:=by rw [List.length_zip];omega
 rw [bH VN rfl];delta v9;simpa only [vg,decide_eq_true (show (lv.length:Int)<=r.length by omega),decide_eq_true (show (r.length:Int)<=lv.length by omega),Bool.and_self,Rh];rw [bind_eq (a:=(r.zip lv).map fun _=>D.bl true)]
 .simpa only [List.length_map,if_pos hz];rw [bind_eq (Dp (fun _=>true) (r.zip lv))];simpa []
 .refine cX (r.zip lv) fun p hp=>?_
  have:=Nu hr p hp;simpa only [eP,rm,decide_eq_true (show (0:Int)<=p.1 by omega),decide_eq_true (show (p.1:Int)<=p.2 - 1 by omega),Bool.and_self]
def Tz (h:WB lv bs)  (ht:t∈tests lv bs):aq tab aG (n+3) 12 [eB lv bs,au t]=.ok (.bl true):=by
 have hlim:lim=100000:=rfl;have h4:=h.four;have hb:=h.nb;have hr:=o7 ht;have hany:(bs.any fun b=>cC t b)=false:=by
  have:=(y8.mp ht).2;unfold pW at this;simpa using this
 rw [bH Uo rfl];delta tX;simpa only [U5 hr (show lv.length<=6 by omega),Aw (fun b hb=>KY h hr hb) (show bs.length<=lim by omega),hany]
theorem Zw (h:WB lv bs) (a:Nat) {w:Nat} (hw:w<=100):∃ ts:ze,(∀ t∈ts,t∈tests lv bs)/\ts.length<=w/\aq tab aG (n+3) 36 [.lst (ns.map D.int),.int a,eB lv bs,.int w]=.ok (.lst (ts.map au)):=by
 have hlim:lim=100000:=rfl;have htl:=tZ h;rw [bH Je rfl];cases hT:(tests lv bs).isEmpty with
 | true =>
  refine ⟨[],by simp,vS _,?_⟩;delta jY;simpa only [BR h,if_pos (show 0<=lim from Nat.zero_le _),lM.cmpNe0,hT]
 | false =>
  have hpos:0 < (tests lv bs).length:=by
   cases e:tests lv bs with
   | nil=>rw [e] at hT;cases hT
   | cons x l=>simp
  have hNl:=lJ (c:=bx ns a) (p:=9923) (m:=(w:Int)+1) (by omega);have hix:∀ k:Nat,cJ (bx ns a+29 * (k:Int) * (k:Int)+(k:Int)) 9907 ((tests lv bs).length:Nat) < (tests lv bs).length:=fun k=>by
   have:=lJ (c:=bx ns a+29 * (k:Int) * (k:Int)+(k:Int)) (p:=9907) (m:=((tests lv bs).length:Nat)) (by omega);omega
  have hget:∀ k:Nat,(tests lv bs)[cJ (bx ns a+29 * (k:Int) * (k:Int)+(k:Int)) 9907 ((tests lv bs).length:Nat)]?=some ((tests lv bs)[cJ (bx ns a+29 * (k:Int) * (k:Int)+(k:Int)) 9907 ((tests lv bs).length:Nat)]'(hix k)):=fun k=>List.getElem?_eq_getElem (hix k)
  refine ⟨(List.range (cJ (bx ns a) 9923 ((w:Int)+1))).map fun k:Nat=>(tests lv bs)[cJ (bx ns a+29 * (k:Int) * (k:Int)+(k:Int)) 9907 ((tests lv bs).length:Nat)]'(hix k),fun t htm=>?_,?_,?_⟩
  .obtain ⟨k,_,rfl⟩:=yI.mp htm;exact List.getElem_mem _
  .rw [List.length_map,List.length_range];omega
  .delta jY;simpa only [BR h,if_pos (show 0<=lim from Nat.zero_le _),lM.cmpNe0,hT,oO,mz (show (0:Int) < 9923 by decide) (show (0:Int) < (w:Int)+1 by omega),iQ (cJ (bx ns a) 9923 ((w:Int)+1)) (show _<=lim by omega)];rw [bind_eq (a:=.nx [some (.lst (ns.map D.int)),some (.int (a:Int)),some (eB lv bs),some (.int (w:Int)),some (.lst ((tests lv bs).map au)),some (.lst (((List.range (cJ (bx ns a) 9923 ((w:Int)+1))).map fun k:Nat=>(tests lv bs)[cJ (bx ns a+29 * (k:Int) * (k:Int)+(k:Int)) 9907 ((tests lv bs).length:Nat)]'(hix k)).map au)),none])]
   .simpa only []
   .refine (iV eN (fun acc:ze=>[some (.lst (ns.map D.int)),some (.int (a:Int)),some (eB lv bs),some (.int (w:Int)),some (.lst ((tests lv bs).map au)),some (.lst (acc.map au)),none]) (fun k:Nat=>[(tests lv bs)[cJ (bx ns a+29 * (k:Int) * (k:Int)+(k:Int)) 9907 ((tests lv bs).length:Nat)]'(hix k)]) lim (List.range (cJ (bx ns a) 9923 ((w:Int)+1))) (fun acc k hk hB=>?_) [] ?_).trans ?_
    .have hk':=y9.mp hk;have m29:=tK (show 29<=1000 by decide) (k:Int);have m29k:=mul_k (show k<=1000 by omega) (((29:Nat):Int) * (k:Int));simp only [show ((29:Nat):Int)=29 from rfl] at m29 m29k;have hal:acc.length < lim:=by simp only [List.length_singleton] at hB;omega
     simpa only [oO,m29,m29k,mz (show (0:Int) < 9907 by decide) (show (0:Int) < ((tests lv bs).length:Nat) by omega),Fe (enc:=au) (hget k)];rw [bind_eq (tW (enc:=au) hal)];exact ⟨_,rfl,by simp [aV]⟩
    .rw [iY,List.length_map,List.length_range,List.length_nil];omega
    .rw [iY];rfl
def Fb (c:Int)  (h:0 < k):∃ r:Nat,c % (k:Int)=(r:Int)/\r < k:=by
 have h1:=Int.emod_nonneg c (show (k:Int)≠0 by omega);have h2:=Int.emod_lt_of_pos c (show (0:Int) < k by omega);exact ⟨(c % k).toNat,by omega,by omega⟩
variable {ds:List D}{d:D}
def Dr {r:Nat} (h:ds[r]?=some d):ixD (.lst ds) (.int (r:Int))=.ok d:=by
 have:=Fe (enc:=id) (l:=ds) h;rw [List.map_id] at this;exact this
variable {cl:Nat->List D->R D}{ρ:En}{v:R D}
def fD {m:MS}{ms:List MS}{ρ':En} (h:cF cl m ρ=.ok (.nx ρ')) (k:kE (cQ cl ms ρ')=v):kE (cQ cl (m::ms) ρ)=v:=by
 rw [qQ,h];exact k
theorem V6 {m:MS} (h:cF cl m ρ=.ok (.rt d)):kE (cQ cl [m] ρ)=.ok d:=by
 rw [qQ,h];rfl
theorem Gs :∀ m∈aB lv bs k,m.length=k/\gq m:=fun m hm=>⟨(yg.mp hm).1,(yg.mp hm).2.1⟩
def sW (h:WB lv bs)  (h1:1<=k) (h3:k<=3):(aB lv bs k).length < 64:=by
 have:=vq h h1 h3;have:=yb (fun m=>(tests lv bs).any fun t=>cC t m) (allM lv k);unfold aB;omega
section
variable {cl:Nat->List D->R D}{f g:Nat}{es:List M}{ρ:En}{ds:List D}{x:Xc}{rest a b:List XS}{c:M}
theorem aa5 (h:cl f ds=.exc x) (e:bF cl es ρ=.ok ds):mX (bN cl (.cs i f es::rest) ρ)=.exc x:=by
 rw [aN,dF,e,dh,h];rfl
theorem tT (e:evE cl c ρ=.ok (.bl true)) (h:bN cl a ρ=.exc x):bN cl (.ifs c a b::rest) ρ=.exc x:=by
 rw [aN,cu,e,fV,h];rfl
theorem tk {hc:Str}{ks:List (Bool × Str)}{xs:zk} (h:bN cl a ρ=.exc x) (hx:uV hc ks xs (.exc x)=.ok (.rt d)):mX (bN cl (.tr a i hc ks xs::rest) ρ)=.ok d:=by
 rw [aN,dB,h,hx];rfl
end
def acV (x:D)  (hk:k<=1000):ji .mul (.lst [x]) (.int (k:Int))=.ok (.lst (List.replicate k x)):=by
 show (if 0<=(k:Int)/\(k:Int)<=1000/\[x].length<=1000 then R.ok (D.lst (List.replicate (k:Int).toNat [x]).flatten) else .stuck)=_
 rw [if_pos ⟨by omega,by omega,by simp⟩,Int.toNat_natCast,List.flatten_replicate_singleton]
theorem aaP (b:Bool):je .int [.bl b]=.ok (.int (if b=true then 1 else 0)):=rfl
def ws (k:Nat):List D:=(List.range k).map eN
theorem Wm (h:k<=lim):itemsOf .rng [.int (k:Int)]=.ok (ws k):=iQ k h
theorem ways {F:D->R D}{v:D} (hv:aY .ne v v=.ok false) (h:∀ w:Nat,w < k->F (.int (w:Int))=.ok v):eF (fun e=>do let a <- F e;let t <- aY .ne a v;if t=true then R.ok (some e) else R.ok none) (ws k)=.ok []:=by
 refine (bW (e:=eN) (p:=fun _=>false) (List.range k) fun w hw=>?_).trans (by simp);show (F (.int (w:Int)) >>= fun a=>aY .ne a v >>= fun t=>if t=true then R.ok (some (eN w)) else R.ok none)=_
 rw [h w (List.mem_range.mp hw),qP,hv];rfl
theorem Io {p:D->R D}:∀ (ts:ze),(∀ t∈ts,p (au t)=.ok (.bl true))->nM p (ts.map au)=.ok ()
 | [],_=>rfl
 | t::ts,h=>by
  show (match p (au t) with | .ok (.bl true)=>nM p (ts.map au) | _=>.stuck)=_
  rw [h t List.mem_cons_self];exact Io ts fun u hu=>h u (ve _ hu)
theorem Hl (h:WB lv bs)  (ht:∀ t∈ts,t∈tests lv bs):aq tab aG (n+4) 13 [eB lv bs,.lst (ts.map au)]=.ok .non:=by
 rw [lW xg xK rfl];have e:PL (aq tab aG (n+3)) 12 [some (eB lv bs),some (.lst (ts.map au))]=.ok (.nx [some (eB lv bs),some (.lst (ts.map au))]):=by
  show (match nM (fun t=>aq tab aG (n+3) 12 [eB lv bs,t]) (ts.map au) with | .ok _=>R.ok (Out.nx [some (eB lv bs),some (.lst (ts.map au))]) | _=>.stuck)=_
  rw [Io ts fun t hh=>Tz h (ht t hh)]
 show mX (v5 _ [] (PL (aq tab aG (n+3)) 12 [some (eB lv bs),some (.lst (ts.map au))]))=_
 rw [e];rfl
theorem sG (h:WB lv bs)  (h1:1<=k) (h3:k<=3) (hk:k<=lv.length)  (ht:∀ t∈ts,t∈tests lv bs):aq tab aG (n+7) 21 [eB lv bs,.int k,.lst (ts.map au)]=.ok .non:=by
 rw [lW MJ Mu rfl];delta nQ oM;simpa only [Pg h h1 h3 hk,Hl (n:=n+2) h ht]
 all_goals rfl
def prs (k:Nat):Nat->ze->List (Nat × Meet)
 | _,[]=>[]
 | n,t::ts=>(among (aQ 0 t) k).map (fun m=>(n,m))++prs k (n+1) ts
def aao (hk:k<=3) (ht:t.length<=6):(among (aQ 0 t) k).length<=216:=by
 have h1:=oR (aQ 0 t) k;rw [jj] at h1;have h2:t.length ^ k<=6 ^ k:=Nat.pow_le_pow_left ht k;have h3:6 ^ k<=6 ^ 3:=Nat.pow_le_pow_right (by omega) hk;have h4:(6:Nat) ^ 3=216:=by decide
 omega
theorem RV {m:Meet}{n:Nat}:∀ {l:List Meet},l.Nodup->((l.map fun x=>(n,x)).filter fun x=>decide (x.2=m)).map (fun x=>eN x.1)=if m∈l then [eN n] else []
 | [],_=>rfl
 | x::l,h=>by
  rw [List.nodup_cons] at h;have ih:=RV (m:=m) (n:=n) h.2;rw [List.map_cons,List.filter_cons];by_cases e:x=m
  .subst e;rw [if_neg h.1] at ih;simp [ih]
  .have e2:¬ m=x:=fun z=>e z.symm
   simp only [decide_eq_false e,Bool.false_eq_true,if_false,ih,List.mem_cons,e2,false_or]
theorem Nr {k:Nat}{m:Meet} (h1:m.length=k) (h2:gq m):∀ (n:Nat) (ts:ze),((prs k n ts).filter fun x=>decide (x.2=m)).map (fun x=>eN x.1)=(plc m n ts).map eN
 | n,[]=>rfl
 | n,t::ts=>by
  rw [prs,List.filter_append,List.map_append,Nr h1 h2 (n+1) ts,RV (Wy t k),plc];by_cases e:cC t m=true
  .rw [if_pos (nD.mpr ⟨h1,h2,e⟩),if_pos e];rfl
  .rw [if_neg fun z=>e (nD.mp z).2.2,if_neg e];rfl
def Lf (hk:k<=3) (ht:∀ t∈ts,t.length<=6) (hts:ts.length<=400):∃ (ks:List Meet) (f:Meet->List D),aq tab aG (n+4) 22 [.lst (ts.map au),.int k]=.ok (eGr eM ks f)/\(∀ m,m ∉ ks->f m=[])/\∀ m:Meet,m.length=k->gq m->f m=(plc m 0 ts).map eN:=by
 have hlim:lim=100000:=rfl;have step:∀ (us:ze) (j:Nat) (done:List (Nat × Meet)) (s:List Meet × (Meet->List D)),GrOk (fun x:Nat × Meet=>x.2) (fun x=>eN x.1) done s->done.length+us.length * 216<=86400->(∀ t∈us,t.length<=6) ->
   ∃ s',GrOk (fun x:Nat × Meet=>x.2) (fun x=>eN x.1) (done++prs k j us) s'/\oF (fun x d=>do let ρ1 <- eU (.two 3 4) x [some (.lst (ts.map au)),some (.int (k:Int)),none,none,none,none];mU (aq tab aG (n+3)) (.forr (.one 5) .seq [.call 18 [.var 4,.var 1]] (.sda (.var 5) (.var 3))) ρ1 d) (aU j (us.map au)) (eGr eM s.1 s.2)=.ok (eGr eM s'.1 s'.2):=by
  intro us;induction us with
  | nil=>intro j done s hs _ _;exact ⟨s,by rw [prs,List.append_nil];exact hs,rfl⟩
  | cons t us ih =>
   intro j done s hs hsz hus;have ht6:=hus t vi;have hal:=aao hk ht6;simp only [List.length_cons,Nat.succ_mul] at hsz;have hle:(aQ 0 t).length<=16:=by rw [jj];omega
   obtain ⟨g1,g2⟩:=vQ (enc:=eM) Kw (e:=fun x:Nat × Meet=>eM x.2) (f:=fun x d=>do let ρ1 <- eU (.one 5) x [some (.lst (ts.map au)),some (.int (k:Int)),none,some (.int (j:Int)),some (au t),none];mU (aq tab aG (n+3)) (.sda (.var 5) (.var 3)) ρ1 d)
    ((among (aQ 0 t) k).map fun m=>(j,m)) done s hs (by rw [List.length_map];omega) (fun x hx ks g=>by
     obtain ⟨m,_,rfl⟩:=yI.mp hx;simpa only []
     all_goals rfl)
   obtain ⟨s',q1,q2⟩:=ih (j+1) (done++(among (aQ 0 t) k).map fun m=>(j,m)) _ g1 (by rw [List.length_append,List.length_map];omega) fun u hu=>hus u (ve _ hu)
   refine ⟨s',by rw [prs,<- List.append_assoc];exact q1,?_⟩;rw [List.map_cons,aU,oF];rw [bind_eq (a:=eGr eM (((among (aQ 0 t) k).map fun m=>(j,m)).foldl (jT (fun x:Nat × Meet=>x.2) (fun x=>eN x.1)) s).1 (((among (aQ 0 t) k).map fun m=>(j,m)).foldl (jT (fun x:Nat × Meet=>x.2) (fun x=>eN x.1)) s).2)]
   .exact q2
   .rw [List.map_map] at g2;refine Eq.trans ?_ g2;simpa only [xq (n:=n) hk hle]
    all_goals rfl
 obtain ⟨s',q1,q2⟩:=step ts 0 [] ([],fun _=>[]) GrOk.nil (by simp only [List.length_nil];omega) ht;rw [List.nil_append] at q1;refine ⟨s'.1,s'.2,?_,fun m hm=>q1.out hm,fun m h1 h2=>?_⟩
 .rw [bH xP rfl];delta iw;simpa only [Ar,Cz];rw [bind_eq (a:=eGr eM s'.1 s'.2)]
  .simpa only []
  .simpa only [] using q2;exact q2
 .rw [q1.fn,Nr h1 h2]
theorem Iu {f:D->R (Option D)} (h:∀ (j:Nat) (r:Bool),f (.tup [.int (j:Int),.bl r])=.ok (if r then none else some (eN j))):∀ (rs:List Bool) (j:Nat),eF f (aU j (rs.map D.bl))=.ok ((fls j rs).map eN)
 | [],j=>rfl
 | r::rs,j=>by
  rw [List.map_cons,aU,eF,h,qP,Iu h rs (j+1),qP,fls];cases r <;> rfl
theorem O9:∀ (j:Nat) (rs:List Bool),(fls j rs).length<=rs.length
 | j,[]=>vy _
 | j,r::rs=>by
  have:=O9 (j+1) rs;rw [fls];cases r <;> simp <;> omega
variable {rs:List Bool}
theorem Hj (hl:rs.length=ts.length) (hs:rs.length<=400):aq tab aG (n+1) 23 [.lst (ts.map au),.lst (rs.map D.bl)]=.ok (.bl true):=by
 have hlim:lim=100000:=rfl;rw [bH kZ rfl];delta iI;simpa only [nA,List.length_map,hl,decide_true];rw [bind_eq (a:=rs.map fun _=>D.bl true)]
 .simpa only [List.length_map,if_pos (show rs.length<=lim by omega)];rw [bind_eq (Dp (fun _=>true) rs)];simpa []
 .exact cX rs fun r _=>rfl
theorem Qm (h:WB lv bs)  (h1:1<=k) (h3:k<=3) (hk:k<=lv.length)  (ht:∀ t∈ts,t∈tests lv bs) (hts:ts.length<=100)  (hl:rs.length=ts.length):aq tab aG (n+8) 24 [eB lv bs,.int k,.lst (ts.map au),.lst (rs.map D.bl)]=.ok (.lst (((aB lv bs k).filter fun m=>decide (aO ts m=rs)).map eM)):=by
 have hlim:lim=100000:=rfl;have hpl:=sW h h1 h3;obtain ⟨ks,f,e1,e2,e3⟩:=Lf (n:=n+3) (ts:=ts) h3 (fun t hh=>uM h t (ht t hh)) (by omega);rw [lW CJ Dm rfl];delta mj mL;simpa only [sG (n:=n) h h1 h3 hk ht,Hj (n:=n+6) hl (by omega),e1,Ar];rw [bind_eq (Iu (fun j r=>by simpa only [];cases r <;> rfl) rs 0)];have hfl:=O9 0 rs;simpa only [List.length_map,if_pos (show (fls 0 rs).length<=lim by omega),CG (n:=n) h h1 h3 hk];rw [bind_eq (a:=((aB lv bs k).filter fun m=>decide (aO ts m=rs)).map eM)]
 .have:=yb (fun m=>decide (aO ts m=rs)) (aB lv bs k);simpa only [List.length_map,if_pos (show ((aB lv bs k).filter fun m=>decide (aO ts m=rs)).length<=lim by omega)]
  all_goals rfl
 .refine bW (aB lv bs k) fun m hm=>?_
  obtain ⟨m1,m2⟩:=Gs m hm;simpa only [if_pos (show 0<=lim from Nat.zero_le _),NK Kw (e2 m),e3 m m1 m2,yZ.cmpEq];have e:decide (plc m 0 ts=fls 0 rs)=decide (aO ts m=rs):=by
   by_cases q:aO ts m=rs
   .rw [decide_eq_true q,decide_eq_true ((Ef hl).mpr q)]
   .rw [decide_eq_false q,decide_eq_false fun z=>q ((Ef hl).mp z)]
  rw [e];cases decide (aO ts m=rs) <;> simpa only [] <;> rfl
variable {α:Type}
def ZK [DecidableEq α] (κ:Meet->α) (L:List Meet):((bV κ eM L).1.map fun a=>D.lst ((bV κ eM L).2 a))=(cR κ L).map fun l=>D.lst (l.map eM):=by
 have:=Dv (κ:=κ) (w:=eM) L;have e:=congrArg (fun l:List (List D)=>l.map D.lst) this;simpa [List.map_map,Function.comp_def] using e
def Ys (h:WB lv bs)  (h1:1<=k) (h3:k<=3) (hk:k<=lv.length)  (ht:∀ t∈ts,t∈tests lv bs) (hts:ts.length<=100):aq tab aG (n+8) 26 [eB lv bs,.int k,.lst (ts.map au)]=.ok (.lst ((cR (fun m=>plc m 0 ts) (aB lv bs k)).map fun l=>.lst (l.map eM))):=by
 have hlim:lim=100000:=rfl;have hpl:=sW h h1 h3;obtain ⟨ks,f,e1,e2,e3⟩:=Lf (n:=n+3) (ts:=ts) h3 (fun t hh=>uM h t (ht t hh)) (by omega);have g:=Uz (κ:=fun m:Meet=>plc m 0 ts) (w:=eM) V5 (e:=eM) (f:=fun x d=>do let ρ1 <- eU (.one 5) x [some (eB lv bs),some (.int (k:Int)),some (.lst (ts.map au)),some (eGr eM ks f),none,none];mU (aq tab aG (n+7)) (.sda (.blt .tuple [.dget (.var 3) (.var 5) (.lst [])]) (.var 5)) ρ1 d) (ds:=aB lv bs k) (by omega) (fun m hm ks' g=>by
  obtain ⟨m1,m2⟩:=Gs m hm;simpa only [if_pos (show 0<=lim from Nat.zero_le _),NK Kw (e2 m),e3 m m1 m2]
  all_goals rfl)
 simpa only [] using g;rw [bH yO rfl];delta iJ;simpa only [e1,CG (n:=n) h h1 h3 hk,Cz];rw [bind_eq g];simpa only [eGr,Ia,ZK]
theorem S8 (h:WB lv bs)  (h1:1<=k) (h3:k<=3) (hk:k<=lv.length)  (ht:∀ t∈ts,t∈tests lv bs) (hts:ts.length<=100):aq tab aG (n+9) 27 [eB lv bs,.int k,.lst (ts.map au)]=.ok (.lst (((cR (fun m=>plc m 0 ts) (aB lv bs k)).filter fun l=>decide (1 < l.length)).map fun l=>.lst (l.map eM))):=by
 have hlim:lim=100000:=rfl;have hpl:=sW h h1 h3;have hgl:(cR (fun m=>plc m 0 ts) (aB lv bs k)).length<=(aB lv bs k).length:=by
  have:=(rW (fun m=>plc m 0 ts) (aB lv bs k) []).length_le;rw [cR,List.length_map];simpa using this
 rw [lW R4 Rr rfl];delta uh tR;simpa only [sG (n:=n+1) h h1 h3 hk ht,Ys (n:=n) h h1 h3 hk ht hts];rw [bind_eq (a:=((cR (fun m=>plc m 0 ts) (aB lv bs k)).filter fun l=>decide (1 < l.length)).map fun l=>D.lst (l.map eM))]
 .have:=yb (fun l:List Meet=>decide (1 < l.length)) (cR (fun m=>plc m 0 ts) (aB lv bs k));simpa only [List.length_map,if_pos (show ((cR (fun m=>plc m 0 ts) (aB lv bs k)).filter fun l=>decide (1 < l.length)).length<=lim by omega)]
  all_goals rfl
 .refine bW (cR (fun m=>plc m 0 ts) (aB lv bs k)) fun l _=>?_
  have e:decide ((1:Int) < (l.length:Int))=decide (1 < l.length):=by
   by_cases q:1 < l.length
   .rw [decide_eq_true q,decide_eq_true (by omega)]
   .rw [decide_eq_false q,decide_eq_false (by omega)]
  simpa only [nA,List.length_map,e];cases decide (1 < l.length) <;> simpa only [] <;> rfl
section
variable {cl:Nat->List D->R D}{f:Nat}{es:List M}{ρ:En}{ds:List D}{x:Xc}{rest a:List XS}{c:M}
theorem tcr (h:cl f ds=.exc x) (e2:bF cl es ρ=.ok ds):bN cl (.cr f es::rest) ρ=.exc x:=by
 rw [aN,dG,e2,dh,h];rfl
def tS (e:evE cl c ρ=.ok (.bl false)) (h:bN cl rest ρ=.exc x):bN cl (.ifs c a []::rest) ρ=.exc x:=by
 rw [aN,cu,e,fU];exact h
end
def Fv (ts:ze) (d:D):Prop:=∀ n,aq tab aG (n+1) 23 [.lst (ts.map au),d]=.ok (.bl false)
theorem yG (h:WB lv bs)  (h1:1 <= k) (h3:k <= 3) (hk:k <= lv.length)  (ht:∀ t ∈ ts,t ∈ tests lv bs)  (hd:Fv ts d):aq tab aG (n+8) 24 [eB lv bs,.int k,.lst (ts.map au),d]=.exc ⟨"BadResults",.non⟩:=by
 rw [lW CJ Dm rfl];delta mj mL;simpa only [sG (n:=n) h h1 h3 hk ht,hd (n+6)]
 all_goals rfl
theorem Wl (h:WB lv bs)  (h1:1 <= k) (h3:k <= 3) (hk:k <= lv.length)  (ht:∀ t ∈ ts,t ∈ tests lv bs)  (hd:Fv ts d):∀ w:Nat,w < 2 -> aq tab aG (n+10) 38 [.int (w:Int),eB lv bs,.int k,.lst (ts.map au),d]=.ok (.lst [.bl true,.bl true,.str (Str.ofString "refused")])
 | 0,_=>(lW uz uN rfl).trans (tk (tT rfl (tcr (yG (n:=n+1) h h1 h3 hk ht hd) rfl)) rfl)
 | 1,_=>(lW uz uN rfl).trans (tk (tS rfl (tcr ((lW Mr Nb rfl).trans (aa5 (yG (n:=n) h h1 h3 hk ht hd) rfl)) rfl)) rfl)
theorem Rb {B T v:D} (hs:aq tab aG n 24 [B,.int k,T,d]=.ok v):aq tab aG (n+1) 38 [.int 0,B,.int k,T,d]=.ok v:=by
 rw [lW uz uN rfl];delta n6 n8;simpa only [hs]
 all_goals rfl
theorem T8 (h:∀ l,d≠.lst l):Fv ts d:=fun n=>by
 rw [bH kZ rfl];cases d <;> first | rfl | exact absurd rfl (h _)
theorem NP (h:ds.length≠ts.length):Fv ts (.lst ds):=fun n=>by
 rw [bH kZ rfl];delta iI;simpa only [nA,List.length_map,decide_eq_false (show ¬ ((ds.length:Int)=(ts.length:Int)) by omega)]
def Vt (h:rs.length+1=ts.length) (hs:ts.length<=100):Fv ts (.lst (rs.map D.bl++[.non])):=fun n=>by
 have hlim:lim=100000:=rfl;have hlen:(rs.map D.bl++[D.non]).length=ts.length:=by simp;omega
 rw [bH kZ rfl];delta iI;simpa only [nA,List.length_map,hlen,decide_true];rw [bind_eq (a:=(rs.map D.bl++[D.non]).map fun d=>D.bl (iB d .bool))]
 .simpa only [List.length_map,hlen,if_pos (show ts.length<=lim by omega)];rw [bind_eq (Dp (fun d=>iB d .bool) (rs.map D.bl++[D.non]))];have e:(rs.map D.bl++[D.non]).all (fun d=>iB d .bool)=false:=by
   rw [List.all_append];show (_ && (iB .non .bool && true))=false
   rw [show iB .non .bool=false from rfl,Bool.false_and,Bool.and_false]
  rw [e];rfl
 .have:=cX (f:=fun d=>R.ok (some (D.bl (iB d .bool)))) (enc:=id) (e:=fun d=>D.bl (iB d .bool)) (rs.map D.bl++[D.non]) fun d _=>rfl
  rw [List.map_id] at this;exact this
def VD (rs qs:List Bool):aY .eq (.lst (rs.map D.bl)) (.lst (qs.map D.bl))=.ok (decide (rs=qs)):=by
 have hb:∀ l:List Bool,(l.map D.bl).all uO=true:=fun l=>vY l
 have hd:∀ l:List Bool,dep (.lst (l.map D.bl))<=30:=fun l=>by rw [dep,(Js (hb l)).2];decide
 show (if bw _ _=true then R.ok (aH _ _) else .stuck)=_
 have hf:bw (.lst (rs.map D.bl)) (.lst (qs.map D.bl))=true:=by
  unfold bw;rw [decide_eq_true (hd rs),decide_eq_true (hd qs)];rfl
 rw [if_pos hf,aH,Jt (hb rs) (hb qs)];congr 1;by_cases e:rs=qs
 .subst e;simp
 .rw [decide_eq_false e,decide_eq_false];intro z;exact e ((List.map_inj_right fun x y e=>by injection e).mp z)
variable {f:D->R (Option D)}
theorem KD (h:WB lv bs)  (ht:∀ t∈ts,t∈tests lv bs)  (hm:m∈aB lv bs k) (h3:k<=3)  (hf:∀ t∈ts,f (au t)=(do let a <- aq tab aG (n+1) 32 [au t,eM m];let t <- cV a;R.ok (some (D.bl !t)))):eF f (ts.map au)=.ok ((aO ts m).map D.bl):=by
 have hlim:lim=100000:=rfl;have e:(aO ts m).map D.bl=ts.map fun t=>D.bl (!cC t m):=by rw [aO,List.map_map];rfl
 rw [e];refine cX ts fun t htm=>?_
 have hmm:=rT.mp (y8.mp hm).1;rw [hf t htm,Cd (n:=n) (N8 (o7 (ht t htm)) hmm.2) (by rw [hmm.1];omega)];rfl
abbrev env0 (ns:List Int) (B T:D) (k:Nat) (L:List Meet) (rs:List Bool) (o12:Option D):En:=[some (.lst (ns.map D.int)),some B,some (.int (k:Int)),some T,some (.lst (L.map eM)),some (.lst (rs.map D.bl)),none,none,none,none,none,none,o12,none,none,none,none,none,none]
def Vv (ts:ze):dep (.lst (ts.map au))<=6:=by
 rw [dep];have:=gH lM.dp ts;omega
def YH (rs:List Bool):dep (.lst (rs.map D.bl))<=1:=by
 rw [dep,(Js (show (rs.map D.bl).all uO=true from vY rs)).2];decide
def abg (L:List Meet):dep (.lst (L.map eM))<=5:=by
 rw [dep];have:=gH jZ.dp L;omega
def UL (rs:List Bool):slD (.lst (rs.map D.bl)) none (some (-1))=.ok (.lst ((rs.take (rs.length - 1)).map D.bl)):=by
 show R.ok (D.lst (cutD (rs.map D.bl) none (some (-1))))=_
 congr 2;unfold cutD HT.sIx;have h1:((-1:Int) < 0):=by decide
 simp only [h1,if_true,List.length_map,List.drop_zero,List.map_take];congr 1;omega
section
variable {cl:Nat->List D->R D}{m:MS}{ms a b:List MS}{c:M}{ρ ρ':En}
def KZ {v:R Out} (h:cF cl m ρ=.ok (.nx ρ')) (k:cQ cl ms ρ'=v):cQ cl (m::ms) ρ=v:=by
 rw [qQ,h];exact k
theorem Ze (e:evE cl c ρ=.ok (.bl true)) (h:cQ cl a ρ=.ok (.rt d)):kE (cQ cl (.ifs c a b::ms) ρ)=.ok d:=by
 rw [qQ,qx,e];show kE (cQ cl a ρ >>= vL cl ms)=_
 rw [h];rfl
def Oh (e:evE cl c ρ=.ok (.bl false)) (k:kE (cQ cl ms ρ)=v):kE (cQ cl (.ifs c a []::ms) ρ)=v:=by
 rw [qQ,qx,e];exact k
end
theorem Yg (a:M):dU (.neg a)=false:=rfl
theorem Y9 (ns:List Int)  (W:WB lv bs)  (k1:1<=k) (k3:k<=3) (hk:k<=lv.length)  (hts:∀ t∈ts,t∈tests lv bs) (htl:ts.length<=6)  (hrs:rs.length=ts.length) (o12:Option D) (L:List Meet) (c1:Int)
  (hc1:aq tab aG 30 28 [.lst (ns.map D.int),.int 1]=.ok (.int c1)) :
  cQ (aq tab aG 30) [.set (.one 13) (.lst [(.con .non),(.blt .tuple [(.var 5)]),(.bin .add (.var 5) (.lst [(.con (.bl true))])),(.bin .mul (.lst [(.con (.int 1))]) (.bin .add (.blt .len [(.var 3)]) (.con (.int 1)))),(.bin .add (.slc (.var 5) (.con .non) (.neg (.con (.int 1)))) (.lst [(.con .non)])),(.lst [(.var 5)])]),.set (.one 14) (.ix (.var 13) (.bin .mod (.call 28 [(.var 0),(.con (.int 1))]) (.bin .add (.con (.int 4)) (.blt .int [(.cmp .ne (.var 3) (.lst []))])))),.ret (.cmp .eq (.comp (.var 18) (.one 18) .rng [(.con (.int 2))] true (.cmp .ne (.call 38 [(.var 18),(.var 1),(.var 2),(.var 3),(.var 14)]) (.lst [(.con (.bl true)),(.con (.bl true)),(.con (.str "refused"))])) [false,true,true,true,false,false,false,false,false,false,false,false,false,false,true,false,false,false,false]) (.lst []))] (env0 ns (eB lv bs) (.lst (ts.map au)) k L rs o12)=.ok (.rt (.bl true)):=by
 have hlim:lim=100000:=rfl;have a2:kI (.lst (rs.map D.bl)) (.lst [.bl true])=.ok (.lst (rs.map D.bl++[.bl true])):=if_pos (by simp;omega);have r1:ji .mul (.lst [.int 1]) (.int ((ts.length:Int)+1))=.ok (.lst (List.replicate (ts.length+1) (.int 1))):=acV (.int 1) (k:=ts.length+1) (by omega);have a4:kI (.lst ((rs.take (rs.length - 1)).map D.bl)) (.lst [.non])=.ok (.lst ((rs.take (rs.length - 1)).map D.bl++[.non])):=if_pos (by simp;omega);have ex:∃ d,ixD (.lst [.non,.tup (rs.map D.bl),.lst (rs.map D.bl++[.bl true]),.lst (.int 1::List.replicate ts.length (.int 1)),.lst ((rs.take (rs.length - 1)).map D.bl++[.non]),.lst [.lst (rs.map D.bl)]]) (.int (c1 % (4+(if (!ts.isEmpty)=true then 1 else 0))))=.ok d/\Fv ts d:=by
  have hm:∃ r:Nat,c1 % (4+(if (!ts.isEmpty)=true then (1:Int) else 0))=(r:Int)/\r < 5/\(r=4->ts≠[]):=by
   cases ts with
   | nil =>
    obtain ⟨r,e,hr⟩:=Fb c1 (k:=4) (by decide);exact ⟨r,e,by omega,fun z=>by omega⟩
   | cons t ts =>
    obtain ⟨r,e,hr⟩:=Fb c1 (k:=5) (by decide);exact ⟨r,e,hr,fun _=>by simp⟩
  obtain ⟨r,e,hr,h4⟩:=hm;rw [e]
  match r,hr,h4 with
  | 0,_,_=>exact ⟨_,Dr rfl,T8 fun l z=>by cases z⟩
  | 1,_,_=>exact ⟨_,Dr rfl,T8 fun l z=>by cases z⟩
  | 2,_,_=>exact ⟨_,Dr rfl,NP (by simp;omega)⟩
  | 3,_,_=>exact ⟨_,Dr rfl,NP (by simp)⟩
  | 4,_,h4 =>
   have hne:ts≠[]:=h4 rfl;have hpos:0 < ts.length:=List.length_pos_iff.mpr hne;exact ⟨_,Dr rfl,Vt (by rw [List.length_take];omega) (by omega)⟩
 obtain ⟨d,hix,hbad⟩:=ex;have i2:itemsOf .rng [.int 2]=.ok (ws 2):=Wm (k:=2) (by decide);have hw:eF (fun e=>do let a <- aq tab aG 30 38 [e,eB lv bs,.int (k:Int),.lst (ts.map au),d]; let t <- aY .ne a (.lst [.bl true,.bl true,.str (Str.ofString "refused")]); if t=true then R.ok (some e) else R.ok none) (ws 2)=.ok []:=ways (Qj (by decide)) fun w hw=>Wl (n:=20) W k1 k3 hk hts hbad w hw
 apply KZ
 .simpa only [Yg,a2,r1,UL,a4,if_pos (show 0<=lim from Nat.zero_le _),if_pos (show 0+1<=lim by decide),if_pos (show 0+1+1+1+1+1+1<=lim by decide)]
  all_goals rfl
 apply KZ
 .simpa only [hc1,lM.cmpNe0,aaP,pP (show (0:Int) < 4+(if (!ts.isEmpty)=true then 1 else 0) by split <;> decide),hix,if_pos (show 0<=lim from Nat.zero_le _)]
  all_goals rfl
 rw [qQ];simpa only [i2,if_pos (show 0<=lim from Nat.zero_le _),if_pos (show 0+1+1+1<=lim by decide)];rw [bind_eq hw];rfl
theorem VB (ds:List D):je .list [.lst ds]=.ok (.lst ds):=rfl
abbrev JN (ns:List Int) (B T:D) (k:Nat) (L:List Meet) (rs:List Bool) (o12:Option D) (ts:ze) (done:List Meet):En:=[some (.lst (ns.map D.int)),some B,some (.int (k:Int)),some T,some (.lst (L.map eM)),some (.lst (rs.map D.bl)),some (.tup [T,.lst (rs.map D.bl)]),some (.lst ((done.filter fun m=>decide (aO ts m=rs)).map eM)),some (eGr eBt (bV (aO ts) eM done).1 (bV (aO ts) eM done).2),none,none,none,o12,none,none,none,none,none,none]
theorem QS [DecidableEq α] (κ:Meet->α) (done:List Meet) (m:Meet):bV κ eM (done++[m])=jT κ eM (bV κ eM done) m:=by
 unfold bV;rw [List.foldl_append];rfl
def Vc (ns:List Int)  (W:WB lv bs)  (k1:1<=k) (k3:k<=3)  (hts:∀ t∈ts,t∈tests lv bs) (htl:ts.length<=6) (rs:List Bool) (o12:Option D) :
  cF (aq tab aG 30) (.forr (.one 9) .seq [(.var 4)] [.set (.one 15) (.comp (.not (.call 32 [(.var 17),(.var 9)])) (.one 17) .seq [(.var 3)] false (.con (.bl true)) [false,false,false,false,false,false,false,false,false,true,false,false,false,false,false,false,false,false,false]),.ifs (.cmp .eq (.var 15) (.var 5)) [.app 7 (.var 9)] [],.acc 8 (.blt .tuple [(.var 15)]) (.var 9)])
   (JN ns (eB lv bs) (.lst (ts.map au)) k (aB lv bs k) rs o12 ts [])=.ok (.nx (JN ns (eB lv bs) (.lst (ts.map au)) k (aB lv bs k) rs o12 ts (aB lv bs k))):=by
 have hlim:lim=100000:=rfl;have hpl:=sW W k1 k3;have fold:∀ (l acc:List Meet),l.foldl (fun d m=>d++[m]) acc=acc++l:=by
  intro l;induction l with
  | nil=>intro acc;simp
  | cons x l ih=>intro acc;rw [List.foldl_cons,ih];simp
 rw [qy];simpa only [];refine (cY eM (fun done=>JN ns (eB lv bs) (.lst (ts.map au)) k (aB lv bs k) rs o12 ts done) (fun done m=>done++[m]) (fun done rest=>done++rest=aB lv bs k) (fun done m rest hp=>⟨by rw [List.append_assoc];exact hp,?_⟩) (aB lv bs k) [] rfl).trans (by rw [fold,List.nil_append]);have hm:m∈aB lv bs k:=by rw [<- hp];simp
 have hdl:done.length < 64:=by
  have:(done++m::rest).length=(aB lv bs k).length:=by rw [hp]
  simp only [List.length_append,List.length_cons] at this;omega
 have hfl:=yb (fun m=>decide (aO ts m=rs)) done;have hrl:(aO ts m).length<=lim:=by rw [aO,List.length_map];omega
 have hG:=BP (κ:=aO ts) (w:=eM) done;have hs:pG (eGr eBt (bV (aO ts) eM done).1 (bV (aO ts) eM done).2) (.tup ((aO ts m).map D.bl)) (eM m)=.ok (eGr eBt (bV (aO ts) eM (done++[m])).1 (bV (aO ts) eM (done++[m])).2):=by
  rw [QS];exact hG.sda Od m (by omega)
 simpa only [JN];rw [bind_eq (KD (n:=29) W hts hm k3 (fun t _=>by simpa only []))];simpa only [List.length_map,if_pos hrl,VD];by_cases e:aO ts m=rs
 .have hap:xZ (.lst ((done.filter fun m=>decide (aO ts m=rs)).map eM)) (eM m)=.ok (.lst (((done++[m]).filter fun m=>decide (aO ts m=rs)).map eM)):=by
   rw [tW (enc:=eM) (by omega),List.filter_append];simp [e]
  simpa only [decide_eq_true e,hap,hs];exact ⟨_,rfl,by cases o12 <;> simp [aV]⟩
 .have hap:((done++[m]).filter fun m=>decide (aO ts m=rs))=done.filter fun m=>decide (aO ts m=rs):=by
   rw [List.filter_append];simp [e]
  simpa only [decide_eq_false e,hs,hap];exact ⟨_,rfl,by cases o12 <;> simp [aV]⟩
def ZC (ts:ze) (k:Nat):(((bV (aO ts) eM (aB lv bs k)).1.filter fun a=>decide (1 < ((bV (aO ts) eM (aB lv bs k)).2 a).length)).map fun a=>D.lst ((bV (aO ts) eM (aB lv bs k)).2 a))=((cR (fun m=>plc m 0 ts) (aB lv bs k)).filter fun l=>decide (1 < l.length)).map fun l=>D.lst (l.map eM):=by
 have e1:=Dv (κ:=aO ts) (w:=eM) (aB lv bs k);have e2:cR (fun m=>plc m 0 ts) (aB lv bs k)=cR (aO ts) (aB lv bs k):=Lx _ fun x _ y _=>Z1
 have e3:=congrArg (fun l:List (List D)=>(l.filter fun d=>decide (1 < d.length)).map D.lst) e1;simp only [List.filter_map,List.map_map,Function.comp_def,List.length_map] at e3;rw [e2];exact e3
theorem Wo (ns:List Int)  (W:WB lv bs)  (k1:1<=k) (k3:k<=3) (hk:k<=lv.length)  (hts:∀ t∈ts,t∈tests lv bs) (htl:ts.length<=6)  (hrs:rs.length=ts.length) (o12:Option D) (c0 c1:Int)
  (hc0:aq tab aG 30 28 [.lst (ns.map D.int),.int 0]=.ok (.int c0)) (hc1:aq tab aG 30 28 [.lst (ns.map D.int),.int 1]=.ok (.int c1)) :
  kE (cQ (aq tab aG 30) (zp.body.drop 6) (env0 ns (eB lv bs) (.lst (ts.map au)) k (aB lv bs k) rs o12))=.ok (.bl true):=by
 have hlim:lim=100000:=rfl;have hpl:=sW W k1 k3;have hall:∀ l:List Meet,dep (.lst (l.map eM))<=5:=abg;delta zp;simp only [List.drop_succ_cons,List.drop_zero];by_cases h5:c0 % 6=5
 .apply Ze
  .simpa only [hc0,pP (show (0:Int) < 6 by decide),h5,decide_true]
  .exact Y9 ns W k1 k3 hk hts htl hrs o12 (aB lv bs k) c1 hc1
 apply Oh
 .simpa only [hc0,pP (show (0:Int) < 6 by decide),decide_eq_false h5]
 apply fD
 .simpa only [VB,if_pos (show 0+1+1<=lim by decide)]
  all_goals rfl
 apply fD
 .simpa only [if_pos (show 0<=lim from Nat.zero_le _)]
  all_goals rfl
 apply fD
 .simpa only []
  all_goals rfl
 apply fD
 .exact Vc ns W k1 k3 hts htl rs o12
 have htold:aq tab aG 30 38 [.int 0,eB lv bs,.int (k:Int),.lst (ts.map au),.lst (rs.map D.bl)]=.ok (.lst (((aB lv bs k).filter fun m=>decide (aO ts m=rs)).map eM)):=Rb (n:=29) (Qm (n:=21) W k1 k3 hk hts (by omega) hrs);have hne1:aY .ne (.lst (((aB lv bs k).filter fun m=>decide (aO ts m=rs)).map eM)) (.lst (((aB lv bs k).filter fun m=>decide (aO ts m=rs)).map eM))=.ok false:=Qj (by have:=hall ((aB lv bs k).filter fun m=>decide (aO ts m=rs));omega);have hne2:aY .ne (.tup [.lst (ts.map au),.lst (rs.map D.bl)]) (.tup [.lst (ts.map au),.lst (rs.map D.bl)])=.ok false:=Qj (by
  have h1:=Vv ts;have h2:=YH rs;rw [dep,deps,deps,deps];omega)
 apply Oh
 .simpa only [htold,hne1,hne2,if_pos (show 0+1+1<=lim by decide)]
 have hgl:(cR (fun m=>plc m 0 ts) (aB lv bs k)).length<=(aB lv bs k).length:=by
  have:=(rW (fun m=>plc m 0 ts) (aB lv bs k) []).length_le;rw [cR,List.length_map];simpa using this
 have hfl:=yb (fun l:List Meet=>decide (1 < l.length)) (cR (fun m=>plc m 0 ts) (aB lv bs k));have hG:=BP (κ:=aO ts) (w:=eM) (aB lv bs k);have hcomp:eF (fun d=>do let a <- ixD (eGr eBt (bV (aO ts) eM (aB lv bs k)).1 (bV (aO ts) eM (aB lv bs k)).2) d;let a <- nA a;let r <- aY .gt a (.int 1);if r=true then (do let a <- ixD (eGr eBt (bV (aO ts) eM (aB lv bs k)).1 (bV (aO ts) eM (aB lv bs k)).2) d;R.ok (some a)) else R.ok none) ((bV (aO ts) eM (aB lv bs k)).1.map eBt)=.ok (((cR (fun m=>plc m 0 ts) (aB lv bs k)).filter fun l=>decide (1 < l.length)).map fun l=>D.lst (l.map eM)):=by
  rw [<- ZC];refine bW _ fun a ha=>?_
  rw [acY Od ha,qP];show (do let r <- aY .gt (.int (((bV (aO ts) eM (aB lv bs k)).2 a).length:Int)) (.int 1);if r=true then _ else _)=_
  have e:decide ((1:Int) < (((bV (aO ts) eM (aB lv bs k)).2 a).length:Int))=decide (1 < ((bV (aO ts) eM (aB lv bs k)).2 a).length):=by
   by_cases q:1 < ((bV (aO ts) eM (aB lv bs k)).2 a).length
   .rw [decide_eq_true q,decide_eq_true (by omega)]
   .rw [decide_eq_false q,decide_eq_false (by omega)]
  rw [zL,qP,e];cases decide (1 < ((bV (aO ts) eM (aB lv bs k)).2 a).length) <;> rfl
 have hL:(aB lv bs k).Pairwise mLt:=(uK lv k).filter _;have hsort:=Lw (ls:=(cR (fun m=>plc m 0 ts) (aB lv bs k)).filter fun l=>decide (1 < l.length)) (by omega) ((Jp (fun m=>plc m 0 ts) hL).sublist ((List.filter_sublist).map _));have hitems:itemsOf .seq [eGr eBt (bV (aO ts) eM (aB lv bs k)).1 (bV (aO ts) eM (aB lv bs k)).2]=.ok ((bV (aO ts) eM (aB lv bs k)).1.map eBt):=rfl;apply fD
 .simpa only [JN,hitems];rw [bind_eq hcomp];simpa only [List.length_map,if_pos (show ((cR (fun m=>plc m 0 ts) (aB lv bs k)).filter fun l=>decide (1 < l.length)).length<=lim by omega),hsort]
  all_goals rfl
 apply fD
 .simpa only [S8 (n:=21) W k1 k3 hk hts (show ts.length<=100 by omega)]
  all_goals rfl
 have heq:aY .eq (.lst (((cR (fun m=>plc m 0 ts) (aB lv bs k)).filter fun l=>decide (1 < l.length)).map fun l=>D.lst (l.map eM))) (.lst (((cR (fun m=>plc m 0 ts) (aB lv bs k)).filter fun l=>decide (1 < l.length)).map fun l=>D.lst (l.map eM)))=.ok true:=ab9 (by
  rw [dep];have:=gH (enc:=fun l:List Meet=>D.lst (l.map eM)) (n:=5) hall ((cR (fun m=>plc m 0 ts) (aB lv bs k)).filter fun l=>decide (1 < l.length));omega)
 apply V6;simpa only [heq]
 all_goals rfl
def W3 (ns:List Int) (hns:ns.length<=63):aq tab aG 31 39 [.lst (ns.map D.int)]=.ok (.bl true):=by
 have W:=Z6 ns 2;have hlim:lim=100000:=rfl;have hcell0:aq tab aG 30 28 [.lst (ns.map D.int),.int 0]=.ok (.int (bx ns 0)):=oO (n:=29) ns 0;have hcell1:aq tab aG 30 28 [.lst (ns.map D.int),.int 1]=.ok (.int (bx ns 1)):=oO (n:=29) ns 1;have hbook:aq tab aG 30 30 [.lst (ns.map D.int),.int 2]=.ok (eB (gP ns 2) (jR ns 2)):=aax (n:=28) hns 2;obtain ⟨k,k1,k3,hk,hstr0⟩:=M6 (n:=29) W (bx ns 0);have hstr:aq tab aG 30 37 [eB (gP ns 2) (jR ns 2),.int (bx ns 0)]=.ok (.int (k:Int)):=hstr0;obtain ⟨ts,hts,htl,hdraw0⟩:=Zw (n:=27) (ns:=ns) W 5 (w:=6) (by decide);have hdraw:aq tab aG 30 36 [.lst (ns.map D.int),.int 5,eB (gP ns 2) (jR ns 2),.int 6]=.ok (.lst (ts.map au)):=hdraw0;have hposs:aq tab aG 30 35 [eB (gP ns 2) (jR ns 2),.int (k:Int)]=.ok (.lst ((aB (gP ns 2) (jR ns 2) k).map eM)):=Nk (n:=27) W k1 k3;clear hdraw0 hstr0;generalize gP ns 2=lv at *
 generalize jR ns 2=bs at *
 generalize bx ns 0=c0 at *
 generalize bx ns 1=c1 at *
 show aq tab aG (30+1) 39 _=_
 rw [bH acH rfl];have rest:=fun rs hrs o12=>Wo ns W k1 k3 hk hts htl (rs:=rs) hrs o12 c0 c1 hcell0 hcell1
 delta zp;apply fD
 .simpa only [hbook]
  all_goals rfl
 apply fD
 .simpa only [hcell0,hstr]
  all_goals rfl
 apply fD
 .simpa only [hdraw]
  all_goals rfl
 apply fD
 .simpa only [hposs]
  all_goals rfl
 have m13:∀ j:Nat,ji .mul (.int 13) (.int (j:Int))=.ok (.int (13 * (j:Int))):=fun j=>tK (c:=13) (by decide) (j:Int)
 have hch:eF (fun d=>do let a <- ji .mul (.int 13) d;let a <- kI (.int c1) a;let a <- aq tab aG 30 29 [a,.int 9859,.int 2];let r <- aY .eq a (.int 1);R.ok (some (D.bl r))) ((List.range ts.length).map eN)=.ok (((List.range ts.length).map fun j:Nat=>decide ((cJ (c1+13 * (j:Int)) 9859 2:Int)=1)).map D.bl):=by
  rw [List.map_map];refine cX (List.range ts.length) fun j _=>?_
  show (do let a <- ji .mul (.int 13) (.int (j:Int));let a <- kI (.int c1) a;let a <- aq tab aG 30 29 [a,.int 9859,.int 2];let r <- aY .eq a (.int 1);R.ok (some (D.bl r)))=_
  rw [m13,qP,wV,qP,mz (n:=29) (show (0:Int) < 9859 by decide) (show (0:Int) < 2 by decide),qP,zN];rfl
 apply fD
 .simpa only [hcell1,iQ ts.length (show ts.length<=lim by omega)];rw [bind_eq hch];simpa only [List.length_map,List.length_range,if_pos (show ts.length<=lim by omega)]
  all_goals rfl
 by_cases hP:(aB lv bs k).isEmpty=false/\0 < c1 % 4
 .obtain ⟨hP1,hP2⟩:=hP;have hpos:0 < (aB lv bs k).length:=by
   cases e:aB lv bs k with
   | nil=>rw [e] at hP1;cases hP1
   | cons x l=>simp
  obtain ⟨r,er,hr⟩:=Fb c1 (k:=(aB lv bs k).length) hpos;obtain ⟨m,hm⟩:∃ m,(aB lv bs k)[r]?=some m:=⟨_,List.getElem?_eq_getElem hr⟩;have hmm:m∈aB lv bs k:=List.mem_of_getElem? hm;have hrl:(aO ts m).length<=lim:=by rw [aO,List.length_map];omega
  apply fD
  .simpa only [jZ.cmpNe0,hP1,hcell1,pP (show (0:Int) < 4 by decide),decide_eq_true hP2,if_pos (show 0<=lim from Nat.zero_le _),pP (show (0:Int) < ((aB lv bs k).length:Nat) by omega),er,Fe (enc:=eM) hm];rw [bind_eq (KD (n:=29) W hts hmm k3 (fun t _=>by simpa only []))];simpa only [List.length_map,if_pos hrl]
   all_goals rfl
  exact rest (aO ts m) (by rw [aO,List.length_map]) (some (eM m))
 .apply fD
  .have e:(!(aB lv bs k).isEmpty && decide (0 < c1 % 4))=false:=by
    cases h1:(aB lv bs k).isEmpty
    .have:¬ (0 < c1 % 4):=fun z=>hP ⟨h1,z⟩
     rw [decide_eq_false this];rfl
    .rfl
   simpa only [jZ.cmpNe0,hcell1,pP (show (0:Int) < 4 by decide),if_pos (show 0<=lim from Nat.zero_le _)];cases h1:(aB lv bs k).isEmpty
   .have:¬ (0 < c1 % 4):=fun z=>hP ⟨h1,z⟩
    simpa only [decide_eq_false this]
    all_goals rfl
   .simpa only []
    all_goals rfl
  exact rest _ (by rw [List.length_map,List.length_range]) none
end E14
namespace E14
open PySem L2 Mi
variable (P:Params)
theorem Hr:FF (heap P) "check_list" (top 25):=aZ (f:=168) (by kernel_rfl) (show (heap P).lookup 168=some yE by kernel_rfl) (by kernel_rfl) (by kernel_rfl)
theorem kcl:((heap P).all fun q=>Xh q.2)=true:=by kernel_rfl
theorem recs:((PyProof.Rows.recsOf view).any fun d=>decide (d.name=Str.ofString "check_tests"))=true:=by kernel_rfl
theorem Nj:FF (heap P) "is_whole" (top 12):=aZ (f:=89) (by kernel_rfl) (show (heap P).lookup 89=some CN by kernel_rfl) (by kernel_rfl) (by kernel_rfl)
theorem Ly:FF (heap P) "is_tuple" (top 13):=aZ (f:=96) (by kernel_rfl) (show (heap P).lookup 96=some Dw by kernel_rfl) (by kernel_rfl) (by kernel_rfl)
theorem Hz:FF (heap P) "are_levels" (top 14):=aZ (f:=103) (by kernel_rfl) (show (heap P).lookup 103=some xT by kernel_rfl) (by kernel_rfl) (by kernel_rfl)
theorem Hx:FF (heap P) "is_setting" (top 15):=aZ (f:=110) (by kernel_rfl) (show (heap P).lookup 110=some yr by kernel_rfl) (by kernel_rfl) (by kernel_rfl)
theorem Hh:FF (heap P) "is_meeting" (top 16):=aZ (f:=117) (by kernel_rfl) (show (heap P).lookup 117=some yS by kernel_rfl) (by kernel_rfl) (by kernel_rfl)
theorem QX:FF (heap P) "is_book" (top 17):=aZ (f:=122) (by kernel_rfl) (show (heap P).lookup 122=some Gu by kernel_rfl) (by kernel_rfl) (by kernel_rfl)
theorem Qz:FF (heap P) "checked" (top 18):=aZ (f:=129) (by kernel_rfl) (show (heap P).lookup 129=some GC by kernel_rfl) (by kernel_rfl) (by kernel_rfl)
theorem Xf:FF (heap P) "meets" (top 19):=aZ (f:=134) (by kernel_rfl) (show (heap P).lookup 134=some Oa by kernel_rfl) (by kernel_rfl) (by kernel_rfl)
theorem JK:FF (heap P) "meets_any" (top 20):=aZ (f:=139) (by kernel_rfl) (show (heap P).lookup 139=some Bb by kernel_rfl) (by kernel_rfl) (by kernel_rfl)
theorem Ml:FF (heap P) "all_rows" (top 21):=aZ (f:=144) (by kernel_rfl) (show (heap P).lookup 144=some Cy by kernel_rfl) (by kernel_rfl) (by kernel_rfl)
theorem K8:FF (heap P) "all_tests" (top 22):=aZ (f:=149) (by kernel_rfl) (show (heap P).lookup 149=some Bg by kernel_rfl) (by kernel_rfl) (by kernel_rfl)
theorem RD:FF (heap P) "is_row" (top 23):=aZ (f:=154) (by kernel_rfl) (show (heap P).lookup 154=some K5 by kernel_rfl) (by kernel_rfl) (by kernel_rfl)
theorem Qc:FF (heap P) "is_test" (top 24):=aZ (f:=161) (by kernel_rfl) (show (heap P).lookup 161=some GK by kernel_rfl) (by kernel_rfl) (by kernel_rfl)
theorem Fx:FL (heap P) "check_tests" (top 26):=acS (f:=175) (by kernel_rfl) (show (heap P).lookup 175=some xO by kernel_rfl) (by kernel_rfl) (by kernel_rfl) (by kernel_rfl)
theorem Bl:FF (heap P) "most_strength" (top 28):=aZ (f:=182) (by kernel_rfl) (show (heap P).lookup 182=some tU by kernel_rfl) (by kernel_rfl) (by kernel_rfl)
theorem pC:FF (heap P) "check_book_and_strength" (top 29):=aZ (f:=189) (by kernel_rfl) (show (heap P).lookup 189=some jG by kernel_rfl) (by kernel_rfl) (by kernel_rfl)
theorem Iw:FF (heap P) "is_behind" (top 30):=aZ (f:=196) (by kernel_rfl) (show (heap P).lookup 196=some Bd by kernel_rfl) (by kernel_rfl) (by kernel_rfl)
theorem Aj:FF (heap P) "meetings_among" (top 31):=aZ (f:=201) (by kernel_rfl) (show (heap P).lookup 201=some sY by kernel_rfl) (by kernel_rfl) (by kernel_rfl)
theorem Fw:FF (heap P) "meetings_of" (top 32):=aZ (f:=208) (by kernel_rfl) (show (heap P).lookup 208=some xM by kernel_rfl) (by kernel_rfl) (by kernel_rfl)
theorem Te:FF (heap P) "met_by" (top 33):=aZ (f:=215) (by kernel_rfl) (show (heap P).lookup 215=some Jy by kernel_rfl) (by kernel_rfl) (by kernel_rfl)
theorem Mz:FF (heap P) "possible" (top 34):=aZ (f:=222) (by kernel_rfl) (show (heap P).lookup 222=some Eb by kernel_rfl) (by kernel_rfl) (by kernel_rfl)
theorem Jh:FF (heap P) "check_all" (top 36):=aZ (f:=229) (by kernel_rfl) (show (heap P).lookup 229=some Bh by kernel_rfl) (by kernel_rfl) (by kernel_rfl)
theorem vI:FF (heap P) "places_by_meeting" (top 37):=aZ (f:=236) (by kernel_rfl) (show (heap P).lookup 236=some mZ by kernel_rfl) (by kernel_rfl) (by kernel_rfl)
theorem Fl:FF (heap P) "are_results" (top 39):=aZ (f:=241) (by kernel_rfl) (show (heap P).lookup 241=some xJ by kernel_rfl) (by kernel_rfl) (by kernel_rfl)
theorem MP:FF (heap P) "suspects" (top 40):=aZ (f:=246) (by kernel_rfl) (show (heap P).lookup 246=some Ea by kernel_rfl) (by kernel_rfl) (by kernel_rfl)
theorem JD:FF (heap P) "next_test" (top 42):=aZ (f:=260) (by kernel_rfl) (show (heap P).lookup 260=some Aq by kernel_rfl) (by kernel_rfl) (by kernel_rfl)
theorem xR:FF (heap P) "lists_by_results" (top 43):=aZ (f:=267) (by kernel_rfl) (show (heap P).lookup 267=some oN by kernel_rfl) (by kernel_rfl) (by kernel_rfl)
theorem Qx:FF (heap P) "blurred" (top 44):=aZ (f:=272) (by kernel_rfl) (show (heap P).lookup 272=some FT by kernel_rfl) (by kernel_rfl) (by kernel_rfl)
theorem Kr:FF (heap P) "_law_cell" (top 46):=aZ (f:=279) (by kernel_rfl) (show (heap P).lookup 279=some Bf by kernel_rfl) (by kernel_rfl) (by kernel_rfl)
theorem Ma:FF (heap P) "_law_mix" (top 47):=aZ (f:=286) (by kernel_rfl) (show (heap P).lookup 286=some CK by kernel_rfl) (by kernel_rfl) (by kernel_rfl)
theorem Kv:FF (heap P) "_law_book" (top 48):=aZ (f:=291) (by kernel_rfl) (show (heap P).lookup 291=some Av by kernel_rfl) (by kernel_rfl) (by kernel_rfl)
theorem Ji:FF (heap P) "_law_rows" (top 49):=aZ (f:=296) (by kernel_rfl) (show (heap P).lookup 296=some Ao by kernel_rfl) (by kernel_rfl) (by kernel_rfl)
theorem G8:FF (heap P) "_law_meets" (top 50):=aZ (f:=301) (by kernel_rfl) (show (heap P).lookup 301=some yq by kernel_rfl) (by kernel_rfl) (by kernel_rfl)
theorem Hw:FF (heap P) "_law_tests" (top 51):=aZ (f:=306) (by kernel_rfl) (show (heap P).lookup 306=some yu by kernel_rfl) (by kernel_rfl) (by kernel_rfl)
theorem Cj:FF (heap P) "_law_meetings" (top 52):=aZ (f:=311) (by kernel_rfl) (show (heap P).lookup 311=some tO by kernel_rfl) (by kernel_rfl) (by kernel_rfl)
theorem BZ:FF (heap P) "_law_possible" (top 53):=aZ (f:=316) (by kernel_rfl) (show (heap P).lookup 316=some ux by kernel_rfl) (by kernel_rfl) (by kernel_rfl)
theorem G7:FF (heap P) "_law_drawn" (top 54):=aZ (f:=323) (by kernel_rfl) (show (heap P).lookup 323=some xX by kernel_rfl) (by kernel_rfl) (by kernel_rfl)
theorem Cu:FF (heap P) "_law_strength" (top 55):=aZ (f:=330) (by kernel_rfl) (show (heap P).lookup 330=some tH by kernel_rfl) (by kernel_rfl) (by kernel_rfl)
theorem Ke:FF (heap P) "_law_told" (top 56):=aZ (f:=337) (by kernel_rfl) (show (heap P).lookup 337=some Ax by kernel_rfl) (by kernel_rfl) (by kernel_rfl)
theorem RP:FF (heap P) "law" (top 57):=aZ (f:=342) (by kernel_rfl) (show (heap P).lookup 342=some o_law by kernel_rfl) (by kernel_rfl) (by kernel_rfl)
theorem EY:GF (heap P) "MOST_THINGS" (.int 6):=CZ (t:=282) (by kernel_rfl)
theorem Bu:GF (heap P) "MOST_SETTINGS" (.int 4):=CZ (t:=284) (by kernel_rfl)
theorem Ip:GF (heap P) "MOST_ROWS" (.int 400):=CZ (t:=286) (by kernel_rfl)
theorem Ju:GF (heap P) "MOST_BANS" (.int 12):=CZ (t:=288) (by kernel_rfl)
theorem yM:GF (heap P) "MOST_IN_MEETING" (.int 3):=CZ (t:=290) (by kernel_rfl)
theorem bl:∀ f∈nH,PySem.W.nsIn (heap P) mainGlobals f=some none:=by
 intro f hf;simp only [nH,List.mem_cons,List.not_mem_nil,or_false] at hf;rcases hf with rfl | rfl | rfl | rfl | rfl | rfl | rfl | rfl | rfl | rfl | rfl | rfl | rfl | rfl | rfl | rfl <;> kernel_rfl
theorem xf:xfB (heap P) cs hs ks=true:=by kernel_rfl
end E14
open PySem PySem.W PyProof.Rows
set_option maxRecDepth 100000 in
set_option maxHeartbeats 0 in
theorem PySem.Challenge.cw_pairtests_k14_suspects_holds : PySem.Challenge.rw_pairtests_k14_suspects.Holds := by
 w_on;o_law
 refine PySem.W.holds_open (q:=E14.view) (loose:=[]) (Xt:=fun s=>PySem.W.xlAt E14.view [] s && PySem.W.recOk (PySem.W.RowW.records (PySem.W.OpenRow.toRowW PySem.Challenge.rw_pairtests_k14_suspects.row)) s) (XP:=XL E14.view []) (Yf:=Hook.obs E14.hook) (Ya:=Hook.val E14.hook) (YP:=Hook.says E14.hook) (N:=4924) E14.left (Hook.of E14.hook) (Hook.keeps E14.hook) (fun s e=>xl_of s (Bool.and_eq_true_iff.mp e).1) XL.keeps (by rfl) (by rfl) (by rfl) (fun s e=>recFacts_of (Bool.and_eq_true_iff.mp e).2) (by rfl) (by first | assumption | decide +kernel) (by decide +kernel) ⟨rfl,rfl,rfl,rfl,rfl,by decide +kernel⟩ ?hw ?hc
 (case hw=>w_witness2)
 exact Mi.acI (l:=PySem.Challenge.rw_pairtests_k14_suspects) (T:=E14.T) (xtt:=E14.xtt) (tab:=E14.tab) (xt:=E14.aG) (n:=30) (fl:=39) (par:="_law_script") (N:=["_law_script","_law_book_here","_law_strength_here","_law_tests_here","_law_some","_law_results","_law_handed","_law_due","_law_groups","_law_one","_law_many","_law_found","_law_fault","_law_odd","_law_bad","_law_row","_law_k","_law_test","_law_way"]) (st:=E14.top 57) rfl rfl ⟨rfl,by decide,by decide⟩ rfl rfl E14.Ru (fun w h Y=>Y) (fun p=>Mi.acn (E14.kcl p)) (fun w s₀ mg mb h G Y=>Mi.tab_of E14.recs G) (fun w mg h KX G=>E14.pr KX G (E14.Nj w.params) (E14.Ly w.params) (E14.Hz w.params) (E14.Hx w.params) (E14.Hh w.params) (E14.QX w.params) (E14.Qz w.params) (E14.Xf w.params) (E14.JK w.params) (E14.Ml w.params) (E14.K8 w.params) (E14.RD w.params) (E14.Qc w.params) (E14.Fx w.params) (E14.Bl w.params) (E14.pC w.params) (E14.Iw w.params) (E14.Aj w.params) (E14.Fw w.params) (E14.Te w.params) (E14.Mz w.params) (E14.Jh w.params) (E14.vI w.params) (E14.Fl w.params) (E14.MP w.params) (E14.JD w.params) (E14.xR w.params) (E14.Qx w.params) (E14.Kr w.params) (E14.Ma w.params) (E14.Kv w.params) (E14.Ji w.params) (E14.G8 w.params) (E14.Hw w.params) (E14.Cj w.params) (E14.BZ w.params) (E14.G7 w.params) (E14.Cu w.params) (E14.Ke w.params) (E14.RP w.params) (E14.Hr w.params) (E14.EY w.params) (E14.Bu w.params) (E14.Ip w.params) (E14.Ju w.params) (E14.yM w.params) (E14.bl w.params) (E14.xf w.params)) (fun w=>E14.RP w.params) (fun _ _ _ _ _ _ _=>rfl) E14.W3
