import PyProof.Rows.All
import Wide.All
import OpenK.AllK
import Wide.FinOn
import Lean
import PyProof.EqAt
import PyProof.EqKinds
import PyProof.TupleCall
import PyProof.NeKinds
import PyProof.DictRoadsH
import KE.KIntText
import PyProof.StrLawsTight
import PyProof.CompFree
import PyProof.CompUse
import KE.KDictSum
import PyProof.Draws
import PyProof.EnumMake
import PyProof.EnumFor
import KE.KSortTup
import PyProof.TupleOfSeq
import KE.LcSums
import PyProof.ZipIter
import KE.KRevIter
import KE.KStateDown
import PyProof.ListRange
import KE.KMinKey
import KE.KRevSl
import PyProof.Conv_int_bool
import PyProof.AutoListH
import PyProof.Rows.StrItems
import KE.KLam
import PySem.Challenge.RW_pairtests_k08_whole_strengths
noncomputable section
set_option Elab.async false
set_option linter.all false
set_option bootstrap.genMatcherCode false
set_option compiler.extract_closed false
set_option maxRecDepth 100000
set_option maxHeartbeats 4000000
abbrev w4:=List (PySem.Addr × PySem.Obj)
abbrev w8:=PySem.Str->Option PySem.Value
abbrev zn:=PySem.Value->PySem.Shared->Prop
abbrev zt:=PySem.W.Frag
abbrev zv:=List (List Nat)
abbrev zw:=List PySem.Value
abbrev zz:=List Nat
abbrev z0:=List PySem.Str
abbrev ve:=List PySem.Expr
abbrev vi:=List PySem.Stmt
abbrev vj:=Array PySem.Value
abbrev vn:=Option PySem.Addr
abbrev vw:=Array (Option PySem.Value)
abbrev vx:=@PySem.wpAny_bind
abbrev vy:=@PySem.wpAny_pure
abbrev vz:=@List.mem_cons_of_mem
abbrev vE:=@List.mem_cons_self
abbrev vF:=@List.mem_append_left
abbrev vS:=@List.mem_append_right
abbrev vT:=@PySem.Heap.get?_push_of_some
abbrev v3:=@PySem.Heap.get?_push_size
abbrev v4:=@PySem.Heap.lt_size
abbrev v6:=@Nat.le_refl
abbrev ya:=@Nat.ne_of_lt
abbrev yb:=@Nat.ne_of_gt
abbrev ye:=@Nat.le_trans
abbrev yf:=@Nat.zero_le
abbrev yi:=@Nat.lt_of_lt_of_le
abbrev yk:=@decide_eq_true
abbrev yl:=@decide_eq_false
abbrev ym:=@PySem.Heap.get?_update_other
abbrev yn:=@PySem.Heap.get?_update_self
abbrev yo:=@List.length_filter_le
abbrev yy:=@Nat.lt_irrefl
abbrev z9:=@List.mem_cons
abbrev vV:=@List.getElem?_eq_some_iff
abbrev v8:=@List.mem_map
abbrev yc:=@List.mem_append
abbrev yv:=@List.mem_singleton
abbrev yz:=@Option.isSome_iff_exists
abbrev yA:=@List.all_eq_true
abbrev yB:=@List.mem_flatMap
abbrev yT:=@List.mem_filter
abbrev yY:=@List.mem_range
abbrev y0:=@PySem.wpAny_call_entry
abbrev y4:=@PySem.wpAny_callSpecial?_slot
abbrev y6:=@PyProof.Rows.callWith_type1
abbrev y8:=@PySem.wpAny_truthy_bool
abbrev y9:=@PySem.wpAny_field
abbrev ja:=@Option.some.inj
abbrev jb:=@False.elim
abbrev je:=@PySem.Heap.SameBut.update
abbrev jn:=@PySem.mem_of_lookup
abbrev js:=@Bool.false_ne_true
abbrev jv:=@PySem.wpAny_newObj_type
abbrev jw:=@PySem.wpAny_dictEntries
abbrev jM:=@Nat.lt_succ_self
namespace L2
open PySem PySem.Spec PyProof.Rows
noncomputable def eG (s:Stmt):Arguments:=match s with
 | .FunctionDef _ a _ _ _ _ _ _ _ _=>a
 | _=>{ posonlyargs:=[],args:=[],vararg:=none,kwonlyargs:=[],kw_defaults:=[],kwarg:=none,defaults:=[] }
noncomputable def dB (s:Stmt):vi:=match s with
 | .FunctionDef _ _ b _ _ _ _ _ _ _=>b
 | _=>[]
noncomputable def bf (s:Stmt):Scope:=match s with
 | .FunctionDef _ _ _ _ _ _ sc _ _ _=>sc
 | _=>{ kind:=.function,names:=[],isGenerator:=false,isCoroutine:=false }
end L2
namespace Mi
open PySem L2
noncomputable abbrev gS (x:String) (k:Nat):Value:=.str (Str.ofString x) k
noncomputable abbrev gE (P:Params) (x:String) (k:Nat) (v:Value):DictEntry:=⟨PyData.keyHash P (Str.ofString x),.str (Str.ofString x) k,v⟩
abbrev gF (st:Stmt) (x:String) (kV doc pm:Value) (an:vn) (cdv ct:Value) (sl:vw):Obj:=⟨.type "function",none,.func (PySem.W.fnOf x x (eG st) (dB st) (bf st) .none kV doc pm an cdv ct),sl⟩
end Mi
namespace E08
open PySem L2 Mi
noncomputable def top (i:Nat):Stmt:=PySem.Challenge.pw_pairtests_k08_whole_strengths.main.body.getD i (.Pass ⟨0,0,0,0⟩)
def view:Program:={ PySem.Challenge.pw_pairtests_k08_whole_strengths with main:={ PySem.Challenge.pw_pairtests_k08_whole_strengths.main with body:=[top 1,top 2,top 3,top 4,top 6,top 7,top 8,top 9,top 10,top 11,top 12,top 13,top 14,top 15,top 16,top 17,top 18,top 19,top 20,top 21,top 22,top 23,top 24,top 25,top 27,top 28,top 29,top 30,top 31,top 32,top 33,top 35,top 36,top 37,top 38,top 39,top 40,top 41,top 42,top 43,top 44,top 45,top 46,top 48,top 50,top 51,top 52,top 53,top 54,top 55] } }
noncomputable def hnm:Stmt->Str
 | .FunctionDef n ..=>n
 | _=>""
abbrev kC (i t a k:Nat):Obj:=⟨.type "code",none,.fields #[.str (hnm (top i)) t,.str (hnm (top i)) (t+1),gS "/claim/cut.py" (t+2),.int ((top i).pos.line:Nat) 0,.int ((L2.eG (top i)).args.length:Nat) 0,.int 0 0,.int 0 0,.int 3 0,.ref a,.bool true,.int 181 0,.ref (a+1),.none,.ref (a+2),.ref (a+3),.ref (a+4),.int (t+3+k:Nat) 0,.int ((top i).pos.line:Nat) 0,gS "/claim/cut.py" (t+4+k)],#[]⟩
abbrev kD (i t a:Nat):Obj:=⟨.type "code",none,.fields #[.str (hnm (top i)) t,.str (hnm (top i)) (t+1),gS "/claim/cut.py" (t+2),.int ((top i).pos.line:Nat) 0,.int ((L2.eG (top i)).args.length:Nat) 0,.int 0 0,.int 0 0,.int 3 0,.ref a,.bool true,.int 181 0,.ref (a+1),.none,.none,.none,.ref (a+2),.int (t+3:Nat) 0,.int ((top i).pos.line:Nat) 0,gS "/claim/cut.py" (t+4)],#[]⟩
abbrev fqq (i:Nat) (n:String) (a:Nat):Obj:=gF (top i) n .none .none (gS "pairtests.books" 264) none (.ref a) .none #[]
def Ci:Obj:=fqq 11 "is_whole" 76
def Cr:Obj:=fqq 12 "is_tuple" 83
def v9:Obj:=fqq 13 "are_levels" 90
def vO:Obj:=fqq 14 "is_setting" 97
def vK:Obj:=fqq 15 "is_meeting" 104
def Fq:Obj:=fqq 16 "is_book" 109
def Ew:Obj:=fqq 17 "checked" 116
def Lh:Obj:=fqq 18 "meets" 121
def yI:Obj:=fqq 19 "meets_any" 126
def BL:Obj:=fqq 20 "all_rows" 131
def yE:Obj:=fqq 21 "all_tests" 136
def Il:Obj:=fqq 22 "is_row" 141
def Fp:Obj:=fqq 23 "is_test" 148
def vY:Obj:=fqq 24 "check_list" 155
def uL:Obj:=fqq 25 "check_tests" 162
abbrev fqz (i:Nat) (n:String) (a:Nat):Obj:=gF (top i) n .none .none (gS "pairtests.meetings" 391) none (.ref a) .none #[]
def rD:Obj:=fqz 27 "most_strength" 169
def iV:Obj:=fqz 28 "check_book_and_strength" 176
def yJ:Obj:=fqz 29 "is_behind" 183
def pC:Obj:=fqz 30 "meetings_among" 188
def uM:Obj:=fqz 31 "meetings_of" 195
def HF:Obj:=fqz 32 "met_by" 202
def Bc:Obj:=fqz 33 "possible" 209
abbrev fqx (i:Nat) (n:String) (a:Nat):Obj:=gF (top i) n .none .none (gS "pairtests.covers" 449) none (.ref a) .none #[]
def yK:Obj:=fqx 35 "check_all" 216
def DY:Obj:=fqx 36 "missing" 221
def BP:Obj:=fqx 37 "is_cover" 228
def yO:Obj:=fqx 38 "times_met" 235
def su:Obj:=fqx 39 "meet_without" 240
def Bk:Obj:=fqx 40 "needless" 245
def vX:Obj:=fqx 41 "count_less" 252
def Dw:Obj:=fqx 42 "trimmed" 259
def kZ:Obj:=fqx 43 "places_by_meeting" 266
def Bp:Obj:=fqx 44 "take_out" 273
def nu:Obj:=fqx 45 "in_order_behind" 278
def Cj:Obj:=fqx 46 "in_order" 285
def K8:Obj:=gF (top 48) "built" .none .none (gS "pairtests.building" 559) none (.ref 292) .none #[]
abbrev fqv (i:Nat) (n:String) (a:Nat):Obj:=gF (top i) n .none .none (gS "law_pairtests_k08_whole_strengths" 569) none (.ref a) .none #[]
def yx:Obj:=fqv 50 "_law_cell" 299
def Bw:Obj:=fqv 51 "_law_mix" 306
def yG:Obj:=fqv 52 "_law_book" 311
def yC:Obj:=fqv 53 "_law_rows" 316
def rG:Obj:=fqv 54 "_law_meetings" 321
def o_law:Obj:=fqv 55 "law" 326
def heap (P:Params):zt:=[(3,⟨.type "dict",none,.dict #[gE P "__name__" 165 (gS "law_pairtests_k08_whole_strengths" 569),gE P "__doc__" 166 .none,gE P "__package__" 167 .none,gE P "__loader__" 168 (.builtin "__main__.__loader__#opaque"),gE P "__spec__" 169 .none,gE P "__annotations__" 170 (.ref 6),gE P "__builtins__" 171 (.ref 4),gE P "__file__" 173 (gS "/claim/cut.py" 172),gE P "__cached__" 174 .none,gE P "TestError" 206 (.ref 24),gE P "BadBook" 222 (.ref 37),gE P "BadStrength" 238 (.ref 49),gE P "BadTests" 263 (.ref 68),gE P "MOST_THINGS" 267 (.int 6 266),gE P "MOST_SETTINGS" 269 (.int 4 268),gE P "MOST_ROWS" 271 (.int 400 270),gE P "MOST_BANS" 273 (.int 12 272),gE P "MOST_IN_MEETING" 275 (.int 3 274),gE P "is_whole" 284 (.ref 77),gE P "is_tuple" 293 (.ref 84),gE P "are_levels" 302 (.ref 91),gE P "is_setting" 310 (.ref 98),gE P "is_meeting" 320 (.ref 105),gE P "is_book" 326 (.ref 110),gE P "checked" 333 (.ref 117),gE P "meets" 339 (.ref 122),gE P "meets_any" 345 (.ref 127),gE P "all_rows" 351 (.ref 132),gE P "all_tests" 357 (.ref 137),gE P "is_row" 363 (.ref 142),gE P "is_test" 371 (.ref 149),gE P "check_list" 381 (.ref 156),gE P "check_tests" 390 (.ref 163),gE P "most_strength" 399 (.ref 170),gE P "check_book_and_strength" 407 (.ref 177),gE P "is_behind" 415 (.ref 184),gE P "meetings_among" 421 (.ref 189),gE P "meetings_of" 429 (.ref 196),gE P "met_by" 440 (.ref 203),gE P "possible" 448 (.ref 210),gE P "check_all" 459 (.ref 217),gE P "missing" 465 (.ref 222),gE P "is_cover" 474 (.ref 229),gE P "times_met" 485 (.ref 236),gE P "meet_without" 491 (.ref 241),gE P "needless" 497 (.ref 246),gE P "count_less" 506 (.ref 253),gE P "trimmed" 519 (.ref 260),gE P "places_by_meeting" 531 (.ref 267),gE P "take_out" 543 (.ref 274),gE P "in_order_behind" 549 (.ref 279),gE P "in_order" 558 (.ref 286),gE P "built" 568 (.ref 293),gE P "_law_cell" 578 (.ref 300),gE P "_law_mix" 587 (.ref 307),gE P "_law_book" 593 (.ref 312),gE P "_law_rows" 599 (.ref 317),gE P "_law_meetings" 605 (.ref 322),gE P "law" 611 (.ref 327)] 59,#[]⟩),(23,⟨.type "dict",none,.dict #[gE P "__module__" 196 (gS "pairtests.errors" 187),gE P "__firstlineno__" 200 (.int 2 199),gE P "__static_attributes__" 201 (.ref 22),gE P "__weakref__" 203 (.ref 25),gE P "__doc__" 204 .none] 3,#[]⟩),(24,⟨.type "type",none,.cls { name:=(Str.ofString "TestError"),bases:=[.type "ValueError"],mro:=[.ref 24,.type "ValueError",.type "Exception",.type "BaseException",.type "object"],ns:=23,qualname:=(Str.ofString "TestError"),hasDict:=true,slotNames:=[],subclasses:=[.ref 37,.ref 49,.ref 68],abstract:=false,collection:=none,hasDel:=false },#[some (.ref 15),none,some (gS "TestError" 189),some (gS "TestError" 197),some (.builtin "ValueError.__new__"),some (.bool true)]⟩),(76,kC 11 276 71 3),(77,Ci),(83,kC 12 285 78 3),(84,Cr),(90,kC 13 294 85 3),(91,v9),(97,kC 14 303 92 2),(98,vO),(104,kC 15 311 99 4),(105,vK),(109,kD 16 321 106),(110,Fq),(116,kC 17 327 111 1),(117,Ew),(121,kD 18 334 118),(122,Lh),(126,kD 19 340 123),(127,yI),(131,kD 20 346 128),(132,BL),(136,kD 21 352 133),(137,yE),(141,kD 22 358 138),(142,Il),(148,kC 23 364 143 2),(149,Fp),(155,kC 24 372 150 4),(156,vY),(162,kC 25 382 157 3),(163,uL),(169,kC 27 393 164 1),(170,rD),(176,kC 28 400 171 2),(177,iV),(183,kC 29 408 178 2),(184,yJ),(188,kD 30 416 185),(189,pC),(195,kC 31 422 190 2),(196,uM),(202,kC 32 430 197 5),(203,HF),(209,kC 33 441 204 2),(210,Bc),(216,kC 35 451 211 3),(217,yK),(221,kD 36 460 218),(222,DY),(228,kC 37 466 223 3),(229,BP),(235,kC 38 475 230 5),(236,yO),(240,kD 39 486 237),(241,su),(245,kD 40 492 242),(246,Bk),(252,kC 41 498 247 3),(253,vX),(259,kC 42 507 254 7),(260,Dw),(266,kC 43 520 261 6),(267,kZ),(273,kC 44 532 268 6),(274,Bp),(278,kD 45 544 275),(279,nu),(285,kC 46 550 280 3),(286,Cj),(292,kC 48 561 287 2),(293,K8),(299,kC 50 571 294 2),(300,yx),(306,kC 51 579 301 3),(307,Bw),(311,kD 52 588 308),(312,yG),(316,kD 53 594 313),(317,yC),(321,kD 54 600 318),(322,rG),(326,kD 55 606 323),(327,o_law)]
noncomputable def acz:List Addr:=[3,23,24,76,77,83,84,90,91,97,98,104,105,109,110,116,117,121,122,126,127,131,132,136,137,141,142,148,149,155,156,162,163,169,170,176,177,183,184,188,189,195,196,202,203,209,210,216,217,221,222,228,229,235,236,240,241,245,246,252,253,259,260,266,267,273,274,278,279,285,286,292,293,299,300,306,307,311,312,316,317,321,322,326,327]
def hook:PySem.W.Hook:=PySem.W.kHook heap acz (fun _=>rfl)
theorem left:PySem.W.LeftO PySem.Challenge.pw_pairtests_k08_whole_strengths view [] (fun s=>PySem.W.xlAt E08.view [] s && PySem.W.recOk (PySem.W.RowW.records (PySem.W.OpenRow.toRowW PySem.Challenge.rw_pairtests_k08_whole_strengths.row)) s) (PySem.W.Hook.obs hook) (PySem.W.Hook.val hook) 4438:=fun w=>by kernel_rfl
end E08
set_option genInjectivity false
set_option genSizeOfSpec false
namespace L2
open PySem PySem.Spec PyProof.Rows
noncomputable abbrev Key:=Sum Int Str
noncomputable def WD:Key->Value->Bool
 | .inl k,v=>Value.isInt k v
 | .inr x,v=>Value.isStrOf x v
noncomputable def acp (w:World):Key->Int
 | .inl k=>hashInt k
 | .inr x=>hashStr w x
theorem dR:∀ {k:Key}{v:Value},WD k v=true->(∃ i t,k=Sum.inl i/\v=Value.int i t)\/(∃ x t,k=Sum.inr x/\v=Value.str x t)
 | .inl i,v,h=>by
  obtain ⟨t,e⟩:=Value.isInt_shape (k:=i) (v:=v) h;exact .inl ⟨i,t,rfl,e⟩
 | .inr x,v,h=>by
  obtain ⟨t,e⟩:=Value.isStrOf_shape (x:=x) (v:=v) h;exact .inr ⟨x,t,rfl,e⟩
def ZC (a b:Int):decide ((Sum.inl a:Key)=Sum.inl b)=(a == b):=by
 by_cases e:a=b
 .subst e;simp
 .have h:¬ (Sum.inl a:Key)=Sum.inl b:=fun q=>e (Sum.inl.inj q)
  rw [decide_eq_false h];exact (beq_eq_false_iff_ne.mpr e).symm
def ZL (a b:Str):decide ((Sum.inr a:Key)=Sum.inr b)=decide (a=b):=by
 by_cases e:a=b
 .subst e;simp
 .have h:¬ (Sum.inr a:Key)=Sum.inr b:=fun q=>e (Sum.inr.inj q)
  rw [decide_eq_false h,decide_eq_false e]
theorem ZJ (a:Int) (b:Str):decide ((Sum.inl a:Key)=Sum.inr b)=false:=yl (fun q=>nomatch q)
theorem aai (a:Str) (b:Int):decide ((Sum.inr a:Key)=Sum.inl b)=false:=yl (fun q=>nomatch q)
def CG (prog:Program) (w:World):PySem.KeyKind prog w Key where
 is:=WD
 hash:=acp w
 inj:=fun v a b ha hb=>by
  rcases dR ha with ⟨i,t,rfl,rfl⟩ | ⟨x,t,rfl,rfl⟩
  .rcases dR hb with ⟨j,u,rfl,e⟩ | ⟨y,u,rfl,e⟩
   .injection e with e1 _;rw [e1]
   .exact nomatch e
  .rcases dR hb with ⟨j,u,rfl,e⟩ | ⟨y,u,rfl,e⟩
   .exact nomatch e
   .injection e with e1 _;rw [e1]
 byValue:=fun k v h=>by
  rcases dR h with ⟨i,t,rfl,rfl⟩ | ⟨x,t,rfl,rfl⟩ <;> rfl
 pyHash:=fun hv h=>by
  rcases dR hv with ⟨i,t,rfl,rfl⟩ | ⟨x,t,rfl,rfl⟩
  .exact wpAny_pyHash_int h
  .exact wpAny_pyHash_str h
 eqBool:=fun hu hv h=>by
  rcases dR hu with ⟨i,t,rfl,rfl⟩ | ⟨x,t,rfl,rfl⟩
  .rcases dR hv with ⟨j,u,rfl,rfl⟩ | ⟨y,u,rfl,rfl⟩
   .rw [ZC] at h;exact wpAny_eqBool_int h
   .rw [ZJ] at h;exact SeqAt.EqAt.int_str i t y u _ _ _ _ h
  .rcases dR hv with ⟨j,u,rfl,rfl⟩ | ⟨y,u,rfl,rfl⟩
   .rw [aai] at h;exact SeqAt.EqAt.str_int x t j u _ _ _ _ h
   .rw [ZL] at h;exact wpAny_eqBool_str h
 «strs»:=fun k x t v h=>by
  rcases dR h with ⟨i,u,rfl,e⟩ | ⟨y,u,rfl,e⟩
  .exact nomatch e
  .injection e with e1 _;subst e1;cases v <;> rfl
inductive V where
 | non | bl (b:Bool) | int (i:Int) | str (x:Str) | byt (b:Array UInt8) | flt (b:UInt64) | ref (a:Addr) | ty (n:String)
 deriving DecidableEq
def RelV:V->Value->Prop
 | .non,u=>u=Value.none
 | .bl b,u=>u=Value.bool b
 | .int i,u=>∃ t,u=Value.int i t
 | .str x,u=>∃ t,u=Value.str x t
 | .byt b,u=>∃ t,u=Value.bytes b t
 | .flt b,u=>∃ t,u=Value.float b t
 | .ref a,u=>u=Value.ref a
 | .ty n,u=>u=Value.type n
abbrev Vals:List V->zw->Prop:=Paired RelV
variable {xs:List V}{us:zw}
theorem Vals.length (r:Vals xs us):xs.length=us.length:=Paired.length r
theorem Vals.get:∀ {xs:List V}{us:zw}{i:Nat}{x:V},Vals xs us->xs[i]?=some x->∃ u,us[i]?=some u/\RelV x u
 | _,_,_,_,.nil,e=>by simp at e
 | _,_,0,_,.cons r _,e=>by simp at e;subst e;exact ⟨_,rfl,r⟩
 | _,_,i+1,x,.cons _ t,e=>by
  obtain ⟨u,h1,h2⟩:=Vals.get (i:=i) (x:=x) t (by simpa using e);exact ⟨u,by simpa using h1,h2⟩
theorem Vals.set {x:V}{u:Value} (r:RelV x u):∀ {xs:List V}{us:zw} (i:Nat),Vals xs us->Vals (xs.set i x) (us.set i u)
 | _,_,_,.nil=>.nil
 | _,_,0,.cons _ t=>.cons r t
 | _,_,i+1,.cons q t=>.cons q (Vals.set r i t)
theorem Vals.append:∀ {xs ys:List V}{us ws:zw},Vals xs us->Vals ys ws->Vals (xs++ys) (us++ws)
 | _,_,_,_,.nil,s=>s
 | _,_,_,_,.cons r t,s=>.cons r (Vals.append t s)
theorem Vals.take:∀ {xs:List V}{us:zw} (n:Nat),Vals xs us->Vals (xs.take n) (us.take n)
 | _,_,0,_=>.nil
 | _,_,_+1,.nil=>.nil
 | _,_,n+1,.cons r t=>.cons r (Vals.take n t)
theorem Vals.drop:∀ {xs:List V}{us:zw} (n:Nat),Vals xs us->Vals (xs.drop n) (us.drop n)
 | _,_,0,r=>r
 | _,_,_+1,.nil=>.nil
 | _,_,n+1,.cons _ t=>Vals.drop n t
def Vb:Option V->Option Value->Prop
 | some v,some u=>RelV v u
 | none,none=>True
 | _,_=>False
def KV {κ:Type}:List (κ × V)->List (κ × Value)->Prop:=Paired fun (p:κ × V) (q:κ × Value)=>p.1=q.1/\RelV p.2 q.2
noncomputable def kV:Key->V
 | .inl i=>.int i
 | .inr x=>.str x
inductive HO where
 /-- a list -/
 | lst (xs:List V)
 /-- a tuple (never changes) -/
 | tup (xs:List V)
 /-- a dict whose keys are ints and texts;one whose keys are tuples of ints and texts (the empty one is both) -/
 | dK (kvs:List (Key × V)) | dT (kvs:List (List Key × V))
 /-- a set of ints: its members,its size -/
 | set (S:Int->Bool) (n:Nat)
 /-- an instance of the class at C,its dict at dx,its attributes -/
 | ins (C dx:Addr) (fs:List (Str × V))
 /-- the dict of the instance at x -/
 | own (x:Addr)
 /-- the dict of an exception -/
 | xd (fs:List (Str × V))
 /-- a bound method,f of x -/
 | met (f x:Addr)
 /-- a range object lo,lo+1,.. below hi -/
 | rng (lo hi:Int)
 /-- a thing that is known to the object (the script;a dict while a loop walks it): read,never written while it is so -/
 | frz (o:Obj) (u:HO)
 /-- a code object's table -/
 | tbl (ps:vj)
 /-- any other thing,by what is true of its one object (a def of one's own: SetO a S n:=HO.ext fun h=>..) -/
 | ext (φ:Heap->Prop)
abbrev Hp:=Addr->Option HO
noncomputable def upd (H:Hp) (a:Addr) (o:HO):Hp:=fun b=>if b=a then some o else H b
variable {H:Hp}{a:Addr}{o:HO}
def aB :upd H a o a=some o:=by unfold upd;rw [if_pos rfl]
variable {b:Addr}
def ao (h:b≠a):upd H a o b=H b:=by unfold upd;rw [if_neg h]
theorem CQ {u:HO}:upd (upd H a o) a u=upd H a u:=by
 funext b;unfold upd;split <;> rfl
def Oh {u:HO} (h:H a=some o) (h':H b=some u) (d:o≠u):a≠b:=by
 intro e;subst e;rw [h] at h';exact d (ja h')
def ak (h:H a=some o) (h':H b=none):a≠b:=by
 intro e;subst e;rw [h] at h';cases h'
def NZ (o:Obj):Prop:=∀ vs,o.data=.fields vs->o.cls≠.none
noncomputable def eF:Str:=Str.ofString "check_tests.<locals>.<lambda>"
def lamO (o:Obj):Prop:=∃ vs t,o.data=.fields vs/\vs[1]?=some (.str eF t)
section
variable (P:Program) (w:World)
def cA (H:Hp) (h:Heap) (a:Addr):HO->Prop
 | .lst xs=>xs.length <= sizeLine /\ ∃ (its:zw) (n:Nat),Vals xs its /\ h.get? a=some { cls:=.type "list",data:=.seq its.toArray n }
 | .tup xs=>xs.length<=sizeLine/\∃ its:zw,Vals xs its/\IsTup h a its.toArray
 | .dK kvs=>kvs.length<=sizeLine/\(a == sysModules)=false/\∃ vs,KV kvs vs/\h.DictOf (CG P w) a vs
 | .dT kvs=>kvs.length<=sizeLine/\(a == sysModules)=false/\∃ xs:List (List Key × Addr × Value),
   Paired (fun (p:List Key × V) (q:List Key × Addr × Value)=>p.1=q.1/\H q.2.1=some (.tup (p.1.map kV))/\RelV p.2 q.2.2) kvs xs /\
   ∃ o es ep,h.get? a=some o/\o.ExactDict/\o.data=.dict es ep/\es.toList=xs.map (entryOfKey (tupleKind (CG P w)))/\(xs.map (·.1)).Nodup
 | .set S n=>h.SetOf (intKind P w) a S n
 | .ins C dx fs=>H dx=some (.own a)/\fs.length<=1000/\dx≠a/\h.get? a=some (PySem.W.instObj C dx) /\
   ∃ mA,h.Ns1 dx mA/\(∀ f,Vb (fs.lookup f) (mA f))/\PySem.Within mA (fs.map (·.1))
 | .own _=>∃ o,h.get? a=some o
 | .xd fs=>∃ mA,h.Ns1 a mA/\∀ f,Vb (fs.lookup f) (mA f)
 | .rng lo hi=>∃ t u v,h.get? a=some { cls:=.type "range",data:=.fields #[.int lo t,.int hi u,.int 1 v] }
 | .frz o u=>h.get? a=some o/\cA H h a u
 | .tbl _=>∃ ps:vj,h.get? a=some { cls:=.none,data:=.fields ps }/\TriplesOk ps.toList/\∀ pos v,codeAmong pos ps.toList=some v->∃ c o,v=.ref c/\H c=some (.frz o (.ext fun _=>True))/\lamO o
 | .met f x=>h.get? a=some (PySem.W.methodObj (.ref f) (.ref x))
 | .ext φ=>φ h/\(∃ o,h.get? a=some o)/\∀ h1 h2:Heap,φ h1->(∀ o,h1.get? a=some o->h2.get? a=some o)->φ h2
def HOk (H:Hp) (h:Heap):Prop:=∀ a o,H a=some o->cA P w H h a o
end
section
variable {P:Program}{w:World}{H H':Hp}{h h':Heap}{a:Addr}{o:HO}
theorem cA.lt (x:cA P w H h a o):a < h.objs.size:=by
 cases o with
 | lst xs=>obtain ⟨_,_,_,_,e⟩:=x;exact v4 e
 | tup xs=>obtain ⟨_,_,_,p⟩:=x;exact p.lt
 | dK kvs=>obtain ⟨_,_,_,_,o,_,_,e,_⟩:=x;exact v4 e
 | dT kvs=>obtain ⟨_,_,_,_,o,_,_,e,_⟩:=x;exact v4 e
 | set S n=>obtain ⟨o,_,_,_,e,_⟩:=x;exact v4 e
 | ins C dx fs=>obtain ⟨_,_,_,e,_⟩:=x;exact v4 e
 | own y=>obtain ⟨_,e⟩:=x;exact v4 e
 | xd fs=>obtain ⟨_,⟨_,_,_,e,_⟩,_⟩:=x;exact v4 e
 | rng lo hi=>obtain ⟨_,_,_,e⟩:=x;exact v4 e
 | frz ob u=>obtain ⟨e,_⟩:=x;exact v4 e
 | tbl ps=>obtain ⟨_,e,_⟩:=x;exact v4 e
 | met f y=>exact v4 (show h.get? a=some _ from x)
 | ext φ=>obtain ⟨_,⟨_,e⟩,_⟩:=x;exact v4 e
theorem Paired.mapP {α β:Type}{F G:α->β->Prop}:∀ {l₁:List α}{l₂:List β},Paired F l₁ l₂->(∀ a b,F a b->G a b)->Paired G l₁ l₂
 | _,_,.nil,_=>.nil
 | _,_,.cons r t,f=>.cons (f _ _ r) (Paired.mapP t f)
theorem cA.stay (x:cA P w H h a o) (k:∀ b u,(b=a\/H b=some (.own a))->h.get? b=some u->h'.get? b=some u)
  (ho:∀ b,H b=some (.own a)->H' b=some (.own a)) (ht:∀ b xs,H b=some (.tup xs)->H' b=some (.tup xs)) (hf:∀ b o,H b=some (.frz o (.ext fun _=>True))->lamO o->H' b=some (.frz o (.ext fun _=>True)):=by intro _ _ q _;exact q):cA P w H' h' a o:=by
 induction o with
 | lst xs=>obtain ⟨z,its,n,r,e⟩:=x;exact ⟨z,its,n,r,k _ _ (.inl rfl) e⟩
 | tup xs=>obtain ⟨z,its,r,ob,e,c⟩:=x;exact ⟨z,its,r,ob,k _ _ (.inl rfl) e,c⟩
 | dK kvs=>obtain ⟨z,y,vs,r,ob,es,ep,e,c⟩:=x;exact ⟨z,y,vs,r,ob,es,ep,k _ _ (.inl rfl) e,c⟩
 | dT kvs =>
  obtain ⟨z,y,xs,r,ob,es,ep,e,c⟩:=x;exact ⟨z,y,xs,Paired.mapP r fun p q z=>⟨z.1,ht _ _ z.2.1,z.2.2⟩,ob,es,ep,k _ _ (.inl rfl) e,c⟩
 | set S n=>obtain ⟨ob,es,ep,t,e,c⟩:=x;exact ⟨ob,es,ep,t,k _ _ (.inl rfl) e,c⟩
 | ins C dx fs =>
  obtain ⟨d,z,ne,e,mA,⟨od,es,ep,e2,c⟩,r⟩:=x;exact ⟨ho _ d,z,ne,k _ _ (.inl rfl) e,mA,⟨od,es,ep,k _ _ (.inr d) e2,c⟩,r⟩
 | own y=>obtain ⟨ob,e⟩:=x;exact ⟨ob,k _ _ (.inl rfl) e⟩
 | xd fs=>obtain ⟨mA,⟨od,es,ep,e,c⟩,r⟩:=x;exact ⟨mA,⟨od,es,ep,k _ _ (.inl rfl) e,c⟩,r⟩
 | rng lo hi=>obtain ⟨t,u,v,e⟩:=x;exact ⟨t,u,v,k _ _ (.inl rfl) e⟩
 | frz ob u ih=>obtain ⟨e,q⟩:=x;exact ⟨k _ _ (.inl rfl) e,ih q⟩
 | tbl qs =>
  obtain ⟨ps,e,tr,g⟩:=x;refine ⟨ps,k a _ (.inl rfl) e,tr,fun pos v hc=>?_⟩;obtain ⟨c,o,e1,g1,g2⟩:=g pos v hc;exact ⟨c,o,e1,hf c o g1 g2,g2⟩
 | met f y =>
  have e:h.get? a=some (PySem.W.methodObj (.ref f) (.ref y)):=x;show h'.get? a=some (PySem.W.methodObj (.ref f) (.ref y))
  exact k a _ (.inl rfl) e
 | ext φ=>obtain ⟨p,⟨o,e⟩,st⟩:=x;exact ⟨st _ _ p fun o q=>k _ _ (.inl rfl) q,⟨o,k _ _ (.inl rfl) e⟩,st⟩
theorem HOk.lt (x:HOk P w H h) (e:H a=some o):a < h.objs.size:=(x a o e).lt
theorem HOk.fresh (x:HOk P w H h) (e:h.objs.size<=a):H a=none:=by
 cases q:H a with
 | none=>rfl
 | some u=>exact absurd (yi (x.lt q) e) (yy _)
theorem HOk.kept (x:HOk P w H h) (k:∀ b u,h.get? b=some u->h'.get? b=some u):HOk P w H h':=fun a o e =>
 (x a o e).stay (fun b u _ q=>k b u q) (fun _ q=>q) fun _ _ q=>q
theorem HOk.laid (x:HOk P w H h) (k:∀ b u,h.get? b=some u->h'.get? b=some u) (hp:h.objs.size<=a) (new:cA P w (upd H a o) h' a o):HOk P w (upd H a o) h':=fun b u e=>by
 have hn:=x.fresh hp;by_cases hb:b=a
 .subst hb;rw [aB] at e;cases e;exact new
 .rw [ao hb] at e;exact (x b u e).stay (fun c v _ q=>k c v q) (fun c q=>by rw [ao (ak q hn)];exact q) (fun c xs q=>by rw [ao (ak q hn)];exact q) (fun c ob q _=>by rw [ao (ak q hn)];exact q)
end
def Rd (H:Hp) (a:Addr) (u:HO):Prop:=H a=some u\/∃ o,H a=some (.frz o u)
variable {P:Program}{w:World}{h:Heap}
theorem Rd.ok {u:HO} (r:Rd H a u) (x:HOk P w H h):cA P w H h a u:=by
 rcases r with r | ⟨o,r⟩
 .exact x a u r
 .obtain ⟨_,q⟩:=x a _ r;exact q
def Mut:Option HO->Prop
 | some (.lst _)=>True
 | some (.dK _)=>True
 | some (.dT _)=>True
 | some (.set _ _)=>True
 | some (.ins _ _ _)=>True
 | some (.ext _)=>True
 | _=>False
section
variable {P:Program}{w:World}{H:Hp}{h h':Heap}{x e:Addr}{o':HO}
theorem HOk.write (ok:HOk P w H h) (mu:Mut (H x)) (he:e=x\/H e=some (.own x)) (k:∀ b u,b≠e->h.get? b=some u->h'.get? b=some u) (heo:∃ u,h'.get? e=some u)
  (new:cA P w (upd H x o') h' x o'):HOk P w (upd H x o') h':=fun b u q=>by
 have nown:∀ c y,H c=some (.own y)->c≠x:=fun c y r z=>by subst z;rw [r] at mu;exact mu
 have ntup:∀ c xs,H c=some (.tup xs)->c≠x:=fun c xs r z=>by subst z;rw [r] at mu;exact mu
 by_cases hb:b=x
 .subst hb;rw [aB] at q;cases q;exact new
 .rw [ao hb] at q;by_cases hbe:b=e
  .have q':H b=some (.own x):=by
    rcases he with z | z
    .exact absurd (hbe.trans z) hb
    .rw [hbe];exact z
   rw [q] at q';cases q';obtain ⟨v,hv⟩:=heo;exact ⟨v,by rw [hbe];exact hv⟩
  .refine (ok b u q).stay (fun c v hc r=>k c v ?_ r) (fun c r=>by rw [ao (nown c b r)];exact r) (fun c xs r=>by rw [ao (ntup c xs r)];exact r) (fun c ob r _=>by rw [ao (fun z=>by subst z;rw [r] at mu;exact mu)];exact r);rcases hc with rfl | hc
   .exact hbe
   .rintro rfl;rcases he with z | z
    .exact nown c b hc z
    .rw [hc] at z;cases z;exact hb rfl
end
structure Un (fs ex:List Addr) (H H':Hp) (h h':Heap):Prop where
 keep:∀ b o,h.get? b=some o->H b=none->b ∉ fs->b ∉ ex->h'.get? b=some o
 slot:∀ b o,h.get? b=some o->H b=none->b∈fs->b ∉ ex->∃ sl,h'.get? b=some { o with slots:=sl }
 free:∀ b o,h.get? b=some o->H b=none->b ∉ ex->H' b=none
 there:∀ b o,h.get? b=some o->b ∉ ex->∃ o',h'.get? b=some o'
 tups:∀ b xs,H b=some (.tup xs)->H' b=some (.tup xs)
 frzs:∀ b o u,H b=some (.frz o u)->H' b=some (.frz o u)
 tbls:∀ b ps,H b=some (.tbl ps)->∃ more,H' b=some (.tbl (ps++more))
section
variable {fs fs' ex ex':List Addr}{H H1 H2:Hp}{h h1 h2 h':Heap}{a x e:Addr}{o:HO}
theorem Un.any (u:Un fs ex H H1 h h1) {ob:Obj} (q:h.get? b=some ob) (n:H b=none) (hx:b ∉ ex):∃ sl,h1.get? b=some { ob with slots:=sl }:=by
 by_cases hb:b∈fs
 .exact u.slot b ob q n hb hx
 .exact ⟨ob.slots,u.keep b ob q n hb hx⟩
theorem Un.kept (k:∀ b u,h.get? b=some u->h'.get? b=some u):Un fs ex H H h h' :=
 ⟨fun b ob q _ _ _=>k b ob q,fun b ob q _ _ _=>⟨ob.slots,k b ob q⟩,fun _ _ _ n _=>n,fun b ob q _=>⟨ob,k b ob q⟩,fun _ _ q=>q,fun _ _ _ q=>q,fun _ ps q=>⟨#[],by rw [q];simp⟩⟩
theorem Un.refl:Un fs ex H H h h:=Un.kept fun _ _ q=>q
theorem Un.laid (k:∀ b u,h.get? b=some u->h'.get? b=some u) (hp:h.objs.size<=a) (hn:H a=none):Un fs ex H (upd H a o) h h' where
 keep:=fun b u q _ _ _=>k b u q
 slot:=fun b u q _ _ _=>⟨u.slots,k b u q⟩
 free:=fun b u q n _=>by rw [ao (Nat.ne_of_lt (Nat.lt_of_lt_of_le (Heap.lt_size q) hp))];exact n
 there:=fun b u q _=>⟨u,k b u q⟩
 tups:=fun b xs q=>by rw [ao (ak q hn)];exact q
 frzs:=fun b u xs q=>by rw [ao (ak q hn)];exact q
 tbls:=fun b ps q=>⟨#[],by rw [ao (ak q hn),q];simp⟩
theorem Un.write (mu:Mut (H x)) (he:e=x\/H e=some (.own x)) (k:∀ b u,b≠e->h.get? b=some u->h'.get? b=some u) (heo:∃ u,h'.get? e=some u):Un fs ex H (upd H x o) h h':=by
 have hx:∀ b,H b=none->b≠x:=fun b n z=>by subst z;rw [n] at mu;exact mu
 have hb:∀ b,H b=none->b≠e:=fun b n z=>by
  subst z;rcases he with r | r
  .exact hx b n r
  .rw [n] at r;cases r
 have hm:∀ b u,H b=some u->¬ Mut (some u)->b≠x:=fun b u q nm z=>by subst z;rw [q] at mu;exact nm mu
 refine ⟨fun b u q n _ _=>k b u (hb b n) q,fun b u q n _ _=>⟨u.slots,k b u (hb b n) q⟩,fun b u q n _=>by rw [ao (hx b n)];exact n,fun b u q _=>?_,
  fun b xs q=>by rw [ao (hm b _ q fun z=>z)];exact q,fun b u xs q=>by rw [ao (hm b _ q fun z=>z)];exact q,fun b ps q=>⟨#[],by rw [ao (hm b _ q fun z=>z),q];simp⟩⟩
 by_cases hbe:b=e
 .subst hbe;exact heo
 .exact ⟨u,k b u hbe q⟩
end
noncomputable def trk (h:Heap) (H:Hp):List Addr:=(List.range h.objs.size).filter fun a=>(H a).isSome
def rO (h:Heap) (H:Hp):Heap:=PySem.W.hideAll h (trk h H)
theorem Ry (h:Heap) (H:Hp):(rO h H).objs.size=h.objs.size:=PySem.W.hideAll_size _ _
theorem Ug {o:Obj} (e:h.get? b=some o) (n:H b=none):(rO h H).get? b=some o :=
 PySem.W.hideAll_get _ e fun hm=>by
  have q:(H b).isSome=true:=(yT.mp hm).2;rw [n] at q;simp at q
def Y8 {o:Obj} (e:(rO h H).get? b=some o):h.get? b=some o/\H b=none:=by
 have e':h.get? b=some o:=PySem.W.of_hideAll (trk h H) e;refine ⟨e',?_⟩;cases q:H b with
 | none=>rfl
 | some x =>
  have hm:b∈trk h H:=yT.mpr ⟨yY.mpr (v4 e'),by simp [q]⟩;have z:(rO h H).get? b=none:=PySem.W.hideAll_none (trk h H) hm;rw [z] at e;cases e
structure Mod (K:zt) (mg:w8) (base:Heap):Prop where
 kin:K.In base
 glob:base.Ns mainGlobals mg
 blt:∃ mb,base.Ns builtinsNs mb /\ ∀ x:Str,x ≠ "__name__" -> mb x=bootBuiltins x
 nolimit:base.NoLimit
 bm:∃ bm ob,mg "__builtins__"=some (.ref bm) /\ bm ≠ builtinsNs /\ bm ≠ mainGlobals /\ base.get? bm=some ob /\ ob.cls=.type "module" /\ ob.dict=some builtinsNs /\ ob.data=.plain
def pL (K:zt) (mg:Str -> Option Value) (H:Hp):Prop:=∀ a o fd c oc vs p,mg "check_tests"=some (.ref a) -> K.lookup a=some o -> o.data=.func fd -> fd.code=.ref c -> K.lookup c=some oc -> oc.data=.fields vs -> vs[11]?=some (.ref p) -> ∃ q,H p=some (.tbl q)
variable {K:zt}{mg:w8}{H':Hp}
theorem pL.un {fs ex:List Addr}{h':Heap} (x:pL K mg H) (u:Un fs ex H H' h h'):pL K mg H':=fun a o fd c oc vs p e1 e2 e3 e4 e5 e6 e7 =>
 let ⟨q,e⟩:=x a o fd c oc vs p e1 e2 e3 e4 e5 e6 e7
 let ⟨m,e'⟩:=u.tbls p q e
 ⟨_,e'⟩
structure Cx where
 prog:Program
 w:World
 K:zt
 mg:w8
 base:Heap
 A:Around
 N:z0
 s₀:Shared
 H₀:Hp
 env:Env
 outer:List Env
 stack:List Env
 ex:List Addr
 fn:Str->Bool
 calm:Bool
 pn:w4
 xe:zn
noncomputable def frs (l:List Env):List Addr:=l.filterMap (·.frame)
abbrev Cx.fs (X:Cx):List Addr:=frs X.outer
def Vis (sc:Scope) (x:Str):Prop:=sc.names.lookup x=some .local\/sc.names.lookup x=some .cell\/sc.names.lookup x=some .free
def Loc (sc:Scope) (x:Str):Prop:=sc.names.lookup x=some .local\/sc.names.lookup x=some .cell
def Look (env:Env) (h:Heap) (m:w8) (x:Str) (u:Value):Prop :=
 (env.kindOf x=some .local/\m x=some u)\/((env.kindOf x=some .cell\/env.kindOf x=some .free)/\∃ c,env.cells.lookup x=some c/\h.IsCell c (some u))
structure Cx.Ok (X:Cx):Prop where
 mod:Mod X.K X.mg X.base
 kind:X.env.scope.kind=.function
 glob:X.env.globals=mainGlobals
 blt:X.env.builtins=builtinsNs
 above:X.s₀.heap.objs.size<=X.env.locals
 inj:∀ x y c,X.env.cells.lookup x=some c->X.env.cells.lookup y=some c->x=y
 has:∀ x,(X.env.kindOf x=some .cell\/X.env.kindOf x=some .free)->∃ c,X.env.cells.lookup x=some c
 cab:∀ x c,X.fn x=true->X.env.cells.lookup x=some c->X.s₀.heap.objs.size<=c
 hd:X.calm=true->X.A.handled=none
 frames:X.A.frames=some X.stack
 stk:X.stack=X.outer\/(X.stack=X.env::X.outer/\X.env.frame=some X.env.locals)
 exf:∀ b∈X.ex,b≠X.env.locals/\∀ x c,X.env.cells.lookup x=some c->c≠b
 bs:∀ b o,X.base.get? b=some o->X.s₀.heap.get? b=some o/\X.H₀ b=none
 bsz:X.base.objs.size<=X.s₀.heap.objs.size
 noex:∀ b o,X.base.get? b=some o->b ∉ X.ex
 exfs:∀ b∈X.ex,b ∉ X.fs
 funs:X.s₀.heap.FunFrames X.base X.outer
 frf:∀ b∈X.fs,X.H₀ b=none
 tab:pL X.K X.mg X.H₀
structure Inv (X:Cx) (pins:w4) (σ:List (Option V)) (H:Hp) (s:Shared):Prop where
 ok:X.Ok
 os:s.os=X.s₀.os
 bare:AllBare s.gens
 base:Un X.fs X.ex X.H₀ H X.s₀.heap s.heap
 loc:∃ m,s.heap.Ns X.env.locals m/\∀ (i:Nat) (x:Str) (v:V),X.N[i]?=some x->σ[i]?=some (some v)->Vis X.env.scope x->∃ u,RelV v u/\Look X.env s.heap m x u
 cell:∀ x c,X.env.cells.lookup x=some c->∃ v,s.heap.IsCell c v
 free:H X.env.locals=none
 freeC:∀ x c,X.env.cells.lookup x=some c->H c=none
 pin:∀ p∈X.pn++pins,s.heap.get? p.1=some p.2/\H p.1=none/\p.1≠X.env.locals/\p.1 ∉ X.fs/\∀ v,p.2.data≠.cell v
 hok:HOk X.prog X.w H s.heap
 len:σ.length=X.N.length
variable {g':Array GenState}{ch:List Addr}{it:Addr}{N:z0}{i:Nat}{x:Str}{A:Around}{E:zn}{v:V}{u:Value}{Q:Unit->Shared->Prop}{s':Shared}
section
variable {X:Cx}{pins:w4}{σ:List (Option V)}{H H':Hp}{s:Shared}{h':Heap}
theorem Cx.Ok.nofr (ok:X.Ok) {o:Obj} (e:X.base.get? b=some o):b ∉ X.fs:=fun hb=>by
 have:=(ok.funs.mem hb).1;rw [e] at this;cases this
theorem Inv.bs (I:Inv X pins σ H s):∀ b o,X.base.get? b=some o->s.heap.get? b=some o/\H b=none:=fun b o e =>
 ⟨I.base.keep b o (I.ok.bs b o e).1 (I.ok.bs b o e).2 (I.ok.nofr e) (I.ok.noex b o e),I.base.free b o (I.ok.bs b o e).1 (I.ok.bs b o e).2 (I.ok.noex b o e)⟩
theorem Inv.bk (I:Inv X pins σ H s):∀ b o,X.base.get? b=some o->s.heap.get? b=some o:=fun b o e=>(I.bs b o e).1
theorem Inv.mod (I:Inv X pins σ H s):Mod X.K X.mg X.base:=I.ok.mod
theorem Inv.kIn (I:Inv X pins σ H s):X.K.In s.heap:=I.ok.mod.kin.keeps I.bk
theorem Inv.fr (I:Inv X pins σ H s):∃ m,Fr X.base X.env.locals s.heap m :=
 let ⟨m,hn,_⟩:=I.loc
 ⟨m,hn,I.bk,ye I.ok.bsz I.ok.above⟩
theorem Inv.lt (I:Inv X pins σ H s):X.env.locals < s.heap.objs.size:=let ⟨_,hn,_⟩:=I.loc;hn.lt
theorem Inv.sz (I:Inv X pins σ H s):X.s₀.heap.objs.size<=s.heap.objs.size:=ye I.ok.above (Nat.le_of_lt I.lt)
theorem Inv.nofs (I:Inv X pins σ H s)  (h:s.heap.objs.size<=a):a ∉ X.fs:=fun hb=>by
 obtain ⟨_,o,ho,_⟩:=I.ok.funs.mem hb;exact absurd (yi (v4 ho) (ye I.sz h)) (yy _)
theorem Inv.cne (I:Inv X pins σ H s):∀ x c,X.env.cells.lookup x=some c->c≠X.env.locals:=fun x c e z=>by
 obtain ⟨v,o,ho,hd⟩:=I.cell x c e;obtain ⟨m,⟨o',es,ep,ho',hd',_⟩,_⟩:=I.loc;rw [z,ho'] at ho;cases ho;rw [hd'] at hd;cases hd
theorem Inv.funs (I:Inv X pins σ H s):s.heap.FunFrames X.base X.outer:=by
 have all:∀ (l:List Env),(∀ b∈frs l,b∈X.fs)->X.s₀.heap.FunFrames X.base l->s.heap.FunFrames X.base l:=by
  intro l;induction l with
  | nil=>intro _ _;trivial
  | cons env r ih =>
   intro hs hl;obtain ⟨hk,⟨L,o,hf,hn,ho,hd⟩,hr⟩:=hl;have hL:L∈X.fs:=hs L (by unfold frs;rw [List.filterMap_cons,hf];exact vE);obtain ⟨sl,e⟩:=I.base.slot L o ho (I.ok.frf L hL) hL fun z=>I.ok.exfs L z hL
   exact ⟨hk,⟨L,_,hf,hn,e,hd⟩,ih (fun b hb=>hs b (by unfold frs;rw [List.filterMap_cons,hf];exact vz _ hb)) hr⟩
 exact all X.outer (fun _ hb=>hb) I.ok.funs
theorem Inv.stack (I:Inv X pins σ H s):s.heap.FunFrames X.base X.stack:=by
 rcases I.ok.stk with e | ⟨e,hf⟩
 .rw [e];exact I.funs
 .rw [e];obtain ⟨m,hn,_⟩:=I.loc;refine .cons (by rw [I.ok.kind];decide) hf hn ?_ I.funs;exact Heap.get?_none_of_le (ye I.ok.bsz I.ok.above)
theorem Inv.stkSub (I:Inv X pins σ H s):∀ b∈frs X.stack,b∈X.env.locals::X.fs:=fun b hb=>by
 rcases I.ok.stk with e | ⟨e,hf⟩
 .rw [e] at hb;exact vz _ hb
 .rw [e] at hb;unfold frs at hb;rw [List.filterMap_cons,hf] at hb;exact hb
theorem Inv.stkFree (I:Inv X pins σ H s):∀ b∈frs X.stack,H b=none:=fun b hb=>by
 rcases z9.mp (I.stkSub b hb) with e | hb
 .rw [e];exact I.free
 .obtain ⟨_,o,ho,_⟩:=I.ok.funs.mem hb;exact I.base.free b o ho (I.ok.frf b hb) fun z=>I.ok.exfs b z hb
theorem Inv.step {t':Nat}{d':Drawn} (I:Inv X pins σ H s)
  (hch:∀ b∈ch,(b∈X.ex\/X.s₀.heap.objs.size<=b)/\b≠X.env.locals/\(∀ x c,X.env.cells.lookup x=some c->c≠b)/\∀ p∈X.pn++pins,p.1≠b)
  (keep:∀ b o,b≠X.env.locals->b ∉ X.fs->b ∉ ch->s.heap.get? b=some o->H b=none->h'.get? b=some o)
  (slot:∀ b o,b≠X.env.locals->b∈X.fs->b ∉ ch->s.heap.get? b=some o->H b=none->∃ sl,h'.get? b=some { o with slots:=sl }) (free:∀ b o,b ∉ ch->s.heap.get? b=some o->H b=none->H' b=none)
  (there:∀ b o,b ∉ ch->s.heap.get? b=some o->∃ o',h'.get? b=some o')
  (tups:∀ b xs,H b=some (.tup xs)->H' b=some (.tup xs)) (frzs:∀ b o u,H b=some (.frz o u)->H' b=some (.frz o u)) (tbls:∀ b ps,H b=some (.tbl ps)->∃ more,H' b=some (.tbl (ps++more)))
  (ns:∀ m,s.heap.Ns X.env.locals m->h'.Ns X.env.locals m) (hok:HOk X.prog X.w H' h') (hg:AllBare g') :
  Inv X pins σ H' { s with heap:=h',gens:=g',drawn:=d',toks:=t' }:=by
 have neL:∀ b o,X.s₀.heap.get? b=some o->b≠X.env.locals:=fun b o e=>ya (yi (v4 e) I.ok.above)
 have neC:∀ b o,X.s₀.heap.get? b=some o->b ∉ X.ex->b ∉ ch:=fun b o e hx hb=>by
  rcases (hch b hb).1 with z | z
  .exact hx z
  .exact absurd (yi (v4 e) z) (yy _)
 have cellK:∀ x c,X.env.cells.lookup x=some c->∀ v,s.heap.IsCell c v->h'.IsCell c v:=fun x c e v ⟨o,ho,hd⟩=>by
  have nch:c ∉ ch:=fun z=>(hch c z).2.2.1 x c e rfl
  by_cases hc:c∈X.fs
  .obtain ⟨sl,q⟩:=slot c o (I.cne x c e) hc nch ho (I.freeC x c e);exact ⟨_,q,hd⟩
  .exact ⟨o,keep c o (I.cne x c e) hc nch ho (I.freeC x c e),hd⟩
 refine ⟨I.ok,I.os,hg,⟨fun b o e n hb hx=>?_,fun b o e n hb hx=>?_,fun b o e n hx=>?_,fun b o e hx=>?_,fun b xs e=>tups b xs (I.base.tups b xs e),fun b o xs e=>frzs b o xs (I.base.frzs b o xs e),fun b ps e=>?_⟩,?_,fun x c e=>?_,?_,fun x c e=>?_,fun p hp=>?_,hok,I.len⟩
 .exact keep b o (neL b o e) hb (neC b o e hx) (I.base.keep b o e n hb hx) (I.base.free b o e n hx)
 .obtain ⟨sl,e1⟩:=I.base.slot b o e n hb hx;obtain ⟨sl',e2⟩:=slot b _ (neL b o e) hb (neC b o e hx) e1 (I.base.free b o e n hx);exact ⟨sl',e2⟩
 .obtain ⟨o',e1⟩:=I.base.there b o e hx;exact free b o' (neC b o e hx) e1 (I.base.free b o e n hx)
 .obtain ⟨o',e1⟩:=I.base.there b o e hx;exact there b o' (neC b o e hx) e1
 .obtain ⟨m1,e1⟩:=I.base.tbls b ps e;obtain ⟨m2,e2⟩:=tbls b _ e1;exact ⟨m1++m2,by rw [e2,Array.append_assoc]⟩
 .obtain ⟨m,hn,hl⟩:=I.loc;refine ⟨m,ns m hn,fun i x v e1 e2 e3=>?_⟩;obtain ⟨u,r,l⟩:=hl i x v e1 e2 e3;refine ⟨u,r,?_⟩;rcases l with l | ⟨k,c,e,z⟩
  .exact .inl l
  .exact .inr ⟨k,c,e,cellK x c e _ z⟩
 .obtain ⟨v,z⟩:=I.cell x c e;exact ⟨v,cellK x c e v z⟩
 .obtain ⟨m,⟨o,_,_,ho,_⟩,_⟩:=I.loc;exact free _ o (fun z=>(hch _ z).2.1 rfl) ho I.free
 .obtain ⟨v,o,ho,hd⟩:=I.cell x c e;exact free c o (fun z=>(hch c z).2.2.1 x c e rfl) ho (I.freeC x c e)
 .obtain ⟨e,n,ne,nf,d⟩:=I.pin p hp;have nch:p.1 ∉ ch:=fun z=>(hch p.1 z).2.2.2 p hp rfl
  exact ⟨keep p.1 p.2 ne nf nch e n,free p.1 p.2 nch e n,ne,nf,d⟩
theorem Inv.un {t':Nat} (I:Inv X pins σ H s) (u:Un X.fs [] H H' s.heap h') (hok:HOk X.prog X.w H' h'):Inv X pins σ H' { s with heap:=h',toks:=t' }:=by
 obtain ⟨m,⟨o,es,ep,ho,r⟩,_⟩:=id I.loc;obtain ⟨sl,hL⟩:=u.any ho I.free (by simp);exact I.step (g':=s.gens) (d':=s.drawn) (ch:=[]) (fun _ z=>nomatch z) (fun b o _ hb _ e n=>u.keep b o e n hb (by simp)) (fun b o _ hb _ e n=>u.slot b o e n hb (by simp)) (fun b o _ e n=>u.free b o e n (by simp)) (fun b o _ e=>u.there b o e (by simp)) u.tups u.frzs u.tbls (fun m' hm=>by
  obtain ⟨o',es',ep',ho',r'⟩:=hm;rw [ho] at ho';cases ho';exact ⟨_,es',ep',hL,r'⟩) hok I.bare
theorem Inv.call {t':Nat}{d':Drawn} (I:Inv X pins σ H s) (u:Un (frs X.stack) ch H H' s.heap h') (hok:HOk X.prog X.w H' h') (hg:AllBare g')
  (hch:∀ b∈ch,(b∈X.ex\/X.s₀.heap.objs.size<=b)/\b≠X.env.locals/\(∀ x c,X.env.cells.lookup x=some c->c≠b)/\∀ p∈X.pn++pins,p.1≠b) :
  Inv X pins σ H' { s with heap:=h',gens:=g',drawn:=d',toks:=t' }:=by
 obtain ⟨m,⟨o,es,ep,ho,r⟩,_⟩:=id I.loc;obtain ⟨sl,hL⟩:=u.any ho I.free fun z=>(hch _ z).2.1 rfl
 exact I.step (ch:=ch) hch (fun b o hL hb hc e n=>u.keep b o e n (fun z=>(z9.mp (I.stkSub b z)).elim hL hb) hc) (fun b o _ _ hc e n=>u.any e n hc) (fun b o hc e n=>u.free b o e n hc) (fun b o hc e=>u.there b o e hc) u.tups u.frzs u.tbls (fun m' hm=>by
  obtain ⟨o',es',ep',ho',r'⟩:=hm;rw [ho] at ho';cases ho';exact ⟨_,es',ep',hL,r'⟩) hok hg
theorem Inv.turned {t':Nat} (I:Inv X pins σ H s) (k:∀ b o,b≠it->s.heap.get? b=some o->h'.get? b=some o) (hn:H it=none) (hL:it≠X.env.locals)
  (h1:it∈X.ex\/X.s₀.heap.objs.size<=it) (h2:∀ x c,X.env.cells.lookup x=some c->c≠it) (h3:∀ p∈X.pn++pins,p.1≠it):Inv X pins σ H { s with heap:=h',toks:=t' }:=by
 have nit:∀ b u,H b=some u->b≠it:=fun b u e z=>by rw [z,hn] at e;cases e
 refine I.step (g':=s.gens) (d':=s.drawn) (ch:=[it]) (fun b hb=>?_) (fun b o _ _ hc e _=>k b o (fun z=>hc (by simp [z])) e) (fun b o _ _ hc e _=>⟨o.slots,k b o (fun z=>hc (by simp [z])) e⟩) (fun _ _ _ _ n=>n)
  (fun b o hc e=>⟨o,k b o (fun z=>hc (by simp [z])) e⟩) (fun _ _ e=>e) (fun _ _ _ e=>e) (fun b ps e=>⟨#[],by rw [e];simp⟩) (fun m hm=>?_) (fun b u e=>?_) I.bare
 .have e:b=it:=by simpa using hb
  subst e;exact ⟨h1,hL,h2,h3⟩
 .obtain ⟨o,es,ep,ho,r⟩:=hm;exact ⟨o,es,ep,k _ o (Ne.symm hL) ho,r⟩
 .refine (I.hok b u e).stay (fun c v hc q=>k c v ?_ q) (fun _ q=>q) fun _ _ q=>q
  rcases hc with z | z
  .rw [z];exact nit b u e
  .exact nit c _ z
theorem Inv.tok (I:Inv X pins σ H s) (t:Nat):Inv X pins σ H { s with toks:=t }:=I.un (h':=s.heap) (t':=t) Un.refl I.hok
theorem Inv.kept {t':Nat} (I:Inv X pins σ H s) (k:∀ b u,s.heap.get? b=some u->h'.get? b=some u):Inv X pins σ H { s with heap:=h',toks:=t' }:=I.un (Un.kept k) (I.hok.kept k)
theorem Inv.laid {t':Nat} (I:Inv X pins σ H s) (k:∀ b u,s.heap.get? b=some u->h'.get? b=some u) (hp:s.heap.objs.size<=a) (new:cA X.prog X.w (upd H a o) h' a o) :
  Inv X pins σ (upd H a o) { s with heap:=h',toks:=t' }:=I.un (Un.laid k hp (I.hok.fresh hp)) (I.hok.laid k hp new)
theorem Inv.write {x e:Addr}{t':Nat} (I:Inv X pins σ H s) (mu:Mut (H x)) (he:e=x\/H e=some (.own x)) (k:∀ b u,b≠e->s.heap.get? b=some u->h'.get? b=some u) (heo:∃ u,h'.get? e=some u)
  (new:cA X.prog X.w (upd H x o) h' x o):Inv X pins σ (upd H x o) { s with heap:=h',toks:=t' }:=I.un (Un.write mu he k heo) (I.hok.write mu he k heo new)
theorem Inv.weak {σ':List (Option V)} (I:Inv X pins σ H s) (hl:σ'.length=σ.length) (w:∀ (i:Nat) v,σ'[i]?=some (some v)->σ[i]?=some (some v)):Inv X pins σ' H s :=
 ⟨I.ok,I.os,I.bare,I.base,let ⟨m,hn,hl'⟩:=I.loc;⟨m,hn,fun i x v e1 e2 e3=>hl' i x v e1 (w i v e2) e3⟩,I.cell,I.free,I.freeC,I.pin,I.hok,hl.trans I.len⟩
theorem Inv.pins_of {pins':w4} (I:Inv X pins σ H s) (h:∀ p∈pins',s.heap.get? p.1=some p.2/\H p.1=none/\p.1≠X.env.locals/\p.1 ∉ X.fs/\∀ v,p.2.data≠.cell v):Inv X pins' σ H s :=
 ⟨I.ok,I.os,I.bare,I.base,I.loc,I.cell,I.free,I.freeC,fun p hp=>(yc.mp hp).elim (fun z=>I.pin p (vF _ z)) (h p),I.hok,I.len⟩
def Jm (hN:N.Nodup) {j:Nat} (a:N[i]?=some x) (b:N[j]?=some x):i=j:=by
 obtain ⟨h1,e1⟩:=vV.mp a;obtain ⟨h2,e2⟩:=vV.mp b;exact (List.getElem_inj hN).mp (e1.trans e2.symm)
def Fg {M:Model} (I:Inv X pins σ H s) (hN:X.N.Nodup) (hi:X.N[i]?=some x) (hx:Loc X.env.scope x) (r:RelV v u)
  (h:∀ s',Inv X pins (σ.set i (some v)) H s'->(∃ a,Heap.SameBut a s.heap s'.heap/\(a=X.env.locals\/X.env.cells.lookup x=some a))->Q () s') (hf:X.fn x=true\/X.env.scope.names.lookup x=some .local:=by first | exact .inl rfl | exact .inr rfl | assumption):wpAny M A (storeName X.env x u) Q E s:=by
 obtain ⟨m,hn,hl⟩:=id I.loc;have hcls:(X.env.scope.kind == .class || (X.env.scope.kind == .module && X.env.locals != X.env.globals))=false:=by rw [I.ok.kind];rfl
 have hiσ:i < σ.length:=by rw [I.len];exact (vV.mp hi).1
 have cne:=I.cne;have tracked:∀ {a:Addr}{h':Heap},(∃ o,s.heap.get? a=some o/\H a=none)->Heap.SameBut a s.heap h'->HOk X.prog X.w H h':=fun {a h'} ha hs b ob e=>by
  obtain ⟨_,_,hfree⟩:=ha;refine (I.hok b ob e).stay (fun c w' hc q=>(hs.2 c ?_).trans q) (fun _ q=>q) fun _ _ q=>q
  rintro rfl;rcases hc with rfl | hc
  .rw [hfree] at e;cases e
  .rw [hfree] at hc;cases hc
 rcases hx with hk | hk
 .refine wpAny_storeName_local hk hn (fun h' hn' hs=>?_) hcls;obtain ⟨oL,_,_,hoL,_⟩:=id hn;refine h _ ⟨I.ok,I.os,I.bare,⟨fun b o e n hb hx=>?_,fun b o e n hb hx=>?_,I.base.free,fun b o e hx=>?_,I.base.tups,I.base.frzs,I.base.tbls⟩,⟨_,hn',fun j y v' e1 e2 e3=>?_⟩,fun y c e=>?_,I.free,I.freeC,fun p hp=>?_,tracked ⟨oL,hoL,I.free⟩ hs,by simpa using I.len⟩ ⟨_,hs,.inl rfl⟩
  .exact (hs.2 b (ya (yi (v4 e) I.ok.above))).trans (I.base.keep b o e n hb hx)
  .obtain ⟨sl,e1⟩:=I.base.slot b o e n hb hx;exact ⟨sl,(hs.2 b (ya (yi (v4 e) I.ok.above))).trans e1⟩
  .obtain ⟨o',e1⟩:=I.base.there b o e hx;exact ⟨o',(hs.2 b (ya (yi (v4 e) I.ok.above))).trans e1⟩
  .by_cases hj:j=i
   .subst hj;rw [hi] at e1;cases e1;rw [List.getElem?_set_self hiσ] at e2;cases e2;exact ⟨u,r,.inl ⟨hk,by simp⟩⟩
   .rw [List.getElem?_set_ne (Ne.symm hj)] at e2;obtain ⟨u',r',q⟩:=hl j y v' e1 e2 e3;refine ⟨u',r',?_⟩;rcases q with ⟨k,e⟩ | ⟨k,c,e,z⟩
    .refine .inl ⟨k,?_⟩;have:y≠x:=fun e=>hj (Jm hN e1 (e ▸ hi))
     simp [this,e]
    .exact .inr ⟨k,c,e,z.sameBut hs (cne y c e)⟩
  .obtain ⟨w',z⟩:=I.cell y c e;exact ⟨w',z.sameBut hs (cne y c e)⟩
  .obtain ⟨e,n,ne,nf,d⟩:=I.pin p hp;exact ⟨(hs.2 p.1 ne).trans e,n,ne,nf,d⟩
 .have hfn:X.fn x=true:=by
   rcases hf with z | z
   .exact z
   .rw [z] at hk;cases hk
  obtain ⟨c,hc⟩:=I.ok.has x (.inl hk);obtain ⟨w',z⟩:=I.cell x c hc;refine wpAny_storeName_cell I.ok.kind hk hc z (fun h' hc' hs=>?_);obtain ⟨oc,hoc,hocd⟩:=id z;refine h { s with heap:=h' } ⟨I.ok,I.os,I.bare,⟨fun b o e n hb hx=>?_,fun b o e n hb hx=>?_,I.base.free,fun b o e hx=>?_,I.base.tups,I.base.frzs,I.base.tbls⟩,⟨m,hn.sameBut hs (Ne.symm (cne x c hc)),fun j y v' e1 e2 e3=>?_⟩,fun y c' e=>?_,I.free,I.freeC,fun p hp=>?_,tracked ⟨oc,hoc,I.freeC x c hc⟩ hs,by simpa using I.len⟩ ⟨c,hs,.inr hc⟩
  .exact (hs.2 b (ya (yi (v4 e) (I.ok.cab x c hfn hc)))).trans (I.base.keep b o e n hb hx)
  .obtain ⟨sl,e1⟩:=I.base.slot b o e n hb hx;exact ⟨sl,(hs.2 b (ya (yi (v4 e) (I.ok.cab x c hfn hc)))).trans e1⟩
  .obtain ⟨o',e1⟩:=I.base.there b o e hx;exact ⟨o',(hs.2 b (ya (yi (v4 e) (I.ok.cab x c hfn hc)))).trans e1⟩
  .by_cases hj:j=i
   .subst hj;rw [hi] at e1;cases e1;rw [List.getElem?_set_self hiσ] at e2;cases e2;exact ⟨u,r,.inr ⟨.inl hk,c,hc,hc'⟩⟩
   .rw [List.getElem?_set_ne (Ne.symm hj)] at e2;obtain ⟨u',r',q⟩:=hl j y v' e1 e2 e3;refine ⟨u',r',?_⟩;rcases q with q | ⟨k,c',e,z'⟩
    .exact .inl q
    .refine .inr ⟨k,c',e,z'.sameBut hs ?_⟩;rintro rfl;exact hj (Jm hN e1 (I.ok.inj _ _ _ e hc ▸ hi))
  .by_cases hcc:c'=c
   .subst hcc;exact ⟨_,hc'⟩
   .obtain ⟨w2,z2⟩:=I.cell y c' e;exact ⟨w2,z2.sameBut hs hcc⟩
  .obtain ⟨e,n,ne,nf,d⟩:=I.pin p hp;refine ⟨(hs.2 p.1 ?_).trans e,n,ne,nf,d⟩;intro q;rw [q,hoc] at e;have q':oc=p.2:=ja e;exact d w' (by rw [<- q'];exact hocd)
def Wd {M:Model} (I:Inv X pins σ H s) (hN:X.N.Nodup) (hi:X.N[i]?=some x) (hx:Loc X.env.scope x) (r:RelV v u)
  (h:∀ s',Inv X pins (σ.set i (some v)) H s'->Q () s') (hf:X.fn x=true\/X.env.scope.names.lookup x=some .local:=by first | exact .inl rfl | exact .inr rfl | assumption):wpAny M A (storeName X.env x u) Q E s :=
 Fg I hN hi hx r (fun s' I' _=>h s' I') hf
theorem Inv.call' (I:Inv X pins σ H s) (ho:s'.os=s.os) (u:Un (frs X.stack) ch H H' s.heap s'.heap) (hok:HOk X.prog X.w H' s'.heap) (hg:AllBare s'.gens)
  (hch:∀ b∈ch,(b∈X.ex\/X.s₀.heap.objs.size<=b)/\b≠X.env.locals/\(∀ x c,X.env.cells.lookup x=some c->c≠b)/\∀ p∈X.pn++pins,p.1≠b):Inv X pins σ H' s':=by
 obtain ⟨h',g',d',t',o'⟩:=s';have e:o'=s.os:=ho;subst e;exact I.call (g':=g') (t':=t') (d':=d') u hok hg hch
end
abbrev XK:=Value->vn->Hp->Prop
abbrev St:=List (Option V)
abbrev VK:=V->Hp->Prop
abbrev TE:=St->Hp->VK->Prop
abbrev TT:=St->Hp->(Bool->Hp->Prop)->Prop
abbrev TA:=St->Hp->(List V->Hp->Prop)->Prop
structure Ends where
 nx:St->Hp->Prop
 rt:VK
 bk:St->Hp->Prop:=fun _ _=>False
 ct:St->Hp->Prop:=fun _ _=>False
noncomputable abbrev TS:=Ends->St->Hp->Prop
def EP (X:Cx) (pins:w4) (σ:St) (Q:VK) (u:Value) (s':Shared):Prop:=∃ v H',Inv X pins σ H' s'/\RelV v u/\Q v H'
def TP (X:Cx) (pins:w4) (σ:St) (Q:Bool->Hp->Prop) (b:Bool) (s':Shared):Prop:=∃ H',Inv X pins σ H' s'/\Q b H'
def AP (X:Cx) (pins:w4) (σ:St) (Q:List V->Hp->Prop) (us:zw) (s':Shared):Prop:=∃ vs H',Inv X pins σ H' s'/\Vals vs us/\Q vs H'
def SP (X:Cx) (pins:w4) (D:Ends) (f:Flow) (s':Shared):Prop :=
 match f with
 | .next=>∃ σ' H',Inv X pins σ' H' s'/\D.nx σ' H'
 | .brk=>∃ σ' H',Inv X pins σ' H' s'/\D.bk σ' H'
 | .cont=>∃ σ' H',Inv X pins σ' H' s'/\D.ct σ' H'
 | .ret u=>∃ v σ' H',Inv X pins σ' H' s'/\RelV v u/\D.rt v H'
def PE (X:Cx) (e:Expr) (t:TE):Prop :=
 ∀ (pins:w4) (s:Shared) (σ:St) (H:Hp) (Q:VK),Inv X pins σ H s->t σ H Q->wpAny (model X.prog X.w) X.A (eval e X.env) (EP X pins σ Q) X.xe s
def PT (X:Cx) (e:Expr) (t:TT):Prop :=
 ∀ (pins:w4) (s:Shared) (σ:St) (H:Hp) (Q:Bool->Hp->Prop),Inv X pins σ H s->t σ H Q->wpAny (model X.prog X.w) X.A (isTrue e X.env (eval e X.env)) (TP X pins σ Q) X.xe s
def PW (X:Cx) (e:Expr) (t:TT):Prop :=
 ∀ (whole:Sem Value) (pins:w4) (s:Shared) (σ:St) (H:Hp) (Q:Bool->Hp->Prop),Inv X pins σ H s->t σ H Q->wpAny (model X.prog X.w) X.A (isTrue e X.env whole) (TP X pins σ Q) X.xe s
variable {X:Cx}{e:Expr}
theorem PW.pt {t:TT} (h:PW X e t):PT X e t:=h _
def PA (X:Cx) (es:ve) (t:TA):Prop :=
 ∀ (pos:Pos) (pins:w4) (s:Shared) (σ:St) (H:Hp) (Q:List V->Hp->Prop),Inv X pins σ H s->t σ H Q->wpAny (model X.prog X.w) X.A (spliced (backTo pos (starEach es X.env))) (AP X pins σ Q) X.xe s
def PS (X:Cx) (st:Stmt) (t:TS):Prop :=
 ∀ (pins:w4) (s:Shared) (σ:St) (H:Hp) (D:Ends),Inv X pins σ H s->t D σ H->wpAny (model X.prog X.w) X.A (exec st X.env) (SP X pins D) X.xe s
def PSs (X:Cx) (st:vi) (t:TS):Prop :=
 ∀ (pins:w4) (s:Shared) (σ:St) (H:Hp) (D:Ends),Inv X pins σ H s->t D σ H->wpAny (model X.prog X.w) X.A (execs st X.env) (SP X pins D) X.xe s
variable {s:Shared}
theorem thn {α:Type}{t:Sem α}{Q Q':α->Shared->Prop}{M:Model} (h:wpAny M A t Q E s) (hQ:∀ a s,Q a s->Q' a s):wpAny M A t Q' E s:=wpAny_mono h hQ fun _ _ x=>x
variable {pins:w4}{σ:St}{pos:Pos}{op:CmpOp}{t:TE}
section
variable {X:Cx}
def bin {a b:Expr}{ta tb:TE} (ha:PE X a ta) (hb:PE X b tb) {R:V->V->Hp->Prop} (I:Inv X pins σ H s) (h:ta σ H fun x H1=>tb σ H1 fun y H2=>R x y H2)
  {α:Type}{Q:α->Shared->Prop}{f:Value->Value->Sem α}
  (hf:∀ v u s2 x y H2,Inv X pins σ H2 s2->RelV x v->RelV y u->R x y H2->wpAny (model X.prog X.w) X.A (f v u) Q X.xe s2) :
  wpAny (model X.prog X.w) X.A (eval a X.env) (fun v s₁=>wpAny (model X.prog X.w) X.A (eval b X.env) (fun u s₂=>wpAny (model X.prog X.w) X.A (f v u) Q X.xe s₂) X.xe s₁) X.xe s:=by
 refine thn (ha pins s σ H _ I h) fun v s1 ⟨x,H1,I1,r1,q1⟩=>?_
 refine thn (hb pins s1 σ H1 _ I1 q1) fun u s2 ⟨y,H2,I2,r2,q2⟩=>?_
 exact hf v u s2 x y H2 I2 r1 r2 q2
def Zx (i:Nat):TE:=fun σ H Q=>∃ v,σ[i]?=some (some v)/\Q v H
def tC (v:V):TE:=fun _ H Q=>Q v H
def gJ (hN:X.N[i]?=some x) (hv:Vis X.env.scope x) (hd:(x == ("__debug__":Str))=false:=by decide) (hcd:(x == ("__classdict__":Str))=false:=by decide):PE X (.Name x pos) (Zx i):=by
 intro pins s σ H Q I h;obtain ⟨v,e,h⟩:=h;obtain ⟨m,hn,hl⟩:=I.loc;obtain ⟨u,r,l⟩:=hl i x v hN e hv;have fin:EP X pins σ Q u s:=⟨v,H,I,r,h⟩;rcases l with ⟨hk,hm⟩ | ⟨hk,c,hc,hcell⟩
 .exact wpAny_Name (wpAny_loadName_local I.ok.kind hk hn hm fin) hd
 .rcases hk with hk | hk
  .exact wpAny_Name (wpAny_loadName_cell I.ok.kind hk hc hcell fin) hd
  .exact wpAny_Name (wpAny_loadName_free I.ok.kind hk hc hcell fin hcd) hd
theorem Ti {i j pos}:PE X (.Constant (.int i) j pos) (tC (.int i)):=fun _ _ _ H _ I h=>wpAny_Constant_int ⟨.int i,H,I.tok _,⟨_,rfl⟩,h⟩
theorem abK {b j pos}:PE X (.Constant (.bool b) j pos) (tC (.bl b)):=fun _ _ _ H _ I h=>Constant_bool ⟨.bl b,H,I,rfl,h⟩
theorem abr {j pos}:PE X (.Constant .none j pos) (tC .non):=fun _ _ _ H _ I h=>Constant_none ⟨.non,H,I,rfl,h⟩
theorem abk {x j pos}:PE X (.Constant (.str x) j pos) (tC (.str x)):=fun _ _ _ H _ I h=>Calls.Constant_str ⟨.str x,H,I.tok _,⟨_,rfl⟩,h⟩
def Gl (X:Cx) (x:Str):Prop:=X.env.kindOf x=some .globalImplicit
def xG {Q:zn} (I:Inv X pins σ H s) (hg:Gl X x) (hm:X.mg x=some u) (h:Q u s)
  (hd:(x == ("__debug__":Str))=false:=by decide):wpAny (model X.prog X.w) X.A (eval (.Name x pos) X.env) Q E s :=
 Calls.Name_function_global I.ok.kind hg (Calls.loadGlobal_global (by rw [I.ok.glob];exact I.mod.glob.keeps I.bk) hm h) hd
def fX {Q:zn} (I:Inv X pins σ H s) (hg:Gl X x) (hm:X.mg x=none) (hv:bootBuiltins x=some u) (h:Q u s)
  (hn:x ≠ "__name__":=by decide) (hd:(x == ("__debug__":Str))=false:=by decide):wpAny (model X.prog X.w) X.A (eval (.Name x pos) X.env) Q E s:=by
 obtain ⟨mb,h1,h2⟩:=I.mod.blt;exact Calls.Name_function_global I.ok.kind hg (Calls.loadGlobal_builtin (by rw [I.ok.glob];exact I.mod.glob.keeps I.bk) hm (by rw [I.ok.blt];exact h1.keeps I.bk) ((h2 x hn).trans hv) h) hd
def Ml (hg:Gl X x) (hm:X.mg x=some u) (r:RelV v u) (hd:(x == ("__debug__":Str))=false:=by decide):PE X (.Name x pos) (tC v) :=
 fun _ _ _ H _ I h=>xG I hg hm ⟨v,H,I,r,h⟩ hd
def sU (hg:Gl X x) (hm:X.mg x=none) (hv:bootBuiltins x=some u) (r:RelV v u) (hn:x ≠ "__name__":=by decide) (hd:(x == ("__debug__":Str))=false:=by decide):PE X (.Name x pos) (tC v) :=
 fun _ _ _ H _ I h=>fX I hg hm hv ⟨v,H,I,r,h⟩ hn hd
variable {a b:Expr}{ta tb:TE}{pos:Pos}
def PC (X:Cx) (op:CmpOp) (a b:Expr) (t:TE):Prop :=
 ∀ (pins:w4) (s:Shared) (σ:St) (H:Hp) (Q:VK),Inv X pins σ H s->t σ H Q ->
  wpAny (model X.prog X.w) X.A (eval a X.env) (fun v s₁=>wpAny (model X.prog X.w) X.A (eval b X.env) (fun u s₂=>wpAny (model X.prog X.w) X.A (compareOp op v u) (EP X pins σ Q) X.xe s₂) X.xe s₁) X.xe s
def tB (t:TE):TT:=fun σ H Q=>t σ H fun x H1=>∃ c,x=.bl c/\Q c H1
def acU (h:PC X op a b t) (h1:behindInMarks op b=false:=by first | exact nobehind _ (by decide) (by decide) | rfl):PT X (.Compare a [op] [b] pos) (tB t):=by
 intro pins s σ H Q I hw;refine wpAny_isTrue_Compare1 (thn (h pins s σ H _ I hw) fun v s1 h1=>thn h1 fun u s2 h2=>thn h2 fun c s3 ⟨x,H1,I1,r1,q1⟩=>?_) h1;obtain ⟨d,rfl,q⟩:=q1;cases r1;exact y8 ⟨H1,I1,q⟩
def Rt (h:PE X e t) (he:∀ whole,isTrue e X.env whole=(do let v <- whole;standAt e.pos;holding [v] (truthy v)):=by intro _;rfl):PT X e (tB t):=by
 intro pins s σ H Q I hw;refine isTrue_plain (thn (h pins s σ H _ I hw) fun v s1 ⟨x,H1,I1,r1,q1⟩=>?_) (he _);obtain ⟨d,rfl,q⟩:=q1;cases r1;exact y8 ⟨H1,I1,q⟩
variable {tA tB':TT}{rest:ve}
def acJ (t u:TT):TT:=fun σ H Q=>t σ H fun c H1=>if c=true then u σ H1 Q else Q false H1
def tOr (t u:TT):TT:=fun σ H Q=>t σ H fun c H1=>if c=true then Q true H1 else u σ H1 Q
def acK (t:TT):TT:=fun σ H Q=>t σ H fun c H1=>Q (!c) H1
def Yh (ha:PT X a tA):PW X (.BoolOp .And [a] pos) tA:=by
 intro wh pins s σ H Q I h;refine isTrue_and (thn (ha pins s σ H Q I h) fun c s1 e=>?_);cases c with
 | true=>exact isTrue_and_nil e
 | false=>exact e
def aaR (ha:PT X a tA):PW X (.BoolOp .Or [a] pos) tA:=by
 intro wh pins s σ H Q I h;refine isTrue_or (thn (ha pins s σ H Q I h) fun c s1 e=>?_);cases c with
 | false=>exact isTrue_or_nil e
 | true=>exact e
def Zo (ha:PT X a tA) (hb:PW X (.BoolOp .And (b::rest) pos) tB'):PW X (.BoolOp .And (a::b::rest) pos) (acJ tA tB'):=by
 intro wh pins s σ H Q I h;refine isTrue_and (thn (ha pins s σ H _ I h) fun c s1 ⟨H1,I1,q1⟩=>?_);cases c with
 | true=>exact hb wh pins s1 σ H1 Q I1 q1
 | false=>exact ⟨H1,I1,q1⟩
def ab6 (ha:PT X a tA) (hb:PW X (.BoolOp .Or (b::rest) pos) tB'):PW X (.BoolOp .Or (a::b::rest) pos) (tOr tA tB'):=by
 intro wh pins s σ H Q I h;refine isTrue_or (thn (ha pins s σ H _ I h) fun c s1 ⟨H1,I1,q1⟩=>?_);cases c with
 | true=>exact ⟨H1,I1,q1⟩
 | false=>exact hb wh pins s1 σ H1 Q I1 q1
def SX (ha:PT X a tA):PT X (.UnaryOp .Not a pos) (acK tA):=by
 intro pins s σ H Q I h;exact isTrue_not (ha pins s σ H (fun c H1=>Q (!c) H1) I h)
def abu (ta tb:TE):TE:=fun σ H Q=>ta σ H fun x H1=>∃ c,x=.bl c/\if c=true then tb σ H1 Q else Q (.bl false) H1
def acR (ta tb:TE):TE:=fun σ H Q=>ta σ H fun x H1=>∃ c,x=.bl c/\if c=true then Q (.bl true) H1 else tb σ H1 Q
def aby (ta:TE):TE:=fun σ H Q=>ta σ H fun x H1=>∃ c,x=.bl c/\Q (.bl (!c)) H1
theorem R3 {op} (h:PE X a t):PE X (.BoolOp op [a] pos) t:=fun pins s σ H Q I hw=>BoolOp_one (h pins s σ H Q I hw)
def aa2 (ha:PE X a ta) (hb:PE X (.BoolOp .And (b::rest) pos) tb):PE X (.BoolOp .And (a::b::rest) pos) (abu ta tb):=by
 intro pins s σ H Q I h;refine BoolOp_and (thn (ha pins s σ H _ I h) fun v s1 ⟨x,H1,I1,r1,q1⟩=>?_);obtain ⟨c,rfl,q1⟩:=q1;cases r1;refine y8 ?_;cases c with
 | true=>exact hb pins s1 σ H1 Q I1 q1
 | false=>exact ⟨.bl false,H1,I1,rfl,q1⟩
def abP (ha:PE X a ta) (hb:PE X (.BoolOp .Or (b::rest) pos) tb):PE X (.BoolOp .Or (a::b::rest) pos) (acR ta tb):=by
 intro pins s σ H Q I h;refine BoolOp_or (thn (ha pins s σ H _ I h) fun v s1 ⟨x,H1,I1,r1,q1⟩=>?_);obtain ⟨c,rfl,q1⟩:=q1;cases r1;refine y8 ?_;cases c with
 | false=>exact hb pins s1 σ H1 Q I1 q1
 | true=>exact ⟨.bl true,H1,I1,rfl,q1⟩
def Z1 (ha:PE X a ta):PE X (.UnaryOp .Not a pos) (aby ta):=by
 intro pins s σ H Q I h;refine UnaryOp_ (thn (ha pins s σ H _ I h) fun v s1 ⟨x,H1,I1,r1,q1⟩=>?_);obtain ⟨c,rfl,q1⟩:=q1;cases r1;exact not_of (y8 ⟨.bl (!c),H1,I1,rfl,q1⟩)
end
def SqL (K:zt) (H:Hp) (a:Addr) (xs:List V):Prop :=
 Rd H a (.lst xs) \/
  ∃ (o:Obj) (its:vj) (n:Nat),K.lookup a=some o /\ o.cls=.type "list" /\ o.dict=none /\ o.data=.seq its n /\ its.size <= sizeLine /\ Vals xs its.toList
def SqT (K:zt) (H:Hp) (a:Addr) (xs:List V):Prop :=
 Rd H a (.tup xs) \/
  ∃ (o:Obj) (its:vj) (n:Nat),K.lookup a=some o /\ o.cls=.type "tuple" /\ o.data=.seq its n /\ its.size <= sizeLine /\ Vals xs its.toList
noncomputable def acE:Value->Option V
 | .none=>some .non
 | .bool b=>some (.bl b)
 | .int i _=>some (.int i)
 | .str x _=>some (.str x)
 | .bytes b _=>some (.byt b)
 | .float b _=>some (.flt b)
 | .ref a=>some (.ref a)
 | .type n=>some (.ty n)
 | _=>none
theorem RelV.abs {x:V} (r:RelV x u):acE u=some x:=by
 cases x with
 | non=>cases r;rfl
 | bl _=>cases r;rfl
 | int _=>obtain ⟨t,rfl⟩:=r;rfl
 | str _=>obtain ⟨t,rfl⟩:=r;rfl
 | byt _=>obtain ⟨t,rfl⟩:=r;rfl
 | flt _=>obtain ⟨t,rfl⟩:=r;rfl
 | ref _=>cases r;rfl
 | ty _=>cases r;rfl
variable {y:V}
theorem RelV.inj {x:V} (r:RelV x u) (q:RelV y u):x=y:=ja (r.abs.symm.trans q.abs)
theorem Vals.inj:∀ {xs ys:List V}{us:zw},Vals xs us->Vals ys us->xs=ys
 | _,_,_,.nil,.nil=>rfl
 | _,_,_,.cons r t,.cons r' t'=>by rw [r.inj r',Vals.inj t t']
section
variable {X:Cx}{pins:w4}{σ:St}{H:Hp}{s:Shared}{a:Addr}{xs ys:List V}
theorem SqL.of (h:H a=some (.lst xs)):SqL K H a xs:=.inl (.inl h)
theorem SqT.of (h:H a=some (.tup xs)):SqT K H a xs:=.inl (.inl h)
theorem Inv.list (I:Inv X pins σ H s) (h:SqL X.K H a xs):∃ its:zw,Vals xs its/\PlainL s.heap a its.toArray/\xs.length<=sizeLine:=by
 rcases h with h | ⟨o,its,n,hk,hc,hd,hs,hz,r⟩
 .obtain ⟨z,its,n,r,e⟩:=h.ok I.hok;exact ⟨its,r,⟨_,n,e,rfl,rfl,rfl⟩,z⟩
 .refine ⟨its.toList,r,⟨o,n,I.kIn a o hk,hc,hd,by simpa using hs⟩,?_⟩;have e:=r.length;simp only [Array.length_toList] at e;omega
theorem Inv.tuple (I:Inv X pins σ H s) (h:SqT X.K H a xs):∃ its:zw,Vals xs its/\IsTup s.heap a its.toArray/\xs.length<=sizeLine:=by
 rcases h with h | ⟨o,its,n,hk,hc,hs,hz,r⟩
 .obtain ⟨z,its,r,p⟩:=h.ok I.hok;exact ⟨its,r,p,z⟩
 .refine ⟨its.toList,r,⟨o,I.kIn a o hk,hc,n,by simpa using hs⟩,?_⟩;have e:=r.length;simp only [Array.length_toList] at e;omega
theorem Inv.list_inj (I:Inv X pins σ H s) (h:SqL X.K H a xs) (h':SqL X.K H a ys):xs=ys:=by
 obtain ⟨its,r,⟨o,n,e,_,_,d⟩,_⟩:=I.list h;obtain ⟨its',r',⟨o',n',e',_,_,d'⟩,_⟩:=I.list h';rw [e] at e';cases e';rw [d] at d';injection d' with d1 _;have:its=its':=by simpa using congrArg Array.toList d1
 subst this;exact r.inj r'
theorem Inv.tuple_inj (I:Inv X pins σ H s) (h:SqT X.K H a xs) (h':SqT X.K H a ys):xs=ys:=by
 obtain ⟨its,r,⟨o,e,_,n,d⟩,_⟩:=I.tuple h;obtain ⟨its',r',⟨o',e',_,n',d'⟩,_⟩:=I.tuple h';rw [e] at e';cases e';rw [d] at d';injection d' with d1 _;have:its=its':=by simpa using congrArg Array.toList d1
 subst this;exact r.inj r'
end
noncomputable abbrev Cx.wish (X:Cx) (E:zn):Cx:={ X with xe:=E }
noncomputable abbrev Cx.nox (X:Cx):Cx:=X.wish fun _ _=>False
theorem Cx.Ok.wish (ok:X.Ok) (E:zn):(X.wish E).Ok :=
 ⟨ok.mod,ok.kind,ok.glob,ok.blt,ok.above,ok.inj,ok.has,ok.cab,ok.hd,ok.frames,ok.stk,ok.exf,ok.bs,ok.bsz,ok.noex,ok.exfs,ok.funs,ok.frf,ok.tab⟩
theorem Cx.Ok.unwish (ok:(X.wish E).Ok):X.Ok :=
 ⟨ok.mod,ok.kind,ok.glob,ok.blt,ok.above,ok.inj,ok.has,ok.cab,ok.hd,ok.frames,ok.stk,ok.exf,ok.bs,ok.bsz,ok.noex,ok.exfs,ok.funs,ok.frf,ok.tab⟩
section
variable {X:Cx}{pins:w4}{σ:St}{H:Hp}{s:Shared}{E:zn}
theorem Inv.wish (I:Inv X pins σ H s) (E:zn):Inv (X.wish E) pins σ H s:=⟨I.ok.wish E,I.os,I.bare,I.base,I.loc,I.cell,I.free,I.freeC,I.pin,I.hok,I.len⟩
theorem Inv.unwish (I:Inv (X.wish E) pins σ H s):Inv X pins σ H s:=⟨I.ok.unwish,I.os,I.bare,I.base,I.loc,I.cell,I.free,I.freeC,I.pin,I.hok,I.len⟩
theorem SP.unwish {D:Ends}{f:Flow} (h:SP (X.wish E) pins D f s'):SP X pins D f s':=by
 cases f with
 | next=>obtain ⟨σ',H',I,q⟩:=h;exact ⟨σ',H',I.unwish,q⟩
 | brk=>obtain ⟨σ',H',I,q⟩:=h;exact ⟨σ',H',I.unwish,q⟩
 | cont=>obtain ⟨σ',H',I,q⟩:=h;exact ⟨σ',H',I.unwish,q⟩
 | ret u=>obtain ⟨v,σ',H',I,r,q⟩:=h;exact ⟨v,σ',H',I.unwish,r,q⟩
theorem PSs.nox {st:vi}{t:TS} (h:PSs X.nox st t):PSs X st t:=fun pins s σ H D I hw =>
 wpAny_mono (h pins s σ H D (I.wish _) hw) (fun _ _ q=>q.unwish) fun _ _ z=>jb z
end
variable {c:Expr}{tc:TT}
section
variable {X:Cx}{st:Stmt}{rest:vi}{t u:TS}{e:Expr}{te:TE}{pos:Pos}
def abO:TS:=fun D σ H=>D.nx σ H
def acI (t u:TS):TS:=fun D σ H=>t { D with nx:=u D } σ H
theorem Dr:PSs X [] abO:=fun _ _ σ H _ I h=>wpAny_execs_nil ⟨σ,H,I,h⟩
def tO (h1:PS X st t) (h2:PSs X rest u):PSs X (st::rest) (acI t u):=by
 intro pins s σ H D I h;refine wpAny_execs_cons (thn (h1 pins s σ H { D with nx:=u D } I h) fun f s1 q=>?_);cases f with
 | next =>
  obtain ⟨σ',H',I',q⟩:=q;exact h2 pins s1 σ' H' D I' q
 | ret v=>exact q
 | brk=>exact q
 | cont=>exact q
def CT (h1:PS X st t):PSs X [st] t:=by
 intro pins s σ H D I h;refine wpAny_execs_cons (thn (h1 pins s σ H D I h) fun f s1 q=>?_);cases f with
 | next=>exact wpAny_execs_nil q
 | ret v=>exact q
 | brk=>exact q
 | cont=>exact q
theorem Inv.quiet (I:Inv X pins σ H s):interactive X.env=false:=by simp [interactive,I.ok.kind]
def aci (te:TE):TS:=fun D σ H=>te σ H fun _ H1=>D.nx σ H1
def lB (he:PE X e te) (hs:swapsWith e none pos.line X.env=pure false:=by rfl):PS X (.Expr e pos) (aci te):=by
 intro pins s σ H D I h;exact wpAny_Expr_any (thn (he pins s σ H _ I h) fun v s1 ⟨x,H1,I1,r1,q1⟩=>⟨σ,H1,I1,q1⟩) I.quiet hs
def acN (te:TE):TS:=fun D σ H=>te σ H D.rt
def QK (he:PE X e te):PS X (.Return (some e) pos) (acN te):=by
 intro pins s σ H D I h;exact wpAny_Return_some (thn (he pins s σ H _ I h) fun v s1 ⟨x,H1,I1,r1,q1⟩=>⟨x,σ,H1,I1,r1,q1⟩)
def abv:TS:=fun D _ H=>D.rt .non H
theorem YJ:PS X (.Return none pos) abv:=fun _ _ σ H _ I h=>wpAny_Return_none ⟨.non,σ,H,I,rfl,h⟩
def acG (c:TT) (t u:TS):TS:=fun D σ H=>c σ H fun b H1=>if b=true then t D σ H1 else u D σ H1
def WM {a b:vi} (hc:PT X c tc) (ha:PSs X a t) (hb:PSs X b u):PS X (.If c a b pos) (acG tc t u):=by
 intro pins s σ H D I h;refine wpAny_If (thn (hc pins s σ H _ I h) fun d s1 ⟨H1,I1,q1⟩=>?_);cases d with
 | true=>exact ha pins s1 σ H1 D I1 q1
 | false=>exact hb pins s1 σ H1 D I1 q1
def JF:TS:=fun _ _ _=>False
theorem Uz:PS X st JF:=fun _ _ _ _ _ _ h=>h.elim
theorem Ei {sts:vi}:PSs X sts JF:=fun _ _ _ _ _ _ h=>h.elim
end
abbrev TG:=V->St->Hp->(St->Hp->Prop)->Prop
abbrev TGs:=List V->St->Hp->(St->Hp->Prop)->Prop
def PG (X:Cx) (target:Expr) (t:TG):Prop :=
 ∀ (pins:w4) (s:Shared) (σ:St) (H:Hp) (v:V) (u:Value) (Q:St->Hp->Prop),Inv X pins σ H s->RelV v u->t v σ H Q ->
  wpAny (model X.prog X.w) X.A (assign target X.env u) (fun _ s'=>∃ σ' H',Inv X pins σ' H' s'/\Q σ' H') X.xe s
def PGs (X:Cx) (ts:ve) (t:TGs):Prop :=
 ∀ (pins:w4) (s:Shared) (σ:St) (H:Hp) (vs:List V) (us:zw) (Q:St->Hp->Prop),Inv X pins σ H s->Vals vs us->t vs σ H Q ->
  wpAny (model X.prog X.w) X.A (assignInOrder ((assignEach ts X.env).map (·.2)) us) (fun _ s'=>∃ σ' H',Inv X pins σ' H' s'/\Q σ' H') X.xe s
abbrev Nv:=V->V->V->Hp->(Hp->Prop)->Prop
def Pn (X:Cx) (t:Nv):Prop :=
 ∀ (pins:w4) (s:Shared) (σ:St) (H:Hp) (o i v:V) (ov iv u:Value) (Q:Hp->Prop),Inv X pins σ H s->RelV o ov->RelV i iv->RelV v u->t o i v H Q ->
  wpAny (model X.prog X.w) X.A (setItem ov iv u) (fun _ s'=>∃ H',Inv X pins σ H' s'/\Q H') X.xe s
variable {es:ve}{k n:Nat}{tg:Expr}{g:TG}
section
variable {X:Cx}{pos:Pos}
def Cv (i:Nat):TG:=fun v σ H Q=>Q (σ.set i (some v)) H
def CN (hN:X.N.Nodup) (hi:X.N[i]?=some x) (hx:Loc X.env.scope x) (hf:X.fn x=true\/X.env.scope.names.lookup x=some .local:=by first | exact .inl rfl | exact .inr rfl | assumption):PG X (.Name x pos) (Cv i):=by
 intro pins s σ H v u Q I r h;exact wpAny_assign_Name (Wd I hN hi hx r (fun s' I'=>⟨_,H,I',h⟩) hf)
def aas:TGs:=fun vs σ H Q=>vs=[]/\Q σ H
def Oz (t:TG) (u:TGs):TGs:=fun vs σ H Q=>∃ v r,vs=v::r/\t v σ H fun σ' H'=>u r σ' H' Q
def YT:PGs X [] aas:=by
 intro pins s σ H vs us Q I r h;obtain ⟨e,h⟩:=h;subst e;cases r;exact assignInOrder_nil ⟨σ,H,I,h⟩
def JN {t:TG}{u:TGs} (h1:PG X e t) (h2:PGs X es u)
  (hs:(assignEach (e::es) X.env).map (·.2)=assign e X.env::(assignEach es X.env).map (·.2):=by rfl):PGs X (e::es) (Oz t u):=by
 intro pins s σ H vs us Q I r h;obtain ⟨v,vr,e1,h⟩:=h;subst e1;cases r with
 | cons r rr =>
  rw [hs];refine assignInOrder_cons (thn (h1 pins s σ H _ _ _ I r h) fun _ s1 ⟨σ1,H1,I1,q1⟩=>?_);exact h2 pins s1 σ1 H1 _ _ Q I1 rr q1
def aaj (K:zt) (n:Nat) (t:TGs):TG:=fun v σ H Q=>∃ a xs,v=.ref a/\SqT K H a xs/\xs.length=n/\t xs σ H Q
def ZV {t:TGs} (hc:X.calm=true) (h:PGs X es t)
  (hn:(assignEach es X.env).length=n:=by rfl) (hst:(assignEach es X.env).findIdx? (·.1)=none:=by rfl):PG X (.Tuple es k pos) (aaj X.K n t):=by
 intro pins s σ H v u Q I r hw;obtain ⟨a,xs,e1,hq,hl,hw⟩:=hw;subst e1;cases r;obtain ⟨its,rv,ht,hz⟩:=I.tuple hq;refine assign_Tuple_tuple (I.ok.hd hc) ht (by simp [hn,<- hl,rv.length]) hst fun h' hx=>?_
 have I1:Inv X pins σ H { s with heap:=h' }:=I.kept (t':=s.toks) fun b o e=>hx b o (ya (v4 e)) e
 exact h pins _ σ H xs _ Q I1 (by simpa using rv) hw
def acq (to ti:TE) (t:Nv):TG:=fun v σ H Q=>to σ H fun o H1=>ti σ H1 fun i H2=>t o i v H2 fun H3=>Q σ H3
def aaZ {o i:Expr}{to ti:TE}{t:Nv} (ho:PE X o to) (hi:PE X i ti) (hs:Pn X t)
  (ha:∀ v,assign (.Subscript o i pos) X.env v=(do
   let ov <- holding [v] (eval o X.env)
   let iv <- holding [v,ov] (eval i X.env)
   standAt pos
   holding [v,ov,iv] (setItem ov iv v)
   release [v,ov,iv] []):=by intro _;rfl):PG X (.Subscript o i pos) (acq to ti t):=by
 intro pins s σ H v u Q I r h;rw [ha];refine vx (wpAny_holding (thn (ho pins s σ H _ I h) fun ov s1 ⟨x,H1,I1,r1,q1⟩=>?_));refine vx (wpAny_holding (thn (hi pins s1 σ H1 _ I1 q1) fun iv s2 ⟨y,H2,I2,r2,q2⟩=>?_));refine vx (wpAny_standAt (vx (wpAny_holding (thn (hs pins s2 σ H2 x y v ov iv u _ I2 r1 r2 r q2) fun _ s3 ⟨H3,I3,q3⟩=>?_))));exact wpAny_release ⟨σ,H3,I3,q3⟩
def V3 (te:TE) (g:TG):TS:=fun D σ H=>te σ H fun x H1=>g x σ H1 D.nx
def jA {te:TE} (he:PE X e te) (hg:PG X tg g) (hs:swapsWithSole [tg] e pos.line X.env=pure false:=by rfl) (hw:swappedStores [tg] e X.env=pure none:=by rfl)
  (h1:(assignEach [tg] X.env).map (·.2)=[assign tg X.env]:=by rfl):PS X (.Assign [tg] e pos) (V3 te g):=by
 intro pins s σ H D I h;refine wpAny_Assign_stores (thn (he pins s σ H _ I h) fun v s1 ⟨x,H1,I1,r1,q1⟩=>?_) hs hw;rw [h1];exact thn (hg pins s1 σ H1 x v _ I1 r1 q1) fun _ s2 q=>q
end
variable {body:vi}{tb:TS}
section
variable {X:Cx}{pos:Pos}
def ZP (c:TT) (tb:TS):TS:=fun D σ H=>∃ W:Nat->St->Hp->Prop,(∃ m,W m σ H)/\∀ m σ H,W m σ H ->
 c σ H fun b H1=>if b=true then ∃ N:St->Hp->Prop,(∀ σ' H',N σ' H'->∃ m',m' < m/\W m' σ' H')/\tb { D with nx:=N,ct:=N,bk:=D.nx } σ H1 else D.nx σ H1
def T4 (hp:PassesOwn (model X.prog X.w) X.A X.env X.xe) (hc:PT X c tc) (hb:PSs X body tb):PS X (.While c body [] pos) (ZP tc tb):=by
 intro pins s σ H D I h;obtain ⟨W,⟨m0,w0⟩,turn⟩:=h;refine wpAny_While (codeAny_whileLoop (fun n s'=>∃ σ' H',Inv X pins σ' H' s'/\W n σ' H') ?_ m0 ⟨σ,H,I,w0⟩);rintro n s1 ⟨σ1,H1,I1,w1⟩;refine wpAny_passesOwn hp (thn (hc pins s1 σ1 H1 _ I1 (turn n σ1 H1 w1)) fun b s2 ⟨H2,I2,q2⟩=>?_);cases b with
 | true =>
  obtain ⟨N,hN,q2⟩:=q2;rw [if_pos rfl];refine wpAny_passesOwn hp (thn (hb pins s2 σ1 H2 _ I2 q2) fun f s3 q3=>?_);cases f with
  | next =>
   obtain ⟨σ3,H3,I3,n3⟩:=q3;obtain ⟨m',hm,w3⟩:=hN σ3 H3 n3;exact ⟨m',hm,σ3,H3,I3,w3⟩
  | cont =>
   obtain ⟨σ3,H3,I3,n3⟩:=q3;obtain ⟨m',hm,w3⟩:=hN σ3 H3 n3;exact ⟨m',hm,σ3,H3,I3,w3⟩
  | brk=>exact q3
  | ret v=>exact q3
 | false =>
  rw [if_neg Bool.false_ne_true];exact wpAny_execs_nil ⟨σ1,H2,I2,q2⟩
end
structure It where
 go:Nat->Hp->Prop
 yld:Nat->Hp->V->Hp->Prop
 stop:Nat->Hp->Prop
def iQ (X:Cx) (pins:w4) (H:Hp) (b:Addr):Prop :=
 H b=none/\b≠X.env.locals/\b ∉ X.fs/\(b∈X.ex\/X.s₀.heap.objs.size<=b)/\(∀ x c,X.env.cells.lookup x=some c->c≠b)/\∀ p∈X.pn++pins,p.1≠b
theorem Inv.fpOk (I:Inv X pins σ H s) (hb:s.heap.objs.size<=b) (hn:H' b=none):iQ X pins H' b:=by
 refine ⟨hn,yb (yi I.lt hb),I.nofs hb,.inr (ye I.sz hb),fun x c e z=>?_,fun p hp z=>?_⟩
 .obtain ⟨v,q⟩:=I.cell x c e;exact absurd (yi q.lt (by rw [z];exact hb)) (yy _)
 .exact absurd (yi (v4 (I.pin p hp).1) (by rw [z];exact hb)) (yy _)
structure Turn (P:Program) (w:World) (K:zt) (tg:Expr) (J:It) (fp:List Addr) (it:Addr) (tn:Nat->Heap->Prop):Prop where
 mem:it∈fp
 obj:∀ i h,tn i h->∀ b∈fp,∃ o,h.get? b=some o/\∀ v,o.data≠.cell v
 keep:∀ i h h',tn i h->(∀ b∈fp,∀ o,h.get? b=some o->h'.get? b=some o)->tn i h'
 item:∀ (X:Cx),X.prog=P->X.w=w->X.K=K->X.calm=true->∀ (i:Nat) (pins:w4) (s:Shared) (σ:St) (H:Hp) (E:zn),Inv X pins σ H s->(∀ b∈fp,iQ X pins H b)->tn i s.heap->J.go i H ->
  wpAny (model P w) X.A (pyNext (.ref it)) (fun r s1=>∃ u,r=some u /\
   wpAny (model P w) X.A (letOwnedTupleGo tg (.ref it) u) (fun _ s2=>∃ x H',Inv X pins σ H' s2/\RelV x u/\J.yld i H x H'/\tn (i+1) s2.heap/\∀ b∈fp,H' b=none) E s1) E s
 done:∀ (X:Cx),X.prog=P->X.w=w->X.K=K->X.calm=true->∀ (i:Nat) (pins:w4) (s:Shared) (σ:St) (H:Hp) (E:zn),Inv X pins σ H s->(∀ b∈fp,iQ X pins H b)->tn i s.heap->J.stop i H ->
  wpAny (model P w) X.A (pyNext (.ref it)) (fun r s1=>r=none/\Inv X pins σ H s1) E s
 self:∀ (A:Around) (i:Nat) (s:Shared) (Q:zn) (E:zn),tn i s.heap->Q (.ref it) s->wpAny (model P w) A (pyIter (.ref it)) Q E s
abbrev TI:=St->Hp->(It->Hp->Prop)->Prop
def PIE (X:Cx) (pins:w4) (σ:St) (tg:Expr) (R:It->Hp->Prop) (itv:Value) (s2:Shared):Prop :=
 ∃ (it:Addr) (fp:List Addr) (tn:Nat->Heap->Prop) (J:It) (H':Hp),itv=.ref it/\Inv X pins σ H' s2/\Turn X.prog X.w X.K tg J fp it tn/\tn 0 s2.heap/\(∀ b∈fp,iQ X pins H' b)/\R J H'
def PI (X:Cx) (tg iter:Expr) (wi:TI):Prop :=
 ∀ (pins:w4) (s:Shared) (σ:St) (H:Hp) (R:It->Hp->Prop),Inv X pins σ H s->wi σ H R ->
  wpAny (model X.prog X.w) X.A (eval iter X.env) (fun v s1=>wpAny (model X.prog X.w) X.A (pyIter v) (PIE X pins σ tg R) X.xe s1) X.xe s
def Bd {M:Model}{o:Obj}{n:String}{vs:vj} (ho:s.heap.get? it=some o) (hc:o.cls=.type n) (hd:o.data=.fields vs)
  (hn:["enumerate","zip","dict_itemiterator","dict_reverseitemiterator","odict_iterator","itertools.zip_longest","itertools.pairwise"].contains n=false) (hQ:Q () s):wpAny M A (letOwnedTupleGo tg (.ref it) u) Q E s:=by
 unfold letOwnedTupleGo;cases tg <;> first
  | exact vy hQ
  | (cases u <;> first
    | exact vy hQ
    | (refine vx (wpAny_load ho ?_)
       rw [hc,hd];show wpAny M A (if (["enumerate","zip","dict_itemiterator","dict_reverseitemiterator","odict_iterator","itertools.zip_longest","itertools.pairwise"].contains n && vs[0]? == some (rawInt _))=true then _ else _) Q E s
       rw [if_neg (by intro h;rw [hn,Bool.false_and] at h;cases h)];exact vy hQ))
noncomputable def Itl (K:zt) (a:Addr):It :=
 ⟨fun i H=>∃ xs x,SqL K H a xs/\xs[i]?=some x,fun i H x H'=>H'=H/\∀ xs,SqL K H a xs->xs[i]?=some x,fun i H=>∃ xs,SqL K H a xs/\xs.length<=i⟩
noncomputable def Itt (K:zt) (a:Addr):It :=
 ⟨fun i H=>∃ xs x,SqT K H a xs/\xs[i]?=some x,fun i H x H'=>H'=H/\∀ xs,SqT K H a xs->xs[i]?=some x,fun i H=>∃ xs,SqT K H a xs/\xs.length<=i⟩
noncomputable def Itr (lo:Int) (n:Nat):It:=⟨fun i _=>i < n,fun i H x H'=>H'=H/\x=.int (lo+i),fun i _=>n<=i⟩
def S7 (a it:Addr):Turn P w K tg (Itl K a) [it] it (fun i h=>h.IsListIter it a i) where
 mem:=by simp
 obj:=fun i h st b hb=>by
  have e:b=it:=by simpa using hb
  subst e;obtain ⟨o,e,c,d⟩:=st;exact ⟨o,e,fun v z=>by rw [d] at z;cases z⟩
 keep:=fun i h h' st k=>st.at fun o e=>k it (by simp) o e
 item:=by
  intro X hP hw hK hc i pins s σ H E I hf st hg;subst hP hw hK;obtain ⟨xs,x,hq,hx⟩:=hg;obtain ⟨its,rv,p,hz⟩:=I.list hq;obtain ⟨u,hu,ru⟩:=rv.get hx;obtain ⟨f0,f1,f2,f3,f4,f5⟩:=hf it (by simp);refine wpAny_pyNext_list_item st p.isList (x:=u) (by simpa using hu) fun h' st' sb=>?_
  have I1:Inv X pins σ H { s with heap:=h' }:=I.turned (t':=s.toks) (fun b o hb e=>(sb.2 b hb).trans e) f0 f1 f3 f4 f5;obtain ⟨o,e,c,d⟩:=id st';exact ⟨u,rfl,Bd (s:={ s with heap:=h' }) e c d (by decide) ⟨x,H,I1,ru,⟨rfl,fun ys hy=>by rw [I.list_inj hy hq];exact hx⟩,st',fun b hb=>(hf b hb).1⟩⟩
 done:=by
  intro X hP hw hK hc i pins s σ H E I hf st hg;subst hP hw hK;obtain ⟨xs,hq,hx⟩:=hg;obtain ⟨its,rv,p,hz⟩:=I.list hq;obtain ⟨f0,f1,f2,f3,f4,f5⟩:=hf it (by simp);have hl:=rv.length;exact wpAny_pyNext_list_end (I.ok.hd hc) st p.isList (by simp;omega) fun h' eb=>⟨rfl,I.turned (t':=s.toks) (fun b o hb e=>eb b o hb e) f0 f1 f3 f4 f5⟩
 self:=fun _ _ _ _ _ st h=>wpAny_pyIter_listiter st h
def Ph (a it:Addr):Turn P w K tg (Itt K a) [it] it (fun i h=>h.IsTupleIter it a i) where
 mem:=by simp
 obj:=fun i h st b hb=>by
  have e:b=it:=by simpa using hb
  subst e;obtain ⟨o,e,c,d⟩:=st;exact ⟨o,e,fun v z=>by rw [d] at z;cases z⟩
 keep:=fun i h h' st k=>st.at fun o e=>k it (by simp) o e
 item:=by
  intro X hP hw hK hc i pins s σ H E I hf st hg;subst hP hw hK;obtain ⟨xs,x,hq,hx⟩:=hg;obtain ⟨its,rv,p,hz⟩:=I.tuple hq;obtain ⟨u,hu,ru⟩:=rv.get hx;obtain ⟨f0,f1,f2,f3,f4,f5⟩:=hf it (by simp);refine wpAny_pyNext_tuple_item st (show s.heap.IsTuple a its.toArray from p) (x:=u) (by simpa using hu) fun h' st' sb=>?_
  have I1:Inv X pins σ H { s with heap:=h' }:=I.turned (t':=s.toks) (fun b o hb e=>(sb.2 b hb).trans e) f0 f1 f3 f4 f5;obtain ⟨o,e,c,d⟩:=id st';exact ⟨u,rfl,Bd (s:={ s with heap:=h' }) e c d (by decide) ⟨x,H,I1,ru,⟨rfl,fun ys hy=>by rw [I.tuple_inj hy hq];exact hx⟩,st',fun b hb=>(hf b hb).1⟩⟩
 done:=by
  intro X hP hw hK hc i pins s σ H E I hf st hg;subst hP hw hK;obtain ⟨xs,hq,hx⟩:=hg;obtain ⟨its,rv,p,hz⟩:=I.tuple hq;obtain ⟨f0,f1,f2,f3,f4,f5⟩:=hf it (by simp);have hl:=rv.length;exact wpAny_pyNext_tuple_end (I.ok.hd hc) st (show s.heap.IsTuple a its.toArray from p) (by simp;omega) fun h' eb=>⟨rfl,I.turned (t':=s.toks) (fun b o hb e=>eb b o hb e) f0 f1 f3 f4 f5⟩
 self:=fun _ _ _ _ _ st h=>wpAny_pyIter_tupleiter st h
def Py (it:Addr) (lo:Int) (n:Nat):Turn P w K tg (Itr lo n) [it] it (fun i h=>IsRangeIter h it (lo+(i:Nat) * 1) ((n:Int) - (i:Nat)) 1) where
 mem:=by simp
 obj:=fun i h st b hb=>by
  have e:b=it:=by simpa using hb
  subst e;exact ⟨_,st,fun v z=>by
   have z':Data.fields _=Data.cell v:=z;cases z'⟩
 keep:=fun i h h' st k=>k it (by simp) _ st
 item:=by
  intro X hP hw hK hc i pins s σ H E I hf st hg;subst hP hw hK;obtain ⟨f0,f1,f2,f3,f4,f5⟩:=hf it (by simp);have W:=Walks.range (prog:=X.prog) (w:=X.w) (I.ok.hd hc) it lo 1 n;refine W.item i s _ _ hg st fun v h' tk hv st' kk=>?_
  obtain ⟨t,rfl⟩:=hv;have I1:Inv X pins σ H { s with heap:=h',toks:=tk }:=I.turned (fun b o hb e=>kk b o (by simpa using hb) e) f0 f1 f3 f4 f5;refine ⟨_,rfl,Bd (s:={ s with heap:=h',toks:=tk }) (n:="range_iterator") st' rfl rfl (by decide) ⟨.int (lo+i),H,I1,⟨t,?_⟩,⟨rfl,rfl⟩,st',fun b hb=>(hf b hb).1⟩⟩
  rw [Int.mul_one]
 done:=by
  intro X hP hw hK hc i pins s σ H E I hf st hg;subst hP hw hK;obtain ⟨f0,f1,f2,f3,f4,f5⟩:=hf it (by simp);exact wpAny_pyNext_range_end (I.ok.hd hc) st (by have:n<=i:=hg;omega) fun h' eb=>⟨rfl,I.turned (t':=s.toks) (fun b o hb e=>eb b o hb e) f0 f1 f3 f4 f5⟩
 self:=fun _ _ _ _ _ st h=>wpAny_pyIter_rangeiter st h
variable {l:Expr}{tl:TE}{ta:TA}{p:Pos}{fp:List Addr}
section
variable {X:Cx}{tg:Expr}
def abU (K:zt) (tl:TE):TI:=fun σ H R=>tl σ H fun x H1=>∃ a,x=.ref a/\(∃ xs,SqL K H1 a xs)/\R (Itl K a) H1
def acS (K:zt) (tl:TE):TI:=fun σ H R=>tl σ H fun x H1=>∃ a,x=.ref a/\(∃ xs,SqT K H1 a xs)/\R (Itt K a) H1
def Xe (hl:PE X l tl):PI X tg l (abU X.K tl):=by
 intro pins s σ H R I h;refine thn (hl pins s σ H _ I h) fun v s1 ⟨x,H1,I1,r1,q1⟩=>?_
 obtain ⟨a,e,⟨xs,hq⟩,q⟩:=q1;subst e;cases r1;obtain ⟨its,rv,p,hz⟩:=I1.list hq;refine wpAny_pyIter_list p.isList ?_;refine ⟨s1.heap.objs.size,[s1.heap.objs.size],_,_,H1,rfl,I1.kept (t':=s1.toks) fun b o e=>vT _ e,S7 a _,⟨_,v3 _ rfl,rfl,rfl⟩,fun b hb=>?_,q⟩;have e:b=s1.heap.objs.size:=by simpa using hb
 subst e;exact I1.fpOk (v6 _) (I1.hok.fresh (v6 _))
def aak (hl:PE X l tl):PI X tg l (acS X.K tl):=by
 intro pins s σ H R I h;refine thn (hl pins s σ H _ I h) fun v s1 ⟨x,H1,I1,r1,q1⟩=>?_
 obtain ⟨a,e,⟨xs,hq⟩,q⟩:=q1;subst e;cases r1;obtain ⟨its,rv,p,hz⟩:=I1.tuple hq;refine wpAny_pyIter_tuple (show s1.heap.IsTuple a its.toArray from p) ?_;refine ⟨s1.heap.objs.size,[s1.heap.objs.size],_,_,H1,rfl,I1.kept (t':=s1.toks) fun b o e=>vT _ e,Ph a _,⟨_,v3 _ rfl,rfl,rfl⟩,fun b hb=>?_,q⟩;have e:b=s1.heap.objs.size:=by simpa using hb
 subst e;exact I1.fpOk (v6 _) (I1.hok.fresh (v6 _))
def Jk {R:It->Hp->Prop}{lo hi:Int}{t u v:Tok}{tk:Nat} (I:Inv X pins σ H s) (h1:-(2 ^ 62)<=lo) (h2:lo < 2 ^ 62) (h3:-(2 ^ 62)<=hi) (h4:hi < 2 ^ 62)
  (q:R (Itr lo (hi - lo).toNat) H):wpAny (model X.prog X.w) X.A (pyIter (.ref s.heap.objs.size)) (PIE X pins σ tg R) E { s with heap:=s.heap.push { cls:=.type "range",data:=.fields #[.int lo t,.int hi u,.int 1 v] },toks:=tk }:=by
 refine wpAny_pyIter_range (IsRange.new ..) (small_one h1 h2 h3 h4) ?_;have I1:Inv X pins σ H { s with heap:=s.heap.push { cls:=.type "range",data:=.fields #[.int lo t,.int hi u,.int 1 v] },toks:=tk }:=I.kept fun b o e=>vT _ e
 refine ⟨(s.heap.push { cls:=.type "range",data:=.fields #[.int lo t,.int hi u,.int 1 v] }).objs.size,[(s.heap.push { cls:=.type "range",data:=.fields #[.int lo t,.int hi u,.int 1 v] }).objs.size],_,_,H,rfl,
  I1.kept (t':=tk) fun b o e=>vT _ e,Py _ lo (hi - lo).toNat,?_,fun b hb=>?_,q⟩
 .have e1:lo+((0:Nat):Int) * 1=lo:=by simp
  have e2:(((hi - lo).toNat:Nat):Int) - ((0:Nat):Int)=Builtin.Range.rangeSize lo hi 1:=by rw [rangeSize_one];split <;> omega
  show IsRangeIter _ _ (lo+((0:Nat):Int) * 1) ((((hi - lo).toNat:Nat):Int) - ((0:Nat):Int)) 1
  rw [e1,e2];exact v3 _ rfl
 .have e:b=(s.heap.push { cls:=.type "range",data:=.fields #[.int lo t,.int hi u,.int 1 v] }).objs.size:=by simpa using hb
  subst e;exact I1.fpOk (v6 _) (I1.hok.fresh (v6 _))
def abC (ta:TA):TI:=fun σ H R=>ta σ H fun vs H1=>∃ j:Int,vs=[.int j]/\-(2 ^ 62)<=j/\j < 2 ^ 62/\R (Itr 0 j.toNat) H1
def abV (ta:TA):TI:=fun σ H R=>ta σ H fun vs H1=>∃ i j:Int,vs=[.int i,.int j]/\(-(2 ^ 62)<=i/\i < 2 ^ 62/\-(2 ^ 62)<=j/\j < 2 ^ 62)/\R (Itr i (j - i).toNat) H1
def R9 {a:Expr} (hg:Gl X "range") (hm:X.mg "range"=none) (ha:PA X [a] ta) (hs:starEach [a] X.env=[(false,eval a X.env)]:=by rfl):PI X tg (.Call (.Name "range" p) [a] [] pos) (abC ta):=by
 intro pins s σ H R I h;refine Call_ (fX I hg hm boot_range (y6 (thn (ha pos pins s σ H _ I h) fun us s1 ⟨vs,H1,I1,r1,q1⟩=>?_) hs rfl));obtain ⟨j,e,q1,q2,q⟩:=q1;subst e;cases r1 with
 | cons r rr =>
  cases rr;obtain ⟨t,rfl⟩:=r;exact call_range_1 (Jk I1 (by omega) (by omega) q1 q2 (by simpa using q))
def QB {a b:Expr} (hg:Gl X "range") (hm:X.mg "range"=none) (ha:PA X [a,b] ta) (hs:starEach [a,b] X.env=[(false,eval a X.env),(false,eval b X.env)]:=by rfl) (hs2:starEach [b] X.env=[(false,eval b X.env)]:=by rfl) :
  PI X tg (.Call (.Name "range" p) [a,b] [] pos) (abV ta):=by
 intro pins s σ H R I h;refine Call_ (fX I hg hm boot_range (y6 (thn (ha pos pins s σ H _ I h) fun us s1 ⟨vs,H1,I1,r1,q1⟩=>?_) (by rw [hs,hs2]) (by rw [hs2];rfl)));obtain ⟨i,j,e,⟨q1,q2,q3,q4⟩,q⟩:=q1;subst e;cases r1 with
 | cons r rr =>
  cases rr with
  | cons r' rr =>
   cases rr;obtain ⟨t,rfl⟩:=r;obtain ⟨t',rfl⟩:=r';exact call_range_2 (Jk I1 q1 q2 q3 q4 q)
def acw (wi:TI) (g:TG) (tb:TS):TS:=fun D σ H=>wi σ H fun J H1=>∃ W:Nat->Nat->St->Hp->Prop,(∃ m,W 0 m σ H1)/\∀ i m σ H,W i m σ H ->
 (J.stop i H/\D.nx σ H)\/(J.go i H/\∃ N:St->Hp->Prop,(∀ σ' H',N σ' H'->∃ m',m' < m/\W (i+1) m' σ' H')/\∀ x H',J.yld i H x H'->g x σ H' fun σ2 H2=>tb { D with nx:=N,ct:=N,bk:=D.nx } σ2 H2)
noncomputable def vZ (fp:List Addr) (h:Heap):w4:=fp.filterMap fun b=>(h.get? b).map fun o=>(b,o)
theorem nY {o:Obj} (hb:b∈fp) (e:h.get? b=some o):(b,o)∈vZ fp h:=List.mem_filterMap.mpr ⟨b,hb,by rw [e];rfl⟩
def Qm {p:Addr × Obj} (hp:p∈vZ fp h):p.1∈fp/\h.get? p.1=some p.2:=by
 obtain ⟨b,hb,e⟩:=List.mem_filterMap.mp hp;cases q:h.get? b with
 | none=>rw [q] at e;cases e
 | some o =>
  rw [q] at e;have e':(b,o)=p:=ja e;subst e';exact ⟨hb,q⟩
theorem Inv.pinned (I:Inv X pins σ H s) (hf:∀ b∈fp,iQ X pins H b) (ho:∀ b∈fp,∃ o,s.heap.get? b=some o/\∀ v,o.data≠.cell v):Inv X (pins++vZ fp s.heap) σ H s :=
 I.pins_of fun p hp=>(yc.mp hp).elim (fun z=>I.pin p (vS _ z)) fun z=>by
  obtain ⟨hb,e⟩:=Qm z;obtain ⟨f0,f1,f2,_⟩:=hf p.1 hb;obtain ⟨o,e',d⟩:=ho p.1 hb;rw [e] at e';cases e';exact ⟨e,f0,f1,f2,d⟩
theorem Inv.unpinned {pl:w4} (I:Inv X (pins++pl) σ H s):Inv X pins σ H s:=I.pins_of fun p hp=>I.pin p (vS _ (vF _ hp))
def QS {iter:Expr}{wi:TI} (hp:PassesOwn (model X.prog X.w) X.A X.env X.xe) (hc:X.calm=true) (hi:PI X tg iter wi) (hg:PG X tg g) (hb:PSs X body tb)
  (hs:∀ x,foldedSetIterable iter X.env x=pure x:=by intro _;rfl):PS X (.For tg iter body [] pos) (acw wi g tb):=by
 intro pins s σ H D I h;refine wpAny_For (thn (hi pins s σ H _ I h) fun v s1 h1=>thn h1 fun itv s2 h2=>?_) hs;obtain ⟨it,fp,tn,J,H2,e,I2,T,st2,f2,W,⟨m0,w0⟩,turn⟩:=h2;subst e;have stat:∀ {H':Hp},(∀ b∈fp,H' b=none)->∀ b∈fp,iQ X pins H' b:=fun hn b hb=>⟨hn b hb,(f2 b hb).2⟩
 refine codeAny_forLoop_any (fun n s'=>∃ i σ' H',Inv X pins σ' H' s'/\tn i s'.heap/\(∀ b∈fp,H' b=none)/\W i n σ' H') ?_ m0 ⟨0,σ,H2,I2,st2,fun b hb=>(f2 b hb).1,w0⟩;rintro n s3 ⟨i,σ3,H3,I3,st3,fr3,w3⟩;rcases turn i n σ3 H3 w3 with ⟨stop,qn⟩ | ⟨go,N,hN,step⟩
 .refine wpAny_passesOwn hp (thn (T.done X rfl rfl rfl hc i pins s3 σ3 H3 X.xe I3 (stat fr3) st3 stop) fun r s4 ⟨hr,I4⟩=>?_);subst hr;exact wpAny_execs_nil ⟨σ3,H3,I4,qn⟩
 .refine wpAny_passesOwn hp (thn (T.item X rfl rfl rfl hc i pins s3 σ3 H3 X.xe I3 (stat fr3) st3 go) fun r s4 ⟨u,hr,h4⟩=>?_);subst hr;refine wpAny_passesOwn hp (thn h4 fun _ s5 ⟨x,H5,I5,r5,y5,st5,fr5⟩=>?_);have I5':=I5.pinned (stat fr5) (T.obj _ _ st5);refine wpAny_passesOwn hp (thn (hg _ s5 σ3 H5 x u _ I5' r5 (step x H5 y5)) fun _ s6 ⟨σ6,H6,I6,q6⟩=>?_);refine wpAny_passesOwn hp (thn (hb _ s6 σ6 H6 _ I6 q6) fun f s7 q7=>?_);have again:∀ {σ7:St}{H7:Hp},Inv X (pins++vZ fp s5.heap) σ7 H7 s7->N σ7 H7->∃ m,m < n/\∃ i σ' H',Inv X pins σ' H' s7/\tn i s7.heap/\(∀ b∈fp,H' b=none)/\W i m σ' H':=fun {σ7 H7} I7 n7=>by
   obtain ⟨m',hm,w7⟩:=hN σ7 H7 n7;refine ⟨m',hm,i+1,σ7,H7,I7.unpinned,T.keep _ _ _ st5 fun b hb o e=>(I7.pin (b,o) (vS _ (vS _ (nY hb e)))).1,fun b hb=>?_,w7⟩;obtain ⟨o,e,d⟩:=T.obj _ _ st5 b hb;exact (I7.pin (b,o) (vS _ (vS _ (nY hb e)))).2.1
  cases f with
  | next=>obtain ⟨σ7,H7,I7,n7⟩:=q7;exact again I7 n7
  | cont=>obtain ⟨σ7,H7,I7,n7⟩:=q7;exact again I7 n7
  | brk=>obtain ⟨σ7,H7,I7,q7⟩:=q7;exact ⟨σ7,H7,I7.unpinned,q7⟩
  | ret v=>obtain ⟨x7,σ7,H7,I7,r7,q7⟩:=q7;exact ⟨x7,σ7,H7,I7.unpinned,r7,q7⟩
end
abbrev R2:=V->V->Hp->VK->Prop
def OpR (X:Cx) (f:Value->Value->Sem Value) (r:R2):Prop :=
 ∀ (pins:w4) (s:Shared) (σ:St) (H:Hp) (x y:V) (v u:Value) (Q:VK),Inv X pins σ H s->RelV x v->RelV y u->r x y H Q ->
  wpAny (model X.prog X.w) X.A (f v u) (EP X pins σ Q) X.xe s
def UnR (X:Cx) (f:Value->Sem Value) (r:V->Hp->VK->Prop):Prop :=
 ∀ (pins:w4) (s:Shared) (σ:St) (H:Hp) (x:V) (v:Value) (Q:VK),Inv X pins σ H s->RelV x v->r x H Q ->
  wpAny (model X.prog X.w) X.A (f v) (EP X pins σ Q) X.xe s
def gD (X:Cx) (f:Value) (r:List V->Hp->VK->Prop):Prop :=
 ∀ (pins:w4) (s:Shared) (σ:St) (H:Hp) (xs:List V) (us:zw) (Q:VK),Inv X pins σ H s->Vals xs us->r xs H Q ->
  wpAny (model X.prog X.w) X.A (call f us) (EP X pins σ Q) X.xe s
def acj (X:Cx) (r:V->Hp->(Bool->Hp->Prop)->Prop):Prop :=
 ∀ (pins:w4) (s:Shared) (σ:St) (H:Hp) (x:V) (v:Value) (Q:Bool->Hp->Prop),Inv X pins σ H s->RelV x v->r x H Q ->
  wpAny (model X.prog X.w) X.A (truthy v) (TP X pins σ Q) X.xe s
def tOp (r:R2) (ta tb:TE):TE:=fun σ H Q=>ta σ H fun x H1=>tb σ H1 fun y H2=>r x y H2 Q
def tUn (r:V->Hp->VK->Prop) (ta:TE):TE:=fun σ H Q=>ta σ H fun x H1=>r x H1 Q
def rI (C:Int->Int->Prop) (g:Int->Int->V):R2:=fun x y H Q=>∃ i j,x=.int i/\y=.int j/\C i j/\Q (g i j) H
def rI0 (g:Int->Int->V):R2:=fun x y H Q=>∃ i j,x=.int i/\y=.int j/\Q (g i j) H
def rU (g:Int->V):V->Hp->VK->Prop:=fun x H Q=>∃ i,x=.int i/\Q (g i) H
variable {f:Value->Value->Sem Value}{r:R2}
section
variable {X:Cx}{a b c:Expr}{ta tb tc:TE}{pos:Pos}
def V1 (ha:PE X a ta) (hb:PE X b tb) {R:V->V->Hp->Prop} (I:Inv X pins σ H s)
  (h:ta σ H fun x H1=>tb σ H1 fun y H2=>R x y H2) {Q:zn}
  (hf:∀ v u s2 x y H2,Inv X pins σ H2 s2->RelV x v->RelV y u->R x y H2->wpAny (model X.prog X.w) X.A (f v u) Q X.xe s2) :
  wpAny (model X.prog X.w) X.A (eval a X.env) (fun v s₁=>wpAny (model X.prog X.w) X.A (eval b X.env) (fun u s₂=>wpAny (model X.prog X.w) X.A (f v u) Q X.xe s₂) X.xe s₁) X.xe s:=by
 refine thn (ha pins s σ H _ I h) fun v s1 ⟨x,H1,I1,r1,q1⟩=>?_
 refine thn (hb pins s1 σ H1 _ I1 q1) fun u s2 ⟨y,H2,I2,r2,q2⟩=>?_
 exact hf v u s2 x y H2 I2 r1 r2 q2
def acd {op:Operator} (ho:OpR X (binaryOp op) r) (ha:PE X a ta) (hb:PE X b tb):PE X (.BinOp a op b pos) (tOp r ta tb):=by
 intro pins s σ H Q I h;exact wpAny_BinOp (V1 ha hb I h fun v u s2 x y H2 I2 rx ry q=>ho pins s2 σ H2 x y v u Q I2 rx ry q)
def W4 {op:UnaryOp}{r:V->Hp->VK->Prop} (ho:UnR X (unaryOp op) r) (ha:PE X a ta):PE X (.UnaryOp op a pos) (tUn r ta):=by
 intro pins s σ H Q I h;exact UnaryOp_ (thn (ha pins s σ H _ I h) fun v s1 ⟨x,H1,I1,r1,q1⟩=>ho pins s1 σ H1 x v Q I1 r1 q1)
def opI {C:Int->Int->Prop}{g:Int->Int->Int}
  (rule:∀ (i j:Int) (t u:Tok) (s:Shared) (Q:zn) (E:zn),C i j->Q (.int (g i j) s.toks) { s with toks:=s.toks+1 }->wpAny (model X.prog X.w) X.A (f (.int i t) (.int j u)) Q E s) :
  OpR X f (rI C fun i j=>.int (g i j)):=by
 intro pins s σ H x y v u Q I rx ry h;obtain ⟨i,j,rfl,rfl,hc,q⟩:=h;obtain ⟨t,rfl⟩:=rx;obtain ⟨t',rfl⟩:=ry;exact rule i j t t' s _ _ hc ⟨.int (g i j),H,I.tok _,⟨_,rfl⟩,q⟩
def ZM {g:Int->Int->Int}
  (rule:∀ (i j:Int) (t u:Tok) (s:Shared) (Q:zn) (E:zn),Q (.int (g i j) s.toks) { s with toks:=s.toks+1 }->wpAny (model X.prog X.w) X.A (f (.int i t) (.int j u)) Q E s) :
  OpR X f (rI0 fun i j=>.int (g i j)):=by
 intro pins s σ H x y v u Q I rx ry h;obtain ⟨i,j,rfl,rfl,q⟩:=h;obtain ⟨t,rfl⟩:=rx;obtain ⟨t',rfl⟩:=ry;exact rule i j t t' s _ _ ⟨.int (g i j),H,I.tok _,⟨_,rfl⟩,q⟩
def M5 {g:Int->Int->Bool}
  (rule:∀ (i j:Int) (t u:Tok) (s:Shared) (Q:zn) (E:zn),Q (.bool (g i j)) s->wpAny (model X.prog X.w) X.A (f (.int i t) (.int j u)) Q E s) :
  OpR X f (rI0 fun i j=>.bl (g i j)):=by
 intro pins s σ H x y v u Q I rx ry h;obtain ⟨i,j,rfl,rfl,q⟩:=h;obtain ⟨t,rfl⟩:=rx;obtain ⟨t',rfl⟩:=ry;exact rule i j t t' s _ _ ⟨.bl (g i j),H,I,rfl,q⟩
def Nx (i j:Int):Prop:=(-(2 ^ 64) < i/\i < 2 ^ 64)\/(-(2 ^ 64) < j/\j < 2 ^ 64)
theorem Nx.ok {i j:Int} (h:Nx i j):IntMulOk i j:=by
 rcases h with ⟨h1,h2⟩ | ⟨h1,h2⟩
 .exact .of_left (intBits_le_64 h1 h2)
 .exact .of_right (intBits_le_64 h1 h2)
theorem aaH:OpR X (binaryOp .Add) (rI0 fun i j=>.int (i+j)):=ZM fun _ _ _ _ _ _ _ q=>add_int q
theorem Z9:OpR X (binaryOp .Sub) (rI0 fun i j=>.int (i - j)):=ZM fun _ _ _ _ _ _ _ q=>sub_int q
theorem abp:OpR X (binaryOp .Mult) (rI Nx fun i j=>.int (i * j)):=opI fun _ _ _ _ _ _ _ hc q=>mul_int q hc.ok
theorem aal:OpR X (binaryOp .Mod) (rI (fun _ j=>0 < j) fun i j=>.int (i % j)):=opI fun i j _ _ _ _ _ hc q=>by
 have h1:(0:Int) < j:=hc;exact mod_int' (by omega) (by rw [Int.fmod_eq_emod_of_nonneg i (by omega)];exact q)
def unI {f:Value->Sem Value}{g:Int->Int}
  (rule:∀ (i:Int) (t:Tok) (s:Shared) (Q:zn) (E:zn),Q (.int (g i) s.toks) { s with toks:=s.toks+1 }->wpAny (model X.prog X.w) X.A (f (.int i t)) Q E s) :
  UnR X f (rU fun i=>.int (g i)):=by
 intro pins s σ H x v Q I rx h;obtain ⟨i,rfl,q⟩:=h;obtain ⟨t,rfl⟩:=rx;exact rule i t s _ _ ⟨.int (g i),H,I.tok _,⟨_,rfl⟩,q⟩
theorem QV:UnR X (unaryOp .USub) (rU fun i=>.int (-i)):=unI fun _ _ _ _ _ q=>neg_int q
end
variable {r':R2}{op':CmpOp}
section
variable {X:Cx}{a b c:Expr}{ta tb tc:TE}{pos:Pos}
theorem ab5:OpR X (compareOp .Lt) (rI0 fun i j=>.bl (decide (i < j))):=M5 fun _ _ _ _ _ _ _ q=>lt_int q
theorem acg:OpR X (compareOp .LtE) (rI0 fun i j=>.bl (decide (i<=j))):=M5 fun _ _ _ _ _ _ _ q=>le_int q
theorem ace:OpR X (compareOp .Gt) (rI0 fun i j=>.bl (decide (j < i))):=M5 fun _ _ _ _ _ _ _ q=>gt_int q
theorem abY:OpR X (compareOp .GtE) (rI0 fun i j=>.bl (decide (j<=i))):=M5 fun _ _ _ _ _ _ _ q=>ge_int q
theorem OpR.or (h:OpR X f r) (h':OpR X f r'):OpR X f (fun x y H Q=>r x y H Q\/r' x y H Q):=by
 intro pins s σ H x y v u Q I rx ry q;rcases q with q | q
 .exact h pins s σ H x y v u Q I rx ry q
 .exact h' pins s σ H x y v u Q I rx ry q
def Yn (ho:OpR X (compareOp op) r) (ha:PE X a ta) (hb:PE X b tb) (hm:behindInMarks op b=false):PE X (.Compare a [op] [b] pos) (tOp r ta tb):=by
 intro pins s σ H Q I h;exact wpAny_Compare1 (V1 ha hb I h fun v u s2 x y H2 I2 rx ry q=>ho pins s2 σ H2 x y v u Q I2 rx ry q) hm
def Wz (t:TE):TT:=fun σ H Q=>t σ H fun x H'=>∃ k,x=.bl k/\Q k H'
def Xj (ho:OpR X (compareOp op) r) (ha:PE X a ta) (hb:PE X b tb) (hm:behindInMarks op b=false):PT X (.Compare a [op] [b] pos) (Wz (tOp r ta tb)):=by
 intro pins s σ H Q I h;refine wpAny_isTrue_Compare1 (thn (ha pins s σ H _ I h) fun v s1 ⟨x,H1,I1,r1,q1⟩=>thn (hb pins s1 σ H1 _ I1 q1) fun u s2 ⟨y,H2,I2,r2,q2⟩ =>
  thn (ho pins s2 σ H2 x y v u _ I2 r1 r2 q2) fun c s3 ⟨z,H3,I3,r3,k,e,q3⟩=>?_) hm
 subst e;cases r3;exact y8 ⟨H3,I3,q3⟩
def HB (r r':R2) (ta tb tc:TE):TE:=fun σ H Q=>ta σ H fun x H1=>tb σ H1 fun y H2=>r x y H2 fun z H3=>∃ k,z=.bl k /\
 (if k=true then tc σ H3 fun w' H4=>r' y w' H4 Q else Q (.bl false) H3)
def Va (ho:OpR X (compareOp op) r) (ho':OpR X (compareOp op') r') (ha:PE X a ta) (hb:PE X b tb) (hc:PE X c tc)
  (hm:lastMarks [op,op'] [b,c]=false:=by with_unfolding_all rfl):PE X (.Compare a [op,op'] [b,c] pos) (HB r r' ta tb tc):=by
 intro pins s σ H Q I h;refine Compare_chain (thn (ha pins s σ H _ I h) fun v s1 ⟨x,H1,I1,r1,q1⟩=>chain_link (thn (hb pins s1 σ H1 _ I1 q1) fun u s2 ⟨y,H2,I2,r2,q2⟩ =>
  thn (ho pins s2 σ H2 x y v u _ I2 r1 r2 q2) fun d s3 ⟨z,H3,I3,r3,k,e,q3⟩=>?_)) hm
 subst e;cases r3;refine y8 ?_;cases k with
 | false=>exact ite_ff ⟨.bl false,H3,I3,rfl,q3⟩
 | true=>exact ite_tt (chain_last (thn (hc pins s3 σ H3 _ I3 q3) fun w' s4 ⟨z',H4,I4,r4,q4⟩=>ho' pins s4 σ H4 y z' u w' Q I4 r2 r4 q4))
def UJ (ho:OpR X (compareOp op) r) (ho':OpR X (compareOp op') r') (ha:PE X a ta) (hb:PE X b tb) (hc:PE X c tc)
  (hm:lastMarks [op,op'] [b,c]=false:=by with_unfolding_all rfl):PT X (.Compare a [op,op'] [b,c] pos) (Wz (HB r r' ta tb tc)):=by
 intro pins s σ H Q I h;refine isTrue_chain (thn (ha pins s σ H _ I h) fun v s1 ⟨x,H1,I1,r1,q1⟩=>test_link (thn (hb pins s1 σ H1 _ I1 q1) fun u s2 ⟨y,H2,I2,r2,q2⟩ =>
  thn (ho pins s2 σ H2 x y v u _ I2 r1 r2 q2) fun d s3 ⟨z,H3,I3,r3,k,e,q3⟩=>?_)) hm
 subst e;cases r3;refine y8 ?_;cases k with
 | false =>
  obtain ⟨k',e',q'⟩:=q3;cases e';exact ite_ff ⟨H3,I3,q'⟩
 | true =>
  refine ite_tt (test_last (thn (hc pins s3 σ H3 _ I3 q3) fun w' s4 ⟨z',H4,I4,r4,q4⟩=>thn (ho' pins s4 σ H4 y z' u w' _ I4 r2 r4 q4) fun d' s5 ⟨z2,H5,I5,r5,k2,e2,q5⟩=>?_));subst e2;cases r5;exact y8 ⟨H5,I5,q5⟩
def aa3 (K:zt) (x:V) (H:Hp) (k:Bool):Prop :=
 match x with
 | .non=>k=false
 | .bl b=>k=b
 | .int i=>k=(i != 0)
 | .str y=>y.length<=sizeLine/\k=((y.length:Int) != 0)
 | .byt y=>y.size<=sizeLine/\k=((y.size:Int) != 0)
 | .ref p=>(∃ xs,SqL K H p xs/\k=!xs.isEmpty)\/(∃ xs,SqT K H p xs/\k=!xs.isEmpty)\/∃ kvs,H p=some (.dK kvs)/\k=!kvs.isEmpty
 | _=>False
theorem OD {κ:Type}{kvs:List (κ × V)}{vs:List (κ × Value)} (r:KV kvs vs):(!vs.isEmpty)=!kvs.isEmpty:=by
 cases r <;> rfl
def Cw {its:zw} (r:Vals xs its):(!its.toArray.isEmpty)=!xs.isEmpty:=by
 cases r <;> simp
def tu:(sizeLine:Nat) < 2 ^ 63:=by rw [sizeLine_eq];decide
def aav:acj X (fun x H Q=>∃ k,aa3 X.K x H k/\Q k H):=by
 intro pins s σ H x v Q I rx h;obtain ⟨k,e,q⟩:=h;have hl:=tu;have hs:sizeLine=16777216:=sizeLine_eq;cases x with
 | non =>
  cases rx;have e':k=false:=e;subst e';exact truthy_none ⟨H,I,q⟩
 | bl b =>
  cases rx;have e':k=b:=e;subst e';exact y8 ⟨H,I,q⟩
 | int i =>
  obtain ⟨t,rfl⟩:=rx;have e':k=(i != 0):=e;subst e';exact PySem.P.truthy_int ⟨H,I,q⟩
 | str y =>
  obtain ⟨t,rfl⟩:=rx;obtain ⟨hy,e'⟩:y.length<=sizeLine/\k=((y.length:Int) != 0):=e;subst e';exact PySem.P.truthy_str (by omega) ⟨H,I.tok _,q⟩
 | byt y =>
  obtain ⟨t,rfl⟩:=rx;obtain ⟨hy,e'⟩:y.size<=sizeLine/\k=((y.size:Int) != 0):=e;subst e';exact PySem.W.truthy_bytes (by omega) ⟨H,I.tok _,q⟩
 | ref p =>
  cases rx;have e':(∃ xs,SqL X.K H p xs/\k=!xs.isEmpty)\/(∃ xs,SqT X.K H p xs/\k=!xs.isEmpty)\/∃ kvs,H p=some (.dK kvs)/\k=!kvs.isEmpty:=e;rcases e' with ⟨xs,hx,e'⟩ | ⟨xs,hx,e'⟩ | ⟨kvs,hx,e'⟩
  .subst e';obtain ⟨its,r,pl,hz⟩:=I.list hx;have hlen:=r.length;exact wpAny_truthy_list pl.isList (by simp only [List.size_toArray];omega) ⟨H,I.tok _,by rw [Cw r];exact q⟩
  .subst e';obtain ⟨its,r,pl,hz⟩:=I.tuple hx;have hlen:=r.length;exact truthy_tuple pl (by simp only [List.size_toArray];omega) ⟨H,I.tok _,by rw [Cw r];exact q⟩
  .subst e';obtain ⟨hz,hS,vs,r,m⟩:kvs.length<=sizeLine/\(p == sysModules)=false/\∃ vs,KV kvs vs/\s.heap.DictOf (CG X.prog X.w) p vs:=I.hok p _ hx;have hlen:kvs.length=vs.length:=Paired.length r;exact wpAny_truthy_dict hS m (by omega) ⟨H,I.tok _,by rw [OD r];exact q⟩
 | _=>exact (show False from e).elim
def Vz (ha:PE X a ta) (he:∀ whole,isTrue a X.env whole=(do let v <- whole;standAt a.pos;holding [v] (truthy v))) :
  PT X a (fun σ H Q=>ta σ H fun x H'=>∃ k,aa3 X.K x H' k/\Q k H'):=by
 intro pins s σ H Q I h;exact isTrue_plain (thn (ha pins s σ H _ I h) fun v s1 ⟨x,H1,I1,r1,q1⟩=>aav pins s1 σ H1 x v Q I1 r1 q1) (he _)
def vals1 {x:V} (r:Vals [x] us):∃ u,us=[u]/\RelV x u:=by
 cases r with
 | cons r1 r2=>cases r2;exact ⟨_,rfl,r1⟩
def vals2 {x:V} (r:Vals [x,y] us):∃ u w',us=[u,w']/\RelV x u/\RelV y w':=by
 cases r with
 | cons r1 r2 =>
  cases r2 with
  | cons r3 r4=>cases r4;exact ⟨_,_,rfl,r1,r3⟩
def Pz (hc:X.calm=true):gD X (.builtin "min") (fun xs H Q=>∃ i j,xs=[.int i,.int j] /\ Q (.int (if j < i then j else i)) H):=by
 intro pins s σ H xs us Q I r h;obtain ⟨i,j,rfl,q⟩:=h;obtain ⟨u,w',rfl,⟨t,rfl⟩,⟨t',rfl⟩⟩:=vals2 r;refine min_two_ints (I.ok.hd hc) fun h' tk k=>⟨_,H,I.kept k,?_,q⟩
 by_cases hj:j < i
 .rw [if_pos hj,if_pos hj];exact ⟨_,rfl⟩
 .rw [if_neg hj,if_neg hj];exact ⟨_,rfl⟩
end
structure ObjM (h:Heap) (x dx C:Addr) (mA:w8):Prop where
 obj:h.get? x=some (PySem.W.instObj C dx)
 ns:h.Ns1 dx mA
 ne:dx≠x
variable {dx:Addr}{mA:w8}
def PK (n:h.Ns1 dx mA):∃ od,h.get? dx=some od/\∀ name,PySem.W.lookIn name od=some (mA name):=by
 obtain ⟨o,es,ep,ho,hd,hk,_,hm⟩:=n;refine ⟨o,ho,fun name=>?_⟩;have e:=hm name;unfold nsFind findBy at e;rw [<- Array.find?_toList] at e;unfold PySem.W.lookIn;rw [hd];dsimp only;split
 .rename_i y q;rw [q] at e;exact congrArg some e
 .rename_i q;rw [q] at e;have a:es.toList.any (·.refKey)=false:=by
   rw [List.any_eq_false];intro y hy;obtain ⟨z,t,hkey⟩:=hk y (Array.mem_toList_iff.mp hy);simp [DictEntry.refKey,hkey]
  have a':¬ es.toList.any (·.refKey)=true:=by rw [a];exact js
  rw [if_neg a'];exact congrArg some e
variable {C:Addr}
theorem ObjM.look {x:Addr} (I:ObjM h x dx C mA):∃ od,PySem.W.InstAt h x (PySem.W.instObj C dx) C (some od)/\∀ name,PySem.W.lookIn name od=some (mA name) :=
 let ⟨od,ho,hl⟩:=PK I.ns
 ⟨od,⟨I.obj,rfl,rfl,ho⟩,hl⟩
section
variable {P:Program}{w:World}{H H':Hp}{h h':Heap}{a C dx:Addr}{fs fs':List (Str × V)}
def YQ (hok:HOk P w H h) (e:H a=some (.ins C dx fs)):∃ mA,ObjM h a dx C mA/\(∀ f,Vb (fs.lookup f) (mA f))/\PySem.Within mA (fs.map (·.1))/\fs.length<=1000/\H dx=some (.own a):=by
 obtain ⟨d,z,ne,ob,mA,n,r,q⟩:=(show cA P w H h a (.ins C dx fs) from hok a _ e);exact ⟨mA,⟨ob,n,ne⟩,r,q,z,d⟩
end
structure Cls (K:zt) (C:Addr):Prop where
 pg:PySem.W.plainGet K C Str.empty=true
 hd:PySem.W.hasDictIn K C=true
 po:PySem.W.plainOver K C=true
 sa:PySem.W.findIn K (.ref C) "__setattr__"=some (some (.builtin "object.__setattr__"))
theorem Cls.get (c:Cls K C) (f:Str):PySem.W.plainGet K C f=true:=c.pg
section
variable {X:Cx}{pins:w4}{σ:St}{H:Hp}{s:Shared}{A:Around}{E:zn}{Q:zn}{c:Value}{b:Bool}
inductive TyOf (K:zt) (H:Hp):V->Value->Prop where
 | non:TyOf K H .non (.type "NoneType")
 | bl (x:Bool):TyOf K H (.bl x) (.type "bool")
 | int (i:Int):TyOf K H (.int i) (.type "int")
 | str (x:Str):TyOf K H (.str x) (.type "str")
 | flt (x:UInt64):TyOf K H (.flt x) (.type "float")
 | lst {a:Addr}{xs:List V} (e:H a=some (.lst xs)):TyOf K H (.ref a) (.type "list")
 | frz {a:Addr}{o:Obj}{xs:List V} (e:H a=some (.frz o (.lst xs))):TyOf K H (.ref a) (.type "list")
 | tup {a:Addr}{xs:List V} (e:H a=some (.tup xs)):TyOf K H (.ref a) (.type "tuple")
 | dK {a:Addr}{kvs:List (Key × V)} (e:H a=some (.dK kvs)):TyOf K H (.ref a) (.type "dict")
 | dT {a:Addr}{kvs:List (List Key × V)} (e:H a=some (.dT kvs)):TyOf K H (.ref a) (.type "dict")
 | ins {a C dx:Addr}{fs:List (Str × V)} (e:H a=some (.ins C dx fs)) (cl:Cls K C) (ha:PySem.W.findIn K (.ref C) "__class__"=some (some (.builtin "object.__class__")))
   (hn:PySem.W.specialIn K (.builtin "object.__class__") "__get__"=some (some (.builtin "getset_descriptor.__get__"))) (htk:PySem.W.takesIn K (.builtin "object.__class__")=some true)
   (hm:PySem.W.mroIn K C (.type "object")=some true):TyOf K H (.ref a) (.ref C)
def pK {x:V}{t:Value} (I:Inv X pins σ H s) (rx:RelV x u) (ty:TyOf X.K H x t) (e:PySem.W.kitOne X.K t c=some b) (h:∀ tk,Q (.bool b) { s with toks:=tk }) :
  wpAny (model X.prog X.w) A (call (.builtin "isinstance") [u,c]) Q E s:=by
 cases ty with
 | non=>cases (show u=Value.none from rx);exact PySem.W.kia_one PySem.W.kitx_none I.kIn True.intro e (fun z=>nomatch z) h
 | bl y=>cases (show u=Value.bool y from rx);exact PySem.W.kia_one PySem.W.kitx_bool I.kIn True.intro e (fun z=>nomatch z) h
 | int i=>obtain ⟨t,q⟩:=(show ∃ t,u=Value.int i t from rx);cases q;exact PySem.W.kia_one PySem.W.kitx_int I.kIn True.intro e (fun z=>nomatch z) h
 | str y=>obtain ⟨t,q⟩:=(show ∃ t,u=Value.str y t from rx);cases q;exact PySem.W.kia_one PySem.W.kitx_str I.kIn True.intro e (fun z=>nomatch z) h
 | flt y=>obtain ⟨t,q⟩:=(show ∃ t,u=Value.float y t from rx);cases q;exact PySem.W.kia_one PySem.W.kitx_float I.kIn True.intro e (fun z=>nomatch z) h
 | @lst a xs ea =>
  cases (show u=Value.ref a from rx);obtain ⟨_,_,n,_,h1⟩:=(show cA X.prog X.w H s.heap a (.lst xs) from I.hok a _ ea);exact PySem.W.kia_one PySem.W.kitx_list I.kIn ⟨_,h1,rfl⟩ e (fun z=>nomatch z) h
 | @frz a ob xs ea =>
  cases (show u=Value.ref a from rx);obtain ⟨_,_,_,n,_,h1⟩:=(show cA X.prog X.w H s.heap a (.frz ob (.lst xs)) from I.hok a _ ea);exact PySem.W.kia_one PySem.W.kitx_list I.kIn ⟨_,h1,rfl⟩ e (fun z=>nomatch z) h
 | @tup a xs ea =>
  cases (show u=Value.ref a from rx);obtain ⟨_,_,_,p⟩:=(show cA X.prog X.w H s.heap a (.tup xs) from I.hok a _ ea);obtain ⟨o,h1,h2,_⟩:=p;exact PySem.W.kia_one PySem.W.kitx_tuple I.kIn ⟨o,h1,h2⟩ e (fun z=>nomatch z) h
 | @dK a kvs ea =>
  cases (show u=Value.ref a from rx);obtain ⟨_,_,vs,_,p⟩:=(show cA X.prog X.w H s.heap a (.dK kvs) from I.hok a _ ea);obtain ⟨o,es,ep,h1,h2,_⟩:=p;exact PySem.W.kia_one PySem.W.kitx_dict I.kIn ⟨o,h1,h2.1⟩ e (fun z=>nomatch z) h
 | @dT a kvs ea =>
  cases (show u=Value.ref a from rx);obtain ⟨_,_,xs,_,o,es,ep,h1,h2,_⟩:=(show cA X.prog X.w H s.heap a (.dT kvs) from I.hok a _ ea);exact PySem.W.kia_one PySem.W.kitx_dict I.kIn ⟨o,h1,h2.1⟩ e (fun z=>nomatch z) h
 | @ins a C dx fs ea cl ha hn htk hm =>
  cases (show u=Value.ref a from rx);obtain ⟨mA,O,_⟩:=YQ I.hok ea;obtain ⟨od,J,_⟩:=O.look;exact PySem.W.kia_one (PySem.W.kitx_own (cl.get _) cl.hd ha hn htk hm) I.kIn J e (fun z=>nomatch z) h
end
structure Room (k:Nat) (A:Around):Prop where
 hd:A.handled=none
 dp:A.depth+3 * k+5 < recursionLimit
 un:A.units+16 * k+200 < cLine
theorem Room.deeper (r:Room (k+1) A) (env:Env):Room k (A.deeper env) :=
 ⟨r.hd,by have:=r.dp;show A.depth+1+3 * k+5 < _;omega,by have:=r.un;show A.units+3+16 * k+200 < _;omega⟩
theorem Room.depth (r:Room k A):A.depth < recursionLimit:=by have:=r.dp;omega
def Ox:TA:=fun _ H Q=>Q [] H
def Oj (ta:TE) (tr:TA):TA:=fun σ H Q=>ta σ H fun x H1=>tr σ H1 fun xs H2=>Q (x::xs) H2
section
variable {X:Cx}{e:Expr}{es:ve}{te:TE}{t:TA}{pos:Pos}
theorem gH:PA X [] Ox:=fun _ _ _ _ H Q I h=>Calls.spliced_nil ⟨[],H,I,.nil,h⟩
def dD (ha:PE X e te) (hr:PA X es t) (hs:starEach (e::es) X.env=(false,eval e X.env)::starEach es X.env:=by rfl):PA X (e::es) (Oj te t):=by
 intro pos pins s σ H Q I h;rw [hs];show wpAny _ _ (spliced ((false,eval e X.env)::backTo pos (starEach es X.env))) _ _ s
 refine Calls.spliced_cons (thn (ha pins s σ H _ I h) fun u s1 ⟨x,H1,I1,r1,q1⟩=>?_);exact thn (hr pos pins s1 σ H1 _ I1 q1) fun us s2 ⟨xs,H2,I2,r2,q2⟩=>⟨x::xs,H2,I2,.cons r1 r2,q2⟩
def acA (t:TA):TE:=fun σ H Q=>t σ H fun xs H1=>xs.length<=sizeLine/\∀ p,H1 p=none->Q (.ref p) (upd H1 p (.tup xs))
def acP (t:TA):TE:=fun σ H Q=>t σ H fun xs H1=>xs.length<=sizeLine/\∀ p,H1 p=none->Q (.ref p) (upd H1 p (.lst xs))
def Z5 {x1} (h:PA X es t):PE X (.Tuple es x1 pos) (acA t):=by
 intro pins s σ H Q I hq;refine wpAny_Tuple_spliced (thn (h pos pins s σ H _ I hq) fun us s1 ⟨xs,H1,I1,r,z,q⟩=>⟨by rw [<- r.length];exact z,?_⟩);have hf:H1 s1.heap.objs.size=none:=I1.hok.fresh (v6 _);refine ⟨.ref s1.heap.objs.size,upd H1 s1.heap.objs.size (.tup xs),I1.laid (t':=s1.toks) (fun b u e=>vT _ e) (v6 _) ?_,rfl,q _ hf⟩;exact ⟨z,us,r,⟨_,v3 _ rfl,rfl,_,rfl⟩⟩
def Bj (h:PA X es t):PE X (.List es pos) (acP t):=by
 intro pins s σ H Q I hq;refine wpAny_List_spliced (thn (h pos pins s σ H _ I hq) fun us s1 ⟨xs,H1,I1,r,z,q⟩=>⟨by rw [<- r.length];exact z,?_⟩);have hf:H1 s1.heap.objs.size=none:=I1.hok.fresh (v6 _);refine ⟨.ref s1.heap.objs.size,upd H1 s1.heap.objs.size (.lst xs),I1.laid (t':=s1.toks) (fun b u e=>vT _ e) (v6 _) ?_,rfl,q _ hf⟩;exact ⟨z,us,0,r,v3 _ rfl⟩
end
abbrev Sp:=List V->Hp->VK->XK->Prop
abbrev CXT:=List Env->Hp->Shared->XK->zn
structure Env0 (P:Program) (w:World) (K:zt) (mg:w8) (base:Heap) (A:Around) (outer:List Env) (s:Shared) (H:Hp):Prop where
 frames:A.frames=some outer
 mod:Mod K mg base
 bs:∀ b o,base.get? b=some o->s.heap.get? b=some o/\H b=none
 bsz:base.objs.size<=s.heap.objs.size
 funs:s.heap.FunFrames base outer
 frf:∀ b∈frs outer,H b=none
 hok:HOk P w H s.heap
 bare:AllBare s.gens
 tab:pL K mg H
def CE (outer:List Env) (P:Program) (w:World) (H:Hp) (s:Shared) (Q:VK) (u:Value) (s':Shared):Prop :=
 ∃ v H',s'.os=s.os/\AllBare s'.gens/\Un (frs outer) [] H H' s.heap s'.heap/\HOk P w H' s'.heap/\RelV v u/\Q v H'
def CR (CX:CXT) (outer:List Env) (P:Program) (w:World) (H:Hp) (s:Shared) (Q:VK) (E:XK) (r:Result) (s':Shared):Prop :=
 match r with
 | .ok (.ret u)=>CE outer P w H s Q u s'
 | .ok _=>False
 | .error e=>CX outer H s E e s'
structure FnOk (P:Program) (w:World) (K:zt) (mg:w8) (base:Heap) (CX:CXT) (k:Nat) (f:Addr) (fd:FuncData) (ps:z0) (sp:Sp):Prop where
 len:∀ vs H Q E,sp vs H Q E->vs.length=ps.length
 run:∀ (A:Around) (outer:List Env) (s:Shared) (H:Hp) (args:Args) (us:zw) (vs:List V) (Q:VK) (E:XK),Room k A->Env0 P w K mg base A outer s H->BindsTo s fd args (ps.zip us)->Vals vs us->sp vs H Q E ->
  codeAny (model P w) A (.call (.ref f) args) (CR CX outer P w H s Q E) s
section
variable {X:Cx}{pins:w4}{σ:St}{H:Hp}{s s':Shared}
theorem Inv.env0 (I:Inv X pins σ H s):Env0 X.prog X.w X.K X.mg X.base X.A X.stack s H :=
 ⟨I.ok.frames,I.ok.mod,I.bs,ye I.ok.bsz I.sz,I.stack,I.stkFree,I.hok,I.bare,I.ok.tab.un I.base⟩
theorem Inv.after {Q:VK} (I:Inv X pins σ H s) (h:CE X.stack X.prog X.w H s Q u s'):EP X pins σ Q u s':=by
 obtain ⟨v,H',os,bare,un,hok,r,q⟩:=h;obtain ⟨hh,g,d,t,os'⟩:=s';obtain rfl:os'=s.os:=os;exact ⟨v,H',I.call (h':=hh) (g':=g) (d':=d) (t':=t) (ch:=[]) un hok bare (fun b z=>absurd z (by simp)),r,q⟩
end
def W2 (sp:Sp) (dvs:List V) (E:XK) (t:TA):TE:=fun σ H Q=>t σ H fun vs H1=>sp (vs++dvs) H1 Q E
def Binds (K:zt) (fd:FuncData) (ps:z0) (ds:zw):Prop :=
 ∀ (s:Shared) (us:zw),K.In s.heap->(us++ds).length=ps.length->BindsTo s fd ⟨us,[]⟩ (ps.zip (us++ds))
variable {ps:z0}
theorem Binds.all {fd:FuncData} (h:∀ us:zw,us.length=ps.length->bindArgs fd ⟨us,[]⟩=pure (ps.zip us)):Binds K fd ps []:=fun s us _ hl=>by
 rw [List.append_nil] at hl ⊢;exact .of_eq (h us hl)
def Passes (CX:CXT) (X:Cx) (E:XK):Prop:=∀ (pins:w4) (σ:St) (H:Hp) (s:Shared) (e:Value) (s':Shared),Inv X pins σ H s->CX X.stack H s E e s'->X.xe e s'
variable {vs:List V}
section
variable {X:Cx}{CX:CXT}{k:Nat}{f C:Addr}{fd:FuncData}{ps:z0}{sp:Sp}{dvs:List V}{ds:zw}{E:XK}{x m:Str}{p pos apos:Pos}{e o:Expr}{es:ve}{ta:TE}{t:TA}
def Sy {Q:VK} (F:FnOk X.prog X.w X.K X.mg X.base CX k f fd ps sp) (hr:Room k X.A) (hb:Binds X.K fd ps ds) (hd:Vals dvs ds) (hx:Passes CX X E)
  (I:Inv X pins σ H s) (r:Vals vs us) (h:sp (vs++dvs) H Q E):wpAny (model X.prog X.w) X.A (call (.ref f) us) (EP X pins σ Q) X.xe s:=by
 have r2:Vals (vs++dvs) (us++ds):=r.append hd;have hl:(us++ds).length=ps.length:=by rw [<- r2.length];exact F.len _ _ _ _ h
 refine wpAny_call (codeAny_mono (F.run X.A X.stack s H ⟨us,[]⟩ (us++ds) (vs++dvs) Q E hr I.env0 (hb s us I.kIn hl) r2 h) fun r s' hq=>?_);cases r with
 | error e=>exact hx pins σ H s e s' I hq
 | ok fl =>
  cases fl with
  | ret u=>exact I.after hq
  | next=>exact jb hq
  | brk=>exact jb hq
  | cont=>exact jb hq
def xO (F:FnOk X.prog X.w X.K X.mg X.base CX k f fd ps sp) (hr:Room k X.A) (hg:Gl X x) (hm:X.mg x=some (.ref f)) (hk:PySem.W.keepIn X.K (.ref f)=true) (hb:Binds X.K fd ps ds) (hd:Vals dvs ds) (hx:Passes CX X E)
  (ha:PA X (e::es) t) (hdb:(x == ("__debug__":Str))=false:=by decide) (he:starEach (e::es) X.env=(false,eval e X.env)::starEach es X.env:=by rfl) (hpl:(backTo pos (starEach es X.env)).any (·.1)=false:=by rfl) :
  PE X (.Call (.Name x p) (e::es) [] pos) (W2 sp dvs E t):=by
 intro pins s σ H Q I h;refine wpAny_Call_Name_kw (xG I hg hm ?_ hdb);refine PySem.W.callWith_K (h₀:=X.base) I.ok.mod.kin hk (thn (ha pos pins s σ H _ I h) fun us s1 ⟨vs,H1,I1,r,q⟩=>⟨I1.kIn,?_⟩) he hpl;exact Sy F hr hb hd hx I1 r q
def Ui (F:FnOk X.prog X.w X.K X.mg X.base CX k f fd ps sp) (hr:Room k X.A) (hg:Gl X x) (hm:X.mg x=some (.ref f)) (hk:PySem.W.keepIn X.K (.ref f)=true) (hb:Binds X.K fd ps ds) (hd:Vals dvs ds) (hx:Passes CX X E)
  (hdb:(x == ("__debug__":Str))=false:=by decide):PE X (.Call (.Name x p) [] [] pos) (W2 sp dvs E Ox):=by
 intro pins s σ H Q I h;refine wpAny_Call_Name_kw (xG I hg hm ?_ hdb);exact PySem.W.callWith_K0 I.kIn hk (Sy (us:=[]) F hr hb hd hx I .nil h)
end
structure FnScope (N P:z0) (sc:Scope):Prop where
 kind:sc.kind=.function
 co:sc.isCoroutine=false
 gen:sc.isGenerator=false
 nd:N.Nodup
 pre:N.take P.length=P
 par:∀ x∈P,sc.names.lookup x=some .local\/sc.names.lookup x=some .cell
 nofree:∀ y∈sc.names,y.2≠.free
theorem Fb {kindOf:Str->Option NameKind}{x:Str}:∀ {binds:List (Str × Value)}{m:w8},(∀ v,(x,v) ∉ binds)->bindL kindOf binds m x=m x
 | [],_,_=>rfl
 | (n,v)::r,m,h=>by
  unfold bindL;rw [Fb fun w hw=>h w (List.mem_cons_of_mem _ hw)];split
  .have:x≠n:=by rintro rfl;exact h v vE
   simp [this]
  .rfl
theorem Eh {kindOf:Str->Option NameKind}{x:Str}:∀ {binds:List (Str × Value)}{m:w8},(∀ v,(x,v) ∉ binds)->bindC kindOf binds m x=m x
 | [],_,_=>rfl
 | (n,v)::r,m,h=>by
  unfold bindC;rw [Eh fun w hw=>h w (List.mem_cons_of_mem _ hw)];split
  .rfl
  .have:x≠n:=by rintro rfl;exact h v vE
   simp [this]
theorem DW {kindOf:Str->Option NameKind}{x:Str}{v:Value}:∀ {P:z0}{vs:zw}{i:Nat}{m:w8},P.Nodup->P[i]?=some x->vs[i]?=some v->kindOf x=some .local ->
  bindL kindOf (P.zip vs) m x=some v
 | [],_,_,_,_,h,_,_=>by simp at h
 | _::_,[],_,_,_,_,h,_=>by simp at h
 | p::P,w::vs,0,m,nd,h1,h2,hk=>by
  simp at h1 h2;subst h1;subst h2;show bindL kindOf ((p,w)::P.zip vs) m p=_
  unfold bindL;rw [Fb fun v hv=>(List.nodup_cons.mp nd).1 (List.of_mem_zip hv).1,if_pos hk];simp
 | p::P,w::vs,i+1,m,nd,h1,h2,hk=>by
  show bindL kindOf ((p,w)::P.zip vs) m x=_
  unfold bindL;exact DW (i:=i) (List.nodup_cons.mp nd).2 (by simpa using h1) (by simpa using h2) hk
theorem Eu {kindOf:Str->Option NameKind}{x:Str}{v:Value}:∀ {P:z0}{vs:zw}{i:Nat}{m:w8},P.Nodup->P[i]?=some x->vs[i]?=some v->kindOf x≠some .local ->
  bindC kindOf (P.zip vs) m x=some v
 | [],_,_,_,_,h,_,_=>by simp at h
 | _::_,[],_,_,_,_,h,_=>by simp at h
 | p::P,w::vs,0,m,nd,h1,h2,hk=>by
  simp at h1 h2;subst h1;subst h2;show bindC kindOf ((p,w)::P.zip vs) m p=_
  unfold bindC;rw [Eh fun v hv=>(List.nodup_cons.mp nd).1 (List.of_mem_zip hv).1,if_neg hk];simp
 | p::P,w::vs,i+1,m,nd,h1,h2,hk=>by
  show bindC kindOf ((p,w)::P.zip vs) m x=_
  unfold bindC;exact Eu (i:=i) (List.nodup_cons.mp nd).2 (by simpa using h1) (by simpa using h2) hk
noncomputable def start (N:z0) (vs:List V):St:=vs.map some++List.replicate (N.length - vs.length) none
noncomputable def iM (CX:CXT) (P:Program) (w:World) (K:zt) (mg:w8) (base:Heap) (N:z0) (qual:Str) (scope:Scope) (f:Addr) (cd:Value) (A:Around) (outer:List Env) (s:Shared) (H:Hp) (E:XK):Cx where
 prog:=P
 w:=w
 K:=K
 mg:=mg
 base:=base
 A:=A.deeper (envOfC qual scope s.heap.objs.size f cd)
 N:=N
 s₀:=s
 H₀:=H
 env:=envOfC qual scope s.heap.objs.size f cd
 outer:=outer
 stack:=envOfC qual scope s.heap.objs.size f cd::outer
 ex:=[]
 calm:=true
 fn:=fun _=>true
 pn:=[]
 xe:=fun e s'=>wpAny (model P w) (A.deeper (envOfC qual scope s.heap.objs.size f cd)) (leaving (envOfC qual scope s.heap.objs.size f cd) e) (fun _ s''=>CX outer H s E e s'') (fun e' s''=>CX outer H s E e' s'') s'
def Hz {sc:Scope} (h:sc.names.lookup x=some .cell):∃ c,(cellsFrom n sc.names []).lookup x=some c:=by
 have q:=PySem.W.cellsFrom_some sc.names n [] (.inl h);exact yz.mp q
variable {CX:CXT}{base:Heap}{qual:Str}{scope:Scope}
def Ez {f:Addr}{cd:Value}{outer:List Env}{s1:Shared}{E:XK}
  (S:FnScope N ps scope) (hd:A.handled=none) (e0:Env0 P w K mg base A outer s H) (hl:vs.length=ps.length) (r:Vals vs us)
  (x:InCallC s s.heap.objs.size (bindL (envOfC qual scope s.heap.objs.size f cd).kindOf (ps.zip us) fun _=>none) (cellsFrom (s.heap.objs.size+1) scope.names []) (bindC (envOfC qual scope s.heap.objs.size f cd).kindOf (ps.zip us) fun _=>none) s1) :
  Inv (iM CX P w K mg base N qual scope f cd A outer s H E) [] (start N vs) H s1:=by
 have hpl:ps.length<=N.length:=by have:=congrArg List.length S.pre;rw [List.length_take] at this;omega
 obtain ⟨h1,tk,rfl,hk⟩:=x.done;have noA:∀ b:Addr,b ∉ (iM CX P w K mg base N qual scope f cd A outer s H E).ex:=fun b z=>absurd (show b∈([]:List Addr) from z) (by simp)
 refine ⟨⟨e0.mod,S.kind,rfl,rfl,v6 _,fun y z c h1 h2=>?_,fun y hy=>?_,fun y c _ h=>?_,fun _=>hd,Around.frames_deeper e0.frames,.inr ⟨rfl,rfl⟩,fun b z=>absurd z (noA b),e0.bs,e0.bsz,fun b _ _=>noA b,fun b z=>absurd z (noA b),e0.funs,e0.frf,e0.tab⟩,
  rfl,e0.bare,Un.kept hk,⟨_,x.toInCall.ns,fun i y v h1 h2 h3=>?_⟩,fun y c h=>⟨_,x.cell y c h⟩,e0.hok.fresh (v6 _),fun y c h=>?_,fun p hp=>absurd (show p∈([]:w4) from hp) (by simp),e0.hok.kept hk,?_⟩
 .exact name_of_addr x.apart (jn h1) (jn h2)
 .have hy:scope.names.lookup y=some .cell\/scope.names.lookup y=some .free:=hy;rcases hy with hy | hy
  .exact Hz hy
  .exact absurd rfl (S.nofree _ (jn hy))
 .exact Nat.le_of_lt (x.above y c (jn h))
 .have hi:i < vs.length:=by
   unfold start at h2;by_cases hi:i < vs.length
   .exact hi
   .rw [List.getElem?_append_right (by simpa using hi)] at h2;rw [List.getElem?_replicate] at h2;split at h2 <;> cases h2
  have ha:vs[i]?=some v:=by
   unfold start at h2;rw [List.getElem?_append_left (by simpa using hi),List.getElem?_map] at h2;cases e:vs[i]? with
   | none=>rw [e] at h2;cases h2
   | some a=>rw [e] at h2;cases h2;rfl
  obtain ⟨u,hu,rv⟩:=r.get ha;have hp:ps[i]?=some y:=by
   rw [<- S.pre,List.getElem?_take_of_lt (by omega)];exact h1
  have ndP:ps.Nodup:=by rw [<- S.pre];exact S.nd.sublist (List.take_sublist _ _)
  refine ⟨u,rv,?_⟩;rcases S.par y (List.mem_of_getElem? hp) with k | k
  .exact .inl ⟨k,DW ndP hp hu k⟩
  .obtain ⟨c,e⟩:=Hz (n:=s.heap.objs.size+1) k;refine .inr ⟨.inl k,c,e,?_⟩;have q:=x.cell y c e;rw [Eu ndP hp hu (by show scope.names.lookup y≠_;rw [k];decide)] at q;exact q
 .exact e0.hok.fresh (Nat.le_of_lt (x.above y c (jn h)))
 .unfold start;show _=N.length
  rw [List.length_append,List.length_map,List.length_replicate];omega
def abW {f:Addr}{name:Str}{params:Arguments}{dV kV doc pm cdv ct oc:Value}{an od:vn}
  {osl:vw}{sp:Sp} (lk:K.lookup f=some ⟨oc,od,.func (PySem.W.fnOf name qual params body scope dV kV doc pm an cdv ct),osl⟩) (hcd:PySem.W.codeIn K cdv qual=true) (S:FnScope N ps scope)
  (len:∀ vs H Q E,sp vs H Q E->vs.length=ps.length)
  (hbody:∀ (A:Around) (outer:List Env) (s:Shared) (H:Hp) (vs:List V) (Q:VK) (E:XK),Room k (A.deeper (envOfC qual scope s.heap.objs.size f cdv))->sp vs H Q E ->
   ∃ t,PSs (iM CX P w K mg base N qual scope f cdv A outer s H E) body t/\t { nx:=fun _ H'=>Q .non H',rt:=Q } (start N vs) H) :
  FnOk P w K mg base CX (k+1) f (PySem.W.fnOf name qual params body scope dV kV doc pm an cdv ct) ps sp:=by
 refine ⟨len,fun A outer s H args us vs Q E hr e0 hb r hsp=>?_⟩;have hl:=len _ _ _ _ hsp;have KX:K.In s.heap:=e0.mod.kin.keeps fun b o e=>(e0.bs b o e).1
 have lim:s.heap.NoLimit:=e0.mod.nolimit.keeps fun b o e=>(e0.bs b o e).1
 have hkind:∀ y∈ps.zip us,scope.names.lookup y.1=some .local\/(scope.names.lookup y.1=some .cell/\((cellsFrom (s.heap.objs.size+1) scope.names []).lookup y.1).isSome=true):=fun ⟨n,v⟩ hy=>by
  rcases S.par n (List.of_mem_zip hy).1 with q | q
  .exact .inl q
  .exact .inr ⟨q,PySem.W.cellsFrom_some _ _ _ (.inl q)⟩
 refine codeAny_call_function hr.depth (KX _ _ lk) rfl S.co S.gen rfl (PySem.W.codeRec_of KX hcd) (hb _ _ _ _ ?_);refine wpAny_newFunctionEnv_cells S.kind hkind fun env he s1 x=>?_
 subst he;refine ⟨lim.keeps x.toInCall.keep,codeAny_func ?_⟩;obtain ⟨t,ht,hq⟩:=hbody A outer s H vs Q E (hr.deeper _) hsp;have I:Inv (iM CX P w K mg base N qual scope f cdv A outer s H E) [] (start N vs) H s1:=Ez S hr.hd e0 hl r x;refine wpAny_mono (ht [] s1 (start N vs) H _ I hq) (fun fl s' hs=>?_) fun e s' hs=>hs
 have fin:∀ {σ':St}{H':Hp}{v:V}{u:Value},Inv (iM CX P w K mg base N qual scope f cdv A outer s H E) [] σ' H' s'->RelV v u->Q v H'->CE outer P w H s Q u s' :=
  fun {σ' H' v u} J rv q=>⟨v,H',J.os,J.bare,J.base,J.hok,rv,q⟩
 cases fl with
 | ret u =>
  obtain ⟨v,σ',H',J,rv,q⟩:=hs;exact fin J rv q
 | next =>
  obtain ⟨σ',H',J,q⟩:=hs;exact fin (v:=V.non) (u:=Value.none) J rfl q
 | brk =>
  obtain ⟨_,_,_,q⟩:=hs;exact jb q
 | cont =>
  obtain ⟨_,_,_,q⟩:=hs;exact jb q
section
variable {X:Cx}{x:Str}{p pos:Pos}{e:Expr}{es:ve}{t:TA}{id T:String}{r:List V->Hp->VK->Prop}
def tCB (r:List V->Hp->VK->Prop) (t:TA):TE:=fun σ H Q=>t σ H fun vs H1=>r vs H1 Q
def jL (hc:gD X (.builtin id) r) (hg:Gl X x) (hm:X.mg x=none) (hv:bootBuiltins x=some (.builtin id)) (ha:PA X (e::es) t) (hn:x ≠ "__name__":=by decide) (hdb:(x == ("__debug__":Str))=false:=by decide)
  (he:starEach (e::es) X.env=(false,eval e X.env)::starEach es X.env:=by rfl) (hpl:(backTo pos (starEach es X.env)).any (·.1)=false:=by rfl):PE X (.Call (.Name x p) (e::es) [] pos) (tCB r t):=by
 intro pins s σ H Q I h;refine wpAny_Call_Name_kw (fX I hg hm hv ?_ hn hdb);exact PyProof.Rows.callWith_builtin1 (thn (ha pos pins s σ H _ I h) fun us s1 ⟨vs,H1,I1,r1,q1⟩=>hc pins s1 σ H1 vs us Q I1 r1 q1) he hpl
def vI (hc:gD X (.type T) r) (hg:Gl X x) (hm:X.mg x=none) (hv:bootBuiltins x=some (.type T)) (ha:PA X (e::es) t) (hn:x ≠ "__name__":=by decide) (hdb:(x == ("__debug__":Str))=false:=by decide)
  (he:starEach (e::es) X.env=(false,eval e X.env)::starEach es X.env:=by rfl) (hpl:(backTo pos (starEach es X.env)).any (·.1)=false:=by rfl):PE X (.Call (.Name x p) (e::es) [] pos) (tCB r t):=by
 intro pins s σ H Q I h;refine wpAny_Call_Name_kw (fX I hg hm hv ?_ hn hdb);exact y6 (thn (ha pos pins s σ H _ I h) fun us s1 ⟨vs,H1,I1,r1,q1⟩=>hc pins s1 σ H1 vs us Q I1 r1 q1) he hpl
end
end L2
namespace HT
open PySem PyProof.Rows
theorem Wk (A:Around) (s:Shared) (a:Int) (t:Tok) (c:Int) (u:Tok) (prog:Program) (w:World) (E:zn) (Q:zn) (h:Q (.bool (decide (a < c))) s) :
  wpAny (model prog w) A (richCompare .Lt (.int a t) (.int c u)) Q E s :=
 (PyProof.Rows.lt_int h:wpAny (model prog w) A (compareOp .Lt (.int a t) (.int c u)) Q E s)
section
variable {prog:Program}{w:World}{A:Around}{E:zn}{s:Shared}
def XC {t b:Addr}{vs ws:zw}{Q:zn} (ht:IsTup s.heap t vs.toArray) (hb:IsTup s.heap b ws.toArray) (hv:vs≠[])
  (h1:ws=[] -> Q (.ref t) s) (h2:ws ≠ [] -> Q (.ref s.heap.objs.size) { s with heap:=s.heap.push { cls:=.type "tuple",data:=.seq (vs ++ ws).toArray } })
  (hsz:vs.length+ws.length<=sizeLine):wpAny (model prog w) A (binaryOp .Add (.ref t) (.ref b)) Q E s:=by
 obtain ⟨⟨cls,dd,data,sl⟩,ho,hc,n,hd⟩:=id ht;obtain ⟨⟨cls2,dd2,data2,sl2⟩,ho2,hc2,n2,hd2⟩:=id hb;simp only at hc hd hc2 hd2;subst hc hd hc2 hd2;have e:vs.toArray++ws.toArray=(vs++ws).toArray:=by simp
 by_cases hw:ws=[]
 .exact concat_meets ⟨_,ho,rfl⟩ ⟨_,ho2,rfl⟩ noFill_tuple_add seq_tuple_add PySem.F.slot_tuple_add PySem.F.entry_tuple_add (PySem.F.args_tuple_add_2 _ _)
   (tuple_addW1 t b vs.toArray ws.toArray n n2 dd dd2 sl sl2 (by simpa using hv) (by simp [hw])) ⟨ho,ho2,h1 hw⟩
 .refine concat_meets ⟨_,ho,rfl⟩ ⟨_,ho2,rfl⟩ noFill_tuple_add seq_tuple_add PySem.F.slot_tuple_add PySem.F.entry_tuple_add (PySem.F.args_tuple_add_2 _ _)
   (tuple_addW2 t b vs.toArray ws.toArray n n2 dd dd2 sl sl2 (by simpa using hv) (by simpa using hw) (by rw [List.size_toArray,List.size_toArray];exact hsz)) ⟨ho,ho2,?_⟩
  rw [e];exact h2 hw
noncomputable def sIx (n d:Nat):Option Int->Nat
 | none=>d
 | some v=>if v < 0 then (v+(n:Int)).toNat else min v.toNat n
theorem T9 (n d:Nat):sIx n d none=d:=rfl
def Y9 (n d k:Nat):sIx n d (some (k:Int))=min k n:=by
 show (if (k:Int) < 0 then ((k:Int)+(n:Int)).toNat else min (k:Int).toNat n)=min k n
 rw [if_neg (by omega),Int.toNat_natCast]
end
end HT
namespace L2
open PySem PySem.Spec PyProof.Rows
abbrev TO:=St->Hp->(Option Int->Hp->Prop)->Prop
def PO (X:Cx) (e:Option Expr) (t:TO):Prop :=
 ∀ (pins:w4) (s:Shared) (σ:St) (H:Hp) (Q:Option Int->Hp->Prop),Inv X pins σ H s->t σ H Q ->
  wpAny (model X.prog X.w) X.A (evalPart e X.env) (fun u s'=>∃ o H',Inv X pins σ H' s'/\IsPart u o/\Q o H') X.xe s
def Yd:TO:=fun _ H Q=>Q none H
def abE (t:TE):TO:=fun σ H Q=>t σ H fun x H1=>∃ i,x=.int i/\Q (some i) H1
variable {xs:List V}{us:zw}
section
variable {X:Cx}{e:Expr}{te:TE}{lo hi:Option Expr}{tl th:TO}{pos p2:Pos}
def Xi:PO X none Yd:=by
 intro pins s σ H Q I h;rw [evalPart_none];exact vy ⟨none,H,I,.none,h⟩
def LQ (h:PE X e te):PO X (some e) (abE te):=by
 intro pins s σ H Q I hw;rw [evalPart_some];refine thn (h pins s σ H _ I hw) fun u s1 ⟨x,H1,I1,r1,q1⟩=>?_
 obtain ⟨i,rfl,q⟩:=q1;obtain ⟨t,rfl⟩:=r1;exact ⟨some i,H1,I1,.int i t,q⟩
def SlR (X:Cx) (r:V->Option Int->Option Int->Hp->VK->Prop):Prop :=
 ∀ (pins:w4) (s:Shared) (σ:St) (H:Hp) (x:V) (v vl vu:Value) (lo hi:Option Int) (sl:Addr) (Q:VK),Inv X pins σ H s->RelV x v->s.heap.IsSliceOf sl vl vu .none->IsPart vl lo->IsPart vu hi->r x lo hi H Q ->
  ∃ T id,typeLookup (.type T) "__getitem__"=pure (some (.builtin id)) /\ s.TypeIs v T /\ wpAny (model X.prog X.w) X.A (getItem v (.ref sl)) (EP X pins σ Q) X.xe s
def tSl (r:V->Option Int->Option Int->Hp->VK->Prop) (te:TE) (tl th:TO):TE:=fun σ H Q=>te σ H fun x H1=>tl σ H1 fun l H2=>th σ H2 fun u H3=>r x l u H3 Q
theorem V6 {r:V->Option Int->Option Int->Hp->VK->Prop} (hr:SlR X r) (he:PE X e te) (hl:PO X lo tl) (hu:PO X hi th):PE X (.Subscript e (.Slice lo hi none p2) pos) (tSl r te tl th):=by
 intro pins s σ H Q I h;refine Subscript_ (thn (he pins s σ H _ I h) fun v s1 ⟨x,H1,I1,r1,q1⟩=>?_);refine wpAny_Slice (thn (hl pins s1 σ H1 _ I1 q1) fun vl s2 ⟨l,H2,I2,pl,q2⟩=>thn (hu pins s2 σ H2 _ I2 q2) fun vu s3 ⟨u,H3,I3,pu,q3⟩=>?_);rw [evalPart_none];refine vy ?_;have I4:Inv X pins σ H3 { s3 with heap:=s3.heap.push { cls:=.type "slice",data:=.fields #[vl,vu,.none] } }:=I3.kept (t':=s3.toks) fun b ob q=>vT _ q
 obtain ⟨T,id,hT,ht,hg⟩:=hr pins { s3 with heap:=s3.heap.push { cls:=.type "slice",data:=.fields #[vl,vu,.none] } } σ H3 x v vl vu l u s3.heap.objs.size Q I4 r1 (Heap.IsSliceOf.new ..) pl pu q3
 show wpAny (model X.prog X.w) X.A (subscriptTail e (.Slice lo hi none p2) v (.ref s3.heap.objs.size)) (EP X pins σ Q) X.xe { s3 with heap:=s3.heap.push { cls:=.type "slice",data:=.fields #[vl,vu,.none] } }
 exact tail_any (ops:=[.ref s3.heap.objs.size,v]) ht hT hg (by with_unfolding_all rfl)
noncomputable def GP (xs:List V) (lo hi:Option Int):List V:=(xs.drop (HT.sIx xs.length 0 lo)).take (HT.sIx xs.length xs.length hi - HT.sIx xs.length 0 lo)
def K1 (xs:List V) (lo hi:Option Int):(GP xs lo hi).length<=xs.length:=by
 unfold GP;rw [List.length_take,List.length_drop];omega
def WY (K:zt):R2:=fun x y H Q=>∃ a b xs ys,x=.ref a/\y=.ref b/\SqT K H a xs/\SqT K H b ys/\xs≠[]/\xs.length+ys.length<=sizeLine /\
 (ys=[]->Q (.ref a) H)/\(ys≠[]->∀ p,H p=none->Q (.ref p) (upd H p (.tup (xs++ys))))
theorem Vals.nil_iff (r:Vals xs us):us=[]↔xs=[]:=by
 cases r with
 | nil=>simp
 | cons _ _=>simp
def Ym:OpR X (binaryOp .Add) (WY X.K):=by
 intro pins s σ H x y v u Q I rx ry h;obtain ⟨a,b,xs,ys,rfl,rfl,ha,hb,hx,hz,q1,q2⟩:=h;cases rx;cases ry;obtain ⟨its,r1,p1,_⟩:=I.tuple ha;obtain ⟨its2,r2,p2,_⟩:=I.tuple hb;refine HT.XC p1 p2 (fun z=>hx (r1.nil_iff.mp z)) (fun z=>⟨.ref a,H,I,rfl,q1 (r2.nil_iff.mp z)⟩) (fun z=>?_) (by rw [<- r1.length,<- r2.length];exact hz);refine ⟨.ref s.heap.objs.size,_,I.laid (t':=s.toks) (o:=.tup (xs++ys)) (fun b ob q=>vT _ q) (v6 _) ?_,rfl,q2 (fun w=>z (r2.nil_iff.mpr w)) _ (I.hok.fresh (v6 _))⟩;exact ⟨by rw [List.length_append];exact hz,_,r1.append r2,IsTup.new _ _⟩
end
noncomputable def ixN (n:Nat) (i:Int):Option Nat:=if 0<=i then (if i < n then some i.toNat else none) else if -(n:Int)<=i then some (i+n).toNat else none
def atI {α:Type} (xs:List α) (i:Int):Option α:=(ixN xs.length i).bind fun j=>xs[j]?
variable {n:Nat}{i:Int}
def Lx {j:Nat} (h:ixN n i=some j):seqIndex? i n=some j/\j < n/\-(n:Int)<=i/\i < n:=by
 unfold ixN at h;by_cases h0:0<=i
 .rw [if_pos h0] at h;by_cases h1:i < n
  .rw [if_pos h1] at h;have e:i.toNat=j:=ja h;exact ⟨by rw [seqIndex_of h0 h1,e],by omega,by omega,h1⟩
  .rw [if_neg h1] at h;cases h
 .rw [if_neg h0] at h;by_cases h1:-(n:Int)<=i
  .rw [if_pos h1] at h;have e:(i+n).toNat=j:=ja h;exact ⟨by rw [seqIndex_neg (by omega) h1,e],by omega,h1,by omega⟩
  .rw [if_neg h1] at h;cases h
def MF {α:Type}{xs:List α}{v:α} (h:atI xs i=some v):∃ j,seqIndex? i xs.length=some j/\xs[j]?=some v/\j < xs.length/\-(xs.length:Int)<=i/\i < xs.length:=by
 unfold atI at h;cases e:ixN xs.length i with
 | none=>rw [e] at h;cases h
 | some j =>
  rw [e] at h;obtain ⟨h1,h2,h3,h4⟩:=Lx e;exact ⟨j,h1,h,h2,h3,h4⟩
def K9 (b:Expr):Prop:=∀ o i,subscripted b false o i=operate [o,i] (getItem o i)
def IxR (X:Cx) (r:R2):Prop :=
 ∀ (value slice:Expr) (pins:w4) (s:Shared) (σ:St) (H:Hp) (x y:V) (v u:Value) (Q:VK),Inv X pins σ H s->RelV x v->RelV y u->r x y H Q ->
  subscripted slice false v u=operate [v,u] (getItem v u)->wpAny (model X.prog X.w) X.A (subscriptTail value slice v u) (EP X pins σ Q) X.xe s
def MtR (X:Cx) (id:String) (r:V->List V->Hp->VK->Prop):Prop :=
 ∀ (pins:w4) (s:Shared) (σ:St) (H:Hp) (x:V) (xs:List V) (v:Value) (us:zw) (Q:VK),Inv X pins σ H s->RelV x v->Vals xs us->r x xs H Q ->
  wpAny (model X.prog X.w) X.A (call (.builtin id) (v::us)) (EP X pins σ Q) X.xe s
variable {r:R2}{pins:w4}{σ:St}{H:Hp}{s:Shared}{p:Addr}{its its':zw}{x:V}{v:Value}
section
variable {X:Cx}{a b:Expr}{ta tb:TE}{pos:Pos}
theorem IxR.or {r':R2} (h:IxR X r) (h':IxR X r'):IxR X (fun x y H Q=>r x y H Q\/r' x y H Q):=by
 intro value slice pins s σ H x y v u Q I rx ry q hs;rcases q with q | q
 .exact h value slice pins s σ H x y v u Q I rx ry q hs
 .exact h' value slice pins s σ H x y v u Q I rx ry q hs
def abR (hr:IxR X r) (ha:PE X a ta) (hb:PE X b tb) (hs:K9 b):PE X (.Subscript a b pos) (tOp r ta tb):=by
 intro pins s σ H Q I h;exact Subscript_ (V1 ha hb I h fun v u s2 x y H2 I2 rx ry q=>hr a b pins s2 σ H2 x y v u Q I2 rx ry q (hs _ _))
def abo (K:zt):R2:=fun x y H Q=>∃ p xs i v,x=.ref p/\y=.int i/\SqL K H p xs/\atI xs i=some v/\Q v H
def Z7 (K:zt):R2:=fun x y H Q=>∃ p xs i v,x=.ref p/\y=.int i/\SqT K H p xs/\atI xs i=some v/\Q v H
def XM:IxR X (abo X.K):=by
 intro value slice pins s σ H x y v u Q I rx ry h hs;obtain ⟨p,xs,i,z,rfl,rfl,hq,he,q⟩:=h;cases rx;obtain ⟨t,rfl⟩:=ry;obtain ⟨its,r,pl,hz⟩:=I.list hq;obtain ⟨j,h1,h2,h3,h4,h5⟩:=MF he;obtain ⟨w,ew,rw'⟩:=r.get h2;have hl:=r.length;have hn:=tu;have fin:EP X pins σ Q w s:=⟨z,H,I,rw',q⟩;by_cases h0:0<=i
 .have hj:i.toNat=j:=by
   rw [seqIndex_of h0 h5] at h1;exact ja h1
  exact item_listR pl.isList h0 (by omega) (by rw [hj];simpa using ew) fin hs
 .have hj:(i+(its.toArray.size:Int)).toNat=j:=by
   rw [seqIndex_neg (by omega) h4] at h1;rw [List.size_toArray,<- hl];exact ja h1
  exact subscriptTail_builtinR (x:=w) pl.isList.typeIs slot_list_getitem.lookup
   (wpAny_getItem_list_neg (Q:=fun r s'=>r=w/\EP X pins σ Q r s') pl.isList (by omega) (by rw [List.size_toArray] <;> omega) (by omega) (by rw [hj];simpa using ew) ⟨rfl,fin⟩) hs
def abh:IxR X (Z7 X.K):=by
 intro value slice pins s σ H x y v u Q I rx ry h hs;obtain ⟨p,xs,i,z,rfl,rfl,hq,he,q⟩:=h;cases rx;obtain ⟨t,rfl⟩:=ry;obtain ⟨its,r,pl,hz⟩:=I.tuple hq;obtain ⟨j,h1,h2,h3,h4,h5⟩:=MF he;obtain ⟨w,ew,rw'⟩:=r.get h2;have hl:=r.length;have hn:=tu;have fin:EP X pins σ Q w s:=⟨z,H,I,rw',q⟩;exact subscriptTail_builtinR (x:=w) pl.typeIs slot_tuple_getitem.lookup
  (getItem_tuple (j:=j) (Q:=fun r s'=>r=w/\EP X pins σ Q r s') pl (by omega) (by omega) (by rw [List.size_toArray,<- hl];exact h1) (by simpa using ew) ⟨rfl,fin⟩) hs
def Oe (its:zw) (n j:Nat) (u:Value):Obj.mapSeq (·.setIfInBounds j u) { cls:=.type "list",data:=.seq its.toArray n }={ cls:=.type "list",data:=.seq (its.set j u).toArray n }:=by
 simp [Obj.mapSeq]
theorem Inv.lst {pins:w4}{σ:St}{H:Hp}{s:Shared}{p:Addr}{xs:List V} (I:Inv X pins σ H s) (h:H p=some (.lst xs)) :
  ∃ (its:zw) (n:Nat),Vals xs its /\ s.heap.get? p=some { cls:=.type "list",data:=.seq its.toArray n } /\ xs.length <= sizeLine:=by
 obtain ⟨z,its,n,r,e⟩:=I.hok p _ h;exact ⟨its,n,r,e,z⟩
theorem Inv.lstUpd {ys:List V}{n':Nat}{f:Obj->Obj} (I:Inv X pins σ H s) (h:H p=some (.lst xs))
  (ho:s.heap.get? p=some { cls:=.type "list",data:=.seq its.toArray n }) (hf:f { cls:=.type "list",data:=.seq its.toArray n }={ cls:=.type "list",data:=.seq its'.toArray n' }) (r:Vals ys its') (hz:ys.length <= sizeLine) (t:Nat) :
  Inv X pins σ (upd H p (.lst ys)) { s with heap:=s.heap.update p f,toks:=t }:=by
 have e:(s.heap.update p f).get? p=some { cls:=.type "list",data:=.seq its'.toArray n' }:=by
  rw [Heap.get?_update_self f ho (by rw [hf] <;> rfl),hf]
 refine I.write (x:=p) (e:=p) (by rw [h];trivial) (.inl rfl) (fun b u hb q=>(ym _ _ (Ne.symm hb)).trans q) ⟨_,e⟩ ?_;exact ⟨hz,its',n',r,e⟩
def WR:V->V->V->Hp->(Hp->Prop)->Prop:=fun o i v H Q=>∃ p xs k j,o=.ref p/\i=.int k/\H p=some (.lst xs)/\ixN xs.length k=some j/\Q (upd H p (.lst (xs.set j v)))
def set_list:Pn X WR:=by
 intro pins s σ H o i v ov iv u Q I ro ri rv h;obtain ⟨p,xs,k,j,rfl,rfl,hp,hj,q⟩:=h;cases ro;obtain ⟨t,rfl⟩:=ri;obtain ⟨its,n,r,ho,hz⟩:=I.lst hp;obtain ⟨h1,h2,h3,h4⟩:=Lx hj;have hl:=r.length;have hn:=tu;have I':Inv X pins σ (upd H p (.lst (xs.set j v))) { s with heap:=s.heap.update p (Obj.mapSeq (·.setIfInBounds j u)) } :=
  I.lstUpd hp ho (Oe its n j u) (r.set rv j) (by rw [List.length_set];exact hz) s.toks
 by_cases h0:0<=k
 .have hk:k.toNat=j:=by
   rw [seqIndex_of h0 h4] at h1;exact ja h1
  exact PySem.W.ki_setAt ho h0 (by omega) (by rw [List.size_toArray,<- hl];exact h4) (by rw [hk];exact ⟨_,I',q⟩)
 .have hk:(k+(its.toArray.size:Int)).toNat=j:=by
   rw [seqIndex_neg (by omega) h3] at h1;rw [List.size_toArray,<- hl];exact ja h1
  exact PySem.W.ki_setBack ho (by omega) (by rw [List.size_toArray,<- hl];exact h3) (by omega) (by rw [hk];exact ⟨_,I',q⟩)
def JQ (lo hi:Option Int) (n:Nat):(sliceBounds lo hi none n).1=((HT.sIx n 0 lo:Nat):Int)/\(sliceBounds lo hi none n).2.1=((HT.sIx n n hi:Nat):Int)/\(sliceBounds lo hi none n).2.2=1:=by
 refine ⟨?_,?_,rfl⟩
 .cases lo with
  | none=>simp [sliceBounds,HT.sIx]
  | some i =>
   simp only [sliceBounds,HT.sIx,Option.getD_none,show (1:Int) > 0 by decide,if_true];by_cases h:i < 0
   .simp only [h,if_true] <;> omega
   .simp only [h,if_false] <;> omega
 .cases hi with
  | none=>simp [sliceBounds,HT.sIx]
  | some i =>
   simp only [sliceBounds,HT.sIx,Option.getD_none,show (1:Int) > 0 by decide,if_true];by_cases h:i < 0
   .simp only [h,if_true] <;> omega
   .simp only [h,if_false] <;> omega
theorem FZ (its:zw) (lo hi:Option Int):slicePick its.toArray lo hi none=((its.drop (HT.sIx its.length 0 lo)).take (HT.sIx its.length its.length hi - HT.sIx its.length 0 lo)).toArray:=by
 obtain ⟨h1,h2,h3⟩:=JQ lo hi its.toArray.size;unfold slicePick;rw [h1,h2,h3];simp only [sliceRange_one,pick_run,List.size_toArray] <;> rfl
def aag (K:zt):V->Option Int->Option Int->Hp->VK->Prop:=fun x lo hi H Q=>∃ a xs,x=.ref a/\SqL K H a xs/\∀ p,H p=none->Q (.ref p) (upd H p (.lst (GP xs lo hi)))
def YX:SlR X (aag X.K):=by
 intro pins s σ H x v vl vu lo hi sl Q I rx hs pl pu h;obtain ⟨a,xs,rfl,hx,q⟩:=h;cases rx;obtain ⟨its,r,ht,hz⟩:=I.list hx;have hlen:=r.length;refine ⟨"list",_,slot_list_getitem.lookup,ht.isList.typeIs,?_⟩
 refine wpAny_getItem_list_slice ht.isList hs pl pu .none (by simp) ?_ (by rw [List.size_toArray] <;> omega);rw [FZ,<- hlen];refine ⟨.ref s.heap.objs.size,_,I.laid (t':=s.toks) (o:=.lst (GP xs lo hi)) (fun b ob q=>vT _ q) (v6 _) ?_,rfl,q _ (I.hok.fresh (v6 _))⟩;exact ⟨ye (K1 xs lo hi) hz,_,0,(r.drop (HT.sIx xs.length 0 lo)).take (HT.sIx xs.length xs.length hi - HT.sIx xs.length 0 lo),v3 _ rfl⟩
noncomputable def WK:V->Bool
 | .non=>true
 | .bl _=>true
 | .int _=>true
 | .str _=>true
 | _=>false
noncomputable def eqV:V->V->Bool
 | .non,.non=>true
 | .bl a,.bl b=>a == b
 | .bl a,.int b=>(if a then 1 else 0) == b
 | .int a,.bl b=>a == (if b then 1 else 0)
 | .int a,.int b=>a == b
 | .str a,.str b=>a == b
 | _,_=>false
def ZF {A:Around}{y:V}{u:Value} (ry:RelV y u) (rx:RelV x v) (fy:WK y=true) (fx:WK x=true):SeqAt.EqAt A s u v (eqV y x):=by
 cases y with
 | non =>
  cases ry;cases x with
  | non=>cases rx;exact SeqAt.EqAt.same _
  | bl b=>cases rx;exact SeqAt.EqAt.none_bool b
  | int b=>obtain ⟨t,rfl⟩:=rx;exact SeqAt.EqAt.none_int b t
  | str b=>obtain ⟨t,rfl⟩:=rx;exact SeqAt.EqAt.none_str b t
  | _=>exact absurd (show false=true from fx) js
 | bl a =>
  cases ry;cases x with
  | non=>cases rx;exact SeqAt.EqAt.bool_none a
  | bl b=>cases rx;exact SeqAt.EqAt.bool_bool a b
  | int b=>obtain ⟨t,rfl⟩:=rx;exact SeqAt.EqAt.bool_int a b t
  | str b=>obtain ⟨t,rfl⟩:=rx;exact SeqAt.EqAt.bool_str a b t
  | _=>exact absurd (show false=true from fx) js
 | int a =>
  obtain ⟨t',rfl⟩:=ry;cases x with
  | non=>cases rx;exact SeqAt.EqAt.int_none a t'
  | bl b=>cases rx;exact SeqAt.EqAt.int_bool a t' b
  | int b=>obtain ⟨t,rfl⟩:=rx;exact SeqAt.EqAt.int_int a t' b t
  | str b=>obtain ⟨t,rfl⟩:=rx;exact SeqAt.EqAt.int_str a t' b t
  | _=>exact absurd (show false=true from fx) js
 | str a =>
  obtain ⟨t',rfl⟩:=ry;cases x with
  | non=>cases rx;exact SeqAt.EqAt.str_none a t'
  | bl b=>cases rx;exact SeqAt.EqAt.str_bool a t' b
  | int b=>obtain ⟨t,rfl⟩:=rx;exact SeqAt.EqAt.str_int a t' b t
  | str b=>obtain ⟨t,rfl⟩:=rx;exact SeqAt.EqAt.str_str a t' b t
  | _=>exact absurd (show false=true from fx) js
 | _=>exact absurd (show false=true from fy) js
def Jr:gD X (.builtin "len") (fun xs H Q=>∃ p ys,xs=[.ref p] /\ (SqL X.K H p ys \/ SqT X.K H p ys) /\ Q (.int ys.length) H):=by
 intro pins s σ H xs us Q I r h;obtain ⟨p,ys,rfl,hq,q⟩:=h;obtain ⟨u,rfl,rx⟩:=vals1 r;cases rx;have hn:=tu;rcases hq with hq | hq
 .obtain ⟨its,r',pl,hz⟩:=I.list hq;have hlen:=r'.length;exact Calls.call_len_list pl.isList (by simp only [List.size_toArray] <;> omega) ⟨.int ys.length,H,I.tok _,⟨s.toks+1,by rw [List.size_toArray,hlen]⟩,q⟩
 .obtain ⟨its,r',pl,hz⟩:=I.tuple hq;have hlen:=r'.length;exact len_tuple pl (by simp only [List.size_toArray] <;> omega) ⟨.int ys.length,H,I.tok _,⟨s.toks+1,by rw [List.size_toArray,hlen]⟩,q⟩
theorem gD.or {f:Value}{r r':List V->Hp->VK->Prop} (h:gD X f r) (h':gD X f r'):gD X f (fun xs H Q=>r xs H Q\/r' xs H Q):=by
 intro pins s σ H xs us Q I rs q;rcases q with q | q
 .exact h pins s σ H xs us Q I rs q
 .exact h' pins s σ H xs us Q I rs q
def vW:gD X (.type "list") (fun xs H Q=>∃ p ys,xs=[.ref p] /\ (SqL X.K H p ys \/ SqT X.K H p ys) /\ ∀ l,H l=none -> Q (.ref l) (upd H l (.lst ys))):=by
 intro pins s σ H xs us Q I r h;obtain ⟨p,ys,rfl,hq,q⟩:=h;obtain ⟨u,rfl,rx⟩:=vals1 r;cases rx;have fin:∀ (its:zw),Vals ys its->ys.length<=sizeLine->∀ (h':Heap) (c':Nat),(∀ b o',s.heap.get? b=some o'->h'.get? b=some o') ->
   h'.get? s.heap.objs.size=some { cls:=.type "list",dict:=none,data:=.seq its.toArray c',slots:=#[] } -> EP X pins σ Q (.ref s.heap.objs.size) { s with heap:=h' }:=fun its r' hz h' c' kp e =>
  ⟨.ref s.heap.objs.size,_,I.laid (t':=s.toks) kp (v6 _) (show cA X.prog X.w _ h' _ (.lst ys) from ⟨hz,its,c',r',e⟩),rfl,q _ (I.hok.fresh (v6 _))⟩
 rcases hq with hq | hq
 .obtain ⟨its,r',pl,hz⟩:=I.list hq;have hlen:=r'.length;obtain ⟨o,ho,hc,n,hd⟩:=pl.isList;exact call_list_seq p (.inl rfl) ho hc hd (fun h' c' kp e=>fin its r' hz h' c' kp e) (by simp only [List.size_toArray] <;> omega)
 .obtain ⟨its,r',pl,hz⟩:=I.tuple hq;have hlen:=r'.length;obtain ⟨o,ho,hc,n,hd⟩:=pl;exact call_list_seq p (.inr rfl) ho hc hd (fun h' c' kp e=>fin its r' hz h' c' kp e) (by simp only [List.size_toArray] <;> omega)
def Fy:gD X (.type "tuple") (fun xs H Q=>∃ p ys,xs=[.ref p] /\ ((SqL X.K H p ys /\ ∀ l,H l=none -> Q (.ref l) (upd H l (.tup ys))) \/ (SqT X.K H p ys /\ Q (.ref p) H))):=by
 intro pins s σ H xs us Q I r h;obtain ⟨p,ys,rfl,h⟩:=h;obtain ⟨u,rfl,rx⟩:=vals1 r;cases rx;rcases h with ⟨hq,q⟩ | ⟨hq,q⟩
 .obtain ⟨its,r',pl,hz⟩:=I.list hq;have hlen:=r'.length;refine call_tuple_list pl.isList (fun h' kp=>?_) (by simp only [List.size_toArray] <;> omega);have I1:Inv X pins σ H { s with heap:=h' }:=I.kept (t':=s.toks) kp;have I2:Inv X pins σ (upd H h'.objs.size (.tup ys)) { s with heap:=h'.push { cls:=.type "tuple",data:=.seq its.toArray } } :=
   I1.laid (t':=s.toks) (fun b o e=>vT _ e) (v6 _) (show cA X.prog X.w _ _ _ (.tup ys) from ⟨hz,its,r',IsTup.new _ _⟩)
  exact ⟨.ref h'.objs.size,_,I2,rfl,q _ (I1.hok.fresh (v6 _))⟩
 .obtain ⟨its,r',pl,hz⟩:=I.tuple hq;exact call_tuple_same pl ⟨.ref p,H,I,rfl,q⟩
def tyV (K:zt) (T:String) (x:V) (H:Hp):Prop:=match x with
 | .str _=>T="str"
 | .int _=>T="int"
 | .ref p=>(T="list" /\ ∃ xs,SqL K H p xs) \/ (T="tuple" /\ ∃ o,K.lookup p=some o /\ o.cls=.type "tuple" /\ o.dict=none) \/
   (T="dict" /\ ((∃ kvs,H p=some (.dK kvs)) \/ ∃ kvs,H p=some (.dT kvs))) \/ (T="set" /\ ∃ S n,H p=some (.set S n))
 | _=>False
def ZX {T:String} (I:Inv X pins σ H s) (r:RelV x v) (ty:tyV X.K T x H) :
  s.TypeIs v T/\∀ a,v=.ref a->∃ ob,s.heap.get? a=some ob/\ob.dict=none:=by
 cases x with
 | str z =>
  obtain ⟨t,rfl⟩:=r;cases (show T="str" from ty)
  exact ⟨typeIs_str s z t,fun _ e=>nomatch e⟩
 | int i =>
  obtain ⟨t,rfl⟩:=r;cases (show T="int" from ty)
  exact ⟨typeIs_int s i t,fun _ e=>nomatch e⟩
 | ref p =>
  cases r;rcases ty with ⟨rfl,xs,hq⟩ | ⟨rfl,o,hk,hc,hd⟩ | ⟨rfl,hk⟩ | ⟨rfl,S,n,hk⟩
  .obtain ⟨its,_,pl,_⟩:=I.list hq;refine ⟨pl.isList.typeIs,fun a e=>?_⟩;cases e;obtain ⟨o,n,e,c,hd,_⟩:=pl;exact ⟨o,e,hd⟩
  .refine ⟨⟨o,I.kIn p o hk,hc⟩,fun a e=>?_⟩;cases e;exact ⟨o,I.kIn _ o hk,hd⟩
  .have z:∃ o,s.heap.get? p=some o/\o.ExactDict:=by
    rcases hk with ⟨kvs,hk⟩ | ⟨kvs,hk⟩
    .obtain ⟨_,_,_,_,o,_,_,e,ex,_⟩:=I.hok p _ hk;exact ⟨o,e,ex⟩
    .obtain ⟨_,_,_,_,o,_,_,e,ex,_⟩:=I.hok p _ hk;exact ⟨o,e,ex⟩
   obtain ⟨o,e,ex⟩:=z;refine ⟨⟨o,e,ex.1⟩,fun a e2=>?_⟩;cases e2;exact ⟨o,e,ex.2.1⟩
  .obtain ⟨o,_,_,_,e,ex,_⟩:=I.hok p _ hk;refine ⟨⟨o,e,ex.1⟩,fun a e2=>?_⟩;cases e2;exact ⟨o,e,ex.2.1⟩
 | _=>exact jb ty
def tBM (K:zt) (T:String) (r:V->List V->Hp->VK->Prop) (to:TE) (t:TA):TE:=fun σ H Q=>to σ H fun x H1=>tyV K T x H1/\t σ H1 fun xs H2=>r x xs H2 Q
variable {o e:Expr}{es:ve}{to:TE}{t:TA}{name:Str}{apos cpos:Pos}{T id:String}{r:V->List V->Hp->VK->Prop}
def GC (pa:PlainAttrs T) (slot:Slot T name id) (hty:typeOf (.builtin id)=pure (.type "method_descriptor")) (hm:MtR X id r) (ho:PE X o to) (ha:PA X (e::es) t)
  (hbase:attributeBase o name X.env (eval o X.env)=eval o X.env:=by rfl)
  (hfew:((backTo cpos (starEach (e::es) X.env)).all (fun x=>!x.1) && (backToKw cpos (keywordEach [] X.env)).all (fun x=>x.1.isSome)
   && decide ((e::es).length+([]:List Keyword).length+(if ([]:List Keyword).isEmpty then 0 else 1) < 30))=true:=by rfl)
  (hline:(apos.endLine == cpos.line)=true:=by rfl) (hs:starEach (e::es) X.env=(false,eval e X.env)::starEach es X.env:=by rfl) (hplain:(backTo cpos (starEach es X.env)).any (·.1)=false:=by rfl) :
  PE X (.Call (.Attribute o name apos) (e::es) [] cpos) (tBM X.K T r to t):=by
 intro pins s σ H Q I h;refine wpAny_Call_method_late hbase hfew hline rfl (thn (ho pins s σ H _ I h) fun v s1 ⟨x,H1,I1,r1,ty,q1⟩=>?_);obtain ⟨h1,h2⟩:=ZX I1 r1 ty;refine ⟨T,id,pa,slot,hty,h1,h2,?_⟩;have hA:=ha cpos pins s1 σ H1 _ I1 q1;rw [hs] at hA ⊢;refine Calls.callWith_builtin (by show (false || (backTo cpos (starEach es X.env)).any (·.1))=false;rw [hplain] <;> rfl) (Calls.evalArgs_plain ?_);exact thn hA fun us s2 ⟨vs,H2,I2,r2,q2⟩=>hm pins s2 σ H2 x vs v us Q I2 r1 r2 q2
end
def MtM (X:Cx) (id:String) (r:V->List V->Hp->VK->Prop):Prop :=
 ∀ (pins:w4) (s:Shared) (σ:St) (H:Hp) (x:V) (xs:List V) (v:Value) (us:zw) (Q:VK),Inv X pins σ H s->RelV x v->Vals xs us->r x xs H Q ->
  wpAny (model X.prog X.w) X.A (call (.builtin id) (v::us)) (EP X pins σ Q) X.xe s
theorem Vals.one:∀ {x:V}{us:zw},Vals [x] us->∃ u,us=[u]/\RelV x u
 | _,_,.cons r .nil=>⟨_,rfl,r⟩
theorem Vals.eraseIdx:∀ {xs:List V}{us:zw} (i:Nat),Vals xs us->Vals (xs.eraseIdx i) (us.eraseIdx i)
 | _,_,_,.nil=>.nil
 | _,_,0,.cons _ t=>t
 | _,_,i+1,.cons r t=>.cons r (Vals.eraseIdx i t)
theorem Vals.reverse (h:Vals xs us):Vals xs.reverse us.reverse:=by
 induction h with
 | nil=>exact .nil
 | cons r t ih=>rw [List.reverse_cons,List.reverse_cons];exact Vals.append ih (.cons r .nil)
theorem Fo {α:Type}:∀ (l:List α) (i:Nat),(l.eraseIdx i).length<=l.length
 | [],_=>v6 _
 | _::_,0=>Nat.le_succ _
 | _::r,i+1=>Nat.succ_le_succ (Fo r i)
section
variable {X:Cx}{pins:w4}{σ:St}{H:Hp}{s:Shared}{l b:Addr}{xs ys zs:List V}
theorem Inv.lset {f:vj->vj}{t':Nat} (I:Inv X pins σ H s) (hH:H l=some (.lst xs))
  (e:s.heap.get? l=some { cls:=.type "list",data:=.seq its.toArray n }) (hf:f its.toArray=its'.toArray) (hv:Vals ys its') (hz:ys.length <= sizeLine) :
  Inv X pins σ (upd H l (.lst ys)) { s with heap:=s.heap.update l (Obj.mapSeq f),toks:=t' }:=by
 have q:=PySem.IsL.update e f;rw [hf] at q;refine I.write (x:=l) (e:=l) (by rw [hH];exact trivial) (.inl rfl) (fun b' u hb hu=>(ym s.heap (Obj.mapSeq f) (Ne.symm hb)).trans hu) ⟨_,q⟩ ?_;exact ⟨hz,its',_,hv,q⟩
theorem Inv.lnew {t':Nat} (I:Inv X pins σ H s) (hv:Vals ys its) (hz:ys.length<=sizeLine) :
  Inv X pins σ (upd H s.heap.objs.size (.lst ys)) { s with heap:=s.heap.push { cls:=.type "list",data:=.seq its.toArray },toks:=t' } :=
 I.laid (fun _ _ q=>vT _ q) (v6 _) ⟨hz,its,0,hv,v3 _ rfl⟩
theorem Inv.fresh (I:Inv X pins σ H s):H s.heap.objs.size=none:=I.hok.fresh (v6 _)
theorem Inv.lstM (I:Inv X pins σ H s) (hH:H l=some (.lst xs)):xs.length <= sizeLine /\ ∃ (its:zw) (n:Nat),Vals xs its /\ xs.length=its.length /\ s.heap.get? l=some { cls:=.type "list",data:=.seq its.toArray n }:=by
 obtain ⟨z,its,n,r,e⟩:=I.hok l _ hH;exact ⟨z,its,n,r,r.length,e⟩
def Uo (h:n<=sizeLine):Builtin.List.listTooLong n=false:=by
 unfold Builtin.List.listTooLong;exact yl (by omega)
end
section
variable {X:Cx}
def Mx:V->List V->Hp->VK->Prop:=fun x vs H Q=>∃ l xs y,x=.ref l/\vs=[y]/\H l=some (.lst xs)/\xs.length < sizeLine/\Q .non (upd H l (.lst (xs++[y])))
def uX:MtM X "list.append" Mx:=by
 intro pins s σ H x vs v us Q I rx rv h;obtain ⟨l,xs,y,rfl,rfl,hH,hz,q⟩:=h;cases rx;obtain ⟨u,rfl,ru⟩:=rv.one;obtain ⟨z,its,n,r,hl,e⟩:=I.lstM hH;refine call_meets F.slot_list_append ⟨_,e,rfl⟩ F.entry_list_append (F.args_list_append_2 _ _) (PySem.list_append l its.toArray n u (by rw [List.size_toArray];omega)) ⟨e,?_⟩;refine ⟨.non,_,I.lset (its':=its++[u]) hH e (by simp) (r.append (.cons ru .nil)) ?_,rfl,q⟩;rw [List.length_append,List.length_singleton];omega
end
section
variable {X:Cx}{pins:w4}{σ:St}{H:Hp}{s:Shared}{a:Addr}{y v:V}{u r:Value}{o:Option V}{A:Around}{E:zn}
theorem Inv.big (I:Inv X pins σ H s):sysModules < s.heap.objs.size:=by
 have h:mainGlobals < s.heap.objs.size:=(I.mod.glob.keeps I.bk).lt;exact Nat.lt_trans (by decide) h
end
structure M2 (X:Cx) (o:Expr) (m:Str) (apos:Pos) (e f:Expr) (cpos:Pos):Prop where
 base:attributeBase o m X.env (eval o X.env)=eval o X.env
 few:((backTo cpos (starEach [e,f] X.env)).all (fun x=>!x.1) && (backToKw cpos (keywordEach [] X.env)).all (fun x=>x.1.isSome)
  && decide (([e,f]:ve).length+([]:List Keyword).length+(if ([]:List Keyword).isEmpty then 0 else 1) < 30))=true
 line:(apos.endLine == cpos.line)=true
 trees:backTo cpos (starEach [e,f] X.env)=[(false,eval e X.env),(false,eval f X.env)]
end L2
namespace Att
open PySem PySem.W PySem.Calls PyProof.Rows
variable {P:Params}{h:Heap}
def Cu :∀ (ns:List Int) (vs:zw),WellAll P h vs (ns.map WData.int)->IntsAre vs ns:=by
 intro ns;induction ns with
 | nil =>
  intro vs w;rw [List.map_nil] at w;cases w;exact .nil
 | cons n ns ih =>
  intro vs w;rw [List.map_cons] at w;cases w with
  | cons a b =>
   cases a;exact .cons _ _ (ih _ b)
variable {l:OpenLaw}{n:Nat}
def RB (hn:l.most=some n) {args:List WData}{vals:zw}
  (hpre:l.row.toRowW.claim.pre args=true) (hwl:WellAll P h vals args) :
  ∃ a vs ns,vals=[Value.ref a] /\ args=[WData.list (ns.map WData.int)] /\ h.get? a=some { cls:=.type "list",data:=.seq vs.toArray } /\ IntsAre vs ns /\ ns.length <= n:=by
 have hsh:WShape.hasAll [] args [.list .int]=true:=(pre_splitW hpre).1;have hc:l.pre.holds [] { args:=args }=true:=(pre_splitW hpre).2;obtain ⟨d,r,rfl,h1,h2⟩:=hasAllW_cons hsh;obtain rfl:=hasAllW_nil h2;obtain ⟨xs,rfl,h3⟩:=hasW_list h1;obtain ⟨ns,rfl⟩:=items_int h3;have hlen:ns.length<=n:=by
  unfold OpenLaw.pre at hc;have h4:(WTm.not (.lt (.lit (.int (n:Int))) (.len (.arg 0)))).holds [] { args:=[.list (ns.map .int)] }=true:=by
   have h4:=(holds_andW hc).1;rw [hn] at h4;exact h4
  have h5:=condW_of h4 (w_not (w_lt w_lit (w_len_list (w_arg rfl))));rw [List.length_map] at h5;refine Nat.le_of_not_lt fun q=>?_
  have q':(n:Int) < ((ns.length:Nat):Int):=by omega
  first
   | (rw [decide_eq_true q'] at h5;exact absurd h5 (by decide))
   | (simp at h5;omega)
 cases hwl with
 | cons w1 w2 =>
  cases w2;cases w1 with
  | list ho hall=>exact ⟨_,_,ns,rfl,rfl,ho,Cu ns _ hall,hlen⟩
theorem QT (l:OpenLaw) (args:List WData):l.row.toRowW.claim.post args (.bool true) args=true :=
 postW_of (r:=l.row.toRowW) (X:=(true == true))
  (show WShape.has [] (.bool true) .bool=true by first | rfl | decide | simp [WShape.has,WShape.arms,WShape.armsAll])
  (show (WTm.eq .res (.lit (.bool true))).value [] { args:=args,res:=some (.bool true),after:=args }=some (.bool (true == true)) from w_eq_bool (w_res rfl) w_lit) rfl
def J7 {q:Program}{loose:z0}{XP:(w8)->Heap->Prop}{YP:World->Heap->Prop}{d:DefRec}
  (hn:l.most=some n) (hdf:d.params.defaults=[])
  (call:∀ (w:World) (s₀ s₁:Shared) (mg mb:w8) (fa:Addr) (o:Obj) (pm cd doc:Value) (a:Addr) (vs:zw) (ns:List Int),
   Ground q loose [] XP w s₀ mg mb s₁.heap->YP w s₁.heap ->
   s₁.heap.get? fa=some o->o.data=.func (docDef d.name d.params d.body d.scope pm cd doc)->s₁.heap.CodeRec cd d.name->mg d.name=some (.ref fa) ->
   s₁.heap.get? a=some { cls:=.type "list",data:=.seq vs.toArray } -> IntsAre vs ns -> ns.length <= n -> s₁.gens=#[] ->
   codeAny (model l.prog w) callerA (.call (.ref fa) ⟨[.ref a],[]⟩) (fun r s'=>r=.ok (.ret (.bool true))/\OldK s₁.heap s'.heap/\s'.os=s₁.os/\AllBare s'.gens) s₁) :
  WalkO q loose XP YP l.row.toRowW d [] (fun f vs=>PySem.call f vs):=by
 intro w s₀ s₁ mg mb G Y fa o pm cd doc dV kV ho hd hcd hD hmg hg args vals as hpre hlay hrd hwl hlo;obtain rfl:dV=.none:=Dflts.none hD hdf;obtain rfl:kV=.none:=Dflts.noKw hD;obtain ⟨a,vs,ns,rfl,rfl,hobj,hints,hlen⟩:=RB hn hpre hwl;refine enter_call (codeAny_mono (call w s₀ s₁ mg mb fa o pm cd doc a vs ns G Y ho (fd_plain hd) hcd hmg hobj hints hlen hg) fun r s' hq=>?_);obtain ⟨rfl,h2,h3,h4⟩:=hq;exact ⟨.inl ⟨.bool true,.bool true,[],rfl,fun _=>rfl,.bool true,QT l _,fun _=>⟨List.Pairwise.nil,fun _ hm=>(nomatch hm)⟩⟩,h2,h3,h4⟩
end Att
namespace L2
open PySem PySem.Spec PyProof.Rows
theorem DQ:∀ {vs:zw}{ns:List Int},IntsAre vs ns->Vals (ns.map V.int) vs
 | _,_,.nil=>.nil
 | _,_,.cons n t h=>.cons ⟨t,rfl⟩ (DQ h)
def Only (H:Hp):Prop:=∀ b,H b=none\/(∃ o xs,H b=some (.frz o (.lst xs)))\/H b=some (.tbl #[])
def Ay (mg:w8) (h:Heap) (tP:vn):Prop:=match tP with
 | none=>∀ a,mg "check_tests" ≠ some (.ref a)
 | some P=>∃ zl ot fdt ct,mg "check_tests"=some (.ref zl) /\ h.get? zl=some ot /\ ot.data=.func fdt /\ fdt.code=.ref ct /\ h.TableAt ct P #[]
variable {K:zt}{k:Nat}{a:Addr}{fd:FuncData}{x:Str}{sp:Sp}
def T5 {P:Program}{w:World}{mg mb:w8}{CX:CXT}{fa:Addr}{s₁:Shared}{vs:zw}{ns:List Int}{tP:vn}
  (KX:K.In s₁.heap) (hns:s₁.heap.Ns mainGlobals mg) (hb:s₁.heap.Ns builtinsNs mb) (hbb:∀ x:Str,x ≠ "__name__" -> mb x=bootBuiltins x) (hlim:s₁.heap.NoLimit) (hg:s₁.gens=#[])
  (hbm:∃ bm ob,mg "__builtins__"=some (.ref bm) /\ bm ≠ builtinsNs /\ s₁.heap.get? bm=some ob /\ ob.cls=.type "module" /\ ob.dict=some builtinsNs /\ ob.data=.plain) (hT:Ay mg s₁.heap tP) (hKc:∀ b o,K.lookup b=some o -> NZ o)
  (ha:s₁.heap.get? a=some { cls:=.type "list",data:=.seq vs.toArray }) (hi:IntsAre vs ns) (hl:ns.length <= sizeLine) (hr:Room k callerA)
  (F:∀ base:Heap,K.In base->base.Ns mainGlobals mg->FnOk P w K mg base CX k fa fd [x] sp) (hbind:∀ (s:Shared) (u:Value),BindsTo s fd ⟨[u],[]⟩ [(x,u)])
  (hsp:∀ H:Hp,Only H->SqL K H a (ns.map V.int)->sp [.ref a] H (fun v _=>v=.bl true) fun _ _ _=>False)
  (hCX:∀ H e s',CX [] H s₁ (fun _ _ _=>False) e s'->False) :
  codeAny (model P w) callerA (.call (.ref fa) ⟨[.ref a],[]⟩) (fun r s'=>r=.ok (.ret (.bool true))/\OldK s₁.heap s'.heap/\s'.os=s₁.os/\AllBare s'.gens) s₁:=by
 have rv:=DQ hi;have lenV:=hi.length;have tabP:∀ p,tP=some p->∃ ct,s₁.heap.TableAt ct p #[]:=fun p e=>by
  subst e;obtain ⟨_,_,_,ct,_,_,_,_,q⟩:=hT;exact ⟨ct,q⟩
 have tne:∀ p,tP=some p->p≠a:=fun p e z=>by
  obtain ⟨ct,_,q⟩:=tabP p e;rw [z,ha] at q;cases q
 have core:∀ H:Hp,Only H -> SqL K H a (ns.map V.int) -> (∀ b,H b ≠ none -> b=a \/ (tP=some b /\ H b=some (.tbl #[]))) -> (H a ≠ none -> K.lookup a=none /\ ∃ xs:List V,xs.length <= sizeLine /\ Vals xs vs /\ H a=some (.frz { cls:=.type "list",data:=.seq vs.toArray } (.lst xs))) -> (∀ p,tP=some p -> H p=some (.tbl #[])) ->
   codeAny (model P w) callerA (.call (.ref fa) ⟨[.ref a],[]⟩) (fun r s'=>r=.ok (.ret (.bool true))/\OldK s₁.heap s'.heap/\s'.os=s₁.os/\AllBare s'.gens) s₁:=by
  intro H hO hS hA hK hTb;have hok:HOk P w H s₁.heap:=fun b u z=>by
   rcases hA b (by rw [z];simp) with rfl | ⟨e,e2⟩
   .obtain ⟨_,xs,h1,h2,h3⟩:=hK (by rw [z];simp);rw [z] at h3;cases h3;exact ⟨ha,h1,vs,_,h2,ha⟩
   .rw [z] at e2;cases e2;obtain ⟨ct,_,q⟩:=tabP b e;exact ⟨#[],q,trivial,fun pos v hc=>by cases hc⟩
  have base_of:∀ {b:Addr}{o:Obj},s₁.heap.get? b=some o->H b=none->(rO s₁.heap H).get? b=some o:=fun e n=>Ug e n
  have noT:∀ {b:Addr}{o:Obj},s₁.heap.get? b=some o->(∀ us n,o.data≠.seq us n)->(∀ us,o.data≠.fields us)->H b=none:=fun {b o} e d1 d2=>by
   cases q:H b with
   | none=>rfl
   | some u =>
    rcases hA b (by rw [q];simp) with e' | ⟨e',_⟩
    .subst e';rw [ha] at e;cases e;exact absurd rfl (d1 _ _)
    .obtain ⟨ct,_,q'⟩:=tabP b e';rw [q'] at e;cases e;exact absurd rfl (d2 _)
  have noA:∀ {b:Addr}{o:Obj}{es:Array DictEntry}{ep:Nat},s₁.heap.get? b=some o->o.data=.dict es ep->H b=none:=fun {b o es ep} e d=>noT e (fun us n z=>by rw [d] at z;cases z) fun us z=>by rw [d] at z;cases z
  have nsK:∀ {b:Addr}{m:w8},s₁.heap.Ns b m->(rO s₁.heap H).Ns b m:=fun {b m} ⟨o,es,ep,e,d,r⟩=>⟨o,es,ep,base_of e (noA e d),d,r⟩
  have hKb:K.In (rO s₁.heap H):=fun b o e=>base_of (KX b o e) (by
   cases q:H b with
   | none=>rfl
   | some u =>
    rcases hA b (by rw [q];simp) with e' | ⟨e',_⟩
    .subst e';rw [(hK (by rw [q];simp)).1] at e;cases e
    .obtain ⟨ct,_,q'⟩:=tabP b e';have e2:=KX b o e;rw [q'] at e2;cases e2;exact absurd rfl (hKc b _ e _ rfl))
  have hB:∃ bm ob,mg "__builtins__"=some (.ref bm) /\ bm ≠ builtinsNs /\ bm ≠ mainGlobals /\ (rO s₁.heap H).get? bm=some ob /\ ob.cls=.type "module" /\ ob.dict=some builtinsNs /\ ob.data=.plain:=by
   obtain ⟨bm,ob,b1,b2,b3,b4,b5,b6⟩:=hbm;refine ⟨bm,ob,b1,b2,fun q=>?_,base_of b3 (noT b3 (fun us n z=>by rw [b6] at z;cases z) fun us z=>by rw [b6] at z;cases z),b4,b5,b6⟩;obtain ⟨o,es,ep,e,hd,_⟩:=hns;rw [q,e] at b3;cases b3;rw [hd] at b6;cases b6
  have hM:Mod K mg (rO s₁.heap H):=⟨hKb,nsK hns,⟨mb,nsK hb,hbb⟩,let ⟨mc,h1,h2⟩:=hlim;⟨mc,nsK h1,h2⟩,hB⟩;have hTI:pL K mg H:=fun a' o fd' c oc us p e1 e2 e3 e4 e5 e6 e7=>by
   cases tP with
   | none=>exact absurd e1 (hT a')
   | some p' =>
    obtain ⟨zl,ot,fdt,ct,t1,t2,t3,t4,⟨o',vs',t5,_,t6,t7⟩,_⟩:=hT;rw [e1] at t1;cases t1;rw [KX _ _ e2] at t2;cases t2;rw [e3] at t3;cases t3;rw [e4] at t4;cases t4;rw [KX _ _ e5] at t5;cases t5;rw [e6] at t6;cases t6;rw [e7] at t7;cases t7;exact ⟨_,hTb _ rfl⟩
  have e0:Env0 P w K mg (rO s₁.heap H) callerA [] s₁ H:=⟨rfl,hM,fun b o e=>Y8 e,Nat.le_of_eq (Ry _ _),trivial,fun b hb=>absurd (show b∈([]:List Addr) from hb) (by simp),hok,.of_eq hg,hTI⟩;refine codeAny_mono ((F _ hKb (nsK hns)).run callerA [] s₁ H ⟨[.ref a],[]⟩ [.ref a] [.ref a] _ _ hr e0 (hbind s₁ (.ref a)) (.cons rfl .nil) (hsp H hO hS)) fun r s' h=>?_
  cases r with
  | error e=>exact (hCX H e s' h).elim
  | ok fl =>
   cases fl with
   | next=>exact jb h
   | brk=>exact jb h
   | cont=>exact jb h
   | ret u =>
    obtain ⟨v,H',os,bare,un,hok',r',q⟩:=h;have q':v=.bl true:=q;subst q';obtain rfl:u=Value.bool true:=r';refine ⟨rfl,⟨fun b o e=>?_,fun b o e=>un.there b o e (by simp)⟩,os,bare⟩;cases q:H b with
    | none=>exact .inl (un.keep b o e q (by intro z;exact absurd (show b∈([]:List Addr) from z) (by simp)) (by simp))
    | some u =>
     rcases hO b with z | ⟨ob,xs,z⟩ | z
     .rw [q] at z;cases z
     .have z2:=un.frzs b ob _ z;obtain ⟨e1,_⟩:=hok b _ z;obtain ⟨e2,_⟩:=hok' b _ z2;rw [e] at e1;cases e1;exact .inl e2
     .rcases hA b (by rw [z];simp) with rfl | ⟨e',_⟩
      .obtain ⟨_,xs,_,_,h3⟩:=hK (by rw [z];simp);rw [z] at h3;cases h3
      .obtain ⟨m,z2⟩:=un.tbls b _ z;obtain ⟨ps,e2,_⟩:=hok' b _ z2;obtain ⟨ct,qt⟩:=tabP b e';have e3:=qt.2;rw [e] at e3;cases e3;exact .inr (.inl ⟨qt.isCodeTable,rfl,#[],ps,rfl,by simpa using e2⟩)
 cases hk:K.lookup a with
 | some o =>
  have e:=KX a o hk;rw [ha] at e;cases e;refine core (fun b=>if tP=some b then some (.tbl #[]) else none) (fun b=>?_) (.inr ⟨_,vs.toArray,_,hk,rfl,rfl,rfl,by rw [List.size_toArray,lenV];exact hl,by simpa using rv⟩) (fun b z=>?_) (fun z=>?_) fun p e=>if_pos e
  .by_cases hb:tP=some b
   .exact .inr (.inr (if_pos hb))
   .exact .inl (if_neg hb)
  .by_cases hb:tP=some b
   .exact .inr ⟨hb,if_pos hb⟩
   .exact absurd (if_neg hb) z
  .exact absurd (if_neg fun e=>tne a e rfl) z
 | none =>
  refine core (fun b=>if b=a then some (.frz { cls:=.type "list",data:=.seq vs.toArray } (.lst (ns.map V.int))) else if tP=some b then some (.tbl #[]) else none) (fun b=>?_) (.inl (.inr ⟨{ cls:=.type "list",data:=.seq vs.toArray },if_pos rfl⟩)) (fun b z=>?_) (fun z=>⟨hk,ns.map V.int,by rw [List.length_map]; exact hl,rv,if_pos rfl⟩) fun p e=>?_
  .by_cases hb:b=a
   .exact .inr (.inl ⟨_,_,if_pos hb⟩)
   .by_cases hb2:tP=some b
    .exact .inr (.inr ((if_neg hb).trans (if_pos hb2)))
    .exact .inl ((if_neg hb).trans (if_neg hb2))
  .by_cases hb:b=a
   .exact .inl hb
   .by_cases hb2:tP=some b
    .exact .inr ⟨hb2,(if_neg hb).trans (if_pos hb2)⟩
    .exact absurd ((if_neg hb).trans (if_neg hb2)) z
  .exact (if_neg (tne p e)).trans (if_pos e)
def YH {l:PySem.W.OpenLaw}{n:Nat}{q:Program}{loose:z0}{XP:(w8)->Heap->Prop}{YP:World->Heap->Prop}{d:DefRec}{K:Params->zt}{CX:World->CXT}{sp:World->Sp}
  (hn:l.most=some n) (hn2:n<=sizeLine) (hdf:d.params.defaults=[]) (hr:Room k callerA)
  (hY:∀ (w:World) (h:Heap),YP w h->(K w.params).In h) (hKc:∀ (p:Params) (b:Addr) (o:Obj),(K p).lookup b=some o->NZ o) (hT:∀ (w:World) (s₀:Shared) (mg mb:w8) (h:Heap),PySem.W.Ground q loose [] XP w s₀ mg mb h->YP w h->∃ tP,Ay mg h tP)
  (F:∀ (w:World) (mg:w8) (fa:Addr) (h:Heap),(K w.params).In h->h.Ns mainGlobals mg->mg d.name=some (.ref fa) ->
   ∃ fd:FuncData,(∀ (s:Shared) (u:Value),BindsTo s fd ⟨[u],[]⟩ [(x,u)]) /\
    ∀ base:Heap,(K w.params).In base->base.Ns mainGlobals mg->FnOk l.prog w (K w.params) mg base (CX w) k fa fd [x] (sp w))
  (hsp:∀ (w:World) (H:Hp) (a:Addr) (ns:List Int),ns.length<=n->Only H->SqL (K w.params) H a (ns.map V.int)->sp w [.ref a] H (fun v _=>v=.bl true) fun _ _ _=>False)
  (hCX:∀ (w:World) (H:Hp) (s:Shared) (e:Value) (s':Shared),CX w [] H s (fun _ _ _=>False) e s'->False) :
  PySem.W.WalkO q loose XP YP l.row.toRowW d [] (fun f vs=>PySem.call f vs):=by
 refine Att.J7 hn hdf fun w s₀ s₁ mg mb fa o pm cd doc a vs ns G Y ho hd hcd hmg hobj hints hlen hg=>?_
 have KX:=hY w _ Y;obtain ⟨fd,hb,hF⟩:=F w mg fa _ KX G.T.g hmg;obtain ⟨tP,hTP⟩:=hT w s₀ mg mb _ G Y;exact T5 KX G.T.g G.T.b G.T.builtins G.T.nolimit hg G.T.bmain hTP (hKc w.params) hobj hints (ye hlen hn2) hr hF hb (fun H hO hS=>hsp w H a ns hlen hO hS) fun H e s'=>hCX w H s₁ e s'
abbrev CX0:CXT:=fun _ _ _ _ _ _=>False
abbrev E0:XK:=fun _ _ _=>False
theorem BR {X:Cx}:Passes CX0 X E0:=fun _ _ _ _ _ _ _ h=>h.elim
structure Fun (K:zt) (x qual:Str) (st:Stmt) (f:Addr) (fd:FuncData):Prop where
 ex:∃ (oc:Value) (od:vn) (kV doc pm:Value) (an:vn) (cdv ct:Value) (osl:vw),
  fd=PySem.W.fnOf x qual (eG st) (dB st) (bf st) .none kV doc pm an cdv ct/\K.lookup f=some ⟨oc,od,.func fd,osl⟩/\PySem.W.codeIn K cdv qual=true
 kp:PySem.W.keepIn K (.ref f)=true
variable {qual:Str}{st:Stmt}{f:Addr}{ps:z0}
section
variable {P:Program}{w:World}{K:zt}{mg:w8}{base:Heap}
theorem Fun.ok {N:z0} (F:Fun K x qual st f fd) (S:FnScope N ps (bf st)) (len:∀ vs H Q E,sp vs H Q E->vs.length=ps.length)
  (hbody:∀ (cdv:Value) (A:Around) (outer:List Env) (s:Shared) (H:Hp) (vs:List V) (Q:VK) (E:XK),Room k (A.deeper (envOfC qual (bf st) s.heap.objs.size f cdv))->sp vs H Q E ->
   ∃ t,PSs (iM CX0 P w K mg base N qual (bf st) f cdv A outer s H E).nox (dB st) t/\t { nx:=fun _ H'=>Q .non H',rt:=Q } (start N vs) H):FnOk P w K mg base CX0 (k+1) f fd ps sp:=by
 obtain ⟨oc,od,kV,doc,pm,an,cdv,ct,osl,rfl,lk,hcd⟩:=F.ex;refine abW lk hcd S len fun A outer s H vs Q E hr hsp=>?_
 obtain ⟨t,h,q⟩:=hbody cdv A outer s H vs Q E hr hsp;exact ⟨t,h.nox,q⟩
theorem Fun.binds (F:Fun K x qual st f fd)
  (h:∀ (kV doc pm:Value) (an:vn) (cdv ct:Value) (us:zw),us.length=ps.length->bindArgs (PySem.W.fnOf x qual (eG st) (dB st) (bf st) .none kV doc pm an cdv ct) ⟨us,[]⟩=pure (ps.zip us)):Binds K fd ps []:=by
 obtain ⟨oc,od,kV,doc,pm,an,cdv,ct,osl,rfl,lk,hcd⟩:=F.ex;exact .all (h kV doc pm an cdv ct)
theorem Tq {oc:Value}{od an:vn}{osl:vw}{kV doc pm cdv ct:Value} (l:K.lookup f=some ⟨oc,od,.func (PySem.W.fnOf x qual (eG st) (dB st) (bf st) .none kV doc pm an cdv ct),osl⟩)
  (c:PySem.W.codeIn K cdv qual=true) (k:PySem.W.keepIn K (.ref f)=true):Fun K x qual st f (PySem.W.fnOf x qual (eG st) (dB st) (bf st) .none kV doc pm an cdv ct):=⟨⟨oc,od,kV,doc,pm,an,cdv,ct,osl,rfl,l,c⟩,k⟩
end
def Same (H H':Hp):Prop:=∀ b o,H b=some o->H' b=some o
theorem Same.refl (H:Hp):Same H H:=fun _ _ h=>h
variable {H:Hp}
theorem Same.trans {H1 H2:Hp} (a:Same H H1) (b:Same H1 H2):Same H H2:=fun c o h=>b c o (a c o h)
variable {H':Hp}
theorem Same.free (e:Same H H') {l:Addr} (h:H' l=Option.none):H l=Option.none:=by
 cases q:H l with
 | none=>rfl
 | some o =>
  rw [e l o q] at h;cases h
theorem Same.seq {xs:List V} (e:Same H H') (h:SqL K H a xs):SqL K H' a xs:=by
 rcases h with (h | ⟨o,h⟩) | h
 .exact .inl (.inl (e _ _ h))
 .exact .inl (.inr ⟨o,e _ _ h⟩)
 .exact .inr h
end L2
set_option genInjectivity true
set_option genSizeOfSpec true
namespace Mi
open PySem L2 PyProof.Rows
inductive D where
 | non | bl (b:Bool) | int (i:Int) | str (x:Str) | tup (ds:List D) | lst (ds:List D) | dct (ks vs:List D)
mutual
noncomputable def rN:D->D->Bool
 | .non,.non=>true
 | .bl a,.bl b=>a == b
 | .int a,.int b=>a == b
 | .str a,.str b=>decide (a=b)
 | .tup a,.tup b=>nC a b
 | .lst a,.lst b=>nC a b
 | .dct a b,.dct c d=>nC a c && nC b d
 | _,_=>false
noncomputable def nC:List D->List D->Bool
 | [],[]=>true
 | a::as,b::bs=>rN a b && nC as bs
 | _,_=>false
end
mutual
theorem Du:∀ (a b:D),rN a b=true↔a=b
 | .non,b=>by cases b <;> simp [rN]
 | .bl x,b=>by cases b <;> simp [rN]
 | .int x,b=>by cases b <;> simp [rN]
 | .str x,b=>by cases b <;> simp [rN]
 | .tup x,b=>by cases b <;> simp [rN,oK x]
 | .lst x,b=>by cases b <;> simp [rN,oK x]
 | .dct x y,b=>by cases b <;> simp [rN,oK x,oK y]
theorem oK:∀ (a b:List D),nC a b=true↔a=b
 | [],b=>by cases b <;> simp [nC]
 | x::xs,b=>by
  cases b with
  | nil=>simp [nC]
  | cons y ys=>simp [nC,Du x y,oK xs ys]
end
noncomputable instance:DecidableEq D:=fun a b=>if h:rN a b=true then isTrue ((Du a b).mp h) else isFalse fun e=>h ((Du a b).mpr e)
noncomputable def b2i (b:Bool):Int:=if b then 1 else 0
mutual
noncomputable def aG:D->D->Bool
 | .non,.non=>true
 | .bl a,.bl b=>a == b
 | .bl a,.int b=>b2i a == b
 | .int a,.bl b=>a == b2i b
 | .int a,.int b=>a == b
 | .str a,.str b=>a == b
 | .tup a,.tup b=>fK a b
 | .lst a,.lst b=>fK a b
 | _,_=>false
noncomputable def fK:List D->List D->Bool
 | [],[]=>true
 | a::as,b::bs=>aG a b && fK as bs
 | _,_=>false
end
mutual
noncomputable def dep:D->Nat
 | .tup ds=>deps ds+1
 | .lst ds=>deps ds+1
 | .dct _ _=>1000
 | _=>0
noncomputable def deps:List D->Nat
 | []=>0
 | d::ds=>max (dep d) (deps ds)
end
mutual
noncomputable def RpV (h:Heap):D->Value->Prop
 | .non,u=>u=.none
 | .bl b,u=>u=.bool b
 | .int i,u=>∃ t,u=.int i t
 | .str x,u=>∃ t,u=.str x t
 | .tup ds,u=>∃ a its,u=.ref a/\h.IsTuple a (List.toArray its)/\aF h ds its
 | .lst ds,u=>∃ a its,u=.ref a/\h.IsList a (List.toArray its)/\aF h ds its
 | .dct _ _,_=>False
noncomputable def aF (h:Heap):List D->zw->Prop
 | [],us=>us=[]
 | d::ds,us=>∃ y ys,us=y::ys/\RpV h d y/\aF h ds ys
end
theorem aF.length {h:Heap}:∀ {ds:List D}{us:zw},aF h ds us->ds.length=us.length
 | [],us,r=>by rw [aF] at r;subst r;rfl
 | d::ds,us,r=>by
  rw [aF] at r;obtain ⟨y,ys,rfl,_,r⟩:=r;simp [aF.length r]
theorem aF.get {h:Heap}:∀ {ds:List D}{us:zw}{i:Nat} (h1:i < ds.length) (h2:i < us.length),aF h ds us->RpV h ds[i] us[i]
 | [],us,i,h1,h2,r=>by simp at h1
 | d::ds,us,i,h1,h2,r=>by
  rw [aF] at r;obtain ⟨y,ys,rfl,r0,r⟩:=r;cases i with
  | zero=>exact r0
  | succ i=>exact aF.get (ds:=ds) (us:=ys) (i:=i) (by simpa using h1) (by simpa using h2) r
theorem fC:∀ {ds:List D}{i:Nat} (h:i < ds.length),dep ds[i]<=deps ds
 | [],i,h=>by simp at h
 | d::ds,0,h=>by simp only [deps,List.getElem_cons_zero];omega
 | d::ds,i+1,h=>by
  have:=fC (ds:=ds) (i:=i) (by simpa using h);simp only [deps,List.getElem_cons_succ];omega
theorem mG:∀ (as bs:List D),fK as bs=((List.range (min as.length bs.length)).all (fun j=>aG (as.getD j .non) (bs.getD j .non)) && as.length == bs.length)
 | [],[]=>by simp [fK]
 | [],b::bs=>by simp [fK]
 | a::as,[]=>by simp [fK]
 | a::as,b::bs=>by
  rw [fK,mG as bs];have e:min (a::as).length (b::bs).length=min as.length bs.length+1:=by simp only [List.length_cons];omega
  rw [e,List.range_succ_eq_map,List.all_cons,List.all_map];simp [Function.comp_def,Bool.and_assoc]
mutual
theorem RpV.inj {h:Heap}:∀ {d e:D}{u:Value},RpV h d u->RpV h e u->d=e
 | .non,e,u,r,q=>by
  rw [RpV] at r;subst r;cases e <;> simp [RpV] at q ⊢
 | .bl b,e,u,r,q=>by
  rw [RpV] at r;subst r;cases e <;> simp [RpV] at q ⊢;exact q
 | .int b,e,u,r,q=>by
  rw [RpV] at r;obtain ⟨t,rfl⟩:=r;cases e <;> simp [RpV] at q ⊢;exact q
 | .str b,e,u,r,q=>by
  rw [RpV] at r;obtain ⟨t,rfl⟩:=r;cases e <;> simp [RpV] at q ⊢;exact q
 | .tup ds,e,u,r,q=>by
  rw [RpV] at r;obtain ⟨a,its,rfl,⟨o,ho,hc,n,hd⟩,rs⟩:=r;cases e <;> simp only [RpV] at q
  .cases q
  .cases q
  .obtain ⟨_,q⟩:=q;cases q
  .obtain ⟨_,q⟩:=q;cases q
  .obtain ⟨a',its',z,⟨o',ho',hc',n',hd'⟩,qs⟩:=q;cases z;rw [ho] at ho';cases ho';rw [hd] at hd';injection hd' with z _;have z':its=its':=by simpa using z
   subst z';rw [aF.inj rs qs]
  .obtain ⟨a',its',z,⟨o',ho',hc',n',hd'⟩,qs⟩:=q;cases z;rw [ho] at ho';cases ho';rw [hc] at hc';exact absurd hc' (by simp)
 | .lst ds,e,u,r,q=>by
  rw [RpV] at r;obtain ⟨a,its,rfl,⟨o,ho,hc,n,hd⟩,rs⟩:=r;cases e <;> simp only [RpV] at q
  .cases q
  .cases q
  .obtain ⟨_,q⟩:=q;cases q
  .obtain ⟨_,q⟩:=q;cases q
  .obtain ⟨a',its',z,⟨o',ho',hc',n',hd'⟩,qs⟩:=q;cases z;rw [ho] at ho';cases ho';rw [hc] at hc';exact absurd hc' (by simp)
  .obtain ⟨a',its',z,⟨o',ho',hc',n',hd'⟩,qs⟩:=q;cases z;rw [ho] at ho';cases ho';rw [hd] at hd';injection hd' with z _;have z':its=its':=by simpa using z
   subst z';rw [aF.inj rs qs]
 | .dct ks vs,e,u,r,q=>by rw [RpV] at r;exact r.elim
theorem aF.inj {h:Heap}:∀ {ds es:List D}{us:zw},aF h ds us->aF h es us->ds=es
 | [],es,us,r,q=>by
  rw [aF] at r;subst r;cases es with
  | nil=>rfl
  | cons e es=>rw [aF] at q;obtain ⟨_,_,z,_⟩:=q;cases z
 | d::ds,es,us,r,q=>by
  rw [aF] at r;obtain ⟨y,ys,rfl,r0,rs⟩:=r;cases es with
  | nil=>rw [aF] at q;cases q
  | cons e es =>
   rw [aF] at q;obtain ⟨y',ys',z,q0,qs⟩:=q;cases z;rw [RpV.inj r0 q0,aF.inj rs qs]
end
mutual
theorem QM {h:Heap}:∀ {d:D}{u:Value},RpV h d u->aG d d=true
 | .non,_,_=>by simp [aG]
 | .bl b,_,_=>by simp [aG]
 | .int b,_,_=>by simp [aG]
 | .str b,_,_=>by simp [aG]
 | .tup ds,_,r=>by
  rw [RpV] at r;obtain ⟨_,_,_,_,rs⟩:=r;rw [aG];exact oh rs
 | .lst ds,_,r=>by
  rw [RpV] at r;obtain ⟨_,_,_,_,rs⟩:=r;rw [aG];exact oh rs
 | .dct _ _,_,r=>by rw [RpV] at r;exact r.elim
theorem oh {h:Heap}:∀ {ds:List D}{us:zw},aF h ds us->fK ds ds=true
 | [],_,_=>by simp [fK]
 | d::ds,_,r=>by
  rw [aF] at r;obtain ⟨_,_,_,r0,rs⟩:=r;rw [fK,QM r0,oh rs];rfl
end
variable {h:Heap}
def Br (ds es:List D) {us:zw} (r:aF h ds us) (q:aF h es us):fK ds es=true:=by
 rw [aF.inj r q];exact oh q
section
open PySem.SeqAt
theorem oX:∀ (d e:D) {A:Around}{s:Shared}{u v:Value},RpV s.heap d u->RpV s.heap e v->A.units+dep d < cLine->A.units+dep e < cLine->EqAt A s u v (aG d e)
 | .non,e,A,s,u,v,r,q,hd,he=>by
  rw [RpV] at r;subst r;have hu:A.units < cLine:=by omega
  cases e <;> simp only [RpV] at q
  .subst q;rw [aG];exact EqAt.same _
  .subst q;rw [aG];exact EqAt.none_bool _;all_goals simp
  .obtain ⟨t,rfl⟩:=q;rw [aG];exact EqAt.none_int _ _;all_goals simp
  .obtain ⟨t,rfl⟩:=q;rw [aG];exact EqAt.none_str _ _;all_goals simp
  .obtain ⟨a,its,rfl,q,_⟩:=q;rw [aG];exact EqAt.none_tuple q hu;all_goals simp
  .obtain ⟨a,its,rfl,q,_⟩:=q;rw [aG];exact EqAt.none_list q hu;all_goals simp
 | .bl b,e,A,s,u,v,r,q,hd,he=>by
  rw [RpV] at r;subst r;have hu:A.units < cLine:=by omega
  cases e <;> simp only [RpV] at q
  .subst q;rw [aG];exact EqAt.bool_none _;all_goals simp
  .subst q;rw [aG];exact EqAt.bool_bool _ _
  .obtain ⟨t,rfl⟩:=q;rw [aG];exact EqAt.bool_int _ _ _
  .obtain ⟨t,rfl⟩:=q;rw [aG];exact EqAt.bool_str _ _ _;all_goals simp
  .obtain ⟨a,its,rfl,q,_⟩:=q;rw [aG];exact EqAt.bool_tuple _ q hu;all_goals simp
  .obtain ⟨a,its,rfl,q,_⟩:=q;rw [aG];exact EqAt.bool_list _ q hu;all_goals simp
 | .int b,e,A,s,u,v,r,q,hd,he=>by
  rw [RpV] at r;obtain ⟨t0,rfl⟩:=r;have hu:A.units < cLine:=by omega
  cases e <;> simp only [RpV] at q
  .subst q;rw [aG];exact EqAt.int_none _ _;all_goals simp
  .subst q;rw [aG];exact EqAt.int_bool _ _ _
  .obtain ⟨t,rfl⟩:=q;rw [aG];exact EqAt.int_int _ _ _ _
  .obtain ⟨t,rfl⟩:=q;rw [aG];exact EqAt.int_str _ _ _ _;all_goals simp
  .obtain ⟨a,its,rfl,q,_⟩:=q;rw [aG];exact EqAt.int_tuple _ _ q hu;all_goals simp
  .obtain ⟨a,its,rfl,q,_⟩:=q;rw [aG];exact EqAt.int_list _ _ q hu;all_goals simp
 | .str b,e,A,s,u,v,r,q,hd,he=>by
  rw [RpV] at r;obtain ⟨t0,rfl⟩:=r;have hu:A.units < cLine:=by omega
  cases e <;> simp only [RpV] at q
  .subst q;rw [aG];exact EqAt.str_none _ _;all_goals simp
  .subst q;rw [aG];exact EqAt.str_bool _ _ _;all_goals simp
  .obtain ⟨t,rfl⟩:=q;rw [aG];exact EqAt.str_int _ _ _ _;all_goals simp
  .obtain ⟨t,rfl⟩:=q;rw [aG];exact EqAt.str_str _ _ _ _
  .obtain ⟨a,its,rfl,q,_⟩:=q;rw [aG];exact EqAt.str_tuple _ _ q hu;all_goals simp
  .obtain ⟨a,its,rfl,q,_⟩:=q;rw [aG];exact EqAt.str_list _ _ q hu;all_goals simp
 | .tup ds,e,A,s,u,v,r,q,hd,he=>by
  rw [RpV] at r;obtain ⟨a0,its0,rfl,r,rs⟩:=r;rw [dep] at hd;have hu:A.units < cLine:=by omega
  cases e <;> simp only [RpV] at q
  .subst q;rw [aG];exact EqAt.tuple_none r hu;all_goals simp
  .subst q;rw [aG];exact EqAt.tuple_bool _ r hu;all_goals simp
  .obtain ⟨t,rfl⟩:=q;rw [aG];exact EqAt.tuple_int _ _ r hu;all_goals simp
  .obtain ⟨t,rfl⟩:=q;rw [aG];exact EqAt.tuple_str _ _ r hu;all_goals simp
  .rename_i es;obtain ⟨a,its,rfl,q,qs⟩:=q;rw [dep] at he;have l1:=rs.length;have l2:=qs.length;rw [aG];have items:∀ j (h1:j < its0.toArray.size) (h2:j < its.toArray.size),EqAt A.in1 s its0.toArray[j] its.toArray[j] (aG (ds.getD j .non) (es.getD j .non)):=fun j h1 h2=>by
    have k1:j < ds.length:=by simp at h1;omega
    have k2:j < es.length:=by simp at h2;omega
    have e1:ds.getD j .non=ds[j]:=by simp [k1]
    have e2:es.getD j .non=es[j]:=by simp [k2]
    rw [e1,e2];have w1:=fC k1;have w2:=fC k2;have hin:A.in1.units=A.units+1:=rfl;exact oX ds[j] es[j] (aF.get k1 (by omega) rs) (aF.get k2 (by omega) qs) (by omega) (by omega)
   by_cases hab:a0=a
   .subst hab;have ei:its0=its:=by
     obtain ⟨o,ho,_,n,hd1⟩:=r;obtain ⟨o',ho',_,n',hd2⟩:=q;rw [ho] at ho';cases ho';rw [hd1] at hd2;injection hd2 with z _;simpa using z
    subst ei;have hQ:fK ds es=true:=by
     exact Br ds es rs qs
    rw [hQ];exact EqAt.same _
   .refine EqAt.of_refs hab ?_;have rc:=RcAt.tuples (e:=fun j=>aG (ds.getD j .non) (es.getD j .non)) r q hu items;rw [mG,l1,l2];simpa using rc
  .obtain ⟨a,its,rfl,q,_⟩:=q;rw [aG];exact EqAt.tuple_list r q hu;all_goals simp
 | .lst ds,e,A,s,u,v,r,q,hd,he=>by
  rw [RpV] at r;obtain ⟨a0,its0,rfl,r,rs⟩:=r;rw [dep] at hd;have hu:A.units < cLine:=by omega
  cases e <;> simp only [RpV] at q
  .subst q;rw [aG];exact EqAt.list_none r hu;all_goals simp
  .subst q;rw [aG];exact EqAt.list_bool _ r hu;all_goals simp
  .obtain ⟨t,rfl⟩:=q;rw [aG];exact EqAt.list_int _ _ r hu;all_goals simp
  .obtain ⟨t,rfl⟩:=q;rw [aG];exact EqAt.list_str _ _ r hu;all_goals simp
  .obtain ⟨a,its,rfl,q,_⟩:=q;rw [aG];exact EqAt.list_tuple r q hu;all_goals simp
  .rename_i es;obtain ⟨a,its,rfl,q,qs⟩:=q;rw [dep] at he;have l1:=rs.length;have l2:=qs.length;rw [aG];have items:∀ j (h1:j < its0.toArray.size) (h2:j < its.toArray.size),EqAt A.in1 s its0.toArray[j] its.toArray[j] (aG (ds.getD j .non) (es.getD j .non)):=fun j h1 h2=>by
    have k1:j < ds.length:=by simp at h1;omega
    have k2:j < es.length:=by simp at h2;omega
    have e1:ds.getD j .non=ds[j]:=by simp [k1]
    have e2:es.getD j .non=es[j]:=by simp [k2]
    rw [e1,e2];have w1:=fC k1;have w2:=fC k2;have hin:A.in1.units=A.units+1:=rfl;exact oX ds[j] es[j] (aF.get k1 (by omega) rs) (aF.get k2 (by omega) qs) (by omega) (by omega)
   by_cases hab:a0=a
   .subst hab;have ei:its0=its:=by
     obtain ⟨o,ho,_,n,hd1⟩:=r;obtain ⟨o',ho',_,n',hd2⟩:=q;rw [ho] at ho';cases ho';rw [hd1] at hd2;injection hd2 with z _;simpa using z
    subst ei;rw [Br ds es rs qs];exact EqAt.same _
   .refine EqAt.of_refs hab ?_;rw [mG];by_cases hs:ds.length=es.length
    .have rc:=RcAt.lists (e:=fun j=>aG (ds.getD j .non) (es.getD j .non)) r q (by simp;omega) hu items;have e1:min ds.length es.length=its0.toArray.size:=by simp;omega
     rw [e1];simpa [hs] using rc
    .have rc:=RcAt.lists_lengths r q (by simp;omega) hu;have e0:(ds.length == es.length)=false:=by simpa using hs
     rw [e0,Bool.and_false];exact rc
 | .dct ks vs,e,A,s,u,v,r,q,hd,he=>by rw [RpV] at r;exact r.elim
termination_by d=>sizeOf d
decreasing_by
 all_goals
  have:=List.sizeOf_lt_of_mem (List.getElem_mem (by assumption:j < ds.length));simp only [D.tup.sizeOf_spec,D.lst.sizeOf_spec];omega
noncomputable def like:D->D->Bool
 | .int _,.int _=>true
 | .tup _,.tup _=>true
 | .lst _,.lst _=>true
 | _,_=>false
def Li {ds es:List D}{A:Around}{s:Shared}{its0 its:zw} (rs:aF s.heap ds its0) (qs:aF s.heap es its) (hd:A.units+(deps ds+1) < cLine) (he:A.units+(deps es+1) < cLine):∀ j (h1:j < its0.toArray.size) (h2:j < its.toArray.size),EqAt A.in1 s its0.toArray[j] its.toArray[j] (aG (ds.getD j .non) (es.getD j .non)):=fun j h1 h2=>by
 have l1:=rs.length;have l2:=qs.length;have k1:j < ds.length:=by simp at h1;omega
 have k2:j < es.length:=by simp at h2;omega
 have e1:ds.getD j .non=ds[j]:=by simp [k1]
 have e2:es.getD j .non=es[j]:=by simp [k2]
 rw [e1,e2];have w1:=fC k1;have w2:=fC k2;have hin:A.in1.units=A.units+1:=rfl;exact oX ds[j] es[j] (aF.get k1 (by omega) rs) (aF.get k2 (by omega) qs) (by omega) (by omega)
def aa6:∀ (d e:D) {A:Around}{s:Shared}{u v:Value},like d e=true->RpV s.heap d u->RpV s.heap e v->A.units+dep d < cLine->A.units+dep e < cLine->RcAt A s u v (aG d e):=by
 intro d e A s u v k r q hd he;have hu:A.units < cLine:=by omega
 cases d <;> cases e <;> try (cases k;done)
 .rw [RpV] at r q;obtain ⟨t0,rfl⟩:=r;obtain ⟨t,rfl⟩:=q;rw [aG];exact RcAt.int_int _ _ _ _
 all_goals
  rw [RpV] at r q;obtain ⟨a0,its0,rfl,r,rs⟩:=r;obtain ⟨a,its,rfl,q,qs⟩:=q;rw [dep] at hd he;have l1:=rs.length;have l2:=qs.length;rw [aG,mG];have items:=Li rs qs hd he
 .rename_i ds es;have rc:=RcAt.tuples (e:=fun j=>aG (ds.getD j .non) (es.getD j .non)) r q hu items;rw [l1,l2];simpa using rc
 .rename_i ds es;by_cases hs:ds.length=es.length
  .have rc:=RcAt.lists (e:=fun j=>aG (ds.getD j .non) (es.getD j .non)) r q (by simp;omega) hu items;have e1:min ds.length es.length=its0.toArray.size:=by simp;omega
   rw [e1];simpa [hs] using rc
  .have rc:=RcAt.lists_lengths r q (by simp;omega) hu;have e0:(ds.length == es.length)=false:=by simpa using hs
   rw [e0,Bool.and_false];exact rc
def Zd:∀ (d e:D) {A:Around}{s:Shared}{u v:Value},like d e=true->RpV s.heap d u->RpV s.heap e v->A.units+dep d < cLine->A.units+dep e < cLine->RcNeAt A s u v (!aG d e):=by
 intro d e A s u v k r q hd he;have hu:A.units < cLine:=by omega
 cases d <;> cases e <;> try (cases k;done)
 .rw [RpV] at r q;obtain ⟨t0,rfl⟩:=r;obtain ⟨t,rfl⟩:=q;rw [aG];exact RcNeAt.int_int _ _ _ _
 all_goals
  rw [RpV] at r q;obtain ⟨a0,its0,rfl,r,rs⟩:=r;obtain ⟨a,its,rfl,q,qs⟩:=q;rw [dep] at hd he;have l1:=rs.length;have l2:=qs.length;rw [aG,mG];have items:=Li rs qs hd he
 .rename_i ds es;have rc:=RcNeAt.tuples (e:=fun j=>aG (ds.getD j .non) (es.getD j .non)) r q hu items;rw [l1,l2];simpa using rc
 .rename_i ds es;by_cases hs:ds.length=es.length
  .have rc:=RcNeAt.lists (e:=fun j=>aG (ds.getD j .non) (es.getD j .non)) r q (by simp;omega) hu items;have e1:min ds.length es.length=its0.toArray.size:=by simp;omega
   rw [e1];simpa [hs] using rc
  .have rc:=RcNeAt.lists_lengths r q (by simp;omega) hu;have e0:(ds.length == es.length)=false:=by simpa using hs
   rw [e0,Bool.and_false];exact rc
end
mutual
noncomputable def xu (w:World):D->Int
 | .int i=>hashInt i
 | .str x=>hashStr w x
 | .tup ds=>reduceHash (Builtin.Tuple.tupleHashOf (fW w ds))
 | _=>0
noncomputable def fW (w:World):List D->List Int
 | []=>[]
 | d::ds=>xu w d::fW w ds
end
mutual
noncomputable def sX:D->Nat
 | .int _=>1
 | .str _=>1
 | .tup ds=>fP ds+1
 | _=>0
noncomputable def fP:List D->Nat
 | []=>0
 | d::ds=>sX d+fP ds
end
mutual
noncomputable def keyOk:D->Bool
 | .int _=>true
 | .str _=>true
 | .tup ds=>bH ds
 | _=>false
noncomputable def bH:List D->Bool
 | []=>true
 | d::ds=>keyOk d && bH ds
end
mutual
theorem oN:∀ {d e:D},keyOk d=true->keyOk e=true->aG d e=decide (d=e)
 | .non,e,h,_=>by simp [keyOk] at h
 | .bl _,e,h,_=>by simp [keyOk] at h
 | .int a,e,h,g=>by cases e <;> simp [keyOk] at g <;> simp [aG];rw [Bool.eq_iff_iff];simp
 | .str a,e,h,g=>by cases e <;> simp [keyOk] at g <;> simp [aG];rw [Bool.eq_iff_iff];simp
 | .tup ds,e,h,g=>by
  cases e <;> simp [keyOk] at g <;> simp [aG];exact u6 (by simpa [keyOk] using h) g
 | .lst _,e,h,_=>by simp [keyOk] at h
 | .dct _ _,e,h,_=>by simp [keyOk] at h
theorem u6:∀ {ds es:List D},bH ds=true->bH es=true->fK ds es=decide (ds=es)
 | [],es,h,g=>by cases es <;> simp [fK]
 | d::ds,[],h,g=>by simp [fK]
 | d::ds,e::es,h,g=>by
  rw [bH,Bool.and_eq_true] at h g;rw [fK,oN h.1 g.1,u6 h.2 g.2];rw [Bool.eq_iff_iff];simp
end
theorem m9 (w:World):∀ (a b:List D),fW w (a++b)=fW w a++fW w b
 | [],b=>rfl
 | d::ds,b=>by rw [List.cons_append,fW,fW,m9 w ds b,List.cons_append]
theorem lu:∀ (a b:List D),fP (a++b)=fP a+fP b
 | [],b=>by simp [fP]
 | d::ds,b=>by rw [List.cons_append,fP,fP,lu ds b];omega
theorem uN:∀ (a b:List D),bH (a++b)=(bH a && bH b)
 | [],b=>by simp [bH]
 | d::ds,b=>by rw [List.cons_append,bH,bH,uN ds b,Bool.and_assoc]
theorem S6 {P:Program}{w:World}:∀ (d:D) {A:Around}{E:zn}{s:Shared}{u:Value}{Q:Int->Shared->Prop},keyOk d=true->RpV s.heap d u->A.units+dep d < cLine ->
  Q (xu w d) { s with toks:=s.toks+sX d }->wpAny (model P w) A (pyHash u) Q E s
 | .non,A,E,s,u,Q,hk,r,hu,h=>by simp [keyOk] at hk
 | .bl b,A,E,s,u,Q,hk,r,hu,h=>by simp [keyOk] at hk
 | .int i,A,E,s,u,Q,hk,r,hu,h=>by
  rw [RpV] at r;obtain ⟨t,rfl⟩:=r;rw [xu,sX] at h;exact wpAny_pyHash_int h
 | .str x,A,E,s,u,Q,hk,r,hu,h=>by
  rw [RpV] at r;obtain ⟨t,rfl⟩:=r;rw [xu,sX] at h;exact wpAny_pyHash_str h
 | .lst _,A,E,s,u,Q,hk,r,hu,h=>by simp [keyOk] at hk
 | .dct _ _,A,E,s,u,Q,hk,r,hu,h=>by simp [keyOk] at hk
 | .tup ks,A,E,s,u,Q,hk,r,hu,h=>by
  rw [RpV] at r;obtain ⟨a,its,rfl,⟨o,ho,hc,n,hd⟩,hi⟩:=r;rw [keyOk] at hk;rw [xu,sX] at h;rw [dep] at hu;have hT:s.TypeIs (.ref a) "tuple":=⟨o,ho,hc⟩
  unfold pyHash
  first | unfold pyHashByItsType | skip
  first | refine vx (wpAny_cRoomFor_or (.inr (by omega)) ?_) | skip
  refine vx (wpAny_specialOf hT F.slot_tuple_hash.lookup ?_);show wpAny _ _ (if (some (Value.builtin "tuple.__hash__") == some Value.none)=true then _ else _) Q E s
  rw [if_neg (by rw [beq_builtin_none];exact Bool.false_ne_true)];refine vx (wpAny_specialOf hT F.slot_tuple_hash.lookup ?_);show wpAny _ _ (callSpecialIfBoundUnlessNone? (.ref a) "__hash__" _ >>= _) Q E s
  refine vx (wpAny_callSpecialIfBoundUnlessNone?_slot hT F.slot_tuple_hash (y0 F.slot_tuple_hash hT F.entry_tuple_hash ?_ (F.args_tuple_hash_1 _)));show wpAny _ _ (Builtin.Tuple.tupleItemsOf (.ref a) >>= _) _ _ s
  refine vx (wpAny_tupleItemsOf ho hd ?_);refine vx ?_;rw [<- Array.forIn_toList];refine wpAny_forIn_list _
   (fun rest (b:Array Int) s'=>∃ done left,ks=done++left/\aF s.heap left rest/\b.toList=fW w done/\s'={ s with toks:=s.toks+fP done })
   _ ?_ ?_ _ _ ⟨[],ks,rfl,by simpa using hi,rfl,rfl⟩
  .rintro x rest b s' ⟨done,left,hks,hl,hb,rfl⟩;cases left with
   | nil=>rw [aF] at hl;cases hl
   | cons k ks' =>
    rw [aF] at hl;obtain ⟨y,ys,z,h1,hl'⟩:=hl;cases z;have hmem:k∈ks:=by rw [hks];simp
    have hlt:=List.sizeOf_lt_of_mem hmem;have hko:keyOk k=true:=by
     rw [hks,uN,bH] at hk;simp at hk;exact hk.2.1
    have hdep:dep k<=deps ks:=by
     obtain ⟨i,hi2,e⟩:=List.getElem_of_mem hmem;rw [<- e];exact fC hi2
    refine vx (S6 k (s:={ s with toks:=s.toks+fP done }) hko h1 (by first | (show A.in1.units+dep k < cLine;show A.units+1+dep k < cLine;omega) | (show A.in1.in1.units+dep k < cLine;show A.units+1+1+dep k < cLine;omega)) ?_)
    first
     | exact vy ⟨done++[k],ks',by simp [hks],hl',by simp [hb,m9,fW],by simp [lu,fP,Nat.add_assoc]⟩
     | exact vx (vy (vy ⟨done++[k],ks',by simp [hks],hl',by simp [hb,m9,fW],by simp [lu,fP,Nat.add_assoc]⟩))
  .rintro b s' ⟨done,left,hks,hl,hb,rfl⟩;cases left with
   | cons k ks'=>rw [aF] at hl;obtain ⟨y,ys,z,_⟩:=hl;cases z
   | nil =>
    rw [List.append_nil] at hks;subst hks;show wpAny _ _ (retInt (Builtin.Tuple.tupleHashOf b.toList)) _ _ _
    rw [hb];refine wpAny_ret_mkInt ?_;show wpAny _ _ (if (decide (-(2:Int) ^ 63<=Builtin.Tuple.tupleHashOf (fW w ks)) && decide (Builtin.Tuple.tupleHashOf (fW w ks) < 2 ^ 63))=true then _ else _) Q E _
    unfold reduceHash at h;by_cases hr:(decide (-(2:Int) ^ 63<=Builtin.Tuple.tupleHashOf (fW w ks)) && decide (Builtin.Tuple.tupleHashOf (fW w ks) < 2 ^ 63))=true
    .rw [if_pos hr];rw [if_pos hr] at h;exact vy (by simpa [Nat.add_assoc] using h)
    .rw [if_neg hr];rw [if_neg hr] at h;exact vx (wpAny_rule (vy (by simpa [Nat.add_assoc] using h)))
termination_by d=>sizeOf d
decreasing_by
 simp only [D.tup.sizeOf_spec];omega
variable {P:Program}{w:World}
def YB :∀ (m:Nat) (d:D) {A:Around}{E:zn}{s:Shared}{u:Value}{Q:Bool->Shared->Prop},keyOk d=true->dep d<=m->RpV s.heap d u->Q true s ->
  wpAny (model P w) A (eqIsQuiet m u) Q E s:=by
 intro m;induction m with
 | zero =>
  intro d A E s u Q hk hm r h;cases d <;> simp [keyOk,dep] at hk hm
  .rw [RpV] at r;obtain ⟨t,rfl⟩:=r;rw [eqIsQuiet_byValue _ (by rfl)];exact vy h
  .rw [RpV] at r;obtain ⟨t,rfl⟩:=r;rw [eqIsQuiet_byValue _ (by rfl)];exact vy h
 | succ m ih =>
  intro d A E s u Q hk hm r h;cases d with
  | non=>simp [keyOk] at hk
  | bl _=>simp [keyOk] at hk
  | lst _=>simp [keyOk] at hk
  | dct _ _=>simp [keyOk] at hk
  | int _ =>
   rw [RpV] at r;obtain ⟨t,rfl⟩:=r;rw [eqIsQuiet_byValue _ (by rfl)];exact vy h
  | str _ =>
   rw [RpV] at r;obtain ⟨t,rfl⟩:=r;rw [eqIsQuiet_byValue _ (by rfl)];exact vy h
  | tup ks =>
   rw [RpV] at r;obtain ⟨a,its,rfl,⟨o,ho,hc,n,hd⟩,hi⟩:=r;rw [keyOk] at hk;rw [dep] at hm;have hT:s.TypeIs (.ref a) "tuple":=⟨o,ho,hc⟩
   unfold eqIsQuiet;refine vx (wpAny_specialOf hT F.slot_tuple_eq.lookup ?_);show wpAny _ _ (isInstance (.ref a) (.type "tuple") >>= _) _ _ s
   refine vx (wpAny_isInstance hT isSubtype_tuple_tuple ?_);simp only [Bool.not_true,Bool.false_eq_true,if_false];refine vx (wpAny_seqItems ho hd ?_);refine vx ?_;show wpAny _ _ (forIn its.toArray _ _) _ _ s
   rw [<- Array.forIn_toList];refine wpAny_forIn_list _ (fun rest r s'=>r.1=none/\s'=s/\∃ left,aF s.heap left rest/\bH left=true/\deps left<=m) _ ?_ ?_ _ _ ⟨rfl,rfl,ks,by simpa using hi,hk,by omega⟩
   .rintro v rest r s' ⟨hr,rfl,left,hl,hok,hdp⟩;cases left with
    | nil=>rw [aF] at hl;cases hl
    | cons k ks' =>
     rw [aF] at hl;obtain ⟨y,ys,z,h1,hl'⟩:=hl;cases z;rw [bH,Bool.and_eq_true] at hok;rw [deps] at hdp;refine vx (ih k hok.1 (by omega) h1 ?_);simp only [Bool.not_true,Bool.false_eq_true,if_false];exact vy ⟨rfl,rfl,ks',hl',hok.2,by omega⟩
   .rintro ⟨r1,r2⟩ s' ⟨hr,rfl,_⟩;simp only at hr;subst hr;exact vy h
mutual
theorem RpV.keep {h h':Heap}:∀ {d:D}{u:Value},(∀ a o,h.get? a=some o->(∀ es ep,o.data≠.dict es ep)->h'.get? a=some o)->RpV h d u->RpV h' d u
 | .non,u,k,r=>by rw [RpV] at r ⊢;exact r
 | .bl _,u,k,r=>by rw [RpV] at r ⊢;exact r
 | .int _,u,k,r=>by rw [RpV] at r ⊢;exact r
 | .str _,u,k,r=>by rw [RpV] at r ⊢;exact r
 | .tup ds,u,k,r=>by
  rw [RpV] at r ⊢;obtain ⟨a,its,rfl,⟨o,ho,hc,n,hd⟩,rs⟩:=r;exact ⟨a,its,rfl,⟨o,k a o ho (by intro es ep z;rw [hd] at z;cases z),hc,n,hd⟩,aF.keep k rs⟩
 | .lst ds,u,k,r=>by
  rw [RpV] at r ⊢;obtain ⟨a,its,rfl,⟨o,ho,hc,n,hd⟩,rs⟩:=r;exact ⟨a,its,rfl,⟨o,k a o ho (by intro es ep z;rw [hd] at z;cases z),hc,n,hd⟩,aF.keep k rs⟩
 | .dct _ _,u,k,r=>by rw [RpV] at r;exact r.elim
theorem aF.keep {h h':Heap}:∀ {ds:List D}{us:zw},(∀ a o,h.get? a=some o->(∀ es ep,o.data≠.dict es ep)->h'.get? a=some o)->aF h ds us->aF h' ds us
 | [],us,k,r=>by rw [aF] at r ⊢;exact r
 | d::ds,us,k,r=>by
  rw [aF] at r ⊢;obtain ⟨y,ys,rfl,r0,rs⟩:=r;exact ⟨y,ys,rfl,RpV.keep k r0,aF.keep k rs⟩
end
def abN (h:Heap) (d:D) (a:Addr):Prop:=keyOk d=true/\dep d<=6/\RpV h d (.ref a)
def gU (P:Program) (w:World):HeapKind P w D where
 is:=abN
 hash:=xu w
 draws:=sX
 room:=fun A=>A.units+10 < cLine
 inj:=fun hx hy=>RpV.inj hx.2.2 hy.2.2
 keeps:=fun x ho hd hs=>⟨x.1,x.2.1,x.2.2.keep fun b ob hb hnd=>(hs.2 b (by
  rintro rfl;rw [ho] at hb;cases hb;exact hnd _ _ hd)).trans hb⟩
 pyHash:=fun hu hk h=>S6 _ hk.1 hk.2.2 (by have:=hk.2.1;omega) h
 eqBool:=fun hu hx hy h=>by
  have e:=oN hx.1 hy.1;exact oX _ _ hx.2.2 hy.2.2 (by have:=hx.2.1;omega) (by have:=hy.2.1;omega) _ _ _ _ (by rw [e];exact h)
 quiet:=fun hk h=>YB 8 _ hk.1 (by have:=hk.2.1;omega) hk.2.2 h
def isKey (d:D):Bool:=keyOk d && decide (dep d<=6) && (match d with | .tup _=>true | _=>false)
def kOk (ks:List D) (k:D):Bool:=isKey k && ks.all isKey
def YL {ks:List D}{k:D} (h:kOk ks k=true):isKey k=true/\∀ c∈ks,isKey c=true:=by
 unfold kOk at h;rw [Bool.and_eq_true] at h;exact ⟨h.1,fun c hc=>yA.mp h.2 c hc⟩
def gQ {d:D} (h:isKey d=true):keyOk d=true/\dep d<=6/\∃ ds,d=.tup ds:=by
 unfold isKey at h;simp only [Bool.and_eq_true,decide_eq_true_eq] at h;refine ⟨h.1.1,h.1.2,?_⟩;cases d <;> simp at h;exact ⟨_,rfl⟩
end Mi
namespace L2
open PySem PySem.Spec PyProof.Rows
end L2
namespace Mi
open PySem L2 PyProof.Rows
structure Xc where
 cls:Str
 val:D
inductive R (α:Type) where
 | ok (a:α) | exc (x:Xc) | stuck
noncomputable def R.bind {α β:Type}:R α->(α->R β)->R β
 | .ok a,f=>f a
 | .exc x,_=>.exc x
 | .stuck,_=>.stuck
noncomputable instance:Monad R where
 pure:=R.ok
 bind:=R.bind
@[simp] theorem qT {α β:Type} (a:α) (f:α->R β):(R.ok a >>= f)=f a:=rfl
@[simp] theorem TX {α β:Type} (x:Xc) (f:α->R β):((R.exc x:R α) >>= f)=.exc x:=rfl
@[simp] theorem NT {α β:Type} (f:α->R β):((R.stuck:R α) >>= f)=.stuck:=rfl
@[simp] theorem acT {α:Type} (a:α):(pure a:R α)=.ok a:=rfl
inductive BO where | add | sub | mul | mod
inductive CO where | eq | ne | lt | le | gt | ge | notin
 deriving DecidableEq
inductive Ty where | int | bool | str | tuple | list
inductive BI where | len | min2 | all | any | sorted | list | tuple | listEnum | listRev | maxl
 deriving DecidableEq
inductive IK where | seq | rng | enum | zip | rev
inductive Tg where
 | one (i:Nat) | two (i j:Nat)
abbrev En:=List (Option D)
noncomputable def lim:Nat:=100000
def jy:lim<=sizeLine:=by decide
def mY:D->D->R D
 | .int a,.int b=>.ok (.int (a+b))
 | .lst a,.lst b=>if a.length+b.length<=lim then .ok (.lst (a++b)) else .stuck
 | .tup a,.tup b=>if a.length+b.length<=lim then .ok (.tup (a++b)) else .stuck
 | _,_=>.stuck
noncomputable def j9:Int->Bool
 | .ofNat n=>Nat.ble n 18446744073709551615
 | .negSucc n=>Nat.ble n 18446744073709551614
def jO:BO->D->D->R D
 | .add,a,b=>mY a b
 | .sub,.int a,.int b=>.ok (.int (a - b))
 | .mul,.int a,.int b=>if j9 a || j9 b then .ok (.int (a * b)) else .stuck
 | .mod,.int a,.int b=>if 0 < b then .ok (.int (a % b)) else .stuck
 | _,_,_=>.stuck
def bW (a b:D):Bool:=decide (dep a<=30) && decide (dep b<=30) && like a b
def inD (x:D) (c:D):R Bool:=match c with
 | .lst ds=>if ds.all (fun d=>bW d x) && decide (dep x<=30) then .ok (ds.any fun d=>aG d x) else .stuck
 | .tup ds=>if ds.all (fun d=>bW d x) && decide (dep x<=30) then .ok (ds.any fun d=>aG d x) else .stuck
 | .dct ks _=>if kOk ks x then .ok (decide (x∈ks)) else .stuck
 | _=>.stuck
def bV:CO->D->D->R Bool
 | .eq,a,b=>if bW a b then .ok (aG a b) else .stuck
 | .ne,a,b=>if bW a b then .ok (!aG a b) else .stuck
 | .lt,.int a,.int b=>.ok (decide (a < b))
 | .le,.int a,.int b=>.ok (decide (a<=b))
 | .gt,.int a,.int b=>.ok (decide (b < a))
 | .ge,.int a,.int b=>.ok (decide (b<=a))
 | .notin,a,b=>do let r <- inD a b;.ok (!r)
 | _,_,_=>.stuck
noncomputable def cY:List D->List D->D->Option D
 | k'::ks,v::vs,k=>if k'=k then some v else cY ks vs k
 | _,_,_=>none
def ixD:D->D->R D
 | .dct ks vs,k=>if kOk ks k then (match cY ks vs k with | some d=>.ok d | none=>.stuck) else .stuck
 | .lst ds,.int i=>match ixN ds.length i with | some k=>(match ds[k]? with | some d=>.ok d | none=>.stuck) | none=>.stuck
 | .tup ds,.int i=>match ixN ds.length i with | some k=>(match ds[k]? with | some d=>.ok d | none=>.stuck) | none=>.stuck
 | _,_=>.stuck
noncomputable def intsOf:List D->Option (List Int)
 | []=>some []
 | .int i::ds=>(intsOf ds).map (i::·)
 | _=>none
noncomputable def mxI:Int->List Int->Int
 | b,[]=>b
 | b,a::l=>mxI (if b < a then a else b) l
noncomputable def Gz:D->R (List D)
 | .lst ds=>.ok ds
 | .tup ds=>.ok ds
 | .dct ks _=>.ok ks
 | _=>.stuck
noncomputable def aQ (n:Nat):List D->List D
 | []=>[]
 | d::ds=>.tup [.int n,d]::aQ (n+1) ds
noncomputable def rT:List D->List D->List D
 | a::as,b::bs=>.tup [a,b]::rT as bs
 | _,_=>[]
def itemsOf:IK->List D->R (List D)
 | .seq,[.lst ds]=>.ok ds
 | .seq,[.tup ds]=>.ok ds
 | .seq,[.dct ks _]=>.ok ks
 | .enum,[.tup ds]=>.ok (aQ 0 ds)
 | .enum,[.lst ds]=>.ok (aQ 0 ds)
 | .zip,[.tup as,.tup bs]=>.ok (rT as bs)
 | .rev,[.lst ds]=>.ok ds.reverse
 | .rng,[.int n]=>if -(lim:Int)<=n/\n<=lim then .ok ((List.range n.toNat).map fun (k:Nat)=>D.int (k:Int)) else .stuck
 | .rng,[.int a,.int b]=>if -(lim:Int)<=a/\a<=lim/\-(lim:Int)<=b/\b<=lim then .ok ((List.range (b - a).toNat).map fun (k:Nat)=>D.int (a+(k:Int))) else .stuck
 | _,_=>.stuck
noncomputable def boolsOf:List D->Option (List Bool)
 | []=>some []
 | .bl b::ds=>(boolsOf ds).map (b::·)
 | _=>none
mutual
noncomputable def ltD:D->D->Bool
 | .int a,.int b=>decide (a < b)
 | .tup a,.tup b=>bD a b
 | .lst a,.lst b=>bD a b
 | _,_=>false
noncomputable def bD:List D->List D->Bool
 | [],[]=>false
 | [],_::_=>true
 | _::_,[]=>false
 | a::as,b::bs=>if a=b then bD as bs else ltD a b
end
end Mi
namespace Mi
open PySem L2
open PyProof.Rows hiding St
noncomputable def iz (env:Env):List (Str × NameKind)->List (Str × Addr)->List (Str × Addr)
 | [],acc=>acc
 | (n,k)::r,acc=>if k == .free then (match env.cells.lookup n with | some a=>iz env r ((n,a)::acc) | none=>iz env r acc) else iz env r acc
theorem Ey (env:Env) (f:Str × NameKind->List (Str × Addr)->Sem (ForInStep (List (Str × Addr))))
  (hf:∀ n k cs,f (n,k) cs=if k == .free then (do let a <- cellOf env n;pure (.yield ((n,a)::cs))) else pure (.yield cs)) :
  ∀ (l:List (Str × NameKind)) (acc:List (Str × Addr)),(∀ x∈l,x.2=.free->∃ c,env.cells.lookup x.1=some c)->forIn l acc f=(pure (iz env l acc):Sem _)
 | [],acc,_=>by rw [List.forIn_nil];rfl
 | (n,k)::r,acc,h=>by
  rw [List.forIn_cons,hf];have ih:=fun acc=>Ey env f hf r acc fun x hx=>h x (vz _ hx)
  unfold iz;by_cases hk:(k == NameKind.free)=true
  .obtain ⟨c,hc⟩:=h (n,k) vE (by simpa using hk);have hc':env.cells.lookup n=some c:=hc;rw [if_pos hk,if_pos hk,hc'];have e:cellOf env n=pure c:=by unfold cellOf;rw [hc']
   rw [e];simp only [pure_bind];exact ih _
  .rw [if_neg hk,if_neg hk];simp only [pure_bind];exact ih _
variable {env:Env}{scope:Scope}
theorem M4 (h:∀ x∈scope.names,x.2=.free->∃ c,env.cells.lookup x.1=some c):closureFor scope env=pure (iz env scope.names []):=by
 simp only [closureFor];rw [Ey env _ (fun n k cs=>by cases hk:k == NameKind.free <;> simp [hk]) scope.names [] h];rfl
theorem pQ {env:Env}:∀ {l:List (Str × NameKind)}{acc:List (Str × Addr)}{p:Str × Addr},p∈iz env l acc->p∈acc\/((p.1,NameKind.free)∈l/\env.cells.lookup p.1=some p.2)
 | [],acc,p,h=>.inl h
 | (n,k)::r,acc,p,h=>by
  unfold iz at h;split at h
  .rename_i hk;split at h
   .rename_i a ha;rcases pQ h with h | h
    .rcases z9.mp h with e | h
     .right;subst e;have:k=.free:=by simpa using hk
      subst this;exact ⟨vE,ha⟩
     .exact .inl h
    .exact .inr ⟨vz _ h.1,h.2⟩
   .rcases pQ h with h | h
    .exact .inl h
    .exact .inr ⟨vz _ h.1,h.2⟩
  .rcases pQ h with h | h
   .exact .inl h
   .exact .inr ⟨vz _ h.1,h.2⟩
theorem kW {env:Env}{x:Str}{c:Addr} (hc:env.cells.lookup x=some c):∀ {l:List (Str × NameKind)}{acc:List (Str × Addr)},((x,NameKind.free)∈l\/acc.lookup x=some c)->(iz env l acc).lookup x=some c
 | [],acc,h=>by
  rcases h with h | h
  .simp at h
  .exact h
 | (n,k)::r,acc,h=>by
  unfold iz;split
  .rename_i hk;have hk':k=.free:=by simpa using hk
   split
   .rename_i a ha;apply kW hc;by_cases hx:x=n
    .subst hx;rw [hc] at ha;cases ha;right;simp [List.lookup_cons]
    .rcases h with h | h
     .rcases z9.mp h with e | h
      .cases e;exact absurd rfl hx
      .exact .inl h
     .right;have:(x == n)=false:=beq_eq_false_iff_ne.mpr hx;rw [List.lookup_cons,this];exact h
   .rename_i ha;apply kW hc;rcases h with h | h
    .rcases z9.mp h with e | h
     .cases e;rw [hc] at ha;cases ha
     .exact .inl h
    .exact .inr h
  .rename_i hk;apply kW hc;rcases h with h | h
   .rcases z9.mp h with e | h
    .cases e;exact absurd (by rfl) hk
    .exact .inl h
   .exact .inr h
def dH (scope:Scope) (C:Addr) (env:Env):Env :=
 { scope:=relabel scope env,locals:=C,globals:=env.globals,cells:=cellsFrom (C+1) scope.names (iz env scope.names []),qual:=env.qual,func:=none,code:=env.code,frame:=env.frame,builtins:=env.builtins }
variable {s:Shared}
def aar {M:Model}{A:Around}{E:zn}{cl:List (Str × Addr)}{Q:Env->Shared->Prop}
  (h:Q { scope:=scope,locals:=s.heap.objs.size,globals:=env.globals,cells:=cellsFrom (s.heap.objs.size+1) scope.names cl,qual:=env.qual,func:=none,code:=env.code,frame:=env.frame,builtins:=env.builtins }
   { s with heap:=pushCells (s.heap.push { cls:=.type "dict",data:=.dict #[] }) scope.names }) :
  wpAny M A (newFunctionEnv scope env.globals cl [] env.qual none .none (some env)) Q E s:=by
 simp only [newFunctionEnv,Option.isSome_some,if_true];refine vx (wpAny_alloc ?_);refine vx (wpAny_layCells _ (fun name kind cells=>by cases hkc:kind == NameKind.cell <;> simp [hkc]) _ _ _ _ ?_);rw [show ({ s with heap:=s.heap.push { cls:=.type "dict",data:=.dict #[] } }:Shared).heap.objs.size=s.heap.objs.size+1 from Heap.size_push ..]
 simp only [List.forIn_nil,pure_bind];exact vy h
theorem ni:∀ {l:List (Str × NameKind)}{n:Nat}{acc:List (Str × Addr)}{p:Str × Addr},p∈cellsFrom n l acc->p∈acc\/(n<=p.2/\(p.1,NameKind.cell)∈l)
 | [],n,acc,p,h=>.inl h
 | (x,k)::r,n,acc,p,h=>by
  unfold cellsFrom at h;split at h
  .rename_i hk;have hk':k=.cell:=by simpa using hk
   subst hk';rcases ni h with h | h
   .rcases z9.mp h with e | h
    .subst e;exact .inr ⟨v6 _,vE⟩
    .exact .inl h
   .exact .inr ⟨by omega,vz _ h.2⟩
  .rcases ni h with h | h
   .exact .inl h
   .exact .inr ⟨h.1,vz _ h.2⟩
theorem nj:∀ {l:List (Str × NameKind)}{n:Nat}{acc:List (Str × Addr)},(∀ p∈acc,p.2 < n)->(∀ p∈acc,∀ q∈acc,p.2=q.2->p.1=q.1)->∀ p∈cellsFrom n l acc,∀ q∈cellsFrom n l acc,p.2=q.2->p.1=q.1
 | [],n,acc,h1,h2=>h2
 | (x,k)::r,n,acc,h1,h2=>by
  unfold cellsFrom;split
  .refine nj (fun p hp=>?_) fun p hp q hq e=>?_
   .rcases z9.mp hp with e | hp
    .subst e;exact jM _
    .exact Nat.lt_succ_of_lt (h1 p hp)
   .rcases z9.mp hp with e1 | hp
    .rcases z9.mp hq with e2 | hq
     .rw [e1,e2]
     .subst e1;have:=h1 q hq;have e':n=q.2:=e;exact absurd (e' ▸ this) (yy _)
    .rcases z9.mp hq with e2 | hq
     .subst e2;have:=h1 p hp;have e':p.2=n:=e;exact absurd (e' ▸ this) (yy _)
     .exact h2 p hp q hq e
  .exact nj h1 h2
theorem jK {x:Str}:∀ {l:List (Str × NameKind)}{n:Nat}{acc:List (Str × Addr)},(x,NameKind.cell) ∉ l->(cellsFrom n l acc).lookup x=acc.lookup x
 | [],n,acc,h=>rfl
 | (y,k)::r,n,acc,h=>by
  have h':(x,NameKind.cell) ∉ r:=fun z=>h (vz _ z)
  unfold cellsFrom;split
  .rename_i hk;have hk':k=.cell:=by simpa using hk
   subst hk';rw [jK h'];have hne:x≠y:=fun e=>h (by rw [e];exact vE)
   have:(x == y)=false:=beq_eq_false_iff_ne.mpr hne;rw [List.lookup_cons,this]
  .exact jK h'
theorem lE:∀ {l:List (Str × NameKind)}{h:Heap}{acc:List (Str × Addr)}{p:Str × Addr},p∈cellsFrom h.objs.size l acc->p∈acc\/(pushCells h l).IsCell p.2 none
 | [],h,acc,p,q=>.inl q
 | (y,k)::r,h,acc,p,q=>by
  unfold cellsFrom at q;unfold pushCells;split at q
  .rename_i hk;rw [if_pos hk];have e:(h.push { cls:=.type "cell",data:=.cell none }).objs.size=h.objs.size+1:=Heap.size_push ..
   rw [<- e] at q;rcases lE q with q | q
   .rcases z9.mp q with z | q
    .subst z;right;exact Heap.IsCell.keeps ⟨_,v3 _ rfl,rfl⟩ (pushCells_keeps r _)
    .exact .inl q
   .exact .inr q
  .rename_i hk;rw [if_neg hk];exact lE q
theorem fQ {α:Type}:∀ {l:List (Str × α)}{x:Str}{k:α},(l.map (·.1)).Nodup->(x,k)∈l->l.lookup x=some k
 | (y,j)::r,x,k,nd,h=>by
  rw [List.map_cons,List.nodup_cons] at nd;rcases z9.mp h with e | h
  .cases e;simp [List.lookup_cons]
  .have hne:x≠y:=fun e=>nd.1 (by rw [<- e];exact v8.mpr ⟨_,h,rfl⟩)
   have:(x == y)=false:=beq_eq_false_iff_ne.mpr hne;rw [List.lookup_cons,this];exact fQ nd.2 h
theorem Bv {env:Env}{x:Str}:∀ {names:List (Str × NameKind)},
  (names.map fun (n,k)=>if (k == NameKind.free && env.scope.kind == .function && env.kindOf n == some .cell) then (n,NameKind.cell) else (n,k)).lookup x =
   (names.lookup x).map fun k=>if (k == NameKind.free && env.scope.kind == .function && env.kindOf x == some .cell) then NameKind.cell else k
 | []=>rfl
 | (n,k)::r=>by
  have ih:=Bv (env:=env) (x:=x) (names:=r);rw [List.map_cons];cases hx:x == n with
  | true =>
   have e:x=n:=by simpa using hx
   subst e;by_cases hc:(k == NameKind.free && env.scope.kind == .function && env.kindOf x == some .cell)=true
   .simp only [hc,if_true,List.lookup_cons,hx,Option.map_some]
   .simp only [hc,Bool.false_eq_true,if_false,List.lookup_cons,hx,Option.map_some]
  | false =>
   by_cases hc:(k == NameKind.free && env.scope.kind == .function && env.kindOf n == some .cell)=true
   .simp only [hc,if_true,List.lookup_cons,hx];exact ih
   .simp only [hc,Bool.false_eq_true,if_false,List.lookup_cons,hx];exact ih
theorem oM (scope:Scope) (env:Env) (x:Str):(relabel scope env).names.lookup x=(scope.names.lookup x).map fun k=>if (k == NameKind.free && env.scope.kind == .function && env.kindOf x == some .cell) then NameKind.cell else k:=Bv
structure ScOk (around:Scope) (scope:Scope):Prop where
 kind:scope.kind=.function
 nd:(scope.names.map (·.1)).Nodup
 cap:∀ x,scope.names.lookup x=some .free->around.names.lookup x=some .cell\/around.names.lookup x=some .free
noncomputable def cJ (N:z0) (scope:Scope):List Bool:=N.map fun x=>decide (scope.names.lookup x=some .free)
noncomputable def bx {α:Type}:List Bool->List (Option α)->List (Option α)
 | b::bs,v::vs=>(if b then v else none)::bx bs vs
 | [],vs=>vs.map fun _=>none
 | _,[]=>[]
theorem jX {α:Type}:∀ (bs:List Bool) (vs:List (Option α)),(bx bs vs).length=vs.length
 | [],vs=>by simp [bx]
 | _::_,[]=>rfl
 | _::bs,_::vs=>by simp [bx,jX bs vs]
theorem pZ {α:Type}:∀ {bs:List Bool}{vs:List (Option α)}{i:Nat}{v:α},(bx bs vs)[i]?=some (some v)->bs[i]?=some true/\vs[i]?=some (some v)
 | [],vs,i,v,h=>by
  simp only [bx,List.getElem?_map] at h;cases e:vs[i]? <;> simp [e] at h
 | _::_,[],i,v,h=>by simp [bx] at h
 | b::bs,w::vs,0,v,h=>by
  cases b <;> simp [bx] at h ⊢;exact h
 | b::bs,w::vs,i+1,v,h=>by
  simp only [bx,List.getElem?_cons_succ] at h ⊢;exact pZ h
theorem Fv {α:Type}:∀ {bs:List Bool}{vs:List (Option α)}{i:Nat}{v:α},bs[i]?=some true->vs[i]?=some (some v)->(bx bs vs)[i]?=some (some v)
 | b::bs,w::vs,0,v,h,g=>by
  simp at h g;subst h g;simp [bx]
 | b::bs,w::vs,i+1,v,h,g=>by
  simp only [bx,List.getElem?_cons_succ] at h g ⊢;exact Fv h g
 | [],vs,i,v,h,g=>by simp at h
 | _::_,[],i,v,h,g=>by simp at g
def cO (X:Cx) (scope:Scope) (s₃:Shared) (H₃:Hp) (fp:List Addr) (xe:zn):Cx :=
 { X with s₀:=s₃,H₀:=H₃,env:=dH scope s₃.heap.objs.size X.env,outer:=X.stack,stack:=X.stack,ex:=fp,fn:=fun x=>decide (scope.names.lookup x=some .cell),pn:=[],xe:=xe }
variable {fp:List Addr}{xe:zn}{h':Heap}
section
variable {X:Cx}{pins:w4}{σ:St}{H:Hp}{s:Shared}
def Xo (I:Inv X pins σ H s) (S:ScOk X.env.scope scope) (hf:∀ b∈fp,iQ X pins H b) (ho:∀ b∈fp,∃ o,s.heap.get? b=some o) :
  Inv (cO X scope s H fp xe) [] (bx (cJ X.N scope) σ) H { s with heap:=pushCells (s.heap.push { cls:=.type "dict",data:=.dict #[] }) scope.names }:=by
 have keep:∀ b o,s.heap.get? b=some o -> (pushCells (s.heap.push { cls:=.type "dict",data:=.dict #[] }) scope.names).get? b=some o:=fun b o e=>pushCells_keeps _ _ b o (vT _ e)
 have hsz:(s.heap.push { cls:=.type "dict",data:=.dict #[] }).objs.size=s.heap.objs.size+1:=Heap.size_push ..
 have clo:∀ p∈iz X.env scope.names [],scope.names.lookup p.1=some .free/\X.env.cells.lookup p.1=some p.2:=fun p hp=>by
  rcases pQ hp with h | h
  .simp at h
  .exact ⟨fQ S.nd h.1,h.2⟩
 have clt:∀ p∈iz X.env scope.names [],p.2 < s.heap.objs.size:=fun p hp=>by
  obtain ⟨v,q⟩:=I.cell _ _ (clo p hp).2;exact q.lt
 have memc:∀ {x c},(dH scope s.heap.objs.size X.env).cells.lookup x=some c->(x,c)∈cellsFrom (s.heap.objs.size+1) scope.names (iz X.env scope.names []):=fun h=>mem_of_lookup h
 have cases2:∀ {x c},(dH scope s.heap.objs.size X.env).cells.lookup x=some c->(scope.names.lookup x=some .free/\X.env.cells.lookup x=some c)\/(s.heap.objs.size+1<=c/\scope.names.lookup x=some .cell):=fun {x c} h=>by
  rcases ni (memc h) with q | q
  .exact .inl (clo _ q)
  .exact .inr ⟨q.1,fQ S.nd q.2⟩
 have free_has:∀ {x},scope.names.lookup x=some .free->∃ c,X.env.cells.lookup x=some c:=fun {x} h=>I.ok.has x (S.cap x h)
 have lookF:∀ {x c},scope.names.lookup x=some .free->X.env.cells.lookup x=some c->(dH scope s.heap.objs.size X.env).cells.lookup x=some c:=fun {x c} h1 h2=>by
  have ncell:(x,NameKind.cell) ∉ scope.names:=fun z=>by
   have:=fQ S.nd z;rw [h1] at this;cases this
  show (cellsFrom (s.heap.objs.size+1) scope.names (iz X.env scope.names [])).lookup x=some c
  rw [jK ncell];exact kW h2 (.inl (mem_of_lookup h1))
 have kindB:∀ {x},(Env.kindOf (dH scope s.heap.objs.size X.env) x=some .cell\/Env.kindOf (dH scope s.heap.objs.size X.env) x=some .free)->scope.names.lookup x=some .cell\/scope.names.lookup x=some .free:=fun {x} h=>by
  have e:Env.kindOf (dH scope s.heap.objs.size X.env) x=_:=oM scope X.env x;rw [e] at h;cases q:scope.names.lookup x with
  | none=>rw [q] at h;simp at h
  | some k =>
   rw [q] at h;cases k <;> simp at h ⊢
 have ok:(cO X scope s H fp xe).Ok:=by
  refine ⟨I.ok.mod,S.kind,I.ok.glob,I.ok.blt,v6 _,fun x y c h1 h2=>?_,fun x h=>?_,fun x c h1 h2=>?_,I.ok.hd,I.ok.frames,.inl rfl,fun b hb=>⟨?_,fun x c h=>?_⟩,I.bs,ye I.ok.bsz I.sz,fun b o e hb=>?_,fun b hb z=>?_,I.stack,I.stkFree,I.ok.tab.un I.base⟩
  .exact nj (fun p hp=>Nat.lt_succ_of_lt (clt p hp)) (fun p hp q hq e=>I.ok.inj _ _ _ (clo p hp).2 (by rw [e];exact (clo q hq).2)) _ (memc h1) _ (memc h2) rfl
  .rcases kindB h with h | h
   .exact yz.mp (PySem.W.cellsFrom_some scope.names (s.heap.objs.size+1) _ (.inl h))
   .obtain ⟨c,hc⟩:=free_has h;exact ⟨c,lookF h hc⟩
  .rcases cases2 h2 with ⟨q,_⟩ | ⟨q,_⟩
   .have h1':scope.names.lookup x=some .cell:=of_decide_eq_true h1;rw [q] at h1';cases h1'
   .exact Nat.le_of_succ_le q
  .obtain ⟨o,e⟩:=ho b hb;exact ya (v4 e)
  .rcases cases2 h with ⟨_,q⟩ | ⟨q,_⟩
   .exact (hf b hb).2.2.2.2.1 x c q
   .obtain ⟨o,e⟩:=ho b hb;have:=v4 e;intro z;subst z;exact yy _ (Nat.lt_trans this (Nat.lt_of_succ_le q))
  .obtain ⟨_,_,_,q,_⟩:=hf b hb;rcases q with q | q
   .exact I.ok.noex b o e q
   .exact absurd (yi (v4 e) (ye I.ok.bsz q)) (yy _)
  .obtain ⟨_,q1,q2,_⟩:=hf b hb;rcases z9.mp (I.stkSub b z) with e | e
   .exact q1 e
   .exact q2 e
 refine ⟨ok,rfl,I.bare,Un.kept keep,⟨fun _=>none,(Heap.Ns.new s.heap (.type "dict")).keeps (pushCells_keeps _ _),fun i x v h1 h2 h3=>?_⟩,fun x c h=>?_,I.hok.fresh (v6 _),fun x c h=>?_,fun p hp=>absurd (show p ∈ ([]:w4) from hp) (by simp),I.hok.kept keep,?_⟩
 .obtain ⟨g1,g2⟩:=pZ h2;have hx:X.N[i]?=some x:=h1;have hfr:scope.names.lookup x=some .free:=by
   unfold cJ at g1;rw [List.getElem?_map,hx] at g1;simpa using g1
  have hcap:=S.cap x hfr;obtain ⟨m,hn,hl⟩:=I.loc;obtain ⟨u,r,l⟩:=hl i x v hx g2 (by rcases hcap with h | h;exact .inr (.inl h);exact .inr (.inr h));refine ⟨u,r,?_⟩;rcases l with ⟨hk,_⟩ | ⟨_,c,hc,hcell⟩
  .have hk':X.env.scope.names.lookup x=some .local:=hk;rcases hcap with h | h <;> rw [hk'] at h <;> cases h
  .refine .inr ⟨?_,c,lookF hfr hc,hcell.keeps keep⟩;have e:Env.kindOf (dH scope s.heap.objs.size X.env) x=_:=oM scope X.env x;show Env.kindOf (dH scope s.heap.objs.size X.env) x=some .cell\/Env.kindOf (dH scope s.heap.objs.size X.env) x=some .free
   rw [e,hfr];simp only [Option.map_some];split
   .exact .inl rfl
   .exact .inr rfl
 .rcases cases2 h with ⟨_,q⟩ | ⟨_,q⟩
  .obtain ⟨v,z⟩:=I.cell x c q;exact ⟨v,z.keeps keep⟩
  .have hm:=memc h;rw [<- hsz] at hm;rcases lE hm with z | z
   .have:=(clo _ z).1;rw [q] at this;cases this
   .exact ⟨none,z⟩
 .rcases cases2 h with ⟨_,q⟩ | ⟨q,_⟩
  .exact I.freeC x c q
  .exact I.hok.fresh (Nat.le_of_succ_le q)
 .rw [jX];exact I.len
def K6 {pins':w4}{σ':St}{H':Hp}{s':Shared} (I:Inv X pins σ H s) (hf:∀ b∈fp,iQ X pins H b)
  (J:Inv (cO X scope s H fp xe) pins' σ' H' s') (hs:Heap.SameBut s.heap.objs.size s'.heap h'):Inv X pins σ H' { s' with heap:=h' }:=by
 have ne:∀ b o,s.heap.get? b=some o->b≠s.heap.objs.size:=fun b o e=>ya (v4 e)
 have eq:∀ b,b≠s.heap.objs.size->h'.get? b=s'.heap.get? b:=fun b hb=>hs.2 b hb
 have U:Un (frs X.stack) fp H H' s.heap s'.heap:=J.base;have U':Un (frs X.stack) fp H H' s.heap h' :=
  ⟨fun b o e n hb hx=>by rw [eq b (ne b o e)];exact U.keep b o e n hb hx,fun b o e n hb hx=>by rw [eq b (ne b o e)];exact U.slot b o e n hb hx,U.free,fun b o e hx=>by rw [eq b (ne b o e)];exact U.there b o e hx,U.tups,U.frzs,U.tbls⟩
 have hC:H' s.heap.objs.size=none:=J.free;have hok:HOk X.prog X.w H' h':=fun a o e=>by
  have neH:∀ {b u},H' b=some u->b≠s.heap.objs.size:=fun {b u} q z=>by rw [z,hC] at q;cases q
  refine (J.hok a o e).stay (fun b u hb q=>?_) (fun _ q=>q) fun _ _ q=>q
  have hbn:b≠s.heap.objs.size:=by
   rcases hb with rfl | hb
   .exact neH e
   .exact neH hb
  rw [eq b hbn];exact q
 refine I.call' (s':={ s' with heap:=h' }) (ch:=fp) J.os U' hok J.bare fun b hb=>?_
 obtain ⟨_,f1,f2,f3,f4,f5⟩:=hf b hb;exact ⟨f3,f1,f4,f5⟩
end
def PTs (X:Cx) (ifs:ve) (tt:TT):Prop :=
 ∀ (pins:w4) (s:Shared) (σ:St) (H:Hp) (Q:Bool->Hp->Prop),Inv X pins σ H s->tt σ H Q ->
  wpAny (model X.prog X.w) X.A (forIn ifs true fun c r=>if r=true then do let ok <- isTrue c X.env (eval c X.env);pure (ForInStep.yield ok) else pure (ForInStep.yield r)) (TP X pins σ Q) X.xe s
variable {X:Cx}
theorem Ms :PTs X [] (fun _ H Q=>Q true H):=fun _ _ _ H _ I h=>wpAny_tests_nil ⟨H,I,h⟩
variable {tt:TT}
theorem Ma {c:Expr} (h:PT X c tt):PTs X [c] tt:=fun pins s σ H Q I q=>wpAny_tests_one (h pins s σ H Q I q)
def aaO (a b:St):Prop:=b.length=a.length/\∀ (i:Nat) v,a[i]?=some (some v)->b[i]?=some (some v)
def Bh (wi:TI) (g:TG) (tt:TT) (te:TE) (mk:St->St):TE:=fun σ H Q=>wi σ H fun J H1=>∀ D,H1 D=none ->
 ∃ W:Nat->Nat->List V->Hp->Prop,(∃ m,W 0 m [] (upd H1 D (.lst [])))/\∀ i m ys H',W i m ys H' ->
  (J.stop i H'/\Q (.ref D) H')\/(J.go i H'/\∀ x H2,J.yld i H' x H2->g x (mk σ) H2 fun σ2 H3=>aaO (mk σ) σ2/\tt σ2 H3 fun b H4 =>
   if b=true then te σ2 H4 fun y H5=>H5 D=some (.lst ys)/\ys.length < sizeLine/\∃ m',m' < m/\W (i+1) m' (ys++[y]) (upd H5 D (.lst (ys++[y])))
   else ∃ m',m' < m/\W (i+1) m' ys H4)
variable {elt tg iter:Expr}{ifs:ve}{pos pos':Pos}{wi:TI}{g:TG}{te:TE}{pins:w4}{σ:St}{H:Hp}
theorem uP {Pb:Cx->Prop}{use:Option (Value->Sem Unit)}{Qv:zn}{Q:VK}
  (I:Inv X pins σ H s) (h:Bh wi g tt te (bx (cJ X.N scope)) σ H Q)
  (hfin:∀ {s3:Shared}{H3:Hp}{fp:List Addr}{xe:zn}{s6:Shared}{H5:Hp}{D:Addr},Inv X pins σ H3 s3->(∀ b∈fp,iQ X pins H3 b)->Inv (cO X scope s3 H3 fp xe) [] (bx (cJ X.N scope) σ) H5 s6->Q (.ref D) H5->compPost (model X.prog X.w) X.A X.xe use Qv (.ref D) s3.heap.objs.size (.ok .next) s6)
  (hc:X.calm=true) (hi:PI X tg iter wi) (S:ScOk X.env.scope scope)
  (hP:∀ s₃ H₃ fp acc,Inv X pins σ H₃ s₃->(∀ b∈fp,iQ X pins H₃ b)->Pb (cO X scope s₃ H₃ fp (fun e s'=>notedBy (model X.prog X.w) X.A (dH scope s₃.heap.objs.size X.env) (fun e s'=>compPost (model X.prog X.w) X.A X.xe use Qv acc s₃.heap.objs.size (.error e) s') e s')))
  (hblk:∀ s₃ H₃ fp xe,Pb (cO X scope s₃ H₃ fp xe)->PG (cO X scope s₃ H₃ fp xe) tg g/\PTs (cO X scope s₃ H₃ fp xe) ifs tt/\PE (cO X scope s₃ H₃ fp xe) elt te)
  (hs:∀ x,foldedSetIterable iter X.env x=pure x:=by intro _;rfl) :
  wpAny (model X.prog X.w) X.A (comprehension (.ListComp elt [⟨tg,iter,ifs,0⟩] scope pos) scope X.env pos' (newList []) false (eval iter X.env) use) Qv X.xe s:=by
 have hcl:=M4 (env:=X.env) (scope:=scope) fun x hx hk=>I.ok.has x.1 (S.cap x.1 (fQ S.nd (by rw [<- hk];exact hx)))
 refine wpAny_comprehension_free (use:=use) rfl hs hcl S.kind (fun x hx hk=>fQ S.nd (by rw [<- hk];exact hx)) ?_;refine thn (hi pins s σ H _ I h) fun v s1 h1=>thn h1 fun itv s2 h2=>?_
 obtain ⟨it,fp,tn,J,H2,rfl,I2,T,st2,f2,hR⟩:=h2;refine wpAny_newList ?_;have hD:H2 s2.heap.objs.size=none:=I2.hok.fresh (v6 _);obtain ⟨W,⟨m0,w0⟩,turn⟩:=hR s2.heap.objs.size hD;have keep3:∀ b o,s2.heap.get? b=some o -> (s2.heap.push { cls:=.type "list",data:=.seq ([]:zw).toArray }).get? b=some o:=fun b o e=>vT _ e
 have I3:Inv X pins σ (upd H2 s2.heap.objs.size (.lst [])) { s2 with heap:=s2.heap.push { cls:=.type "list",data:=.seq ([]:zw).toArray } } :=
  I2.laid (t':=s2.toks) keep3 (v6 _) ⟨by simp,[],0,.nil,v3 _ rfl⟩
 generalize hs3:({ s2 with heap:=s2.heap.push { cls:=.type "list",data:=.seq ([]:zw).toArray } }:Shared)=s3 at I3
 have h3:s3.heap=s2.heap.push { cls:=.type "list",data:=.seq ([]:zw).toArray }:=by rw [<- hs3]
 have obj2:∀ b∈fp,∃ o,s2.heap.get? b=some o:=fun b hb=>by
  obtain ⟨o,e,_⟩:=T.obj 0 _ st2 b hb;exact ⟨o,e⟩
 have obj3:∀ b∈fp,∃ o,s3.heap.get? b=some o:=fun b hb=>by
  obtain ⟨o,e⟩:=obj2 b hb;exact ⟨o,by rw [h3];exact keep3 b o e⟩
 have neD:∀ b∈fp,b≠s2.heap.objs.size:=fun b hb=>by
  obtain ⟨o,e⟩:=obj2 b hb;exact ya (v4 e)
 have f3:∀ b∈fp,iQ X pins (upd H2 s2.heap.objs.size (.lst [])) b:=fun b hb=>by
  obtain ⟨g0,g1⟩:=f2 b hb;exact ⟨by rw [ao (neD b hb)];exact g0,g1⟩
 refine aar ?_;have hPb:=hP s3 (upd H2 s2.heap.objs.size (.lst [])) fp (.ref s2.heap.objs.size) I3 f3;generalize hE:(fun e s'=>notedBy (model X.prog X.w) X.A (dH scope s3.heap.objs.size X.env) (fun e s'=>compPost (model X.prog X.w) X.A X.xe use Qv (.ref s2.heap.objs.size) s3.heap.objs.size (.error e) s') e s')=xe at hPb;have J4:Inv (cO X scope s3 (upd H2 s2.heap.objs.size (.lst [])) fp xe) [] (bx (cJ X.N scope) σ) (upd H2 s2.heap.objs.size (.lst [])) { s3 with heap:=pushCells (s3.heap.push { cls:=.type "dict",data:=.dict #[] }) scope.names }:=Xo I3 S f3 obj3
 obtain ⟨hg,ht,he⟩:=hblk s3 (upd H2 s2.heap.objs.size (.lst [])) fp xe hPb;generalize hX:cO X scope s3 (upd H2 s2.heap.objs.size (.lst [])) fp xe=X' at J4 hg ht he;have eP:X'.prog=X.prog:=by rw [<- hX];rfl
 have eW:X'.w=X.w:=by rw [<- hX];rfl
 have eK:X'.K=X.K:=by rw [<- hX];rfl
 have eA:X'.A=X.A:=by rw [<- hX];rfl
 have eC:X'.calm=true:=by rw [<- hX];exact hc
 have eEnv:X'.env=dH scope s3.heap.objs.size X.env:=by rw [<- hX];rfl
 have eX:X'.xe=xe:=by rw [<- hX];rfl
 have eFp:∀ {pins':w4}{H':Hp},(∀ b∈fp,H' b=none)->pins'=[]->∀ b∈fp,iQ X' pins' H' b:=fun {pins' H'} hn hp b hb=>by
  subst hp;have q:=(J4.ok.exf b (by rw [<- hX];exact hb));refine ⟨hn b hb,q.1,J4.ok.exfs b (by rw [<- hX];exact hb),.inl (by rw [<- hX];exact hb),q.2,fun p hp=>?_⟩;rw [<- hX] at hp;exact absurd (show p∈([]:w4) from hp) (by simp)
 have tn4:tn 0 (pushCells (s3.heap.push { cls:=.type "dict",data:=.dict #[] }) scope.names):=T.keep _ _ _ st2 fun b hb o e=>pushCells_keeps _ _ b o (vT _ (by rw [h3]; exact keep3 b o e))
 have loop:∀ s5:Shared,s5={ s3 with heap:=pushCells (s3.heap.push { cls:=.type "dict",data:=.dict #[] }) scope.names } ->
   codeAny (model X.prog X.w) X.A (.compLoop (.ListComp elt [⟨tg,iter,ifs,0⟩] scope pos) 0 (.ref it) (.ref s2.heap.objs.size) (dH scope s3.heap.objs.size X.env))
    (compPost (model X.prog X.w) X.A X.xe use Qv (.ref s2.heap.objs.size) s3.heap.objs.size) s5:=by
  rintro s5 rfl;refine codeAny_loop rfl (fun n s'=>∃ i ys H',Inv X' [] (bx (cJ X.N scope) σ) H' s'/\tn i s'.heap/\(∀ b∈fp,H' b=none)/\W i n ys H') (fun n s5 hI=>?_) m0
   ⟨0,[],_,J4,tn4,fun b hb=>by rw [ao (neD b hb)];exact (f2 b hb).1,w0⟩
  obtain ⟨i,ys,H5,I5,st5,fr5,w5⟩:=hI;show wpAny _ X.A ((compTurn (.ListComp elt [⟨tg,iter,ifs,0⟩] scope pos) 0 (.ref it) (.ref s2.heap.objs.size) (dH scope s3.heap.objs.size X.env)).onRaise (fun x=>do noteFrame x (dH scope s3.heap.objs.size X.env);theTreesLotGoes x)) _ _ s5
  refine wpAny_noted ?_;rw [compTurn_list];refine vx (wpAny_standAt (vx ?_));have eN:notedBy (model X.prog X.w) X.A (dH scope s3.heap.objs.size X.env) (fun e s'=>compPost (model X.prog X.w) X.A X.xe use Qv (.ref s2.heap.objs.size) s3.heap.objs.size (.error e) s')=X'.xe:=by rw [eX,<- hE]
  rw [eN];rcases turn i n ys H5 w5 with ⟨stop,qn⟩ | ⟨go,step⟩
  .have dn:=T.done X' eP eW eK eC i [] s5 _ H5 X'.xe I5 (eFp fr5 rfl) st5 stop;rw [eA] at dn;refine thn dn fun r s6 ⟨hr,I6⟩=>?_
   subst hr;refine vy ?_;rw [<- hX] at I6;exact hfin I3 f3 I6 qn
  .have itm:=T.item X' eP eW eK eC i [] s5 _ H5 X'.xe I5 (eFp fr5 rfl) st5 go;rw [eA] at itm;refine thn itm fun r s6 ⟨u,hr,h6⟩=>?_
   subst hr;refine vx (thn h6 fun _ s7 ⟨x,H7,I7,r7,y7,st7,fr7⟩=>?_);have I7':=I7.pinned (eFp fr7 rfl) (T.obj _ _ st7);have as7:=hg _ s7 _ H7 x u _ I7' r7 (step x H7 y7);rw [eP,eW,eA,eEnv] at as7;refine vx (thn as7 fun _ s8 ⟨σ8,H8,I8,ex8,q8⟩=>?_);have again:∀ {s9:Shared}{H9:Hp}{ys':List V},Inv X' ([]++vZ fp s7.heap) σ8 H9 s9->(∃ m',m' < n/\W (i+1) m' ys' H9) ->
     ∃ m,m < n/\∃ i ys H',Inv X' [] (bx (cJ X.N scope) σ) H' s9/\tn i s9.heap/\(∀ b∈fp,H' b=none)/\W i m ys H':=fun {s9 H9 ys'} I9 ⟨m',hm,w9⟩=>by
    refine ⟨m',hm,i+1,ys',H9,?_,T.keep _ _ _ st7 fun b hb o e=>(I9.pin (b,o) (vS _ (vS _ (nY hb e)))).1,fun b hb=>?_,w9⟩
    .exact (I9.weak ex8.1.symm ex8.2).unpinned
    .obtain ⟨o,e,d⟩:=T.obj _ _ st7 b hb;exact (I9.pin (b,o) (vS _ (vS _ (nY hb e)))).2.1
   have te8:=ht _ s8 σ8 H8 _ I8 q8;rw [eP,eW,eA,eEnv] at te8;refine vx (thn te8 fun ok s9 ⟨H9,I9,q9⟩=>?_);cases ok with
   | false =>
    rw [if_neg Bool.false_ne_true] at q9;exact vy ⟨rfl,again I9 q9⟩
   | true =>
    rw [if_pos rfl] at q9;have el9:=he _ s9 σ8 H9 _ I9 q9;rw [eP,eW,eA,eEnv] at el9;refine vx (vx (thn el9 fun y s10 ⟨v10,H10,I10,r10,hl10,hz10,q10⟩=>?_));have ap:=uX (X:=X') _ s10 σ8 H10 (.ref s2.heap.objs.size) [v10] (.ref s2.heap.objs.size) [y] (fun _ H'=>H'=upd H10 s2.heap.objs.size (.lst (ys++[v10]))) I10 rfl (.cons r10 .nil) ⟨s2.heap.objs.size,ys,v10,rfl,rfl,hl10,hz10,rfl⟩;rw [eP,eW,eA] at ap;refine vx (thn ap fun _ s11 ⟨_,H11,I11,_,e11⟩=>?_);subst e11;exact vy (vy ⟨rfl,again I11 q10⟩)
 refine codeAny_compStart_list (loop _ rfl) ?_;have tself:=T.self X.A 0 { s3 with heap:=pushCells (s3.heap.push { cls:=.type "dict",data:=.dict #[] }) scope.names }
  (fun it' s'=>codeAny (model X.prog X.w) X.A (.compLoop (.ListComp elt [⟨tg,iter,ifs,0⟩] scope pos) 0 it' (.ref s2.heap.objs.size) (dH scope s3.heap.objs.size X.env)) (compPost (model X.prog X.w) X.A X.xe use Qv (.ref s2.heap.objs.size) s3.heap.objs.size) s')
 exact tself _ tn4 (loop _ rfl)
def yt 
  (hc:X.calm=true) (hi:PI X tg iter wi) (S:ScOk X.env.scope scope)
  (hblk:∀ s₃ H₃ fp xe,PG (cO X scope s₃ H₃ fp xe) tg g/\PTs (cO X scope s₃ H₃ fp xe) ifs tt/\PE (cO X scope s₃ H₃ fp xe) elt te)
  (hs:∀ x,foldedSetIterable iter X.env x=pure x:=by intro _;rfl) :
  PE X (.ListComp elt [⟨tg,iter,ifs,0⟩] scope pos) (Bh wi g tt te (bx (cJ X.N scope))):=by
 intro pins s σ H Q I h;rw [eval_ListComp];refine uP (use:=none) I h (fun {s3 H3 fp xe s6 H5 D} I3 f3 I6 qn=>?_) hc hi S (Pb:=fun _=>True) (fun _ _ _ _ _ _=>trivial) (fun s₃ H₃ fp xe _=>hblk s₃ H₃ fp xe) hs;obtain ⟨m,hn,_⟩:=id I6.loc;exact ⟨m,hn,fun h' hsb=>⟨.ref D,H5,K6 I3 f3 I6 hsb,rfl,qn⟩⟩
def Vq {C:Addr} (I:Inv X pins σ H s) (hC:H C=none) (hb:X.s₀.heap.objs.size<=C) (hl:C≠X.env.locals) (hcl:∀ x c,X.env.cells.lookup x=some c->c≠C) (hp:∀ p∈X.pn++pins,p.1≠C)
  (hs:Heap.SameBut C s.heap h'):Inv X pins σ H { s with heap:=h' }:=by
 have hok:HOk X.prog X.w H h':=fun b ob e=>by
  refine (I.hok b ob e).stay (fun c w' hc q=>(hs.2 c ?_).trans q) (fun _ q=>q) fun _ _ q=>q
  rintro rfl;rcases hc with rfl | hc
  .rw [hC] at e;cases e
  .rw [hC] at hc;cases hc
 refine I.call' (s':={ s with heap:=h' }) (ch:=[C]) rfl ⟨fun b o e n hb hx=>?_,fun b o e n hb hx=>?_,fun b o e n hx=>n,fun b o e hx=>?_,fun b xs q=>q,fun b o u q=>q,fun b ps q=>⟨#[],by rw [Array.append_empty];exact q⟩⟩ hok I.bare fun b hbm=>?_
 .exact (hs.2 b fun z=>hx (by rw [z];simp)).trans e
 .exact ⟨o.slots,(hs.2 b fun z=>hx (by rw [z];simp)).trans e⟩
 .exact ⟨o,(hs.2 b fun z=>hx (by rw [z];simp)).trans e⟩
 .rw [List.mem_singleton.mp hbm];exact ⟨.inr hb,hl,hcl,hp⟩
variable {x:Str}
def O7 {spos:Pos}{i:Nat}
  (hN:X.N.Nodup) (hi':X.N[i]?=some x) (hx:L2.Loc X.env.scope x) (hf:X.fn x=true\/X.env.scope.names.lookup x=some .local)
  (hsw:X.env.scope.kind=.function->swapsWith (.ListComp elt [⟨tg,iter,ifs,0⟩] scope pos) (some (.Name x pos')) spos.line X.env=pure true)
  (hc:X.calm=true) (hi:PI X tg iter wi) (S:ScOk X.env.scope scope)
  (hblk:∀ s₃ H₃ fp xe,PG (cO X scope s₃ H₃ fp xe) tg g/\PTs (cO X scope s₃ H₃ fp xe) ifs tt/\PE (cO X scope s₃ H₃ fp xe) elt te)
  (hs:∀ x,foldedSetIterable iter X.env x=pure x:=by intro _;rfl) :
  PS X (.Assign [.Name x pos'] (.ListComp elt [⟨tg,iter,ifs,0⟩] scope pos) spos) (V3 (Bh wi g tt te (bx (cJ X.N scope))) (Cv i)):=by
 intro pins s σ H D I h;rw [exec_Assign_Name_used x pos' _ spos (hsw I.ok.kind)];refine vx (wpAny_standAt (vx ?_));show wpAny _ _ (do let _ <- comprehension (.ListComp elt [⟨tg,iter,ifs,0⟩] scope pos) scope X.env iter.pos (newList []) false (eval iter X.env) (some (assign (.Name x pos') X.env));pure ()) _ _ s
 refine vx (uP (use:=some (assign (.Name x pos') X.env)) I h (fun {s3 H3 fp xe s6 H5 Da} I3 f3 I6 qn=>?_) hc hi S (Pb:=fun _=>True) (fun _ _ _ _ _ _=>trivial) (fun s₃ H₃ fp xe _=>hblk s₃ H₃ fp xe) hs);have I':Inv X pins σ H5 s6:=K6 I3 f3 I6 (h':=s6.heap) ⟨rfl,fun _ _=>rfl⟩;have hlt:X.env.locals < s3.heap.objs.size:=I3.lt;have cells:∀ y c,X.env.cells.lookup y=some c->c < s3.heap.objs.size:=fun y c e=>by
  obtain ⟨v,q⟩:=I3.cell y c e;exact q.lt
 refine wpAny_assign_Name (Fg I' hN hi' hx (v:=.ref Da) rfl (fun s'' I'' ⟨a,sb,ha⟩=>?_) hf);obtain ⟨m,hn,_⟩:=id I6.loc;have hCa:s3.heap.objs.size≠a:=by
  rcases ha with rfl | ha
  .exact yb hlt
  .exact yb (cells x a ha)
 refine ⟨m,hn.sameBut sb hCa,fun h' hsb=>?_⟩;refine vy (vy ⟨_,H5,?_,qn⟩);exact Vq I'' (C:=s3.heap.objs.size) I6.free I3.sz (yb hlt) (fun y c e=>ya (cells y c e)) (fun p hp=>ya (v4 (I3.pin p hp).1)) hsb
end Mi
namespace Mi
open PySem
variable {h:Heap}{d it:Addr}{es:Array DictEntry}{ep i:Nat}{Q:Option Value->Shared->Prop}
section
variable {prog:Program}{w:World}{A:Around}{E:zn}{s:Shared}
def jF (h:Heap) (d:Addr) (es:Array DictEntry) (ep:Nat):Prop:=∃ o,h.get? d=some o/\o.ExactDict/\o.data=.dict es ep
theorem jF.keep {h':Heap} (x:jF h d es ep) (k:∀ o,h.get? d=some o->h'.get? d=some o):jF h' d es ep :=
 let ⟨o,e,r⟩:=x;⟨o,k o e,r⟩
theorem jF.lt (x:jF h d es ep):d < h.objs.size:=let ⟨_,e,_⟩:=x;v4 e
theorem jF.ty (x:jF s.heap d es ep):s.TypeIs (.ref d) "dict":=let ⟨o,e,c,_⟩:=x; ⟨o,e,c.1⟩
def Iw {Q:zn} (hd:(d == sysModules)=false) (hm:jF s.heap d es ep)
  (hQ:Q (.ref s.heap.objs.size) { s with heap:=s.heap.push { cls:=.type "dict_keyiterator",data:=.fields #[.ref d,.int 0 0,.int es.size 0,.int ep 0] } }) :
  wpAny (model prog w) A (pyIter (.ref d)) Q E s:=by
 have hT:=hm.ty;obtain ⟨o,ho,hc,hdat⟩:=id hm;refine wpAny_pyIter_slot hT F.slot_dict_iter (y0 F.slot_dict_iter hT F.entry_dict_iter ?_ (F.args_dict_iter_1 _));unfold Builtin.«dict.__iter__»;refine vx ?_;unfold Builtin.Dict.dictSlotNone;refine vx (wpAny_notOrdered_dict hT ?_);show wpAny _ _ (pure (Value.ref d)) _ _ s
 refine vy ?_;show wpAny _ _ (Builtin.Dict.showsAll d >>= _) _ _ s
 unfold Builtin.Dict.showsAll;rw [if_neg (by rw [hd];exact Bool.false_ne_true)];refine vx (vy ?_);refine vx (jw ho hdat ?_);refine vx (wpAny_dictEpoch ho hdat ?_);refine vx (jv (vy ⟨_,rfl,"dict_keyiterator",_,⟨_,v3 _ rfl,rfl⟩,F.slot_dict_keyiterator_next.lookup,?_⟩))
 simpa [rawInt] using hQ
def JC (hit:s.heap.IsKeyIter it d i es.size ep)
  (hm:jF s.heap d es ep) (hlt':i < es.size)
  (hQ:∀ h',h'.IsKeyIter it d (i+1) es.size ep->Heap.SameBut it s.heap h'->Q (some es[i].key) { s with heap:=h' }) :
  wpAny (model prog w) A (pyNext (.ref it)) Q E s:=by
 obtain ⟨o,ho,hc,hd⟩:=id hit;obtain ⟨od,hod,hcd,hdd⟩:=id hm;unfold pyNext;refine vx (wpAny_attempt (y4 (name:=Str.ofString "__next__") hit.typeIs F.slot_dict_keyiterator_next
  (y0 F.slot_dict_keyiterator_next hit.typeIs F.entry_dict_keyiterator_next ?_ (F.args_dict_keyiterator_next_1 _))))
 refine vx (vy ?_);refine vx ?_;refine vx ?_
 first | refine vx (wpAny_typeNameOfWhole_keyiter hit.typeIs (vy ?_)) | refine vx (wpAny_typeNameOf_keyiter hit.typeIs (vy ?_))
 refine vx (wpAny_fieldsOf ho hd ?_);have hown:Builtin.Dict_items.ownsTuple "dict_keyiterator"=false:=by decide
 simp only [hown,Bool.false_eq_true,if_false];show wpAny _ _ (if (Value.ref d == Value.none)=true then _ else _) _ _ s
 rw [if_neg (show ¬ ((Value.ref d == Value.none)=true) from Bool.false_ne_true)];refine vx (vy ?_);refine vx (jw hod hdd ?_);rw [if_neg (by simp)];refine vx (vy ?_);refine vx (wpAny_dictEpoch hod hdd ?_);rw [if_neg (by simp)];refine vy ?_;simp only [show ¬ ((i:Int) < 0) from by omega,if_false,Int.toNat_natCast,Array.getElem?_eq_getElem hlt'];refine vx ?_
 first | refine vx (wpAny_typeNameOfWhole_keyiter hit.typeIs (vy ?_)) | refine vx (wpAny_typeNameOf_keyiter hit.typeIs (vy ?_))
 refine vx (wpAny_isOneOf_keyiter hit.typeIs ?_);show wpAny _ _ (setField (.ref it) 1 (rawInt ((i:Int)+1)) >>= _) _ _ s
 refine vx (wpAny_setField ho hd (by simp) ?_);have hit':(s.heap.update it (Obj.mapFields (·.setIfInBounds 1 (rawInt ((i:Int)+1))))).IsKeyIter it d (i+1) es.size ep :=
  ⟨_,yn _ ho (Obj.isFreed_of_fields (Obj.data_mapFields hd _)),(Obj.cls_mapFields ..).trans hc,by rw [Obj.data_mapFields hd];simp [rawInt]⟩
 refine vx (wpAny_holding ?_);refine vx (wpAny_isOneOf_keyiter (s:={ s with heap:=s.heap.update it (Obj.mapFields (·.setIfInBounds 1 (rawInt ((i:Int)+1)))) }) hit'.typeIs ?_);show wpAny _ _ (pure es[i].key) _ _ _
 exact vy (vy ⟨_,rfl,vy (hQ _ hit' (je ..))⟩)
def Mj (hh:A.handled=none) (hit:s.heap.IsKeyIter it d i es.size ep)
  (hm:jF s.heap d es ep) (hge:es.size<=i)
  (hQ:∀ h',Heap.ExtBut it s.heap h'->Q none { s with heap:=h' }):wpAny (model prog w) A (pyNext (.ref it)) Q E s:=by
 obtain ⟨o,ho,hc,hd⟩:=id hit;obtain ⟨od,hod,hcd,hdd⟩:=id hm;unfold pyNext;refine vx (wpAny_attempt (y4 (name:=Str.ofString "__next__") hit.typeIs F.slot_dict_keyiterator_next
  (y0 F.slot_dict_keyiterator_next hit.typeIs F.entry_dict_keyiterator_next ?_ (F.args_dict_keyiterator_next_1 _))))
 refine vx (vy ?_);refine vx ?_;refine vx ?_
 first | refine vx (wpAny_typeNameOfWhole_keyiter hit.typeIs (vy ?_)) | refine vx (wpAny_typeNameOf_keyiter hit.typeIs (vy ?_))
 refine vx (wpAny_fieldsOf ho hd ?_);have hown:Builtin.Dict_items.ownsTuple "dict_keyiterator"=false:=by decide
 simp only [hown,Bool.false_eq_true,if_false];show wpAny _ _ (if (Value.ref d == Value.none)=true then _ else _) _ _ s
 rw [if_neg (show ¬ ((Value.ref d == Value.none)=true) from Bool.false_ne_true)];refine vx (vy ?_);refine vx (jw hod hdd ?_);rw [if_neg (by simp)];refine vx (vy ?_);refine vx (wpAny_dictEpoch hod hdd ?_);rw [if_neg (by simp)];refine vy ?_;simp only [show ¬ ((i:Int) < 0) from by omega,if_false,Int.toNat_natCast,Array.getElem?_eq_none hge];refine vx ?_
 first | refine vx (wpAny_typeNameOfWhole_keyiter hit.typeIs (vy ?_)) | refine vx (wpAny_typeNameOf_keyiter hit.typeIs (vy ?_))
 show wpAny _ _ (setField (.ref it) 0 .none >>= _) _ _ s
 refine vx (wpAny_setField ho hd (by simp) ?_);show wpAny _ _ (newExc (.type "StopIteration") [] >>= _) _ _ _
 refine vx ?_;simp only [newExc,newTuple];refine vx (jv ?_ (by size_fits));refine vx (m:=firstArgMember _ _) (wpAny_of_eq (a:=Value.none) (by first | rfl | (simp only [firstArgMember];rfl)) ?_);refine jv ?_ (by size_fits);simp only [raiseNew];refine vx (wpAny_handled ?_);rw [show A.in1.handled=none from hh];refine vx (vy (wpAny_throw ?_));refine vx (wpAny_isInstance (T:="StopIteration") (b:=true) ⟨_,v3 _ rfl,rfl⟩ isSubtype_stop ?_)
 exact vy (hQ _ (((je ..).extBut.push _).push _))
theorem Vx (hh:A.handled=none) (I d:Addr) (hne:d≠I) (es:Array DictEntry) (ep:Nat) :
  Walks prog w A I [I,d] [I] es.size (fun i v=>∃ h:i < es.size,v=es[i].key) (fun i h=>h.IsKeyIter I d i es.size ep/\jF h d es ep) where
 sub:=fun b hb=>by simp at hb;simp [hb]
 frame:=fun _ _ _ st hk=>⟨st.1.at fun o e=>hk I (by simp) o e,st.2.keep fun o e=>hk d (by simp) o e⟩
 item:=fun i s Q E hi st hQ=>by
  refine JC st.1 st.2 hi fun h' hit' hs'=>?_
  exact hQ _ h' s.toks ⟨hi,rfl⟩ ⟨hit',st.2.keep fun o e=>hs'.extBut d o hne e⟩ fun b o hb e=>hs'.extBut b o (fun h=>hb (by simp [h])) e
 done:=fun s Q E st hQ=>Mj hh st.1 st.2 (v6 _) fun h' he'=>hQ h' s.toks fun b o hb e=>he' b o (fun h=>hb (by simp [h])) e
 self:=fun _ _ _ _ st hQ=>wpAny_pyIter_keyiter st.1 hQ
def MN (lo:(d == sysModules)=false):PySem.W.KdlSrc prog w "dict" d d es.size (fun i v=>∃ h:i < es.size,v=es[i].key) (fun h=>jF h d es ep) where
 type:=fun _ hm=>hm.ty
 there:=fun _ hm=>⟨hm.lt,hm.lt⟩
 keep:=fun _ _ hm hk=>hm.keep fun o e=>hk d (.inl rfl) o e
 notList:=by decide
 notTuple:=by decide
 hint:=fun _ _ _ _ hm hq=>PySem.W.kdl_hint_dict hm.ty hq
 iter:=fun _ _ hh hm=>⟨_,_,(fun _ _ hq=>Iw lo hm hq),Vx hh _ d (ya hm.lt) es ep,⟨⟨_,v3 _ rfl,rfl,rfl⟩,hm.keep fun _ e=>vT _ e⟩⟩
end
end Mi
namespace Mi
open PySem L2
open PyProof.Rows hiding St
open PySem.AutoSeq1 (wpAny_loadPart')
variable {it l:Addr}{i:Nat}{Q:zn}
section
variable {prog:Program}{w:World}{A:Around}{E:zn}{s:Shared}
def nZ {items}{x:Value} (hit:s.heap.IsTupleIter it l i)
  (hl:s.heap.IsTuple l items) (hx:items[i]?=some x)
  (hQ:∀ h',h'.IsTupleIter it l (i+1)->Heap.SameBut it s.heap h'->Q x { s with heap:=h' }) :
  wpAny (model prog w) A (Builtin.SmallTypes.nextOf (.ref it)) Q E s:=by
 obtain ⟨o,ho,hc,hd⟩:=id hit;obtain ⟨ol,hol,_,nl,hdl⟩:=hl;unfold Builtin.SmallTypes.nextOf;refine vx (y4 (name:=Str.ofString "__next__") hit.typeIs F.slot_tuple_iterator_next
  (y0 F.slot_tuple_iterator_next hit.typeIs F.entry_tuple_iterator_next ?_ (F.args_tuple_iterator_next_1 _)))
 show wpAny _ _ (field (.ref it) 0 >>= _) _ _ s
 refine vx (y9 ho hd (x:=.ref l) rfl ?_);show wpAny _ _ (if (Value.ref l == Value.none)=true then _ else _) _ _ s
 rw [if_neg (show ¬ ((Value.ref l == Value.none)=true) from Bool.false_ne_true)];show wpAny _ _ (field (.ref it) 1 >>= _) _ _ s
 refine vx (y9 ho hd (x:=.int i 0) rfl ?_);show wpAny _ _ (seqItems? (.ref l) >>= _) _ _ s
 refine vx (wpAny_seqItems hol hdl ?_);simp only [Int.toNat_natCast,hx];refine vx (wpAny_setField ho hd (by simp) (vy ⟨x,rfl,vy (hQ _ ?_ (je ..))⟩));exact ⟨_,yn _ ho (Obj.isFreed_of_fields (Obj.data_mapFields hd _)),(Obj.cls_mapFields ..).trans hc,by
  rw [Obj.data_mapFields hd];simp [rawInt]⟩
def vM {items} (hh:A.handled=none)
  (hit:s.heap.IsTupleIter it l i) (hl:s.heap.IsTuple l items) (hx:items[i]?=none)
  (hE:∀ h' e,Heap.ExtBut it s.heap h' -> (∃ o,h'.get? e=some o /\ o.cls=.type "StopIteration") -> E (.ref e) { s with heap:=h' }) :
  wpAny (model prog w) A (Builtin.SmallTypes.nextOf (.ref it)) Q E s:=by
 obtain ⟨o,ho,hc,hd⟩:=id hit;obtain ⟨ol,hol,_,nl,hdl⟩:=hl;unfold Builtin.SmallTypes.nextOf;refine vx (y4 (name:=Str.ofString "__next__") hit.typeIs F.slot_tuple_iterator_next
  (y0 F.slot_tuple_iterator_next hit.typeIs F.entry_tuple_iterator_next ?_ (F.args_tuple_iterator_next_1 _)))
 show wpAny _ _ (field (.ref it) 0 >>= _) _ _ s
 refine vx (y9 ho hd (x:=.ref l) rfl ?_);show wpAny _ _ (if (Value.ref l == Value.none)=true then _ else _) _ _ s
 rw [if_neg (show ¬ ((Value.ref l == Value.none)=true) from Bool.false_ne_true)];show wpAny _ _ (field (.ref it) 1 >>= _) _ _ s
 refine vx (y9 ho hd (x:=.int i 0) rfl ?_);show wpAny _ _ (seqItems? (.ref l) >>= _) _ _ s
 refine vx (wpAny_seqItems hol hdl ?_);simp only [Int.toNat_natCast,hx];refine vx (wpAny_rule (vx (wpAny_setField ho hd (by simp) ?_)));show wpAny _ _ (newExc (.type "StopIteration") [] >>= _) _ _ _
 refine vx ?_;simp only [newExc,newTuple];refine vx (jv ?_ (by size_fits));refine vx (m:=firstArgMember _ _) (wpAny_of_eq (a:=Value.none) (by first | rfl | (simp only [firstArgMember];rfl)) ?_);refine jv ?_ (by size_fits);simp only [raiseNew];refine vx (wpAny_handled ?_)
 first | rw [show A.in1.handled=none from hh] | rw [hh]
 refine vx (vy (wpAny_throw ?_));exact hE _ _ (((je ..).extBut.push _).push _) ⟨_,v3 _ rfl,rfl⟩
theorem JR (hh:A.handled=none) (it l:Addr) (hne:l≠it) (items:vj) :
  Draws prog w A it [it,l] items.size (fun i v=>items[i]?=some v) (fun i h=>h.IsTupleIter it l i/\h.IsTuple l items) where
 live:=fun _ _ st=>let ⟨o,ho,_⟩:=st.1;⟨o,ho⟩
 frame:=fun _ _ _ st hk=>⟨let ⟨o,e,r⟩:=st.1;⟨o,hk it (by simp) o e,r⟩,let ⟨o,e,r⟩:=st.2;⟨o,hk l (by simp) o e,r⟩⟩
 item:=fun i s Q E hi st hQ=>by
  refine nZ st.1 st.2 (x:=items[i]) (by simp [hi]) fun h' hit' hs'=>?_
  exact hQ _ h' s.toks (by simp [hi]) ⟨hit',st.2.extBut hs'.extBut hne⟩ hs'
 done:=fun s Q E st hE=>vM hh st.1 st.2 (by simp) hE
end
theorem Qh (l:Addr) (items:vj) (n:Nat) (dct:vn) (sl:vw) :
  Meets (Builtin.«enumerate.__new__» ⟨[.type "enumerate",.ref l],[]⟩) (fun _ R s=>s.heap.get? l=some { cls:=.type "tuple",dict:=dct,data:=.seq items n,slots:=sl } /\
   R (.ok (.ret (.ref (s.heap.push { cls:=.type "tuple_iterator",data:=.fields #[.ref l,.int 0 0] }).objs.size)))
    { s with heap:=(s.heap.push { cls:=.type "tuple_iterator",data:=.fields #[.ref l,.int 0 0] }).push { cls:=.type "enumerate",data:=.fields #[.none,.bool false,.ref s.heap.objs.size,rawInt 0,.none,.none] } }) :=
 .of_wp fun prog w A R s h=>by
  obtain ⟨hp,g,d,tk,os⟩:=s;obtain ⟨hl,h⟩:=h;have hsub:=sub_enumerate;have hL:Heap.IsTuple (Shared.heap ⟨hp,g,d,tk,os⟩) l items:=⟨_,hl,rfl,n,rfl⟩
  wp_walk using wpAny_loadPart' hl
  refine wpAny_stack_any fun st=>vy ?_
  split
  .rename_i c _ _ _ _ _;cases (c == Value.type "enumerate")
   .wp_walk using wpAny_loadPart' hl,wpAny_pyIter_tuple hL
    exact ⟨_,rfl,h⟩
   .wp_walk using wpAny_loadPart' hl,wpAny_pyIter_tuple hL
    exact ⟨_,rfl,h⟩
  .wp_walk using wpAny_loadPart' hl,wpAny_pyIter_tuple hL
   exact ⟨_,rfl,h⟩
section
variable {prog:Program}{w:World}{A:Around}{E:zn}{s:Shared}
def Bo {items:vj} (hL:s.heap.IsTuple l items)
  (h:∀ h',IsEnum h' (s.heap.objs.size+1) s.heap.objs.size 0 .none->h'.IsTupleIter s.heap.objs.size l 0->h'.objs.size=s.heap.objs.size+2 ->
   (∀ b o,s.heap.get? b=some o->h'.get? b=some o)->Q (.ref (s.heap.objs.size+1)) { s with heap:=h' }) :
  wpAny (model prog w) A (call (.type "enumerate") [.ref l]) Q E s:=by
 obtain ⟨⟨c,dct,dt,sl⟩,hl,hc,n,hd⟩:=hL;replace hc:c=.type "tuple":=hc
 replace hd:dt=.seq items n:=hd;subst hc hd;refine callType_new F.called_enumerate (by decide) (F.typeCall_enumerate_1 _) (F.newCall_enumerate_1 _) (fun obj=>F.args_object_init_2 obj _) F.entry_enumerate_new
  (Qh l items n dct sl) ⟨hl,?_⟩
 have hz:(s.heap.push { cls:=.type "tuple_iterator",data:=.fields #[.ref l,.int 0 0] }).objs.size=s.heap.objs.size+1:=Heap.size_push ..
 show _/\_
 rw [hz];have he:IsEnum ((s.heap.push { cls:=.type "tuple_iterator",data:=.fields #[.ref l,.int 0 0] }).push
   { cls:=.type "enumerate",data:=.fields #[.none,.bool false,.ref s.heap.objs.size,rawInt 0,.none,.none] }) (s.heap.objs.size+1) s.heap.objs.size 0 .none:=by
  have:=v3 (s.heap.push { cls:=.type "tuple_iterator",data:=.fields #[.ref l,.int 0 0] })
   (o:={ cls:=.type "enumerate",data:=.fields #[.none,.bool false,.ref s.heap.objs.size,rawInt 0,.none,.none] }) rfl
  rw [hz] at this;exact this
 refine ⟨⟨_,he,rfl⟩,h _ he ⟨_,vT _ (v3 _ rfl),rfl,rfl⟩ (by rw [Heap.size_push,hz]) fun b o x=>vT _ (vT _ x)⟩
end
def vQ:bootBuiltins "enumerate"=some (.type "enumerate"):=by decide +kernel
def Ite (Sq:Hp->List V->Prop):It :=
 ⟨fun i H=>∃ xs x,Sq H xs/\xs[i]?=some x,
  fun i H x H'=>∃ p y,H p=none/\x=.ref p/\H'=upd H p (.tup [.int i,y])/\∀ xs,Sq H xs->xs[i]?=some y,
  fun i H=>∃ xs,Sq H xs/\xs.length=i⟩
variable {P:Program}{w:World}{K:zt}{els:ve}{x1:Nat}{tpos:Pos}
def EY {Sq:Hp->List V->Prop}{Ir:Nat->Heap->Prop}{Sh:Heap->vj->Prop} (a e it:Addr) (hei:e≠it)
  (h1:∀ i h,Ir i h->∃ o,h.get? it=some o/\(∀ v,o.data≠.cell v)/\∀ h',h'.get? it=some o->Ir i h')
  (h2:∀ (X:Cx) pins σ H s xs,X.K=K->Inv X pins σ H s->Sq H xs->∃ its:zw,Vals xs its/\Sh s.heap its.toArray/\∀ ys,Sq H ys->ys=xs)
  (h3:∀ i h its old,Ir i h->Sh h its->IsEnum h e it i old->a≠it/\e≠a)
  (h4:∀ (A:Around),A.handled=none->a≠it->∀ its:vj,Draws P w A it [it,a] its.size (fun i v=>its[i]?=some v) (fun i h=>Ir i h/\Sh h its)) :
  Turn P w K (.Tuple els x1 tpos) (Ite Sq) [e,it] e (fun i h=>(∃ old,IsEnum h e it i old)/\Ir i h) where
 mem:=by simp
 obj:=fun i h st b hb=>by
  obtain ⟨⟨old,he⟩,st⟩:=st;obtain ⟨o,e1,d,_⟩:=h1 i h st;rcases z9.mp hb with z | z
  .subst z;exact ⟨_,he,fun v q=>by cases q⟩
  .have z':=yv.mp z;subst z';exact ⟨o,e1,d⟩
 keep:=fun i h h' st k=>by
  obtain ⟨⟨old,he⟩,st⟩:=st;obtain ⟨o,e1,_,d⟩:=h1 i h st;exact ⟨⟨old,k e (by simp) _ he⟩,d _ (k it (by simp) _ e1)⟩
 item:=by
  intro X hP hw hK hc i pins s σ H E I hf st hg;subst hP hw hK;obtain ⟨xs,x,hq,hx⟩:=hg;obtain ⟨its,rv,p',inj⟩:=h2 X pins σ H s xs rfl I hq;obtain ⟨u,hu,ru⟩:=rv.get hx;obtain ⟨⟨old,he⟩,hb⟩:=st;obtain ⟨o1,q1,_,_⟩:=h1 i _ hb;obtain ⟨hai,hea⟩:=h3 i _ _ _ hb p' he;have hil:i < its.toArray.size:=by
   have h1:=(vV.mp hu).1;simpa using h1
  have D:=h4 X.A.in1 (I.ok.hd hc) hai its.toArray;refine wpAny_pyNext_enum_itemD D he ⟨hb,p'⟩ hil hei (by simp [hei,hea]) fun x' h' tk hPx hout hst' hT hsz hk=>?_
  have ex:x'=u:=by
   have z:its.toArray[i]?=some u:=by simpa using hu
   have hPx':its.toArray[i]?=some x':=hPx;rw [z] at hPx';exact (ja hPx').symm
  subst ex;refine ⟨.ref s.heap.objs.size,rfl,wpAny_letOwnedTupleGo_enum (s:={ s with heap:=h',toks:=tk+1 }) hout fun h2 hEn hSame=>?_⟩;have hSame':Heap.SameBut e h' h2:=hSame;have elt:e < s.heap.objs.size:=v4 he;have ilt:it < s.heap.objs.size:=v4 q1;have kp:∀ b o,b≠e->b≠it->s.heap.get? b=some o->h2.get? b=some o:=fun b o n1 n2 q=>hSame'.extBut b o n1 (hk b o n1 n2 q)
  obtain ⟨fe0,fe1,fe2,fe3,fe4,fe5⟩:=hf e (by simp);obtain ⟨fi0,fi1,fi2,fi3,fi4,fi5⟩:=hf it (by simp);have hTn:H s.heap.objs.size=none:=I.hok.fresh (v6 _);have nT:∀ b o,s.heap.get? b=some o->b≠s.heap.objs.size:=fun b o q=>ya (v4 q)
  have hTo:h2.get? s.heap.objs.size=some { cls:=.type "tuple",data:=.seq #[.int i tk,x'] }:=hSame'.extBut _ _ (yb elt) hT
  have nch:∀ b,b ∉ ([e,it]:List Addr)->b≠e/\b≠it:=fun b hb=>by simp at hb;exact hb
  have I2:Inv X pins σ (upd H s.heap.objs.size (.tup [.int i,x])) { s with heap:=h2,toks:=tk+1 }:=by
   refine I.step (g':=s.gens) (d':=s.drawn) (ch:=[e,it]) (fun b hb=>?_) (fun b o _ _ hc q _=>kp b o (nch b hc).1 (nch b hc).2 q) (fun b o _ _ hc q _=>⟨o.slots,kp b o (nch b hc).1 (nch b hc).2 q⟩) (fun b o _ q n=>by rw [ao (nT b o q)];exact n)
    (fun b o hc q=>⟨o,kp b o (nch b hc).1 (nch b hc).2 q⟩) (fun b ys q=>by rw [ao (ak q hTn)];exact q) (fun b o u q=>by rw [ao (ak q hTn)];exact q) (fun b ps q=>⟨#[],by rw [ao (ak q hTn),q];simp⟩) (fun m hm=>?_) (fun b u q=>?_) I.bare
   .rcases z9.mp hb with z | z
    .subst z;exact ⟨fe3,fe1,fe4,fe5⟩
    .have z':=yv.mp z;subst z';exact ⟨fi3,fi1,fi4,fi5⟩
   .obtain ⟨o,es,ep,ho,r⟩:=hm;exact ⟨o,es,ep,kp _ o (Ne.symm fe1) (Ne.symm fi1) ho,r⟩
   .by_cases hbT:b=s.heap.objs.size
    .subst hbT;rw [aB] at q;cases q;exact ⟨by show 2<=sizeLine;decide,[.int i tk,x'],.cons ⟨tk,rfl⟩ (.cons ru .nil),⟨_,hTo,rfl,_,rfl⟩⟩
    .rw [ao hbT] at q;have nb:∀ c v,H c=some v->c≠e/\c≠it:=fun c v z=>⟨ak z fe0,ak z fi0⟩
     refine (I.hok b u q).stay (fun c v hc r=>?_) (fun c r=>by rw [ao (ak r hTn)];exact r) (fun c ys r=>by rw [ao (ak r hTn)];exact r) (fun c _ r _=>by rw [ao (ak r hTn)];exact r);have nc:c≠e/\c≠it:=by
      rcases hc with z | z
      .rw [z];exact nb b u q
      .exact nb c _ z
     exact kp c v nc.1 nc.2 r
  refine ⟨.ref s.heap.objs.size,_,I2,rfl,⟨s.heap.objs.size,x,hTn,rfl,rfl,fun ys hy=>by rw [inj ys hy];exact hx⟩,⟨⟨x',by simpa using hEn⟩,?_⟩,fun b hb=>?_⟩
  .obtain ⟨o,q,_,k⟩:=h1 _ _ hst'.1;exact k _ (hSame'.extBut _ _ (Ne.symm hei) q)
  .rcases z9.mp hb with z | z
   .subst z;rw [ao (Nat.ne_of_lt elt)];exact fe0
   .have z':=yv.mp z;subst z';rw [ao (Nat.ne_of_lt ilt)];exact fi0
 done:=by
  intro X hP hw hK hc i pins s σ H E I hf st hg;subst hP hw hK;obtain ⟨xs,hq,hx⟩:=hg;obtain ⟨its,rv,p',_⟩:=h2 X pins σ H s xs rfl I hq;obtain ⟨⟨old,he⟩,hb⟩:=st;have hai:=(h3 i _ _ _ hb p' he).1;obtain ⟨fi0,fi1,fi2,fi3,fi4,fi5⟩:=hf it (by simp);have D:=h4 X.A.in1 (I.ok.hd hc) hai its.toArray;have hl:=rv.length;have en:i=its.toArray.size:=by simp;omega
  subst en;exact wpAny_pyNext_enum_endD D he ⟨hb,p'⟩ fun h' eb=>⟨rfl,I.turned (t':=s.toks) (fun b o hb e=>eb b o hb e) fi0 fi1 fi3 fi4 fi5⟩
 self:=fun _ _ _ _ _ st h=>by
  obtain ⟨⟨old,he⟩,_⟩:=st;exact wpAny_pyIter_enum he h
variable {a:Addr}
theorem Bg {e:Addr}{h:Heap}{old:Value}{o1 o2:Obj} (q1:h.get? it=some o1) (q2:h.get? a=some o2) (he:IsEnum h e it i old) (c:o2.cls ≠ o1.cls) (c':o2.cls ≠ .type "enumerate"):a ≠ it /\ e ≠ a :=
 ⟨fun z=>by subst z;rw [q1] at q2;cases q2;exact c rfl,fun z=>by
  subst z;have he':h.get? e=some _:=he;rw [q2] at he';exact c' (congrArg Obj.cls (ja he'))⟩
def Oi (K:zt) (a:Addr):It:=Ite fun H xs=>SqT K H a xs
theorem M9 (a e it:Addr) (hei:e≠it):Turn P w K (.Tuple els x1 tpos) (Oi K a) [e,it] e (fun i h=>(∃ old,IsEnum h e it i old)/\h.IsTupleIter it a i) :=
 EY (Sh:=fun h its=>h.IsTuple a its) a e it hei (fun i h ⟨o,e1,c,d⟩=>⟨o,e1,fun v q=>(by rw [d] at q;cases q),fun h' z=>⟨o,z,c,d⟩⟩)
  (fun X pins σ H s xs k I q=>by
   subst k;obtain ⟨its,rv,p,_⟩:=I.tuple q;exact ⟨its,rv,p,fun ys z=>I.tuple_inj z q⟩)
  (fun i h its old ⟨o1,q1,c1,_⟩ ⟨o2,q2,c2,_⟩ he=>Bg q1 q2 he (by rw [c1,c2];simp) (by rw [c2];simp))
  fun A hh hai its=>JR hh it a hai its
variable {pins:w4}{σ:St}{H:Hp}{s:Shared}{xs:List V}{E:zn}{ta:TA}{p pos:Pos}
section
variable {X:Cx}
def aah (K:zt) (ta:TA):TI:=fun σ H R=>ta σ H fun vs H1=>∃ a xs,vs=[.ref a]/\SqT K H1 a xs/\R (Oi K a) H1
def VH {R:It->Hp->Prop} (I:Inv X pins σ H s) (hq:SqT X.K H a xs) (q:R (Oi X.K a) H) :
  wpAny (model X.prog X.w) X.A (call (.type "enumerate") [.ref a]) (fun v s1=>wpAny (model X.prog X.w) X.A (pyIter v) (PIE X pins σ (.Tuple els x1 tpos) R) E s1) E s:=by
 obtain ⟨its,rv,p,hz⟩:=I.tuple hq;have p':s.heap.IsTuple a its.toArray:=p;refine Bo p' fun h' he hit hsz hk=>?_
 refine wpAny_pyIter_enum (s:={ s with heap:=h' }) he ?_;have I1:Inv X pins σ H { s with heap:=h' }:=I.kept (t':=s.toks) hk;refine ⟨s.heap.objs.size+1,[s.heap.objs.size+1,s.heap.objs.size],_,_,H,rfl,I1,M9 a (s.heap.objs.size+1) s.heap.objs.size (by exact Nat.succ_ne_self _),⟨⟨_,he⟩,hit⟩,fun b hb=>?_,q⟩;rcases z9.mp hb with z | z
 .subst z;exact I.fpOk (Nat.le_succ _) (I.hok.fresh (Nat.le_succ _))
 .have z':=yv.mp z;subst z';exact I.fpOk (v6 _) (I.hok.fresh (v6 _))
def TF {a:Expr} (hg:Gl X "enumerate") (hm:X.mg "enumerate"=none) (ha:PA X [a] ta) (hs:starEach [a] X.env=[(false,eval a X.env)]:=by rfl) :
  PI X (.Tuple els x1 tpos) (.Call (.Name "enumerate" p) [a] [] pos) (aah X.K ta):=by
 intro pins s σ H R I h;refine Call_ (fX I hg hm vQ (y6 (thn (ha pos pins s σ H _ I h) fun us s1 ⟨vs,H1,I1,r1,q1⟩=>?_) hs rfl));obtain ⟨b,xs,rfl,hq,q⟩:=q1;obtain ⟨u,rfl,ru⟩:=vals1 r1;cases ru;exact VH I1 hq q
end
def Ny (K:zt) (a:Addr):It:=Ite fun H xs=>SqL K H a xs
theorem Pj (a e it:Addr) (hei:e≠it):Turn P w K (.Tuple els x1 tpos) (Ny K a) [e,it] e (fun i h=>(∃ old,IsEnum h e it i old)/\h.IsListIter it a i) :=
 EY (Sh:=fun h its=>h.IsList a its) a e it hei (fun i h ⟨o,e1,c,d⟩=>⟨o,e1,fun v q=>(by rw [d] at q;cases q),fun h' z=>⟨o,z,c,d⟩⟩)
  (fun X pins σ H s xs k I q=>by
   subst k;obtain ⟨its,rv,p,_⟩:=I.list q;exact ⟨its,rv,p.isList,fun ys z=>I.list_inj z q⟩)
  (fun i h its old ⟨o1,q1,c1,_⟩ ⟨o2,q2,c2,_⟩ he=>Bg q1 q2 he (by rw [c1,c2];simp) (by rw [c2];simp))
  fun A hh hai its=>PySem.Draws.list hh it a hai its
section
variable {X:Cx}
def abm (K:zt) (ta:TA):TI:=fun σ H R=>ta σ H fun vs H1=>∃ a xs,vs=[.ref a]/\SqL K H1 a xs/\R (Ny K a) H1
def U6 {R:It->Hp->Prop} (I:Inv X pins σ H s) (hq:SqL X.K H a xs) (q:R (Ny X.K a) H) :
  wpAny (model X.prog X.w) X.A (call (.type "enumerate") [.ref a]) (fun v s1=>wpAny (model X.prog X.w) X.A (pyIter v) (PIE X pins σ (.Tuple els x1 tpos) R) E s1) E s:=by
 obtain ⟨its,rv,p,hz⟩:=I.list hq;have p':s.heap.IsList a its.toArray:=p.isList;refine call_enumerate_list p' fun h' he hit hsz hk=>?_
 refine wpAny_pyIter_enum (s:={ s with heap:=h' }) he ?_;have I1:Inv X pins σ H { s with heap:=h' }:=I.kept (t':=s.toks) hk;refine ⟨s.heap.objs.size+1,[s.heap.objs.size+1,s.heap.objs.size],_,_,H,rfl,I1,Pj a (s.heap.objs.size+1) s.heap.objs.size (by exact Nat.succ_ne_self _),⟨⟨_,he⟩,hit⟩,fun b hb=>?_,q⟩;rcases z9.mp hb with z | z
 .subst z;exact I.fpOk (Nat.le_succ _) (I.hok.fresh (Nat.le_succ _))
 .have z':=yv.mp z;subst z';exact I.fpOk (v6 _) (I.hok.fresh (v6 _))
def Us {a:Expr} (hg:Gl X "enumerate") (hm:X.mg "enumerate"=none) (ha:PA X [a] ta) (hs:starEach [a] X.env=[(false,eval a X.env)]:=by rfl) :
  PI X (.Tuple els x1 tpos) (.Call (.Name "enumerate" p) [a] [] pos) (abm X.K ta):=by
 intro pins s σ H R I h;refine Call_ (fX I hg hm vQ (y6 (thn (ha pos pins s σ H _ I h) fun us s1 ⟨vs,H1,I1,r1,q1⟩=>?_) hs rfl));obtain ⟨b,xs,rfl,hq,q⟩:=q1;obtain ⟨u,rfl,ru⟩:=vals1 r1;cases ru;exact U6 I1 hq q
end
end Mi
namespace Mi
open PySem L2
open PyProof.Rows hiding St
theorem Kz {M:Model}{A:Around}{E:zn}{s:Shared}{a:Addr}{Q:Option Obj->Shared->Prop} (h:Q (s.heap.get? a) s):wpAny M A (loadIfAlive a) Q E s:=fun _ _ _=>h
abbrev gO (h:Heap) (e it:Addr) (i:Int) (T:Addr) (b:Bool) (old:Value):Prop :=
 h.get? e=some { cls:=.type "enumerate",dict:=none,data:=.fields #[rawInt T,.bool b,.ref it,rawInt i,.none,old],slots:=#[] }
variable {e it T0:Addr}{fp:List Addr}{n i:Nat}{P:Nat->Value->Prop}{Sx:Nat->Heap->Prop}{old:Value}{o0:Obj}{b0:Bool}{Q:Option Value->Shared->Prop}
section
variable {prog:Program}{w:World}{A:Around}{E:zn}{s:Shared}
def Nr {Q:zn}
  (D:Draws prog w A it fp n P Sx) (he:gO s.heap e it i T0 b0 old) (hT0:s.heap.get? T0=some o0) (nT0e:T0≠e) (nT0i:T0≠it) (hst:Sx i s.heap) (hlt:i < n) (hne:e≠it) (hef:e ∉ fp)
  (hQ:∀ x h' tk,P i x->gO h' e it ((i:Int)+1) T0 true old->Sx (i+1) h' ->
   h'.get? s.heap.objs.size=some { cls:=.type "tuple",data:=.seq #[.int i tk,x] } -> h'.objs.size=s.heap.objs.size+1 ->
   (∀ b o,b≠e->b≠it->s.heap.get? b=some o->h'.get? b=some o)->Q (.ref s.heap.objs.size) { s with heap:=h',toks:=tk+1 }) :
  wpAny (model prog w) A (Builtin.«enumerate.__next__» ⟨[.ref e],[]⟩) (fun fin s'=>∃ v,fin=.done (.ret v)/\Q v s') E s:=by
 obtain ⟨hp,g,d,tk₀,os⟩:=s;show wpAny _ _ (field (.ref e) 2 >>= _) _ _ _
 refine vx (y9 he rfl (x:=.ref it) rfl ?_);refine vx (D.item i _ _ _ hlt hst fun x h₁ tk hPx hit₁ hs₁=>?_);replace hs₁:Heap.SameBut it hp h₁:=hs₁;have he₁:gO h₁ e it i T0 b0 old:=(hs₁.2 e hne).trans he;show wpAny _ _ (field (.ref e) 3 >>= _) _ _ ⟨h₁,g,d,tk,os⟩
 refine vx (y9 he₁ rfl (x:=rawInt i) rfl ?_);show wpAny _ _ (field (.ref e) 4 >>= _) _ _ ⟨h₁,g,d,tk,os⟩
 refine vx (y9 he₁ rfl (x:=.none) rfl ?_);show wpAny _ _ (mkInt i >>= _) _ _ ⟨h₁,g,d,tk,os⟩
 refine vx (wpAny_mkInt ?_);show wpAny _ _ (setField (.ref e) 3 (rawInt ((i:Int)+1)) >>= _) _ _ ⟨h₁,g,d,tk+1,os⟩
 refine vx (wpAny_setField_rec he₁ (by simp) fun h₂ he₂ hs₂=>?_);replace hs₂:Heap.SameBut e h₁ h₂:=hs₂;replace he₂:gO h₂ e it ((i:Int)+1) T0 b0 old:=he₂;show wpAny _ _ (setField (.ref e) 4 .none >>= _) _ _ ⟨h₂,g,d,tk+1,os⟩
 refine vx (wpAny_setField_rec he₂ (by simp) fun h₃ he₃ hs₃=>?_);replace hs₃:Heap.SameBut e h₂ h₃:=hs₃;replace he₃:gO h₃ e it ((i:Int)+1) T0 b0 old:=he₃;show wpAny _ _ (newTuple [.int i tk,x] >>= _) _ _ ⟨h₃,g,d,tk+1,os⟩
 refine vx (wpAny_newTuple ?_);have he₄:gO (h₃.push { cls:=.type "tuple",data:=.seq #[.int i tk,x] }) e it ((i:Int)+1) T0 b0 old:=vT _ he₃
 generalize hh₄:h₃.push { cls:=.type "tuple",data:=.seq #[.int i tk,x] }=h₄ at he₄
 have hsz:h₃.objs.size=hp.objs.size:=by rw [hs₃.1,hs₂.1,hs₁.1]
 have hel:e < hp.objs.size:=v4 he;have ht₄:h₄.get? hp.objs.size=some { cls:=.type "tuple",data:=.seq #[.int i tk,x] }:=by rw [<- hh₄,<- hsz]; exact v3 _ rfl
 have hz₄:h₄.objs.size=hp.objs.size+1:=by rw [<- hh₄,Heap.size_push,hsz]
 have hk₄:∀ b o,b≠e->b≠it->hp.get? b=some o->h₄.get? b=some o:=fun b o hbe hbi hb=>by
  rw [<- hh₄];exact vT _ (hs₃.extBut b o hbe (hs₂.extBut b o hbe (hs₁.extBut b o hbi hb)))
 have hit₄:Sx (i+1) h₄:=D.frame _ _ _ hit₁ fun b hb o y=>by
  have hbe:b≠e:=fun q=>hef (q ▸ hb)
  rw [<- hh₄];exact vT _ (hs₃.extBut b o hbe (hs₂.extBut b o hbe y))
 show wpAny _ _ (Builtin.SmallTypes.ownedTupleIsFree (.ref e) >>= _) _ _ ⟨h₄,g,d,tk+1,os⟩
 rw [hsz];clear hh₄ he₃ hs₃ he₂ hs₂ he₁ hs₁ hit₁ hsz h₃ h₂ h₁;have alive:h₄.get? T0=some o0:=hk₄ T0 o0 nT0e nT0i hT0;refine vx ?_
 .unfold Builtin.SmallTypes.ownedTupleIsFree;refine vx (y9 he₄ rfl (x:=rawInt T0) rfl ?_);show wpAny _ _ (loadIfAlive (Int.toNat (T0:Int)) >>= _) _ _ ⟨h₄,g,d,tk+1,os⟩
  refine vx (Kz ?_);rw [show Int.toNat (T0:Int)=T0 from Int.toNat_natCast _];show wpAny _ _ (if (Option.isNone (h₄.get? T0))=true then _ else _) _ _ ⟨h₄,g,d,tk+1,os⟩
  rw [alive,if_neg (by simp)];refine vx (y9 he₄ rfl (x:=.bool b0) rfl ?_);cases b0 with
  | true =>
   rw [if_neg (by simp)];refine vy ?_;simp only [Bool.false_eq_true,if_false];exact vy ⟨_,rfl,hQ x h₄ tk hPx he₄ hit₄ ht₄ hz₄ hk₄⟩
  | false =>
   rw [if_pos (by simp)];refine vx (wpAny_setField_rec he₄ (by simp) fun h₅ he₅ hs₅=>?_);replace hs₅:Heap.SameBut e h₄ h₅:=hs₅;replace he₅:gO h₅ e it ((i:Int)+1) T0 true old:=he₅;refine vy ?_;simp only [Bool.false_eq_true,if_false];refine vy ⟨_,rfl,hQ x h₅ tk hPx he₅ ?_ ?_ ?_ ?_⟩
   .exact D.frame _ _ _ hit₄ fun b hb o y=>hs₅.extBut b o (fun q=>hef (q ▸ hb)) y
   .exact hs₅.extBut _ _ (yb hel) ht₄
   .rw [hs₅.1,hz₄]
   .exact fun b o hbe hbi hb=>hs₅.extBut b o hbe (hk₄ b o hbe hbi hb)
def Ni 
  (D:Draws prog w A.in1 it fp n P Sx) (he:gO s.heap e it i T0 b0 old) (hT0:s.heap.get? T0=some o0) (nT0e:T0≠e) (nT0i:T0≠it) (hst:Sx i s.heap) (hlt:i < n) (hne:e≠it) (hef:e ∉ fp)
  (hQ:∀ x h' tk,P i x->gO h' e it ((i:Int)+1) T0 true old->Sx (i+1) h' ->
   h'.get? s.heap.objs.size=some { cls:=.type "tuple",data:=.seq #[.int i tk,x] } -> h'.objs.size=s.heap.objs.size+1 ->
   (∀ b o,b≠e->b≠it->s.heap.get? b=some o->h'.get? b=some o)->Q (some (.ref s.heap.objs.size)) { s with heap:=h',toks:=tk+1 }) :
  wpAny (model prog w) A (pyNext (.ref e)) Q E s:=by
 have hT:s.TypeIs (.ref e) "enumerate":=⟨_,he,rfl⟩
 unfold pyNext;exact vx (wpAny_attempt (y4 (name:=Str.ofString "__next__") hT F.slot_enumerate_next
  (y0 F.slot_enumerate_next hT F.entry_enumerate_next
   (Nr D he hT0 nT0e nT0i hst hlt hne hef fun x h' tk a b c d k q=>vy (hQ x h' tk a b c d k q)) (F.args_enumerate_next_1 _))))
def RQ {i:Int}
  (D:Draws prog w A.in1 it fp n P Sx) (he:gO s.heap e it i T0 b0 old) (hst:Sx n s.heap)
  (hQ:∀ h',Heap.ExtBut it s.heap h'->Q none { s with heap:=h' }):wpAny (model prog w) A (pyNext (.ref e)) Q E s:=by
 have hT:s.TypeIs (.ref e) "enumerate":=⟨_,he,rfl⟩
 unfold pyNext;refine vx (wpAny_attempt (y4 (name:=Str.ofString "__next__") hT F.slot_enumerate_next
  (y0 F.slot_enumerate_next hT F.entry_enumerate_next ?_ (F.args_enumerate_next_1 _))))
 show wpAny _ _ (field (.ref e) 2 >>= _) _ _ _
 refine vx (y9 he rfl (x:=.ref it) rfl ?_);refine vx (D.done _ _ _ hst fun h' x he' hx'=>?_);obtain ⟨o,ho,hc⟩:=hx';refine vx (wpAny_isInstance (T:="StopIteration") (b:=true) ⟨o,ho,hc⟩ isSubtype_stop ?_)
 exact vy (hQ _ he')
end
theorem Kw:typeLookup (.type "enumerate") "__len__"=pure none:=by rw [typeLookup_type,builtinLookup_eq_fast]; kernel_rfl
theorem Jx:typeLookup (.type "enumerate") "__length_hint__"=pure none:=by rw [typeLookup_type,builtinLookup_eq_fast]; kernel_rfl
end Mi
namespace Mi
open PySem L2
open PyProof.Rows hiding St
variable {e it a:Addr}{xs:List V}
section
variable {X:Cx}{pins:w4}{σ:St}{H:Hp}{s:Shared}
def VB {h2:Heap}{i:Int}{tk tk':Nat}{x:V}{u:Value} (I:Inv X pins σ H s) (fe:iQ X pins H e) (fi:iQ X pins H it)
  (kp:∀ b o,b ≠ e -> b ≠ it -> s.heap.get? b=some o -> h2.get? b=some o) (hTo:h2.get? s.heap.objs.size=some { cls:=.type "tuple",data:=.seq #[.int i tk,u] }) (ru:RelV x u) :
  Inv X pins σ (upd H s.heap.objs.size (.tup [.int i,x])) { s with heap:=h2,toks:=tk' }:=by
 obtain ⟨fe0,fe1,fe2,fe3,fe4,fe5⟩:=fe;obtain ⟨fi0,fi1,fi2,fi3,fi4,fi5⟩:=fi;have hTn:H s.heap.objs.size=none:=I.hok.fresh (v6 _);have nT:∀ b o,s.heap.get? b=some o->b≠s.heap.objs.size:=fun b o q=>ya (v4 q)
 have nch:∀ b,b ∉ ([e,it]:List Addr)->b≠e/\b≠it:=fun b hb=>by simp at hb;exact hb
 refine I.step (g':=s.gens) (d':=s.drawn) (ch:=[e,it]) (fun b hb=>?_) (fun b o _ _ hc q _=>kp b o (nch b hc).1 (nch b hc).2 q) (fun b o _ _ hc q _=>⟨o.slots,kp b o (nch b hc).1 (nch b hc).2 q⟩) (fun b o _ q n=>by rw [ao (nT b o q)];exact n)
  (fun b o hc q=>⟨o,kp b o (nch b hc).1 (nch b hc).2 q⟩) (fun b ys q=>by rw [ao (ak q hTn)];exact q) (fun b o u q=>by rw [ao (ak q hTn)];exact q) (fun b ps q=>⟨#[],by rw [ao (ak q hTn),q];simp⟩) (fun m hm=>?_) (fun b u q=>?_) I.bare
 .rcases z9.mp hb with z | z
  .subst z;exact ⟨fe3,fe1,fe4,fe5⟩
  .have z':=yv.mp z;subst z';exact ⟨fi3,fi1,fi4,fi5⟩
 .obtain ⟨o,es,ep,ho,r⟩:=hm;exact ⟨o,es,ep,kp _ o (Ne.symm fe1) (Ne.symm fi1) ho,r⟩
 .by_cases hbT:b=s.heap.objs.size
  .subst hbT;rw [aB] at q;cases q;exact ⟨by show 2<=sizeLine;decide,_,.cons ⟨tk,rfl⟩ (.cons ru .nil),⟨_,hTo,rfl,_,rfl⟩⟩
  .rw [ao hbT] at q;have nb:∀ c v,H c=some v->c≠e/\c≠it:=fun c v z=>⟨ak z fe0,ak z fi0⟩
   refine (I.hok b u q).stay (fun c v hc r=>?_) (fun c r=>by rw [ao (ak r hTn)];exact r) (fun c ys r=>by rw [ao (ak r hTn)];exact r) (fun c _ r _=>by rw [ao (ak r hTn)];exact r);have nc:c≠e/\c≠it:=by
    rcases hc with z | z
    .rw [z];exact nb b u q
    .exact nb c _ z
   exact kp c v nc.1 nc.2 r
def EnS (e it:Addr) (H:Hp) (h:Heap) (i:Nat):Prop:=(∃ old,IsEnum h e it i old)\/∃ T0 b ys old,H T0=some (.tup ys)/\gO h e it i T0 b old
def zu {K:zt}{H':Hp} (h:SqT K H a xs) (k:∀ o,(∀ ys,o≠.lst ys)->H a=some o->H' a=some o):SqT K H' a xs:=by
 rcases h with (h | ⟨o,h⟩) | h
 .exact .inl (.inl (k _ (by intro ys z;cases z) h))
 .exact .inl (.inr ⟨o,k _ (by intro ys z;cases z) h⟩)
 .exact .inr h
def Ge {A:Around}{R:Result->Shared->Prop}{S:Addr}{res:Value}{n0:Nat} (hA:A.handled=none) (hei:e≠it) :
  ∀ (k i:Nat) (s:Shared) (H:Hp) (ps:List Addr),n0<=s.heap.objs.size->(∀ p∈ps,n0<=p)->xs.length - i=k->i<=xs.length->Inv X pins σ H s->EnS e it H s.heap i->s.heap.IsTupleIter it a i->iQ X pins H e->iQ X pins H it->SqT X.K H a xs ->
   H S=some (.lst (ps.map V.ref))->ps.length=i->(∀ (j:Nat) p x,ps[j]?=some p->xs[j]?=some x->H p=some (.tup [.int j,x])) ->
   (∀ (s':Shared) (H':Hp) (ps':List Addr),Inv X pins σ H' s'->(∀ b o,b≠S->H b=some o->H' b=some o)->H' S=some (.lst (ps'.map V.ref))->ps'.length=xs.length->(∀ (j:Nat) p x,ps'[j]?=some p->xs[j]?=some x->H' p=some (.tup [.int j,x]))->(∀ p∈ps',n0<=p)->R (.ok (.ret res)) s') ->
   codeAny (model X.prog X.w) A (.builtin "list.extend.loop" ⟨[.ref S,.ref e,res],[]⟩) R s:=by
 intro k;induction k with
 | zero =>
  intro i s H ps hn0 hpn hk hi I st hit fe fi hq hS hl hps hR;have hin:i=xs.length:=by omega
  subst hin;refine codeAny_builtin PySem.F.entry_extend_loop ?_;rw [Around.under_plainId PySem.F.plain_extend_loop _];show wpAny _ A.in1 (pyNext (.ref e) >>= _) _ _ s
  obtain ⟨its,rv,p',hz⟩:=I.tuple hq;have p:s.heap.IsTuple a its.toArray:=p';have hlen:=rv.length;obtain ⟨o1,q1,c1,d1⟩:=id hit;obtain ⟨o2,q2,c2,n2,d2⟩:=id p;have hai:a≠it:=fun z=>by
   subst z;rw [q1] at q2;cases q2;rw [c1] at c2;exact absurd c2 (by simp)
  have D:=JR (prog:=X.prog) (w:=X.w) (A:=A.in1.in1) hA it a hai its.toArray;have hsz:its.toArray.size=xs.length:=by simp;omega
  have hst:s.heap.IsTupleIter it a its.toArray.size/\s.heap.IsTuple a its.toArray:=by rw [hsz];exact ⟨hit,p⟩
  have fin:∀ h',Heap.ExtBut it s.heap h'->R (.ok (.ret res)) { s with heap:=h' }:=fun h' eb=>by
   obtain ⟨fi0,fi1,fi2,fi3,fi4,fi5⟩:=fi;exact hR { s with heap:=h' } H ps (I.turned (t':=s.toks) (fun b o hb e=>eb b o hb e) fi0 fi1 fi3 fi4 fi5) (fun _ _ _ q=>q) hS hl hps hpn
  rcases st with ⟨old,he⟩ | ⟨T0,b,ys,old,hT0,he⟩
  .exact vx (wpAny_pyNext_enum_endD D he hst fun h' eb=>vy (fin h' eb))
  .exact vx (RQ D he hst fun h' eb=>vy (fin h' eb))
 | succ k ih =>
  intro i s H ps hn0 hpn hk hi I st hit fe fi hq hS hl hps hR;have hlt:i < xs.length:=by omega
  refine codeAny_builtin PySem.F.entry_extend_loop ?_;rw [Around.under_plainId PySem.F.plain_extend_loop _];show wpAny _ A.in1 (pyNext (.ref e) >>= _) _ _ s
  obtain ⟨its,rv,p',hz⟩:=I.tuple hq;have p:s.heap.IsTuple a its.toArray:=p';have hlen:=rv.length;obtain ⟨o1,q1,c1,d1⟩:=id hit;obtain ⟨o2,q2,c2,n2,d2⟩:=id p;have hai:a≠it:=fun z=>by
   subst z;rw [q1] at q2;cases q2;rw [c1] at c2;exact absurd c2 (by simp)
  have heo:∃ oe,s.heap.get? e=some oe /\ oe.cls=.type "enumerate":=by
   rcases st with ⟨old,he⟩ | ⟨T0,b,ys,old,hT0,he⟩
   .exact ⟨_,he,rfl⟩
   .exact ⟨_,he,rfl⟩
  obtain ⟨oe,qe,ce⟩:=heo;have hea:e≠a:=fun z=>by
   subst z;rw [qe] at q2;cases q2;rw [ce] at c2;exact absurd c2 (by simp)
  have D:=JR (prog:=X.prog) (w:=X.w) (A:=A.in1.in1) hA it a hai its.toArray;have hil:i < its.toArray.size:=by simp;omega
  have hx:xs[i]?=some xs[i]:=by simp [hlt]
  obtain ⟨u,hu,ru⟩:=rv.get hx;have hSn:S≠e:=ak hS fe.1;have hSi:S≠it:=ak hS fi.1;have go:∀ (x':Value) (h':Heap) (tk:Nat),its.toArray[i]?=some x'->EnS e it (upd H s.heap.objs.size (.tup [.int i,xs[i]])) h' (i+1)->h'.IsTupleIter it a (i+1) ->
    h'.get? s.heap.objs.size=some { cls:=.type "tuple",data:=.seq #[.int i tk,x'] } -> h'.objs.size=s.heap.objs.size+1 -> (∀ b o,b ≠ e -> b ≠ it -> s.heap.get? b=some o -> h'.get? b=some o) ->
    wpAny (model X.prog X.w) A.in1 (Builtin.List.listUpdate (.ref S) (·.push (.ref s.heap.objs.size)) >>= fun _=>again (.builtin "list.extend.loop" ⟨[.ref S,.ref e,res],[]⟩))
     (fun fin s'=>match fin with | .done f=>R (.ok f) s' | .again c'=>c'.quiet=true/\codeAny (model X.prog X.w) A c' R s') (fun e s'=>R (.error e) s') { s with heap:=h',toks:=tk+1 }:=by
   intro x' h' tk hx' hEn hit' hT hsz' hkp;have ex:x'=u:=by
    have z:its.toArray[i]?=some u:=by simpa using hu
    rw [z] at hx';exact (ja hx').symm
   subst ex;have hTn:H s.heap.objs.size=none:=I.hok.fresh (v6 _);have I2:=VB (tk':=tk+1) I fe fi hkp hT ru;have hST:S≠s.heap.objs.size:=ak hS hTn;have hS2:(upd H s.heap.objs.size (.tup [.int i,xs[i]])) S=some (.lst (ps.map V.ref)):=by rw [ao hST];exact hS
   obtain ⟨z,its2,n2,r2,hl2,e2⟩:=I2.lstM hS2;refine vx ?_;show wpAny _ _ (updateSeq S (·.push (.ref s.heap.objs.size))) _ _ _
   have lenps:its2.length=i:=by rw [<- hl2,List.length_map];exact hl
   refine wpAny_updateSeq e2 rfl ?_ (by rw [List.size_toArray];omega) (by show (its2.toArray.push _).size<=sizeLine+1;rw [Array.size_push,List.size_toArray];omega);refine vy ⟨plainId_quiet PySem.F.plain_extend_loop _,?_⟩;have I3:=I2.lset (t':=tk+1) (its':=its2++[.ref s.heap.objs.size]) (ys:=(ps++[s.heap.objs.size]).map V.ref) (f:=(·.push (.ref s.heap.objs.size))) hS2 e2 (by simp) (by rw [List.map_append];exact r2.append (.cons rfl .nil)) (by rw [List.length_map,List.length_append,List.length_singleton];omega);have hnS:∀ b,b≠S->(upd (upd H s.heap.objs.size (.tup [.int i,xs[i]])) S (.lst ((ps++[s.heap.objs.size]).map V.ref))) b=(upd H s.heap.objs.size (.tup [.int i,xs[i]])) b:=fun b hb=>ao hb
   have elt:e < s.heap.objs.size:=v4 qe;have ilt:it < s.heap.objs.size:=v4 q1;have oldK:∀ b o,b≠S->H b=some o->(upd (upd H s.heap.objs.size (.tup [.int i,xs[i]])) S (.lst ((ps++[s.heap.objs.size]).map V.ref))) b=some o:=fun b o hb q=>by
    rw [hnS b hb,ao (ak q hTn)];exact q
   refine ih (i+1) _ _ (ps++[s.heap.objs.size]) (by show n0<=(h'.update S _).objs.size;rw [Heap.size_update,hsz'];omega) (fun p hp=>(yc.mp hp).elim (hpn p) fun z=>by rw [List.mem_singleton.mp z];exact hn0) (by omega) hlt I3 ?_ ?_ ?_ ?_ ?_ aB (by rw [List.length_append,List.length_singleton];omega) ?_ fun s' H' ps' I' k' hS' hl' hp' ho'=>?_
   ·-- the enumerate object
    rcases hEn with ⟨old,he⟩ | ⟨T0,b,ys,old,hT0,he⟩
    .exact .inl ⟨old,(ym _ _ hSn).trans he⟩
    .exact .inr ⟨T0,b,ys,old,by rw [ao (Oh hT0 hS2 (by intro z;cases z))];exact hT0,(ym _ _ hSn).trans he⟩
   .obtain ⟨o,q,r⟩:=hit';exact ⟨o,(ym _ _ hSi).trans q,r⟩
   .exact ⟨by rw [hnS e (Ne.symm hSn),ao (Nat.ne_of_lt elt)];exact fe.1,fe.2⟩
   .exact ⟨by rw [hnS it (Ne.symm hSi),ao (Nat.ne_of_lt ilt)];exact fi.1,fi.2⟩
   .refine zu hq fun o hno q=>oldK a o ?_ q
    exact Oh q hS (hno _)
   .intro j pp x hj hxj;by_cases hji:j < ps.length
    .rw [List.getElem?_append_left hji] at hj;have q:=hps j pp x hj hxj;exact oldK pp _ (Oh q hS (by intro z;cases z)) q
    .have hje:j=i:=by
      have:=(vV.mp hj).1;rw [List.length_append,List.length_singleton] at this;omega
     subst hje;rw [List.getElem?_append_right (by omega),hl] at hj;simp at hj;subst hj;rw [hx] at hxj;cases hxj;rw [hnS _ (Ne.symm hST),aB]
   .exact hR s' H' ps' I' (fun b o hb q=>k' b o hb (oldK b o hb q)) hS' hl' hp' ho'
  rcases st with ⟨old,he⟩ | ⟨T0,b,ys,old,hT0,he⟩
  .refine vx (wpAny_pyNext_enum_itemD D he ⟨hit,p⟩ hil hei (by simp [hei,hea]) fun x' h' tk hPx hout hst' hT hsz hk=>?_);exact go x' h' tk hPx (.inr ⟨s.heap.objs.size,false,_,x',aB,by simpa using hout⟩) hst'.1 hT hsz hk
  .obtain ⟨o0,q0⟩:∃ o0,s.heap.get? T0=some o0:=by
    obtain ⟨_,_,_,o0,q0,_⟩:=(show cA X.prog X.w H s.heap T0 (.tup ys) from I.hok T0 _ hT0);exact ⟨o0,q0⟩
   have hTn:H s.heap.objs.size=none:=I.hok.fresh (v6 _);refine vx (Ni D he q0 (ak hT0 fe.1) (ak hT0 fi.1) ⟨hit,p⟩ hil hei (by simp [hei,hea]) fun x' h' tk hPx hout hst' hT hsz hk=>?_);exact go x' h' tk hPx (.inr ⟨T0,true,ys,old,by rw [ao (ak hT0 hTn)];exact hT0,by simpa using hout⟩) hst'.1 hT hsz hk
def tLE (K:zt) (ta:TA):TE:=fun σ H Q=>ta σ H fun vs H1=>∃ a xs,vs=[.ref a]/\SqT K H1 a xs /\
 ∀ (S:Addr) (H':Hp) (ps:List Addr),H1 S=none->(∀ p∈ps,H1 p=none)->(∀ b o,H1 b=some o->H' b=some o)->H' S=some (.lst (ps.map V.ref))->ps.length=xs.length ->
  (∀ (j:Nat) p x,ps[j]?=some p->xs[j]?=some x->H' p=some (.tup [.int j,x]))->Q (.ref S) H'
def Ks {a:Expr}{ta:TA}{p pos p2 pos2:Pos} (hc:X.calm=true) (hg:Gl X "enumerate") (hm:X.mg "enumerate"=none) (hgl:Gl X "list") (hml:X.mg "list"=none) (ha:PA X [a] ta) (hs:starEach [a] X.env=[(false,eval a X.env)]:=by rfl) :
  PE X (.Call (.Name "list" p) [.Call (.Name "enumerate" p2) [a] [] pos2] [] pos) (tLE X.K ta):=by
 intro pins s σ H Q I h;refine Call_ (fX I hgl hml boot_list (y6 (Calls.spliced_cons ?_) rfl rfl));refine Call_ (fX I hg hm vQ (y6 (thn (ha pos2 pins s σ H _ I h) fun us s1 ⟨vs,H1,I1,r1,q1⟩=>?_) hs rfl));obtain ⟨b,xs,rfl,hq,q⟩:=q1;obtain ⟨u,rfl,ru⟩:=vals1 r1;cases ru;obtain ⟨its,rv,p0,hz⟩:=I1.tuple hq;refine Bo (show s1.heap.IsTuple b its.toArray from p0) fun h' he hit hsz hk=>?_
 refine Calls.spliced_nil ?_;have I2:Inv X pins σ H1 { s1 with heap:=h' }:=I1.kept (t':=s1.toks) hk;have fe:iQ X pins H1 (s1.heap.objs.size+1):=I1.fpOk (Nat.le_succ _) (I1.hok.fresh (Nat.le_succ _));have fi:iQ X pins H1 s1.heap.objs.size:=I1.fpOk (v6 _) (I1.hok.fresh (v6 _));refine callType_codes (Q₁:=fun obj s₁=>obj=.ref h'.objs.size /\ s₁={ s1 with heap:=h'.push { cls:=.type "list",data:=.seq #[] } }) PySem.F.called_list (PySem.F.typeCall_list_1 _) PySem.F.entry_list_init
  (code_list_new _ ⟨rfl,rfl⟩) fun obj s₁ h₁=>?_
 obtain ⟨rfl,rfl⟩:=h₁;have hS:(h'.push { cls:=.type "list",data:=.seq #[] }).get? h'.objs.size=some { cls:=.type "list",data:=.seq #[] }:=v3 _ rfl
 have hSn:H1 h'.objs.size=none:=I2.hok.fresh (v6 _);have I3:Inv X pins σ (upd H1 h'.objs.size (.lst [])) { s1 with heap:=h'.push { cls:=.type "list",data:=.seq #[] } } :=
  I2.laid (t':=s1.toks) (fun b o e=>vT _ e) (v6 _) ⟨by simp,[],0,.nil,hS⟩
 refine ⟨⟨_,hS,rfl⟩,PySem.F.args_list_init_2 _ _,?_⟩;have elt:s1.heap.objs.size+1 < h'.objs.size:=by rw [hsz];exact jM _
 have ilt:s1.heap.objs.size < h'.objs.size:=Nat.lt_trans (jM _) elt;have hSe:h'.objs.size≠s1.heap.objs.size+1:=yb elt;have hSi:h'.objs.size≠s1.heap.objs.size:=yb ilt;show wpAny _ _ (do let old <- Builtin.List.listItems (.ref h'.objs.size);Builtin.List.listUpdate (.ref h'.objs.size) (fun _=>#[]);letGo old.toList.reverse;Builtin.List.listExtendWith (.ref h'.objs.size) (.ref (s1.heap.objs.size+1)) .none) _ _ _
 refine vx ?_;unfold Builtin.List.listItems;refine vx (wpAny_seqItems hS rfl (vy ?_));show wpAny _ _ (updateSeq h'.objs.size (fun _=>#[]) >>= fun _=>letGo (#[]:vj).toList.reverse >>= fun _=>Builtin.List.listExtendWith (.ref h'.objs.size) (.ref (s1.heap.objs.size+1)) .none) _ _ _
 refine vx (wpAny_updateSeq hS rfl ?_);have I4:=I3.lset (t':=s1.toks) (its':=[]) (ys:=[]) (f:=fun _=>#[]) aB (its:=[]) hS rfl .nil (by simp);rw [CQ] at I4;have hS2:=yn (Obj.mapSeq (fun _=>(#[]:vj))) hS rfl;have he1:IsEnum (h'.push { cls:=.type "list",data:=.seq #[] }) (s1.heap.objs.size+1) s1.heap.objs.size 0 .none:=vT _ he
 have he2:IsEnum ((h'.push { cls:=.type "list",data:=.seq #[] }).update h'.objs.size (Obj.mapSeq (fun _=>(#[]:vj)))) (s1.heap.objs.size+1) s1.heap.objs.size 0 .none:=(ym _ _ hSe).trans he1
 have hit2:((h'.push { cls:=.type "list",data:=.seq #[] }).update h'.objs.size (Obj.mapSeq (fun _=>(#[]:vj)))).IsTupleIter s1.heap.objs.size b 0:=by
  obtain ⟨o,e,r⟩:=hit;exact ⟨o,(ym _ _ hSi).trans (vT _ e),r⟩
 refine vx (wpAny_letGo ?_);unfold Builtin.List.listExtendWith;have hT2:Shared.TypeIs { s1 with heap:=(h'.push { cls:=.type "list",data:=.seq #[] }).update h'.objs.size (Obj.mapSeq (fun _=>(#[]:vj))) } (.ref (s1.heap.objs.size+1)) "enumerate":=⟨_,he2,rfl⟩
 refine vx (wpAny_typeOf hT2 ?_);have h1:Builtin.List.listSameRef (.ref h'.objs.size) (.ref (s1.heap.objs.size+1))=false:=by simp [Builtin.List.listSameRef,hSe]
 have h2:(Value.type "enumerate" == Value.type "list")=false:=by decide
 have h3:(Value.type "enumerate" == Value.type "tuple")=false:=by decide
 simp only [h1,h2,h3,Bool.or_false,Bool.false_eq_true,if_false];refine vx (wpAny_pyIter_enum he2 ?_);refine vx (wpAny_holding ?_);unfold Builtin.List.listLengthHint;refine vx (wpAny_specialOf hT2 Kw ?_);show wpAny _ _ (specialOf (Value.ref (s1.heap.objs.size+1)) (Str.ofString "__length_hint__") >>= _) _ _ _
 refine vx (wpAny_specialOf hT2 Jx ?_);refine vy ?_;simp only [Bool.true_or,if_true];refine vx (wpAny_rule ?_);refine vx ?_;show wpAny _ _ (updateSeq h'.objs.size (·.push .none) >>= fun _=>updateSeq h'.objs.size (·.pop)) _ _ _
 refine vx (wpAny_updateSeq hS2 rfl ?_);have hS3:=yn (Obj.mapSeq (·.push Value.none)) hS2 rfl;refine wpAny_updateSeq (hz:=by seq_fits) hS3 rfl ?_;obtain ⟨z4,its4,n4,r4,hl4,e4⟩:=I4.lstM aB;have en4:its4=[]:=by
  cases its4 with
  | nil=>rfl
  | cons a l=>simp at hl4
 subst en4;have I5:=I4.lset (t':=s1.toks) (its':=[.none]) (ys:=[.non]) (f:=(·.push Value.none)) aB e4 (by simp) (.cons rfl .nil) (by show 1<=sizeLine;decide);rw [CQ] at I5;obtain ⟨z5,its5,n5,r5,hl5,e5⟩:=I5.lstM aB;obtain ⟨u5,e5',ru5⟩:=r5.one;subst e5';have I6:=I5.lset (t':=s1.toks) (its':=[]) (ys:=[]) (f:=(·.pop)) aB e5 (by simp) .nil (by simp);rw [CQ] at I6;refine vy ⟨plainId_quiet PySem.F.plain_extend_loop _,?_⟩;refine Ge (A:=X.A.in1) (a:=b) (e:=s1.heap.objs.size+1) (it:=s1.heap.objs.size) (S:=h'.objs.size) (xs:=xs) (n0:=s1.heap.objs.size) (I1.ok.hd hc) (Nat.succ_ne_self _) xs.length 0 _ (upd H1 h'.objs.size (.lst [])) [] ?_ (fun _ z=>by simp at z) rfl (yf _) I6 ?_ ?_ ?_ ?_ ?_ aB rfl (fun j p x z=>by simp at z) fun s' H' ps' I' k' hS' hl' hp' hn'=>?_
 .exact Nat.le_of_lt (Nat.lt_trans ilt (v4 (show Heap.get? _ h'.objs.size=some _ from yn (Obj.mapSeq (·.pop)) hS3 rfl)))
 .exact .inl ⟨.none,(ym _ _ hSe).trans ((ym _ _ hSe).trans he2)⟩
 .obtain ⟨o,e,r⟩:=hit2;exact ⟨o,(ym _ _ hSi).trans ((ym _ _ hSi).trans e),r⟩
 .exact ⟨by rw [ao (Ne.symm hSe)];exact fe.1,fe.2⟩
 .exact ⟨by rw [ao (Ne.symm hSi)];exact fi.1,fi.2⟩
 .exact zu hq fun o hno e=>by rw [ao (ak e hSn)];exact e
 .refine ⟨rfl,.ref h'.objs.size,H',I',rfl,q _ H' ps' hSn (fun p hp=>I1.hok.fresh (hn' p hp)) (fun c o e=>k' c o (ak e hSn) (by rw [ao (ak e hSn)];exact e)) hS' hl' hp'⟩
end
end Mi
namespace Mi
open PySem PySem.W PyProof.Rows
def dJ {α:Type} (r:Nat->Int) (N:Nat):KasT α->(α->Prop)->Prop
 | .ret a,Q=>Q a
 | .ask i j k,Q=>i < N/\j < N/\dJ r N (k (decide (r i < r j))) Q
theorem dJ.bind {α β:Type}{r:Nat->Int}{N:Nat}{f:α->KasT β}{Q:β->Prop}:∀ {t:KasT α},dJ r N t (fun a=>dJ r N (f a) Q)->dJ r N (t.bind f) Q
 | .ret a,h=>h
 | .ask i j k,h=>⟨h.1,h.2.1,dJ.bind (t:=k _) h.2.2⟩
theorem dJ.wp {α:Type}{r:Nat->Int}{N:Nat}{cmp:Nat->Nat->(Bool->Shared->Prop)->Shared->Prop}{s:Shared} (hc:∀ i j C,i < N->j < N->C (decide (r i < r j)) s->cmp i j C s) {Q:α->Shared->Prop} :
  ∀ {t:KasT α},dJ r N t (fun a=>Q a s)->t.kasWp cmp Q s
 | .ret a,h=>h
 | .ask i j k,h=>hc i j _ h.1 h.2.1 (dJ.wp hc (t:=k _) h.2.2)
theorem Fj {α:Type}{r:Nat->Int}{N:Nat}{Q Q':α->Prop}:∀ {t:KasT α},dJ r N t Q->(∀ a,Q a->Q' a)->dJ r N t Q'
 | .ret a,h,k=>k a h
 | .ask i j f,h,k=>⟨h.1,h.2.1,Fj (t:=f _) h.2.2 k⟩
noncomputable def Kp (r:Nat->Int) (p:Array Nat) (i:Nat):Int:=match p[i]? with
 | some x=>r x
 | none=>0
def kJ (r:Nat->Int) (p:Array Nat) (k:Nat):Prop:=∀ i j,i<=j->j < k->Kp r p i<=Kp r p j
def Ca (r:Nat->Int) (p:Array Nat) (k:Nat):Prop:=∀ i j,i<=j->j < k->Kp r p j<=Kp r p i
structure PB (N:Nat) (p:Array Nat):Prop where
 perm:p.Perm (List.range N).toArray
variable {N:Nat}{p:Array Nat}
theorem PB.size (h:PB N p):p.size=N:=by rw [h.perm.size_eq];simp
variable {i:Nat}
theorem PB.lt (h:PB N p)  (hi:i < N):p.getD i 0 < N:=by
 have hs:=h.size;have e:p.getD i 0=p[i]:=by simp [Array.getD,hs,hi]
 have hm:p[i]∈(List.range N):=by
  have:=(Array.perm_iff_toList_perm.mp h.perm).mem_iff (a:=p[i]);simp at this;simpa using this
 rw [e];simpa using hm
theorem PB.mir (h:PB N p) (i j d:Nat):PB N (mirror p i j d):=⟨(mirror_perm _ _ _ _).trans h.perm⟩
theorem PB.bub (h:PB N p) (i d:Nat):PB N (bubble p i d):=⟨(bubble_perm _ _ _).trans h.perm⟩
variable {r:Nat->Int}{N:Nat}
def LC (hi:i < p.size):r (p.getD i 0)=Kp r p i:=by
 unfold Kp;simp [Array.getD,hi]
variable {j:Nat}
def pI {q:Array Nat} (h:p[i]?=q[j]?):Kp r p i=Kp r q j:=by unfold Kp;rw [h]
variable {xs:Array Nat}
def Em {src d:Nat} (hs:src < xs.size) (hd:d<=src) (k:Nat) :
  Kp r (bubble xs src d) k=if k=src - d then Kp r xs src else if src - d < k/\k<=src then Kp r xs (k - 1) else Kp r xs k:=by
 have e:=getElem?_bubble hs d hd k;by_cases h1:k=src - d
 .rw [if_pos h1] at e ⊢;exact pI e
 .rw [if_neg h1] at e ⊢;by_cases h2:src - d < k/\k<=src
  .rw [if_pos h2] at e ⊢;exact pI e
  .rw [if_neg h2] at e ⊢;exact pI e
def vh (hj:j<=xs.size) (k:Nat) :
  Kp r (mirror xs i j ((j - i) / 2)) k=if i<=k/\k < j then Kp r xs (i+j - 1 - k) else Kp r xs k:=by
 have e:=getElem?_mirror_all (i:=i) hj k;by_cases h1:i<=k/\k < j
 .rw [if_pos h1] at e ⊢;exact pI e
 .rw [if_neg h1] at e ⊢;exact pI e
theorem fY (hj:j<=xs.size) (heq:∀ k,i<=k->k < j->Kp r xs k=Kp r xs (j - 1)) (k:Nat) :
  Kp r (mirror xs i j ((j - i) / 2)) k=Kp r xs k:=by
 rw [vh hj];split
 .rw [heq _ (by omega) (by omega),heq k (by omega) (by omega)]
 .rfl
def GZ {α:Type}{k:Bool->KasT α}{Q:α->Prop} (hB:PB N p) (hi:i < N) (hj:j < N) (h:dJ r N (k (decide (Kp r p i < Kp r p j))) Q):dJ r N (.ask (p.getD i 0) (p.getD j 0) k) Q:=by
 refine ⟨hB.lt hi,hB.lt hj,?_⟩;rw [LC (r:=r) (p:=p) (i:=i) (by rw [hB.size];exact hi),LC (r:=r) (p:=p) (i:=j) (by rw [hB.size];exact hj)];exact h
theorem Wc {p:Array Nat}{nrem:Nat} (hB:PB N p) (hz:nrem<=N):∀ (f a:Nat) {Q:Nat->Prop},nrem - a=f->1<=a->a<=nrem->kJ r p a ->
  (∀ n,a<=n->n<=nrem->kJ r p n->(n=nrem\/Kp r p n < Kp r p (n - 1))->Q n)->dJ r N (kas_asc p f a) Q
 | 0,a,Q,hf,h1,ha,hs,h=>h a (v6 _) ha hs (.inl (by omega))
 | f+1,a,Q,hf,h1,ha,hs,h=>by
  refine GZ hB (by omega) (by omega) ?_;by_cases hless:Kp r p a < Kp r p (a - 1)
  .simp only [hless,decide_true,if_true];exact h a (v6 _) ha hs (.inr hless)
  .simp only [hless,decide_false,Bool.false_eq_true,if_false];refine Wc hB hz f (a+1) (by omega) (by omega) (by omega) (fun i j hij hj=>?_) fun n h1 h2 h3 h4=>h n (by omega) h2 h3 h4
   by_cases hjx:j < a
   .exact hs i j hij hjx
   .have hj':j=a:=by omega
    subst hj';by_cases hi':i=j
    .subst hi';exact Int.le_refl _
    .exact Int.le_trans (hs i (j - 1) (by omega) (by omega)) (Int.not_lt.mp hless)
variable {n nrem:Nat}{Q:Nat × Array Nat->Prop}
def Qk (hB:PB N p) (hz:nrem<=N) (h1:1<=n) (hn:n<=nrem) (hs:Ca r p n)
  (h:∀ m p',PB N p'->1<=m->m<=nrem->kJ r p' m->Q (m,p')):dJ r N (kas_tail3 n nrem p) Q:=by
 unfold kas_tail3 kas_rev;have hsz:n<=p.size:=by rw [hB.size];omega
 refine dJ.bind (Wc (hB.mir _ _ _) hz _ n rfl h1 hn (fun i j hij hj=>?_) fun m hm1 hm2 hsm _=>h m _ (hB.mir _ _ _) (by omega) hm2 hsm);rw [vh hsz,vh hsz,if_pos (by omega),if_pos (by omega)];exact hs _ _ (by omega) (by omega)
theorem Gp {nrem:Nat} (hz:nrem<=N):∀ (f:Nat) (p:Array Nat) (x q:Nat) {Q:Array Nat × Nat × Nat->Prop},PB N p->nrem - x=f->1<=x->x<=nrem->Ca r p x->q+1<=x ->
  (∀ i,x - (q+1)<=i->i < x->Kp r p i=Kp r p (x - 1)) ->
  (∀ p' m neq,PB N p'->x<=m->m<=nrem->Ca r p' m->neq+1<=m->(∀ i,m - (neq+1)<=i->i < m->Kp r p' i=Kp r p' (m - 1))->Q (p',m,neq))->dJ r N (kas_desc f p x q) Q
 | 0,p,x,q,Q,hB,hf,h1,hx,hs,hq,he,h=>h p x q hB (v6 _) hx hs hq he
 | f+1,p,x,q,Q,hB,hf,h1,hx,hs,hq,he,h=>by
  have hsz:x<=p.size:=by rw [hB.size];omega
  refine GZ hB (by omega) (by omega) ?_;by_cases hless:Kp r p x < Kp r p (x - 1)
  .simp only [hless,decide_true,if_true];have step1:∀ xs:Array Nat,(∀ k,Kp r xs k=Kp r p k)->Ca r xs (x+1):=by
    intro xs hk i j hij hj;rw [hk,hk];by_cases hjx:j < x
    .exact hs i j hij hjx
    .have hj':j=x:=by omega
     subst hj';by_cases hi':i=j
     .subst hi';exact Int.le_refl _
     .exact Int.le_trans (Int.le_of_lt hless) (hs i (j - 1) (by omega) (by omega))
   by_cases hneq:q > 0
   .rw [if_pos hneq];refine Gp hz f _ (x+1) 0 (hB.mir _ _ _) (by omega) (by omega) (by omega) (step1 _ (fY hsz he)) (by omega) (fun i h1 h2=>by congr 1;omega) fun p' m neq a b c d e g=>h p' m neq a (by omega) c d e g
   .rw [if_neg hneq];exact Gp hz f _ (x+1) 0 hB (by omega) (by omega) (by omega) (step1 _ fun _=>rfl) (by omega) (fun i h1 h2=>by congr 1;omega) fun p' m neq a b c d e g=>h p' m neq a (by omega) c d e g
  .simp only [hless,decide_false,Bool.false_eq_true,if_false];refine GZ hB (by omega) (by omega) ?_;by_cases hlarger:Kp r p (x - 1) < Kp r p x
   .simp only [hlarger,decide_true,if_true];exact h p x q hB (v6 _) (by omega) hs hq he
   .simp only [hlarger,decide_false,Bool.false_eq_true,if_false];have heqx:Kp r p x=Kp r p (x - 1):=by omega
    refine Gp hz f _ (x+1) (q+1) hB (by omega) (by omega) (by omega) (fun i j hij hj=>?_) (by omega) (fun i h1 h2=>?_) fun p' m neq a b c d e g=>h p' m neq a (by omega) c d e g
    .by_cases hjx:j < x
     .exact hs i j hij hjx
     .have hj':j=x:=by omega
      subst hj';by_cases hi':i=j
      .subst hi';exact Int.le_refl _
      .rw [heqx];exact hs i (j - 1) (by omega) (by omega)
    .rw [show x+1 - 1=x by omega];by_cases hix:i=x
     .subst hix;rfl
     .rw [heqx];exact he i (by omega) (by omega)
def Dz (hB:PB N p) (hz:nrem<=N) (hnn:n+1<=nrem) (hs:Ca r p (n+1))
  (h:∀ m p',PB N p'->1<=m->m<=nrem->kJ r p' m->Q (m,p')):dJ r N (kas_descPart n nrem p) Q:=by
 unfold kas_descPart;refine dJ.bind (Gp hz _ p (n+1) 0 hB rfl (by omega) hnn hs (by omega) (fun i h1 h2=>by congr 1;omega) fun p' m neq hB' hm1 hm2 hs' hq he=>?_);dsimp only;have hsz:m<=p'.size:=by rw [hB'.size];omega
 by_cases hneq:neq > 0
 .rw [if_pos hneq];refine Qk (hB'.mir _ _ _) hz (by omega) hm2 (fun i j hij hj=>?_) h;have e1:=fY (r:=r) hsz he i;have e2:=fY (r:=r) hsz he j;show Kp r (mirror p' _ _ _) j<=Kp r (mirror p' _ _ _) i
  rw [e1,e2];exact hs' i j hij hj
 .rw [if_neg hneq];exact Qk hB' hz (by omega) hm2 hs' h
def Z6 (hB:PB N p) (hz:nrem<=N) (h1:1<=nrem)
  (h:∀ m p',PB N p'->1<=m->m<=nrem->kJ r p' m->Q (m,p')):dJ r N (kas_count nrem p) Q:=by
 unfold kas_count;refine dJ.bind (Wc hB hz _ 1 rfl (v6 1) h1 (fun i j hij hj=>by have:i=j:=(by omega);subst this;exact Int.le_refl _) fun n hn1 hn2 hsn hor=>?_);by_cases hnn:n=nrem
 .rw [if_pos (by simpa using hnn)];exact h n p hB hn1 hn2 hsn
 .rw [if_neg (by simpa using hnn)];have hlt:Kp r p n < Kp r p (n - 1):=hor.resolve_left hnn;by_cases hgt:n > 1
  .rw [if_pos hgt];refine GZ hB (by omega) (by omega) ?_;by_cases hrose:Kp r p 0 < Kp r p (n - 1)
   .simp only [hrose,decide_true,if_true];exact h n p hB hn1 hn2 hsn
   .simp only [hrose,decide_false,Bool.false_eq_true,if_false];have hsz:n<=p.size:=by rw [hB.size];omega
    have hall:∀ k,0<=k->k < n->Kp r p k=Kp r p (n - 1):=by
     intro k _ hk;have a1:=hsn 0 k (by omega) hk;have a2:=hsn k (n - 1) (by omega) (by omega);omega
    refine Dz (hB.mir _ _ _) hz (by omega) (fun i j hij hj=>?_) h;have e1:=fY (r:=r) hsz hall i;have e2:=fY (r:=r) hsz hall j;show Kp r (mirror p _ _ _) j<=Kp r (mirror p _ _ _) i
    rw [e1,e2];by_cases hjn:j < n
    .rw [hall i (by omega) (by omega),hall j (by omega) hjn];exact Int.le_refl _
    .have hj':j=n:=by omega
     subst hj';by_cases hi':i=j
     .subst hi';exact Int.le_refl _
     .rw [hall i (by omega) (by omega)];exact Int.le_of_lt hlt
  .rw [if_neg hgt];have hn1':n=1:=by omega
   subst hn1';refine Dz hB hz (by omega) (fun i j hij hj=>?_) h;by_cases hi':i=j
   .subst hi';exact Int.le_refl _
   .have hi0:i=0:=by omega
    have hj1:j=1:=by omega
    subst hi0;subst hj1;exact Int.le_of_lt hlt
theorem Ih {p:Array Nat}{k:Nat} (hB:PB N p) (hk:k < N) (hs:kJ r p k):∀ (f l rr:Nat) {Q:Nat->Prop},l<=rr->rr<=k->rr - l<=f->(∀ i,i < l->Kp r p i<=Kp r p k)->(∀ i,rr<=i->i < k->Kp r p k < Kp r p i) ->
  (∀ l,l<=k->(∀ i,i < l->Kp r p i<=Kp r p k)->(∀ i,l<=i->i < k->Kp r p k < Kp r p i)->Q l)->dJ r N (kas_place p k f l rr) Q
 | 0,l,rr,Q,hlr,hrk,hm,hlo,hhi,h=>h l (by omega) hlo fun i h1 h2=>hhi i (by omega) h2
 | f+1,l,rr,Q,hlr,hrk,hm,hlo,hhi,h=>by
  unfold kas_place;by_cases hge:l ≥ rr
  .rw [if_pos hge];exact h l (by omega) hlo fun i h1 h2=>hhi i (by omega) h2
  .rw [if_neg hge];refine GZ hB hk (by omega) ?_;by_cases hless:Kp r p k < Kp r p ((l+rr) / 2)
   .simp only [hless,decide_true,if_true];refine Ih hB hk hs f l _ (by omega) (by omega) (by omega) hlo (fun i h1 h2=>?_) h;exact Int.lt_of_lt_of_le hless (hs _ _ h1 h2)
   .simp only [hless,decide_false,Bool.false_eq_true,if_false];refine Ih hB hk hs f _ rr (by omega) (by omega) (by omega) (fun i h1=>?_) hhi h;exact Int.le_trans (hs i ((l+rr) / 2) (by omega) (by omega)) (Int.not_lt.mp hless)
theorem aae {nrem:Nat} (hz:nrem<=N):∀ (f:Nat) (p:Array Nat) (k:Nat) {Q:Array Nat->Prop},PB N p->nrem - k=f->k<=nrem->kJ r p k->(∀ p',PB N p'->kJ r p' nrem->Q p')->dJ r N (kas_bin f p k) Q
 | 0,p,k,Q,hB,hf,hk,hs,h=>h p hB (by rw [show nrem=k by omega];exact hs)
 | f+1,p,k,Q,hB,hf,hk,hs,h=>by
  refine dJ.bind (Ih hB (by omega) hs k 0 k (by omega) (by omega) (by omega) (fun i h=>by omega) (fun i h1 h2=>by omega) fun l hlk hlo hhi=>?_);refine aae hz f _ (k+1) (hB.bub _ _) (by omega) (by omega) (fun i j hij hj=>?_) h;have hks:k < p.size:=by rw [hB.size];omega
  rw [Em hks (by omega),Em hks (by omega),show k - (k - l)=l by omega]
  repeat' split
  all_goals first
   | (exfalso;omega)
   | exact Int.le_refl _
   | exact hlo _ (by omega)
   | exact Int.le_of_lt (hhi _ (by omega) (by omega))
   | exact hs _ _ (by omega) (by omega)
def abZ (h1:1<=N):dJ r N (kas_sort N) (fun p=>PB N p/\kJ r p N):=by
 unfold kas_sort;refine dJ.bind (Z6 (p:=(List.range N).toArray) ⟨Array.Perm.refl _⟩ (v6 _) h1 fun m p' hB hm1 hm2 hs=>?_);dsimp only;by_cases hlt:m < N
 .rw [if_pos hlt];rw [show max m 1=m by omega];exact aae (v6 _) _ p' m hB rfl (by omega) hs fun p' a b=>⟨a,b⟩
 .rw [if_neg hlt];exact ⟨hB,by rw [show N=m by omega];exact hs⟩
end Mi
namespace Mi
open PySem L2
open PyProof.Rows hiding St
mutual
noncomputable def bG:D->D->Bool
 | .int _,.int _=>true
 | .tup a,.tup b=>dY a b
 | .lst a,.lst b=>dY a b
 | _,_=>false
noncomputable def dY:List D->List D->Bool
 | a::as,b::bs=>if a=b then dY as bs else bG a b
 | [],_=>true
 | _::_,[]=>true
end
theorem jZ:∀ {ds:List D}{d:D},bH ds=true->d∈ds->keyOk d=true
 | x::ds,d,h,hd=>by
  rw [bH,Bool.and_eq_true] at h;rcases z9.mp hd with e | hd
  .rw [e];exact h.1
  .exact jZ h.2 hd
def Qu (A:Around) (s:Shared) (u v:Value) (b:Bool):Prop :=
 ∀ (prog:Program) (w:World) (E:zn) (Q:zn),Q (.bool b) s->wpAny (model prog w) A (richCompare .Lt u v) Q E s
section
open PySem.SeqAt
open PySem.AutoSeq1 (wpAny_loadPart')
open PySem.MeetsSeq PySem.MeetsSeq2 PySem.MeetsSeq3
def RG (l b:Addr) (items items2:vj) (n n2:Nat) (dd dd2:vn) (sl sl2:vw) (ds es:List D) (hk:bH ds=true) (hk2:bH es=true) (hc:dY ds es=true) :
  Meets (Builtin.«tuple.__lt__» ⟨[.ref l,.ref b],[]⟩)
   (fun A R s=>s.heap.get? l=some { cls:=.type "tuple",dict:=dd,data:=.seq items n,slots:=sl } /\ s.heap.get? b=some { cls:=.type "tuple",dict:=dd2,data:=.seq items2 n2,slots:=sl2 } /\
    aF s.heap ds items.toList/\aF s.heap es items2.toList/\A.units+1+deps ds < cLine/\A.units+1+deps es < cLine /\
    (∀ d∈ds,∀ e∈es,∀ u v,bG d e=true->RpV s.heap d u->RpV s.heap e v->Qu A.in1 s u v (ltD d e)) /\
    R (.ok (.ret (.bool (bD ds es)))) s) :=
 .of_wp fun prog w A R s h=>by
  obtain ⟨hp,g,d,tk,os⟩:=s;obtain ⟨hl,hb,hi,hj,hu1,hu2,hrc,h⟩:=h;have f2:=AutoSeq1.sub_tuple_tuple;have z1:items.size=ds.length:=by rw [hi.length];simp
  have z2:items2.size=es.length:=by rw [hj.length];simp
  have hin:A.in1.units=A.units+1:=rfl
  wp_walk using wpAny_loadPart' hl,wpAny_loadPart' hb,wpAny_forIn_list _ (fun rest b s'=>b.1=none/\s'=⟨hp,g,d,tk,os⟩/\∃ (vs ws:zw) (ns' ms':List D),rest=vs.zip ws /\
   aF hp ns' vs/\aF hp ms' ws/\bH ns'=true/\bH ms'=true/\dY ns' ms'=true/\(∀ x∈ns',x∈ds)/\(∀ x∈ms',x∈es)/\ns'.length+items2.size=ms'.length+items.size/\R (.ok (.ret (.bool (bD ns' ms')))) ⟨hp,g,d,tk,os⟩) _
  case turn =>
   rintro ⟨y,x⟩ rest b s' ⟨hb',rfl,vs,ws,ns',ms',hz,hvi,hwi,k1,k2,cc,m1,m2,hlen,hR⟩;cases ns' with
   | nil=>rw [aF] at hvi;subst hvi;rw [List.zip_nil_left] at hz;cases hz
   | cons a as =>
    cases ms' with
    | nil=>rw [aF] at hwi;subst hwi;rw [List.zip_nil_right] at hz;cases hz
    | cons c cs =>
     rw [aF] at hvi hwi;obtain ⟨va,vas,rfl,ra,hvi'⟩:=hvi;obtain ⟨vc,vcs,rfl,rc,hwi'⟩:=hwi;rw [List.zip_cons_cons] at hz;injection hz with hyx hrest;injection hyx with hy hx;subst hy hx;rw [bH,Bool.and_eq_true] at k1 k2;rw [bD] at hR;rw [dY] at cc;simp only [List.length_cons] at hlen;have hda:dep a<=deps ds:=by
      obtain ⟨i,hi2,e⟩:=List.getElem_of_mem (m1 a vE);rw [<- e];exact fC hi2
     have hdc:dep c<=deps es:=by
      obtain ⟨i,hi2,e⟩:=List.getElem_of_mem (m2 c vE);rw [<- e];exact fC hi2
     have he:=oX a c (A:=A.in1) (s:=⟨hp,g,d,tk,os⟩) ra rc (by omega) (by omega);rw [oN k1.1 k2.1] at he;refine vx (he prog w _ _ ?_);by_cases hac:a=c
     .rw [if_pos hac] at hR cc;rw [decide_eq_true hac]
      wp_walk
      exact ⟨rfl,rfl,_,_,_,_,hrest,hvi',hwi',k1.2,k2.2,cc,fun x hx=>m1 x (vz _ hx),fun x hx=>m2 x (vz _ hx),by omega,hR⟩
     .rw [if_neg hac] at hR cc;rw [decide_eq_false hac];have hri:=hrc a (m1 a vE) c (m2 c vE) _ _ cc ra rc prog w
      wp_walk using hri
      exact ⟨_,rfl,by simpa using hR⟩
  case fin =>
   rintro ⟨b1,b2⟩ s' ⟨hb',rfl,vs,ws,ns',ms',hz,hvi,hwi,k1,k2,cc,m1,m2,hlen,hR⟩;simp only at hb';subst hb';have hv:bD ns' ms'=decide (items.size < items2.size):=by
    cases ns' with
    | nil =>
     cases ms' with
     | nil =>
      simp only [List.length_nil] at hlen;rw [bD];exact (yl (by omega)).symm
     | cons c cs =>
      simp only [List.length_nil,List.length_cons] at hlen;rw [bD];exact (yk (by omega)).symm
    | cons a as =>
     cases ms' with
     | nil =>
      simp only [List.length_nil,List.length_cons] at hlen;rw [bD];exact (yl (by omega)).symm
     | cons c cs =>
      rw [aF] at hvi hwi;obtain ⟨va,vas,rfl,ra,hvi'⟩:=hvi;obtain ⟨vc,vcs,rfl,rc,hwi'⟩:=hwi;rw [List.zip_cons_cons] at hz;cases hz
   rw [hv] at hR
   wp_walk
   exact ⟨_,rfl,by simpa [Builtin.Tuple.tupleCompareSizes] using hR⟩
  case h =>
   exact ⟨rfl,rfl,items.toList,items2.toList,ds,es,rfl,hi,hj,hk,hk2,hc,fun _ x=>x,fun _ x=>x,by omega,h⟩
theorem SM:∀ (d e:D) {A:Around}{s:Shared}{u v:Value},keyOk d=true->keyOk e=true->bG d e=true->RpV s.heap d u->RpV s.heap e v->A.units+dep d < cLine->A.units+dep e < cLine->Qu A s u v (ltD d e)
 | .int a,.int b,A,s,u,v,k1,k2,c,r,q,h1,h2=>by
  rw [RpV] at r q;obtain ⟨t,rfl⟩:=r;obtain ⟨t',rfl⟩:=q;rw [ltD];exact fun prog w E Q h=>HT.Wk A s a t b t' prog w E Q h
 | .tup ds,.tup es,A,s,u,v,k1,k2,c,r,q,h1,h2=>by
  rw [RpV] at r q;obtain ⟨l,its,rfl,⟨⟨cls,dd,data,sl⟩,ho,hc,n,hd⟩,rs⟩:=r;obtain ⟨b,its2,rfl,⟨⟨cls2,dd2,data2,sl2⟩,ho2,hc2,n2,hd2⟩,qs⟩:=q;simp only at hc hd hc2 hd2;subst hc hd hc2 hd2;rw [keyOk] at k1 k2;rw [bG] at c;rw [dep] at h1 h2;rw [ltD];intro prog w E Q h;refine richCompare_meets_room (op:=.Lt) ⟨_,ho,rfl⟩ ⟨_,ho2,rfl⟩ PySem.F.slot_tuple_lt PySem.F.entry_tuple_lt (PySem.F.args_tuple_lt_2 _ _) (RG l b its.toArray its2.toArray n n2 dd dd2 sl sl2 ds es k1 k2 c)
   ⟨ho,ho2,by simpa using rs,by simpa using qs,by omega,by omega,fun d hd e he u v hce rd re=>?_,show Value.bool (bD ds es)≠Value.notImplemented/\Q (.bool (bD ds es)) s from ⟨(fun x=>nomatch x),h⟩⟩ (by omega)
  have hin:A.in1.units=A.units+1:=rfl;have kd:keyOk d=true:=jZ k1 hd;have ke:keyOk e=true:=jZ k2 he;have s1:=List.sizeOf_lt_of_mem hd;have dd1:dep d<=deps ds:=by
   obtain ⟨i,hi2,e⟩:=List.getElem_of_mem hd;rw [<- e];exact fC hi2
  have dd2:dep e<=deps es:=by
   obtain ⟨i,hi2,e⟩:=List.getElem_of_mem he;rw [<- e];exact fC hi2
  exact SM d e kd ke hce rd re (by show A.units+1+_ < _;omega) (by show A.units+1+_ < _;omega)
 | .non,e,A,s,u,v,k1,k2,c,r,q,h1,h2=>by simp [keyOk] at k1
 | .bl _,e,A,s,u,v,k1,k2,c,r,q,h1,h2=>by simp [keyOk] at k1
 | .lst _,e,A,s,u,v,k1,k2,c,r,q,h1,h2=>by simp [keyOk] at k1
 | .dct _ _,e,A,s,u,v,k1,k2,c,r,q,h1,h2=>by simp [keyOk] at k1
 | .str _,e,A,s,u,v,k1,k2,c,r,q,h1,h2=>by simp [bG] at c
 | .int _,.non,A,s,u,v,k1,k2,c,r,q,h1,h2=>by simp [bG] at c
 | .int _,.bl _,A,s,u,v,k1,k2,c,r,q,h1,h2=>by simp [bG] at c
 | .int _,.str _,A,s,u,v,k1,k2,c,r,q,h1,h2=>by simp [bG] at c
 | .int _,.tup _,A,s,u,v,k1,k2,c,r,q,h1,h2=>by simp [bG] at c
 | .int _,.lst _,A,s,u,v,k1,k2,c,r,q,h1,h2=>by simp [bG] at c
 | .int _,.dct _ _,A,s,u,v,k1,k2,c,r,q,h1,h2=>by simp [bG] at c
 | .tup _,.non,A,s,u,v,k1,k2,c,r,q,h1,h2=>by simp [bG] at c
 | .tup _,.bl _,A,s,u,v,k1,k2,c,r,q,h1,h2=>by simp [bG] at c
 | .tup _,.str _,A,s,u,v,k1,k2,c,r,q,h1,h2=>by simp [bG] at c
 | .tup _,.int _,A,s,u,v,k1,k2,c,r,q,h1,h2=>by simp [bG] at c
 | .tup _,.lst _,A,s,u,v,k1,k2,c,r,q,h1,h2=>by simp [bG] at c
 | .tup _,.dct _ _,A,s,u,v,k1,k2,c,r,q,h1,h2=>by simp [bG] at c
termination_by d=>sizeOf d
decreasing_by
 simp only [D.tup.sizeOf_spec];omega
end
end Mi
namespace Mi
open PySem
mutual
theorem yd:∀ (a:D),ltD a a=false
 | .int a=>by simp [ltD]
 | .tup a=>by rw [ltD];exact Ab a
 | .non=>by simp [ltD]
 | .bl _=>by simp [ltD]
 | .str _=>by simp [ltD]
 | .lst a=>by rw [ltD];exact Ab a
 | .dct _ _=>by simp [ltD]
theorem Ab:∀ (a:List D),bD a a=false
 | []=>by simp [bD]
 | a::as=>by rw [bD,if_pos rfl];exact Ab as
end
mutual
theorem vU:∀ {a b c:D},ltD a b=true->ltD b c=true->ltD a c=true
 | .int a,b,c,h1,h2=>by
  cases b <;> simp [ltD] at h1;cases c <;> simp [ltD] at h2 ⊢;omega
 | .tup a,b,c,h1,h2=>by
  cases b <;> simp [ltD] at h1;cases c <;> simp [ltD] at h2 ⊢;exact Dc h1 h2
 | .non,b,c,h1,h2=>by simp [ltD] at h1
 | .bl _,b,c,h1,h2=>by simp [ltD] at h1
 | .str _,b,c,h1,h2=>by simp [ltD] at h1
 | .lst a,b,c,h1,h2=>by
  cases b <;> simp [ltD] at h1;cases c <;> simp [ltD] at h2 ⊢;exact Dc h1 h2
 | .dct _ _,b,c,h1,h2=>by simp [ltD] at h1
theorem Dc:∀ {a b c:List D},bD a b=true->bD b c=true->bD a c=true
 | [],b,c,h1,h2=>by
  cases c with
  | nil=>cases b <;> simp [bD] at h2
  | cons _ _=>simp [bD]
 | a::as,[],c,h1,h2=>by simp [bD] at h1
 | a::as,b::bs,[],h1,h2=>by simp [bD] at h2
 | a::as,b::bs,c::cs,h1,h2=>by
  rw [bD] at h1 h2 ⊢;by_cases hab:a=b
  .subst hab;rw [if_pos rfl] at h1;by_cases hbc:a=c
   .rw [if_pos hbc] at h2 ⊢;exact Dc h1 h2
   .rw [if_neg hbc] at h2 ⊢;exact h2
  .rw [if_neg hab] at h1;by_cases hbc:b=c
   .subst hbc;rw [if_neg hab];exact h1
   .rw [if_neg hbc] at h2;have h3:=vU h1 h2;by_cases hac:a=c
    .subst hac;rw [yd] at h3;cases h3
    .rw [if_neg hac];exact h3
end
variable {a b:D}
def Ik (h:ltD a b=true):ltD b a=false:=by
 cases e:ltD b a with
 | false=>rfl
 | true =>
  have:=vU h e;rw [yd] at this;cases this
mutual
theorem xg:∀ {a b:D},bG a b=true->a=b\/ltD a b=true\/ltD b a=true
 | .int a,b,h=>by
  cases b <;> simp [bG] at h;simp [ltD];omega
 | .tup a,b,h=>by
  cases b <;> simp [bG] at h;rcases Aj h with e | e | e
  .exact .inl (by rw [e])
  .exact .inr (.inl (by rw [ltD];exact e))
  .exact .inr (.inr (by rw [ltD];exact e))
 | .non,b,h=>by simp [bG] at h
 | .bl _,b,h=>by simp [bG] at h
 | .str _,b,h=>by simp [bG] at h
 | .lst a,b,h=>by
  cases b <;> simp [bG] at h;rcases Aj h with e | e | e
  .exact .inl (by rw [e])
  .exact .inr (.inl (by rw [ltD];exact e))
  .exact .inr (.inr (by rw [ltD];exact e))
 | .dct _ _,b,h=>by simp [bG] at h
theorem Aj:∀ {a b:List D},dY a b=true->a=b\/bD a b=true\/bD b a=true
 | [],[],h=>.inl rfl
 | [],_::_,h=>.inr (.inl (by simp [bD]))
 | _::_,[],h=>.inr (.inr (by simp [bD]))
 | a::as,b::bs,h=>by
  rw [dY] at h;by_cases hab:a=b
  .subst hab;rw [if_pos rfl] at h;rcases Aj h with e | e | e
   .exact .inl (by rw [e])
   .exact .inr (.inl (by rw [bD,if_pos rfl];exact e))
   .exact .inr (.inr (by rw [bD,if_pos rfl];exact e))
  .rw [if_neg hab] at h;rcases xg h with e | e | e
   .exact absurd e hab
   .exact .inr (.inl (by rw [bD,if_neg hab];exact e))
   .exact .inr (.inr (by rw [bD,if_neg (Ne.symm hab)];exact e))
end
def jU (ds:List D):Prop:=∀ a∈ds,∀ b∈ds,bG a b=true
def leD (a b:D):Prop:=ltD b a=false
def aaA {c:D} (h:bG b c=true) (h1:leD a b) (h2:leD b c):leD a c:=by
 unfold leD at *
 cases e:ltD c a with
 | false=>rfl
 | true =>
  rcases xg h with z | z | z
  .subst z;rw [h1] at e;cases e
  .have:=vU z e;rw [h1] at this;cases this
  .rw [h2] at z;cases z
def Tz (h:bG a b=true) (h1:leD a b) (h2:leD b a):a=b:=by
 unfold leD at *
 rcases xg h with z | z | z
 .exact z
 .rw [h2] at z;cases z
 .rw [h1] at z;cases z
def Df (d:D):List D->List D
 | []=>[d]
 | e::es=>if ltD e d=true then e::Df d es else d::e::es
def iT:List D->List D
 | []=>[]
 | d::ds=>Df d (iT ds)
theorem vB (d:D):∀ (es:List D),(Df d es).Perm (d::es)
 | []=>List.Perm.refl _
 | e::es=>by
  unfold Df;split
  .exact ((vB d es).cons e).trans (List.Perm.swap d e es)
  .exact List.Perm.refl _
theorem jl:∀ (ds:List D),(iT ds).Perm ds
 | []=>List.Perm.refl _
 | d::ds=>(vB d (iT ds)).trans ((jl ds).cons d)
theorem yu {d:D}:∀ {es:List D},(∀ a∈d::es,∀ b∈d::es,bG a b=true)->es.Pairwise leD->(Df d es).Pairwise leD
 | [],_,_=>List.pairwise_singleton _ _
 | e::es,hc,hs=>by
  obtain ⟨h1,h2⟩:=List.pairwise_cons.mp hs;unfold Df;split
  .rename_i hlt;refine List.pairwise_cons.mpr ⟨fun x hx=>?_,yu (fun a ha b hb=>hc a ?_ b ?_) h2⟩
   .rcases z9.mp ((vB d es).mem_iff.mp hx) with z | z
    .rw [z];exact Ik hlt
    .exact h1 x z
   .rcases z9.mp ha with z | z
    .rw [z];simp
    .simp [z]
   .rcases z9.mp hb with z | z
    .rw [z];simp
    .simp [z]
  .rename_i hlt;have hle:leD d e:=by unfold leD;simpa using hlt
   refine List.pairwise_cons.mpr ⟨fun x hx=>?_,hs⟩;rcases z9.mp hx with z | z
   .rw [z];exact hle
   .exact aaA (hc e (by simp) x (by simp [z])) hle (h1 x z)
theorem o7:∀ {ds:List D},jU ds->(iT ds).Pairwise leD
 | [],_=>List.Pairwise.nil
 | d::ds,h=>by
  refine yu (fun a ha b hb=>h a ?_ b ?_) (o7 fun a ha b hb=>h a (vz _ ha) b (vz _ hb))
  .rcases z9.mp ha with z | z
   .rw [z];simp
   .exact vz _ ((jl ds).mem_iff.mp z)
  .rcases z9.mp hb with z | z
   .rw [z];simp
   .exact vz _ ((jl ds).mem_iff.mp z)
theorem uU:∀ {as bs:List D},jU as->as.Perm bs->as.Pairwise leD->bs.Pairwise leD->as=bs
 | [],bs,_,p,_,_=>(List.Perm.nil_eq p)
 | a::as,[],_,p,_,_=>absurd p.length_eq (by simp)
 | a::as,b::bs,hc,p,s1,s2=>by
  obtain ⟨h1,h2⟩:=List.pairwise_cons.mp s1;obtain ⟨g1,g2⟩:=List.pairwise_cons.mp s2;have hb:b∈a::as:=p.mem_iff.mpr vE;have ha:a∈b::bs:=p.mem_iff.mp vE;have e:a=b:=by
   rcases z9.mp hb with z | z
   .exact z.symm
   .rcases z9.mp ha with y | y
    .exact y
    .exact Tz (hc a (by simp) b hb) (h1 b z) (g1 a y)
  subst e;rw [uU (fun a ha b hb=>hc a (List.mem_cons_of_mem _ ha) b (List.mem_cons_of_mem _ hb)) (List.Perm.cons_inv p) h2 g2]
variable {ds:List D}
def yP {es:List D} (hc:jU ds) (p:es.Perm ds) (s:es.Pairwise leD):iT ds=es:=by
 have hc':jU es:=fun a ha b hb=>hc a (p.mem_iff.mp ha) b (p.mem_iff.mp hb)
 exact (uU hc' (p.trans (jl ds).symm) s (o7 hc)).symm
theorem countP_le {α:Type}{p q:α->Bool}:∀ (l:List α),(∀ x∈l,p x=true->q x=true)->l.countP p<=l.countP q
 | [],_=>v6 _
 | x::l,h=>by
  have ih:=countP_le l fun y hy=>h y (vz _ hy)
  have hx:=h x vE;rw [List.countP_cons,List.countP_cons];cases e:p x <;> cases f:q x <;> simp_all <;> omega
theorem DP {α:Type}{p q:α->Bool}:∀ (l:List α),(∀ x∈l,p x=true->q x=true)->(∃ x∈l,q x=true/\p x=false)->l.countP p < l.countP q
 | [],_,h=>by obtain ⟨x,hx,_⟩:=h;simp at hx
 | x::l,h,⟨y,hy,h1,h2⟩=>by
  rw [List.countP_cons,List.countP_cons];rcases z9.mp hy with e | hy
  .subst e;have:=countP_le l fun z hz=>h z (vz _ hz)
   rw [h1,h2];simp;omega
  .have ih:=DP l (fun z hz=>h z (vz _ hz)) ⟨y,hy,h1,h2⟩;have hx:=h x vE;cases e:p x <;> cases f:q x <;> simp_all <;> omega
def ju (ds:List D) (i:Nat):Int:=(((List.range ds.length).countP fun k=>ltD (ds.getD k .non) (ds.getD i .non):Nat):Int)
def Ls (hc:jU ds) {i j:Nat} (hi:i < ds.length) (hj:j < ds.length):decide (ju ds i < ju ds j)=ltD (ds.getD i .non) (ds.getD j .non):=by
 have mem:∀ {k},k < ds.length->ds.getD k .non∈ds:=fun {k} hk=>by
  have e:ds.getD k .non=ds[k]:=by simp [hk]
  rw [e];exact List.getElem_mem hk
 unfold ju;cases e:ltD (ds.getD i .non) (ds.getD j .non) with
 | true =>
  have:=DP (p:=fun k=>ltD (ds.getD k .non) (ds.getD i .non)) (q:=fun k=>ltD (ds.getD k .non) (ds.getD j .non)) (List.range ds.length) (fun x _ hx=>vU hx e) ⟨i,by simpa using hi,e,yd _⟩;exact yk (by omega)
 | false =>
  have:(List.range ds.length).countP (fun k=>ltD (ds.getD k .non) (ds.getD j .non))<=(List.range ds.length).countP (fun k=>ltD (ds.getD k .non) (ds.getD i .non)):=by
   refine countP_le _ fun x hx h=>?_
   rcases xg (hc _ (mem hi) _ (mem hj)) with z | z | z
   .rw [z];exact h
   .rw [e] at z;cases z
   .exact vU h z
  exact yl (by omega)
end Mi
namespace Mi
open PySem L2 PySem.W
open PyProof.Rows hiding St
noncomputable def isInt:D->Bool
 | .int _=>true
 | _=>false
noncomputable def tK:D->Bool
 | .tup (.tup _::_)=>true
 | _=>false
noncomputable def sV:D->Bool
 | .tup (.int _::_)=>true
 | _=>false
def mR (ds:List D):Bool :=
 decide (ds.length < 64) && decide (deps ds<=20) && (ds.all fun a=>ds.all fun b=>bG a b) && bH ds && (decide (ds.length < 2) || ds.all sV || ds.all tK)
structure SortOk (ds:List D):Prop where
 len:ds.length < 64
 dp:deps ds<=20
 cmp:jU ds
 key:bH ds=true
 kind:(ds.length < 2\/ds.all sV=true)\/ds.all tK=true
variable {ds:List D}
def ug (h:mR ds=true):SortOk ds:=by
 unfold mR at h;simp only [Bool.and_eq_true,Bool.or_eq_true,decide_eq_true_eq] at h;obtain ⟨⟨⟨⟨h1,h3⟩,h4⟩,k⟩,h5⟩:=h;exact ⟨h1,h3,fun a ha b hb=>yA.mp (yA.mp h4 a ha) b hb,k,h5⟩
variable {h:Heap}{i:Nat}
theorem aF.getD {us:zw} (r:aF h ds us)  (hi:i < ds.length):RpV h (ds.getD i .non) (us.getD i .none):=by
 have hl:=r.length;have e1:ds.getD i .non=ds[i]:=by simp [hi]
 have e2:us.getD i .none=us[i]:=by simp [show i < us.length by omega]
 rw [e1,e2];exact aF.get hi (by omega) r
def mem_getD (hi:i < ds.length):ds.getD i .non∈ds:=by
 have e1:ds.getD i .non=ds[i]:=by simp [hi]
 rw [e1];exact List.getElem_mem hi
def Mg {d:D} (h:d∈ds):dep d<=deps ds:=by
 obtain ⟨i,hi2,e⟩:=List.getElem_of_mem h;rw [<- e];exact fC hi2
variable {b:Bool}{vs:zw}
section
variable {prog:Program}{w:World}{A:Around}{E:zn}{s:Shared}
theorem Jh {b fin:Bool}{Q:Bool->Shared->Prop}:∀ {ds es:List D}{us vs:zw} (i:Nat),aF s.heap ds us->aF s.heap es vs->bH ds=true->bH es=true->dY ds es=true ->
  A.units+deps ds < cLine->A.units+deps es < cLine->(b=true->i=0->∀ d∈ds.head?,isInt d=true)->(b=true->i=0->∀ d∈es.head?,isInt d=true)->(ds=[]\/es=[]->fin=bD ds es)->(∀ ds' es',ds'.length+es.length=es'.length+ds.length->(ds'=[]\/es'=[])->fin=bD ds' es') ->
  Q (bD ds es) s->KatLex prog w A b fin Q (us.zip vs) i s
 | [],es,us,vs,i,r,q,k1,k2,c,h1,h2,f1,f2,hf,hg,h=>by
  rw [aF] at r;subst r;rw [List.zip_nil_left];refine kat_nil ?_;rw [hf (.inl rfl)];exact h
 | d::ds,[],us,vs,i,r,q,k1,k2,c,h1,h2,f1,f2,hf,hg,h=>by
  rw [aF] at q;subst q;rw [List.zip_nil_right];refine kat_nil ?_;rw [hf (.inr rfl)];exact h
 | d::ds,e::es,us,vs,i,r,q,k1,k2,c,h1,h2,f1,f2,hf,hg,h=>by
  rw [aF] at r q;obtain ⟨u,us',rfl,r0,rs⟩:=r;obtain ⟨v,vs',rfl,q0,qs⟩:=q;rw [bH,Bool.and_eq_true] at k1 k2;rw [dY] at c;rw [deps] at h1 h2;rw [bD] at h;rw [List.zip_cons_cons];refine kat_cons ?_;have he:=oX d e (A:=A) (s:=s) r0 q0 (by omega) (by omega);rw [oN k1.1 k2.1] at he;refine he prog w _ _ ?_;by_cases hde:d=e
  .rw [decide_eq_true hde];rw [if_pos hde] at h c;refine kat_yes (Jh (i+1) rs qs k1.2 k2.2 c (by omega) (by omega) (fun _ z=>by omega) (fun _ z=>by omega) (fun z=>hg ds es (by simp only [List.length_cons];omega) z) (fun ds' es' hl z=>hg ds' es' (by simp only [List.length_cons];omega) z) h)
  .rw [decide_eq_false hde];rw [if_neg hde] at h c;refine kat_no ?_;have lt:=SM d e (A:=A) (s:=s) k1.1 k2.1 c r0 q0 (by omega) (by omega);by_cases hb:(b && i == 0)=true
   .rw [hb];rw [Bool.and_eq_true] at hb;have i0:i=0:=by simpa using hb.2
    have d1:=f1 hb.1 i0 d (by simp);have e1:=f2 hb.1 i0 e (by simp);cases d <;> simp [isInt] at d1;cases e <;> simp [isInt] at e1;rw [RpV] at r0 q0;obtain ⟨t,rfl⟩:=r0;obtain ⟨t',rfl⟩:=q0;rw [ltD] at h;exact oneLt_int h
   .have hb':(b && i == 0)=false:=by simpa using hb
    rw [hb'];exact kat_one u v (lt prog w _ (PySem.W.BoolBack Q) h)
def Yt (r:aF s.heap ds vs) (hk:bH ds=true) (hc:jU ds) (hu:A.units+deps ds < cLine) (hall:∀ d∈ds,∃ x xs,d=.tup (x::xs)/\(b=true->isInt x=true)) {j:Nat}{C:Bool->Shared->Prop} (hi:i < ds.length) (hj:j < ds.length) (h:C (ltD (ds.getD i .non) (ds.getD j .non)) s) :
  kas_ask prog w A (tuples' b) vs i j C s:=by
 unfold kas_ask;have r1:=r.getD hi;have r2:=r.getD hj;have m1:=mem_getD hi;have m2:=mem_getD hj;have t1:=hall _ m1;have t2:=hall _ m2;have c:=hc _ m1 _ m2;have k1:=jZ hk m1;have k2:=jZ hk m2;have d1:=Mg m1;have d2:=Mg m2
 revert r1 r2 t1 t2 c k1 k2 d1 d2 h
 generalize ds.getD i D.non=d;generalize ds.getD j D.non=e;generalize vs.getD i Value.none=u;generalize vs.getD j Value.none=v;intro h r1 r2 t1 t2 c k1 k2 d1 d2;obtain ⟨x,xs,rfl,f1⟩:=t1;obtain ⟨y,ys,rfl,f2⟩:=t2;rw [RpV] at r1 r2;obtain ⟨a,its,rfl,⟨o,ho,_,n,hd⟩,rs⟩:=r1;obtain ⟨a2,its2,rfl,⟨o2,ho2,_,n2,hd2⟩,qs⟩:=r2;rw [keyOk] at k1 k2;rw [bG] at c;rw [dep] at d1 d2;rw [ltD] at h;refine kat_lt ho hd ho2 hd2 ?_;have l1:=rs.length;have l2:=qs.length;have key:∀ ds' es':List D,ds'.length+(y::ys).length=es'.length+(x::xs).length->(ds'=[]\/es'=[])->decide (its.toArray.size < its2.toArray.size)=bD ds' es':=by
  intro ds' es' hl z;have e1:its.toArray.size=(x::xs).length:=by simp only [List.size_toArray];omega
  have e2:its2.toArray.size=(y::ys).length:=by simp only [List.size_toArray];omega
  rw [e1,e2];rcases z with z | z
  .subst z;cases es' with
   | nil=>rw [bD];exact yl (by simp only [List.length_nil] at hl;omega)
   | cons _ _=>rw [bD];exact yk (by simp only [List.length_nil,List.length_cons] at hl ⊢;omega)
  .subst z;cases ds' with
   | nil=>rw [bD];exact yl (by simp only [List.length_nil] at hl;omega)
   | cons _ _=>rw [bD];exact yl (by simp only [List.length_nil,List.length_cons] at hl ⊢;omega)
 exact Jh 0 rs qs k1 k2 c (by omega) (by omega) (fun hb _ z hz=>by simp at hz;subst hz;exact f1 hb) (fun hb _ z hz=>by simp at hz;subst hz;exact f2 hb) (fun z=>key _ _ (by omega) z) key h
theorem Mw:∀ {ds:List D}{vs:zw},aF s.heap ds vs->(∀ d∈ds,∃ x xs,d=.tup (x::xs))->∃ fs,KatTups s.heap vs fs/\aF s.heap (ds.map fun d=>match d with | .tup (x::_)=>x | _=>.non) fs
 | [],vs,r,_=>by
  rw [aF] at r;subst r;exact ⟨[],KatTups.nil,by simp [aF]⟩
 | d::ds,vs,r,h=>by
  rw [aF] at r;obtain ⟨y,ys,rfl,r0,rs⟩:=r;obtain ⟨fs,t,q⟩:=Mw rs fun d hd=>h d (vz _ hd)
  obtain ⟨x,xs,rfl⟩:=h d vE;rw [RpV] at r0;obtain ⟨a,its,rfl,⟨o,ho,hc,n,hd⟩,is⟩:=r0;rw [aF] at is;obtain ⟨f,its',rfl,rf,is'⟩:=is;refine ⟨f::fs,KatTups.cons ho hc hd (by simp) t,?_⟩;rw [List.map_cons,aF];exact ⟨f,fs,rfl,rf,q⟩
theorem type_of {M:Model}{h:Heap}{p:D->Bool}{T:Value} (hT:∀ d u,p d=true->RpV h d u->Looks M h (typeOf u) T):∀ {ds:List D}{vs:zw},aF h ds vs->ds.all p=true->∀ v∈vs,Looks M h (typeOf v) T
 | [],vs,r,_,v,hv=>by rw [aF] at r;subst r;simp at hv
 | d::ds,vs,r,hp,v,hv=>by
  rw [aF] at r;obtain ⟨y,ys,rfl,r0,rs⟩:=r;rw [List.all_cons,Bool.and_eq_true] at hp;rcases z9.mp hv with e | hv
  .rw [e];exact hT d y hp.1 r0
  .exact type_of (ds:=ds) (vs:=ys) hT rs hp.2 v hv
noncomputable def isTup:D->Bool
 | .tup _=>true
 | _=>false
def Vk {M:Model} (d:D) (u:Value) (p:isTup d=true) (r:RpV h d u):Looks M h (typeOf u) (.type "tuple"):=by
 cases d <;> simp [isTup] at p;rw [RpV] at r;obtain ⟨a,its,rfl,⟨o,ho,hc,n,hd⟩,is⟩:=r;have l:Looks M h (typeOf (.ref a)) o.cls:=(Looks.ld ho).andThen .now;rw [hc] at l;exact l
theorem Wr {M:Model} (d:D) (u:Value) (p:isInt d=true) (r:RpV h d u):Looks M h (typeOf u) (.type "int"):=by
 cases d <;> simp [isInt] at p;rw [RpV] at r;obtain ⟨t,rfl⟩:=r;exact Looks.of_pure rfl
def R0 {G:Array Nat->Shared->Prop} (S:SortOk ds) (h2:2<=ds.length) (r:aF s.heap ds vs) (hu:A.units+40 < cLine)
  (hG:∀ p,PB ds.length p->kJ (ju ds) p ds.length->G p s) :
  wpAny (model prog w) A (keyKind' vs.toArray) (fun κ s'=>(kas_sort vs.length).kasWp (kas_ask prog w A κ vs) G s') E s:=by
 have hl:=r.length;have fin:∀ κ:SortKind,(∀ (i j:Nat) (C:Bool->Shared->Prop),i < ds.length->j < ds.length->C (ltD (ds.getD i .non) (ds.getD j .non)) s->kas_ask prog w A κ vs i j C s)->(kas_sort vs.length).kasWp (kas_ask prog w A κ vs) G s:=by
  intro κ hk;rw [<- hl];refine dJ.wp (r:=ju ds) (N:=ds.length) (fun i j C hi hj hc=>hk i j C hi hj ?_) (Fj (abZ (by omega)) fun p hp=>hG p hp.1 hp.2);rw [Ls S.cmp hi hj] at hc;exact hc
 have hdp:=S.dp;have key:=S.key;have two:∀ (p:D -> Bool) (T:Value),(∀ d ∈ ds,∃ x xs,d=.tup (x::xs) /\ p x=true) -> (∀ d u,p d=true -> RpV s.heap d u -> Looks (model prog w) s.heap (typeOf u) T) -> (T == T)=true -> ((T != Value.type "tuple")=true -> ∀ x,p x=true -> isInt x=true) -> wpAny (model prog w) A (keyKind' vs.toArray) (fun κ s'=>(kas_sort vs.length).kasWp (kas_ask prog w A κ vs) G s') E s:=fun p T hall lk hT hI=>by
  obtain ⟨fs,t,q⟩:=Mw (ds:=ds) (vs:=vs) r fun d hd=>let ⟨x,xs,e,_⟩:=hall d hd;⟨x,xs,e⟩
  have ql:=q.length;rw [List.length_map] at ql;refine kat_kind (T:=T) t (by omega) (type_of (p:=p) lk q ?_) hT ?_
  .rw [List.all_map,List.all_eq_true];intro d hd;obtain ⟨x,xs,rfl,hx⟩:=hall d hd;exact hx
  .exact fin _ fun i j C hi hj hc=>Yt r key S.cmp (by omega) (fun d hd=>let ⟨x,xs,e,z⟩:=hall d hd;⟨x,xs,e,fun hb=>hI hb x z⟩) hi hj hc
 rcases S.kind with (k | k) | k
 .omega
 .refine two isInt (.type "int") (fun d hd=>?_) Wr (by decide) fun _ x h=>h
  have:=yA.mp k d hd;cases d <;> simp [sV] at this;rename_i l;cases l with
  | nil=>simp [sV] at this
  | cons x xs=>exact ⟨x,xs,rfl,by cases x <;> simp [sV,isInt] at this ⊢⟩
 .refine two isTup (.type "tuple") (fun d hd=>?_) Vk (by decide) fun hb=>absurd hb (by decide)
  have:=yA.mp k d hd;cases d <;> simp [tK] at this;rename_i l;cases l with
  | nil=>simp [tK] at this
  | cons x xs=>exact ⟨x,xs,rfl,by cases x <;> simp [tK,isTup] at this ⊢⟩
def Sv {a:Addr}{n:Nat}{P:PySem.Fin -> Shared -> Prop} (ho:s.heap.get? a=some (seqObj "list" vs.toArray n)) (S:SortOk ds) (hkp:∀ h':Heap,(∀ b o,b ≠ a -> s.heap.get? b=some o -> h'.get? b=some o) -> aF h' ds vs) (hu:A.units+40 < cLine)
  (h:∀ p:Array Nat,PB ds.length p->kJ (ju ds) p ds.length->P (.done (.ret .none)) { s with heap:=sortedHeap s.heap a vs (List.toArray (p.toList.map fun i=>vs.getD i Value.none)) }) :
  wpAny (model prog w) A (Builtin.«list.sort» ⟨[.ref a],[]⟩) P E s:=by
 have r:=hkp s.heap fun _ _ _ e=>e
 have hl:=r.length;have h64:vs.length < 64:=by have:=S.len;omega
 rw [list_sort_plain];have ha:a < s.heap.objs.size:=v4 ho;refine vx (listItems_at ho rfl ?_);refine vx (listUpdate_at ho rfl ?_ (by rw [List.size_toArray,sizeLine_eq];omega) (yf _));obtain ⟨e1,ho1⟩:∃ e1,(s.heap.update a (Obj.mapSeq fun _=>(#[]:vj))).get? a=some (seqObj "list" #[] e1):=⟨_,get?_update_seq ho fun _=>#[]⟩
 refine vx (seqEpoch_at ho1 rfl ?_);refine vx (wpAny_newTuple ?_ (by show vs.length<=_;rw [sizeLine_eq];omega));refine vx (wpAny_newList ?_ (yf _));refine wpAny_holding ?_;have ho6:(((s.heap.update a (Obj.mapSeq fun _=>(#[]:vj))).push (seqObj "tuple" vs.toArray 0)).push (seqObj "list" #[] 0)).get? a=some (seqObj "list" #[] e1):=by
  rw [Heap.get?_push_ne _ _ _ (by rw [size_push',Heap.size_update];exact Nat.ne_of_lt (Nat.lt_succ_of_lt ha)),Heap.get?_push_ne _ _ _ (by rw [Heap.size_update];exact Nat.ne_of_lt ha)];exact ho1
 show wpAny (model prog w) A _ P E { s with heap:=((s.heap.update a (Obj.mapSeq fun _=>(#[]:vj))).push (seqObj "tuple" vs.toArray 0)).push (seqObj "list" #[] 0) }
 dsimp only;have hsz:vs.toArray.size=vs.length:=by simp
 have tail:∀ (p:Array Nat) (st':SortSt),p.size=vs.length->(arrOf st').map (·.2)=List.toArray (p.toList.map fun i=>vs.getD i Value.none)->failedOf st'=none->PB ds.length p->kJ (ju ds) p ds.length ->
   wpAny (model prog w) A (do
    let touched:=(<- seqEpoch a) != e1
    Builtin.List.listUpdate (.ref a) fun _=>(arrOf st').map (·.2)
    if let some e:=failedOf st' then rule "list.sort.comparison-raised"; throw e
    if touched then rule "list.sort.modified"; raiseError "ValueError" "list modified during sort"
    ret .none) P E { s with heap:=((s.heap.update a (Obj.mapSeq fun _=>(#[]:vj))).push (seqObj "tuple" vs.toArray 0)).push (seqObj "list" #[] 0) }:=by
  intro p st' hp hout hf pb so;refine vx (seqEpoch_at ho6 rfl ?_);rw [hout];refine vx (listUpdate_at ho6 rfl ?_ (yf _) (by rw [List.size_toArray,List.length_map,Array.length_toList,hp,sizeLine_eq];omega));rw [hf];simp only [bne_self_eq_false,Bool.false_eq_true,if_false];exact vy (h p pb so)
 by_cases h2:vs.toArray.size < 2
 .rw [if_pos h2,if_pos h2];refine vx (vy ?_);rw [StateT.run_pure];refine vx (vy ?_);dsimp only;have hp:(List.toArray (List.range ds.length)).size=vs.length:=by simp;omega
  refine tail (List.toArray (List.range ds.length)) (SortSt.mk' general' (vs.toArray.zip vs.toArray) #[] 7 none) hp ?_ rfl ⟨Array.Perm.refl _⟩ fun i j hij hj=>?_
  .show (vs.toArray.zip vs.toArray).map (·.2)=_
   rw [hl];apply Array.toList_inj.mp;rw [hsz] at h2
   match vs,h2 with
   | [],_=>simp
   | [v],_=>simp [List.range_succ]
  .have:i=j:=by rw [hsz] at h2;omega
   subst this;exact Int.le_refl _
 .rw [if_neg h2,if_neg h2];have r2:=hkp (((s.heap.update a (Obj.mapSeq fun _=>(#[]:vj))).push (seqObj "tuple" vs.toArray 0)).push (seqObj "list" #[] 0)) fun b o hba q=>vT _ (vT _ ((ym _ _ (Ne.symm hba)).trans q))
  refine vx (wpAny_mono (R0 (E:=fun _ _=>False) (s:={ s with heap:=((s.heap.update a (Obj.mapSeq fun _=>(#[]:vj))).push (seqObj "tuple" vs.toArray 0)).push (seqObj "list" #[] 0) })
   (G:=fun p s'=>(PB ds.length p /\ kJ (ju ds) p ds.length) /\ s'={ s with heap:=((s.heap.update a (Obj.mapSeq fun _=>(#[]:vj))).push (seqObj "tuple" vs.toArray 0)).push (seqObj "list" #[] 0) })
   S (by rw [hsz] at h2;omega) r2 hu fun p p1 p2=>⟨⟨p1,p2⟩,rfl⟩) (fun κ s0 hk=>?_) fun _ _ x=>x.elim)
  refine vx (wpAny_mono (kat_run (Q:=fun st' s'=>∃ p:Array Nat,p.size=vs.length /\ arrOf st'=p.map (kas_item (vs.toArray.zip vs.toArray)) /\ failedOf st'=none /\ (PB ds.length p /\ kJ (ju ds) p ds.length) /\ s'={ s with heap:=((s.heap.update a (Obj.mapSeq fun _=>(#[]:vj))).push (seqObj "tuple" vs.toArray 0)).push (seqObj "list" #[] 0) })
   rfl (by rw [hsz] at h2;omega) h64 (fun p' st' s' a1 a2 a3 a4=>⟨p',a1,a2,a3,a4⟩) hk) ?_ fun _ _ e=>e)
  rintro ⟨⟨⟩,st'⟩ s' ⟨p,hp,har,hf,⟨pb,so⟩,rfl⟩;dsimp only;exact tail p st' hp (kat_snds rfl har) hf pb so
end
end Mi
namespace Mi
open PySem L2
open PyProof.Rows hiding St
structure G where
 P:Program
 w:World
 K:zt
def DAt (g:G) (a:Addr) (xs:List (D × Addr × Value)) (ys:List V) (ep:Nat) (h:Heap):Prop :=
 (a == sysModules)=false/\xs.length<=sizeLine/\Vals ys (xs.map (·.2.2)) /\
  ∃ o es,h.get? a=some o/\o.ExactDict/\o.data=.dict es ep/\es.toList=xs.map (entryOfKey (gU g.P g.w))/\(xs.map (·.1)).Nodup
mutual
noncomputable def Rp (g:G) (H:Hp):D->V->Prop
 | .non,v=>v=.non
 | .bl b,v=>v=.bl b
 | .int i,v=>v=.int i
 | .str x,v=>v=.str x
 | .tup ds,v=>∃ a xs,v=.ref a/\SqT g.K H a xs/\Rps g H ds xs
 | .lst ds,v=>∃ a xs,v=.ref a/\SqL g.K H a xs/\Rps g H ds xs
 | .dct ks vs,v=>∃ a xs ys ep,v=.ref a/\H a=some (.ext (DAt g a xs ys ep))/\ks=xs.map (·.1)/\Rps g H ks (xs.map fun x=>V.ref x.2.1)/\Rps g H vs ys
noncomputable def Rps (g:G) (H:Hp):List D->List V->Prop
 | [],xs=>xs=[]
 | d::ds,xs=>∃ y ys,xs=y::ys/\Rp g H d y/\Rps g H ds ys
end
variable {K:zt}{H H':Hp}{a:Addr}{xs:List V}
theorem aL (e:Same H H') (h:SqL K H a xs):SqL K H' a xs:=e.seq h
theorem aO (e:Same H H') (h:SqT K H a xs):SqT K H' a xs:=zu h fun o _ q=>e a o q
mutual
theorem Rp.mono {g:G}{H H':Hp}:∀ {d:D}{v:V},Same H H'->Rp g H d v->Rp g H' d v
 | .non,v,e,r=>by rw [Rp] at r ⊢;exact r
 | .bl _,v,e,r=>by rw [Rp] at r ⊢;exact r
 | .int _,v,e,r=>by rw [Rp] at r ⊢;exact r
 | .str _,v,e,r=>by rw [Rp] at r ⊢;exact r
 | .tup ds,v,e,r=>by
  rw [Rp] at r ⊢;obtain ⟨a,xs,rfl,q,rs⟩:=r;exact ⟨a,xs,rfl,aO e q,Rps.mono e rs⟩
 | .lst ds,v,e,r=>by
  rw [Rp] at r ⊢;obtain ⟨a,xs,rfl,q,rs⟩:=r;exact ⟨a,xs,rfl,aL e q,Rps.mono e rs⟩
 | .dct ks vs,v,e,r=>by
  rw [Rp] at r ⊢;obtain ⟨a,xs,ys,ep,rfl,q,ek,r1,r2⟩:=r;exact ⟨a,xs,ys,ep,rfl,e a _ q,ek,Rps.mono e r1,Rps.mono e r2⟩
theorem Rps.mono {g:G}{H H':Hp}:∀ {ds:List D}{vs:List V},Same H H'->Rps g H ds vs->Rps g H' ds vs
 | [],vs,e,r=>by rw [Rps] at r ⊢;exact r
 | d::ds,vs,e,r=>by
  rw [Rps] at r ⊢;obtain ⟨y,ys,rfl,r0,rs⟩:=r;exact ⟨y,ys,rfl,Rp.mono e r0,Rps.mono e rs⟩
end
theorem Rps.length {g:G}{H:Hp}:∀ {ds:List D}{vs:List V},Rps g H ds vs->ds.length=vs.length
 | [],vs,r=>by rw [Rps] at r;subst r;rfl
 | d::ds,vs,r=>by
  rw [Rps] at r;obtain ⟨y,ys,rfl,_,r⟩:=r;simp [Rps.length r]
theorem Rps.getD {g:G}{H:Hp}:∀ {ds:List D}{vs:List V}{i:Nat}{d:D},Rps g H ds vs->ds[i]?=some d->∃ v,vs[i]?=some v/\Rp g H d v
 | [],vs,i,d,r,h=>by simp at h
 | d0::ds,vs,i,d,r,h=>by
  rw [Rps] at r;obtain ⟨y,ys,rfl,r0,rs⟩:=r;cases i with
  | zero=>simp at h;subst h;exact ⟨y,rfl,r0⟩
  | succ i =>
   simp only [List.getElem?_cons_succ] at h;obtain ⟨v,e,q⟩:=Rps.getD rs h;exact ⟨v,by simpa using e,q⟩
variable {g:G}
theorem Rps.append :∀ {ds es:List D}{vs ws:List V},Rps g H ds vs->Rps g H es ws->Rps g H (ds++es) (vs++ws)
 | [],es,vs,ws,r,q=>by rw [Rps] at r;subst r;exact q
 | d::ds,es,vs,ws,r,q=>by
  rw [Rps] at r;obtain ⟨y,ys,rfl,r0,rs⟩:=r;rw [List.cons_append,Rps];exact ⟨y,ys++ws,rfl,r0,rs.append q⟩
theorem Rps.nil :Rps g H [] []:=by rw [Rps]
theorem Rps.cons {g:G}{H:Hp}{d:D}{v:V}{ds:List D}{vs:List V} (r:Rp g H d v) (rs:Rps g H ds vs):Rps g H (d::ds) (v::vs):=by
 rw [Rps];exact ⟨v,vs,rfl,r,rs⟩
variable {d:D}{v:V}
theorem Rps.one (r:Rp g H d v):Rps g H [d] [v]:=Rps.cons r Rps.nil
variable {ds:List D}{vs:List V}
theorem Rps.cons_inv (r:Rps g H (d::ds) vs):∃ v ws,vs=v::ws/\Rp g H d v/\Rps g H ds ws:=by rw [Rps] at r;exact r
theorem Rps.nil_inv (r:Rps g H [] vs):vs=[]:=by rw [Rps] at r;exact r
theorem Rps.take {g:G}{H:Hp}:∀ {ds:List D}{vs:List V} (n:Nat),Rps g H ds vs->Rps g H (ds.take n) (vs.take n)
 | [],vs,n,r=>by rw [r.nil_inv];simp [Rps]
 | d::ds,vs,0,r=>by simp [Rps]
 | d::ds,vs,n+1,r=>by
  obtain ⟨v,ws,rfl,r0,rs⟩:=r.cons_inv;exact Rps.cons r0 (Rps.take n rs)
theorem Rps.drop {g:G}{H:Hp}:∀ {ds:List D}{vs:List V} (n:Nat),Rps g H ds vs->Rps g H (ds.drop n) (vs.drop n)
 | [],vs,n,r=>by rw [r.nil_inv];simp [Rps]
 | d::ds,vs,0,r=>r
 | d::ds,vs,n+1,r=>by
  obtain ⟨v,ws,rfl,r0,rs⟩:=r.cons_inv;exact Rps.drop n rs
section
variable {X:Cx}{pins:w4}{σ:St}{H:Hp}{s:Shared}
noncomputable abbrev gOf (X:Cx):G:=⟨X.prog,X.w,X.K⟩
mutual
theorem rpV (I:Inv X pins σ H s):∀ {d:D}{v:V}{u:Value},dep d < 1000->Rp (gOf X) H d v->RelV v u->RpV s.heap d u
 | .non,v,u,hd,r,q=>by rw [Rp] at r;subst r;rw [RpV];exact q
 | .bl _,v,u,hd,r,q=>by rw [Rp] at r;subst r;rw [RpV];exact q
 | .int _,v,u,hd,r,q=>by rw [Rp] at r;subst r;rw [RpV];exact q
 | .str _,v,u,hd,r,q=>by rw [Rp] at r;subst r;rw [RpV];exact q
 | .tup ds,v,u,hd,r,q=>by
  rw [Rp] at r;obtain ⟨a,xs,rfl,sq,rs⟩:=r;cases q;obtain ⟨its,rv,p,hz⟩:=I.tuple sq;rw [RpV];rw [dep] at hd;exact ⟨a,its,rfl,p,CJ I (by omega) rs rv⟩
 | .lst ds,v,u,hd,r,q=>by
  rw [Rp] at r;obtain ⟨a,xs,rfl,sq,rs⟩:=r;cases q;obtain ⟨its,rv,p,hz⟩:=I.list sq;rw [RpV];rw [dep] at hd;exact ⟨a,its,rfl,p.isList,CJ I (by omega) rs rv⟩
 | .dct _ _,v,u,hd,r,q=>by rw [dep] at hd;omega
theorem CJ (I:Inv X pins σ H s):∀ {ds:List D}{vs:List V}{us:zw},deps ds < 1000->Rps (gOf X) H ds vs->Vals vs us->aF s.heap ds us
 | [],vs,us,hd,r,q=>by rw [r.nil_inv] at q;cases q;rw [aF]
 | d::ds,vs,us,hd,r,q=>by
  obtain ⟨v,ws,rfl,r0,rs⟩:=r.cons_inv;rw [deps] at hd;cases q with
  | cons q0 qs =>
   rw [aF];exact ⟨_,_,rfl,rpV I (by omega) r0 q0,CJ I (by omega) rs qs⟩
end
end
structure Grow (H Hs H' Hs':Hp):Prop where
 keep:∀ a o,H a=some o->H' a=some o
 old:∀ a o,H a=some o->Hs' a=Hs a
 sub:Same Hs' H'
variable {Hs:Hp}
theorem Grow.refl (h:Same Hs H):Grow H Hs H Hs:=⟨fun _ _ q=>q,fun _ _ _=>rfl,h⟩
theorem Grow.trans {H1 Hs1 H2 Hs2:Hp} (a:Grow H Hs H1 Hs1) (b:Grow H1 Hs1 H2 Hs2):Grow H Hs H2 Hs2 :=
 ⟨fun c o q=>b.keep c o (a.keep c o q),fun c o q=>(b.old c o (a.keep c o q)).trans (a.old c o q),b.sub⟩
theorem Grow.same {Hs':Hp} (g:Grow H Hs H' Hs') (h:Same Hs H):Same Hs Hs':=fun a o q=>by rw [g.old a o (h a o q)];exact q
variable {p:Addr}{o:HO}
theorem Grow.new (h:Same Hs H) (hp:H p=none):Grow H Hs (upd H p o) (upd Hs p o):=by
 refine ⟨fun a u q=>by rw [ao (ak q hp)];exact q,fun a u q=>by rw [ao (ak q hp)],fun a u q=>?_⟩;by_cases e:a=p
 .subst e;rw [aB] at q ⊢;exact q
 .rw [ao e] at q ⊢;exact h a u q
theorem Grow.own (h:Same Hs H) (hp:H p=none):Grow H Hs (upd H p o) Hs:=by
 refine ⟨fun a u q=>by rw [ao (ak q hp)];exact q,fun a u q=>rfl,fun a u q=>?_⟩;rw [ao (ak (h a u q) hp)];exact h a u q
end Mi
namespace Mi
open PySem L2
open PyProof.Rows hiding St
variable {h:Heap}{x k v:D}{b:Addr}{H:Hp}{u:Value}{y:V}
section
variable {X:Cx}
def Dg {a b:D} (h:bW a b=true):(dep a<=30/\dep b<=30)/\like a b=true:=by
 unfold bW at h;simpa using h
def aaN (X:Cx):R2:=fun x y H Q=>∃ d e,Rp (gOf X) H d x/\Rp (gOf X) H e y/\bW d e=true/\Q (.bl (aG d e)) H
def ZR (X:Cx):R2:=fun x y H Q=>∃ d e,Rp (gOf X) H d x/\Rp (gOf X) H e y/\bW d e=true/\Q (.bl (!aG d e)) H
def abb (hu:X.A.units+100 < cLine):OpR X (compareOp .Eq) (aaN X):=by
 intro pins s σ H x y v u Q I rx ry h;obtain ⟨d,e,r1,r2,hf,q⟩:=h;obtain ⟨⟨f1,f2⟩,k⟩:=Dg hf;exact aa6 d e k (rpV I (by omega) r1 rx) (rpV I (by omega) r2 ry) (by omega) (by omega) _ _ _ _ ⟨.bl (aG d e),H,I,rfl,q⟩
def aaP (hu:X.A.units+100 < cLine):OpR X (compareOp .NotEq) (ZR X):=by
 intro pins s σ H x y v u Q I rx ry h;obtain ⟨d,e,r1,r2,hf,q⟩:=h;obtain ⟨⟨f1,f2⟩,k⟩:=Dg hf;exact Zd d e k (rpV I (by omega) r1 rx) (rpV I (by omega) r2 ry) (by omega) (by omega) _ _ _ _ ⟨.bl (!aG d e),H,I,rfl,q⟩
open Classical in
def eOf (h:Heap) (x:D) (y:Value):Bool:=if p:∃ d,RpV h d y then aG (Classical.choose p) x else false
def Qz {d:D}{y:Value} (r:RpV h d y):eOf h x y=aG d x:=by
 unfold eOf;have p:∃ d,RpV h d y:=⟨d,r⟩;rw [dif_pos p,RpV.inj (Classical.choose_spec p) r]
theorem Dn {h:Heap}{x:D}:∀ {ds:List D}{us:zw},aF h ds us->us.any (eOf h x)=ds.any fun d=>aG d x
 | [],us,r=>by rw [aF] at r;subst r;rfl
 | d::ds,us,r=>by
  rw [aF] at r;obtain ⟨y,ys,rfl,r0,rs⟩:=r;rw [List.any_cons,List.any_cons,Qz r0,Dn rs]
theorem CZ {A:Around}{s:Shared}{x:D}{v:Value} (rx:RpV s.heap x v) (hx:A.units+dep x < cLine):∀ {ds:List D}{us:zw},aF s.heap ds us->A.units+deps ds < cLine->∀ y∈us,SeqAt.EqAt A s y v (eOf s.heap x y)
 | [],us,r,_,y,hy=>by rw [aF] at r;subst r;simp at hy
 | d::ds,us,r,hd,y,hy=>by
  rw [aF] at r;obtain ⟨z,ys,rfl,r0,rs⟩:=r;rw [deps] at hd;rcases z9.mp hy with e | hy
  .subst e;rw [Qz r0];exact oX d x r0 rx (by omega) hx
  .exact CZ rx hx rs (by omega) y hy
def VN {ds:List D}{n:Nat}:(∀ d∈ds,dep d<=n)->deps ds<=n:=by
 induction ds with
 | nil=>intro _;simp [deps]
 | cons d ds ih =>
  intro h;rw [deps];have h1:=h d vE;have h2:=ih fun x hx=>h x (vz _ hx)
  omega
def Vr (X:Cx) (neg:Bool):R2:=fun x y H Q=>∃ d ds p xs,Rp (gOf X) H d x/\y=.ref p/\(SqL X.K H p xs\/SqT X.K H p xs)/\Rps (gOf X) H ds xs/\(ds.all fun e=>bW e d)=true/\dep d<=30 /\
 Q (.bl (if neg then !(ds.any fun e=>aG e d) else ds.any fun e=>aG e d)) H
def QG (hu:X.A.units+100 < cLine):OpR X (compareOp .NotIn) (Vr X true):=by
 intro pins s σ H x y v u Q I rx ry h;obtain ⟨d,ds,p,xs,r1,rfl,sq,rs,hf,hd,q⟩:=h;cases ry;have dd:deps ds<=30:=VN fun e he=>(Dg (yA.mp hf e he)).1.1
 have rx':=rpV I (by omega) r1 rx;have hin:X.A.in1.units=X.A.units+1:=rfl;rcases sq with sq | sq
 .obtain ⟨its,rv,pl,hz⟩:=I.list sq;have rs':=CJ I (by omega) rs rv;refine SeqAt.notIn_listAt (eOf s.heap d) pl.isList (fun z hz=>CZ rx' (by omega) rs' (by omega) z (by simpa using hz)) ?_;refine ⟨.bl _,H,I,rfl,?_⟩;rw [List.any_toArray,Dn rs'];exact q
 .obtain ⟨its,rv,pl,hz⟩:=I.tuple sq;have rs':=CJ I (by omega) rs rv;refine SeqAt.notIn_tupleAt (eOf s.heap d) pl (fun z hz=>CZ rx' (by omega) rs' (by omega) z (by simpa using hz)) ?_;refine ⟨.bl _,H,I,rfl,?_⟩;rw [List.any_toArray,Dn rs'];exact q
structure DictR (X:Cx) (H:Hp) (a:Addr) (ks:List D) (xs:List (D × Addr × Value)) (ys:List V):Prop where
 at_:∃ ep,H a=some (.ext (DAt (gOf X) a xs ys ep))
 keys:ks=xs.map (·.1)
 rep:Rps (gOf X) H ks (xs.map fun x=>V.ref x.2.1)
theorem JK {g:G}{H:Hp}:∀ {xs:List (D × Addr × Value)},Rps g H (xs.map (·.1)) (xs.map fun x=>V.ref x.2.1)->∀ x∈xs,Rp g H x.1 (.ref x.2.1)
 | [],r,x,hx=>by simp at hx
 | y::ys,r,x,hx=>by
  rw [List.map_cons,List.map_cons] at r;obtain ⟨v,ws,e,r0,rs⟩:=r.cons_inv;cases e;rcases z9.mp hx with e | hx
  .rw [e];exact r0
  .exact JK rs x hx
section
variable {pins:w4}{σ:St}{H:Hp}{s:Shared}{a:Addr}{ks:List D}{xs:List (D × Addr × Value)}{ys:List V}
def Hx (I:Inv X pins σ H s) (d:DictR X H a ks xs ys):s.TypeIs (.ref a) "dict" /\ ∃ o:Obj,s.heap.get? a=some o /\ o.dict=none:=by
 obtain ⟨ep,dat⟩:=d.at_;obtain ⟨⟨h1,h2,h3,o,es,h4,h5,h6,h7,h8⟩,_⟩:=(show cA X.prog X.w H s.heap a (.ext (DAt (gOf X) a xs ys ep)) from I.hok a _ dat);exact ⟨⟨o,h4,h5.1⟩,o,h4,h5.2.1⟩
def dictOf (I:Inv X pins σ H s) (d:DictR X H a ks xs ys) (hk:kOk ks k=true):isKey k=true/\(a == sysModules)=false/\xs.length<=sizeLine/\Vals ys (xs.map (·.2.2))/\s.heap.DictOfH (gU X.prog X.w) a xs:=by
 obtain ⟨ep,dat⟩:=d.at_;obtain ⟨⟨h1,h2,h3,o,es,h4,h5,h6,h7,h8⟩,_⟩:=(show cA X.prog X.w H s.heap a (.ext (DAt (gOf X) a xs ys ep)) from I.hok a _ dat);obtain ⟨hb,hc⟩:=YL hk;refine ⟨hb,h1,h2,h3,o,es,ep,h4,h5,h6,h7,fun x hx=>?_,h8⟩;have hk:=gQ (hc x.1 (by rw [d.keys];exact v8.mpr ⟨x,hx,rfl⟩));have rep:=d.rep;rw [d.keys] at rep;exact ⟨hk.1,hk.2.1,rpV I (by omega) (JK rep x hx) rfl⟩
def xQ (I:Inv X pins σ H s) (hk:isKey k=true) (r:Rp (gOf X) H k (.ref b)):(gU X.prog X.w).is s.heap k b:=by
 have h:=gQ hk;exact ⟨h.1,h.2.1,rpV I (by omega) r rfl⟩
def Bb :(atKey xs k).isSome=decide (k∈xs.map (·.1)):=by
 unfold atKey;rw [Option.isSome_map,Bool.eq_iff_iff,List.find?_isSome,decide_eq_true_iff,List.mem_map];constructor
 .rintro ⟨x,hx,e⟩;exact ⟨x,hx,of_decide_eq_true e⟩
 .rintro ⟨x,hx,e⟩;exact ⟨x,hx,yk e⟩
end
def Nf (X:Cx) (neg:Bool):R2:=fun x y H Q=>∃ k a ks xs ys,Rp (gOf X) H k x/\kOk ks k=true/\y=.ref a/\DictR X H a ks xs ys/\Q (.bl (if neg then !decide (k∈ks) else decide (k∈ks))) H
def OJ (hu:X.A.units+100 < cLine):OpR X (compareOp .NotIn) (Nf X true):=by
 intro pins s σ H x y v u Q I rx ry h;obtain ⟨k,a,ks,xs,ys,r1,hk,rfl,d,q⟩:=h;cases ry;obtain ⟨hkb,h1,h2,h3,h4⟩:=dictOf I d hk;obtain ⟨_,_,ds,rfl⟩:=gQ hkb;rw [Rp] at r1;obtain ⟨b,zs,rfl,sq,rs⟩:=id r1;cases rx;have hin:X.A.in1.units=X.A.units+1:=rfl;refine wpAny_notIn_heap (knd:=gU X.prog X.w) (by show X.A.in1.units+10 < cLine;omega) (xQ I hkb (by rw [Rp];exact ⟨b,zs,rfl,sq,rs⟩)) h1 h4 ?_;refine ⟨.bl _,H,I.tok _,rfl,?_⟩;rw [Bb,<- d.keys];exact q
noncomputable def iY (ks vs:List D) (k v:D):List D × List D:=if k∈ks then (ks,(ks.zip vs).map fun p=>if p.1=k then v else p.2) else (ks++[k],vs++[v])
noncomputable def lD (xs:List (D × Addr × Value)) (ys:List V) (k:D) (b:Addr) (u:Value) (y:V):List (D × Addr × Value) × List V :=
 if k∈xs.map (·.1) then (xs.map (putAt k u),((xs.map (·.1)).zip ys).map fun p=>if p.1=k then y else p.2) else (xs++[(k,b,u)],ys++[y])
theorem JW {g:G}{H:Hp}{k:D}{v:D}{y:V} (r:Rp g H v y):∀ {ks vs:List D}{ys:List V},ks.length=vs.length->Rps g H vs ys->Rps g H ((ks.zip vs).map fun p=>if p.1=k then v else p.2) ((ks.zip ys).map fun p=>if p.1=k then y else p.2)
 | [],vs,ys,hl,q=>by simp [Rps]
 | c::ks,[],ys,hl,q=>by simp at hl
 | c::ks,d::vs,ys,hl,q=>by
  obtain ⟨z,zs,rfl,q0,qs⟩:=q.cons_inv;rw [List.zip_cons_cons,List.zip_cons_cons,List.map_cons,List.map_cons];refine Rps.cons ?_ (JW r (by simpa using hl) qs);dsimp only;split
  .exact r
  .exact q0
theorem Bm {k:D}{u:Value}{y:V} (r:RelV y u):∀ {xs:List (D × Addr × Value)}{ys:List V},Vals ys (xs.map (·.2.2))->Vals (((xs.map (·.1)).zip ys).map fun p=>if p.1=k then y else p.2) ((xs.map (putAt k u)).map (·.2.2))
 | [],ys,q=>by cases q;exact .nil
 | x::xs,ys,q=>by
  rw [List.map_cons] at q;cases q with
  | cons q0 qs =>
   rw [List.map_cons,List.zip_cons_cons,List.map_cons,List.map_cons,List.map_cons];refine .cons ?_ (Bm r qs);dsimp only;unfold putAt;split
   .exact r
   .exact q0
def WT (X:Cx):Nv:=fun o i v H Q=>∃ a k ks xs ys,o=.ref a/\Rp (gOf X) H k i/\kOk ks k=true/\DictR X H a ks xs ys/\xs.length < lim /\
 ∀ b u ep,i=.ref b->RelV v u->Q (upd H a (.ext (DAt (gOf X) a (lD xs ys k b u v).1 (lD xs ys k b u v).2 ep)))
def set_dict (hu:X.A.units+100 < cLine):Pn X (WT X):=by
 intro pins s σ H o i v ov iv u Q I ro ri rv h;obtain ⟨a,k,ks,xs,ys,rfl,r1,hk,d,hl,q⟩:=h;cases ro;obtain ⟨hkb,h1,h2,h3,h4⟩:=dictOf I d hk;obtain ⟨_,_,ds,rfl⟩:=gQ hkb;rw [Rp] at r1;obtain ⟨b,zs,rfl,sq,rs⟩:=id r1;cases ri;have hin:X.A.in1.units=X.A.units+1:=rfl;have hlz:=jy;refine wpAny_setItem_heap (hsz:=by omega) (knd:=gU X.prog X.w) (by show X.A.in1.units+10 < cLine;omega) (xQ I hkb (by rw [Rp];exact ⟨b,zs,rfl,sq,rs⟩)) h4 fun h' hm' hs'=>?_
 obtain ⟨o',es',ep',e1,e2,e3,e4,e5,e6⟩:=id hm';refine ⟨_,?_,q b u ep' rfl rv⟩;have mu:Mut (H a):=by obtain ⟨_,dat⟩:=d.at_;rw [dat];exact trivial
 refine I.write (x:=a) (e:=a) mu (.inl rfl) (fun c w hc hw=>(hs'.2 c hc).trans hw) ⟨_,e1⟩ ?_;have put:storedH xs (.tup ds) b u=(lD xs ys (.tup ds) b u v).1/\Vals (lD xs ys (.tup ds) b u v).2 ((lD xs ys (.tup ds) b u v).1.map (·.2.2))/\(lD xs ys (.tup ds) b u v).1.length<=sizeLine:=by
  unfold lD storedH;rw [Bb];by_cases hm:D.tup ds∈xs.map (·.1)
  .rw [if_pos hm,if_pos (decide_eq_true hm)];exact ⟨rfl,Bm rv h3,by rw [List.length_map];omega⟩
  .rw [if_neg hm,if_neg (by simpa using hm)];refine ⟨rfl,?_,by rw [List.length_append,List.length_singleton];omega⟩;rw [List.map_append];exact h3.append (.cons rv .nil)
 rw [put.1] at e4 e6;refine ⟨⟨h1,put.2.2,put.2.1,o',es',e1,e2,e3,e4,e6⟩,⟨_,e1⟩,fun ha hb p kp=>?_⟩;obtain ⟨p1,p2,p3,o2,es2,q1,q2⟩:=p;exact ⟨p1,p2,p3,o2,es2,kp _ q1,q2⟩
def R8 {a:Addr}{ks vs:List D}{xs:List (D × Addr × Value)}{ys:List V} (keys:ks=xs.map (·.1)) (rep:Rps (gOf X) H ks (xs.map fun x=>V.ref x.2.1)) (hv:Rps (gOf X) H vs ys) (rk:Rp (gOf X) H k (.ref b)) (ry:Rp (gOf X) H v y)
  (hl:ks.length=vs.length) :
  (iY ks vs k v).1=(lD xs ys k b u y).1.map (·.1)/\Rps (gOf X) H (iY ks vs k v).1 ((lD xs ys k b u y).1.map fun x=>V.ref x.2.1)/\Rps (gOf X) H (iY ks vs k v).2 (lD xs ys k b u y).2:=by
 unfold iY lD;rw [keys] at rep;rw [keys];by_cases hm:k∈xs.map (·.1)
 .rw [if_pos hm,if_pos hm];refine ⟨(keys_map_putAt xs k u).symm,?_,?_⟩
  .have e:((xs.map (putAt k u)).map fun x=>V.ref x.2.1)=xs.map fun x=>V.ref x.2.1:=by
    rw [List.map_map];refine List.map_congr_left fun x _=>?_
    show V.ref (putAt k u x).2.1=_
    unfold putAt;split <;> rfl
   rw [e];exact rep
  .exact JW ry (by rw [<- keys];exact hl) hv
 .rw [if_neg hm,if_neg hm];refine ⟨by rw [List.map_append];rfl,?_,hv.append (Rps.one ry)⟩;rw [List.map_append];exact rep.append (Rps.one rk)
def abL (X:Cx):TE:=fun _ H Q=>∀ p,H p=none->Q (.ref p) (upd H p (.ext (DAt (gOf X) p [] [] 0)))
theorem Lk {pos:Pos}:PE X (.Dict [] [] pos) (abL X):=fun pins s σ H Q I h=>by
 have hb:sysModules < s.heap.objs.size:=I.big;refine wpAny_Dict_empty ⟨.ref s.heap.objs.size,_,I.laid (a:=s.heap.objs.size) (o:=.ext (DAt (gOf X) s.heap.objs.size [] [] 0)) (t':=s.toks) (fun _ _ q=>vT _ q) (v6 _) ?_,rfl,h _ (I.hok.fresh (v6 _))⟩;refine ⟨⟨beq_eq_false_iff_ne.mpr (Ne.symm (ya hb)),yf _,.nil,_,#[],v3 _ rfl,⟨rfl,rfl,rfl⟩,rfl,rfl,List.nodup_nil⟩,⟨_,v3 _ rfl⟩,fun h1 h2 p kp=>?_⟩;obtain ⟨p1,p2,p3,o2,es2,q1,q2⟩:=p;exact ⟨p1,p2,p3,o2,es2,kp _ q1,q2⟩
end
end Mi
namespace Mi
open PySem L2
open PyProof.Rows hiding St
variable {pins:w4}{σ:St}{H:Hp}{s:Shared}{A:Around}{E Q:zn}
section
variable {X:Cx}
theorem vd:∀ {bs:List Bool}{us:zw},Vals (bs.map V.bl) us->LSm.BoolsAre us bs
 | [],us,q=>by cases q;exact .nil
 | b::bs,us,q=>by
  rw [List.map_cons] at q;cases q with
  | cons q0 qs=>cases q0;exact .cons b (vd qs)
def aaY (X:Cx):List V->Hp->VK->Prop:=fun xs H Q=>∃ (p:Addr) (bs:List Bool),xs=[.ref p]/\SqL X.K H p (bs.map V.bl)/\Q (.bl (bs.all id)) H
def abn (X:Cx):List V->Hp->VK->Prop:=fun xs H Q=>∃ (p:Addr) (bs:List Bool),xs=[.ref p]/\SqL X.K H p (bs.map V.bl)/\Q (.bl (bs.any id)) H
def Rr (hc:X.calm=true):gD X (.builtin "all") (aaY X):=by
 intro pins s σ H xs us Q I r h;obtain ⟨p,bs,rfl,sq,q⟩:=h;obtain ⟨u,rfl,ru⟩:=vals1 r;cases ru;obtain ⟨its,rv,pl,hz⟩:=I.list sq;have hb:=vd rv;have hl:=pl.isList;have hlt:p < s.heap.objs.size:=by obtain ⟨_,e,_⟩:=hl;exact v4 e
 refine call_all_walk (wpAny_pyIter_list hl ?_);refine ⟨s.heap.objs.size,[s.heap.objs.size,p],[s.heap.objs.size],its.toArray.size,_,_,fun i=>(bs[i]?).getD true,rfl,Walks.list (A:=X.A.in1) (I.ok.hd hc) _ p (ya hlt) its.toArray,
  ⟨⟨_,v3 _ rfl,rfl,rfl⟩,hl.push _⟩,fun i v s' Q' E' hP hQ=>?_,fun h' tk hk=>?_⟩
 .obtain ⟨b,e,rfl⟩:=hb.get i v (by simpa using hP);simp only [e,Option.getD_some] at hQ;exact y8 hQ
 .have e:((List.range its.toArray.size).all fun i=>(bs[i]?).getD true)=bs.all id:=by
   rw [List.size_toArray,hb.length];exact LSm.range_all bs
  rw [e];exact ⟨.bl _,H,I.kept (LSm.kept_iter hk),rfl,q⟩
def Ru (hc:X.calm=true):gD X (.builtin "any") (abn X):=by
 intro pins s σ H xs us Q I r h;obtain ⟨p,bs,rfl,sq,q⟩:=h;obtain ⟨u,rfl,ru⟩:=vals1 r;cases ru;obtain ⟨its,rv,pl,hz⟩:=I.list sq;have hb:=vd rv;have hl:=pl.isList;have hlt:p < s.heap.objs.size:=by obtain ⟨_,e,_⟩:=hl;exact v4 e
 refine call_any_walk (wpAny_pyIter_list hl ?_);refine ⟨s.heap.objs.size,[s.heap.objs.size,p],[s.heap.objs.size],its.toArray.size,_,_,fun i=>(bs[i]?).getD false,rfl,Walks.list (A:=X.A.in1) (I.ok.hd hc) _ p (ya hlt) its.toArray,
  ⟨⟨_,v3 _ rfl,rfl,rfl⟩,hl.push _⟩,fun i v s' Q' E' hP hQ=>?_,fun h' tk hk=>?_⟩
 .obtain ⟨b,e,rfl⟩:=hb.get i v (by simpa using hP);simp only [e,Option.getD_some] at hQ;exact y8 hQ
 .have e:((List.range its.toArray.size).any fun i=>(bs[i]?).getD false)=bs.any id:=by
   rw [List.size_toArray,hb.length];exact LSm.range_any bs
  rw [e];exact ⟨.bl _,H,I.kept (LSm.kept_iter hk),rfl,q⟩
noncomputable def Ty.name:Ty->String
 | .int=>"int" | .bool=>"bool" | .str=>"str" | .tuple=>"tuple" | .list=>"list"
noncomputable def tyD:D->String
 | .non=>"NoneType" | .bl _=>"bool" | .int _=>"int" | .str _=>"str" | .tup _=>"tuple" | .lst _=>"list" | .dct _ _=>"dict"
noncomputable def kO (d:D) (t:Ty):Bool:=match t,d with
 | .int,.int _=>true | .int,.bl _=>true | .bool,.bl _=>true | .str,.str _=>true | .tuple,.tup _=>true | .list,.lst _=>true
 | _,_=>false
theorem ZG (K:zt) (d:D) (t:Ty):PySem.W.kitOne K (.type (tyD d)) (.type t.name)=some (kO d t):=by
 cases d <;> cases t <;> rfl
def Y5 {d:D}{v:V}{u:Value} (t:Ty) (I:Inv X pins σ H s) (r:Rp (gOf X) H d v) (ru:RelV v u)
  (h:∀ tk,Q (.bool (kO d t)) { s with toks:=tk }):wpAny (model X.prog X.w) A (call (.builtin "isinstance") [u,.type t.name]) Q E s:=by
 have e:=ZG X.K d t;cases d with
 | non=>rw [Rp] at r;subst r;exact pK I ru .non e h
 | bl b=>rw [Rp] at r;subst r;exact pK I ru (.bl b) e h
 | int b=>rw [Rp] at r;subst r;exact pK I ru (.int b) e h
 | str b=>rw [Rp] at r;subst r;exact pK I ru (.str b) e h
 | tup ds =>
  rw [Rp] at r;obtain ⟨a,xs,rfl,sq,rs⟩:=r;cases ru;obtain ⟨its,rv,⟨o,h1,h2,_⟩,hz⟩:=I.tuple sq;exact PySem.W.kia_one PySem.W.kitx_tuple I.kIn ⟨o,h1,h2⟩ e (fun z=>nomatch z) h
 | lst ds =>
  rw [Rp] at r;obtain ⟨a,xs,rfl,sq,rs⟩:=r;cases ru;obtain ⟨its,rv,pl,hz⟩:=I.list sq;obtain ⟨o,h1,h2,_⟩:=pl.isList;exact PySem.W.kia_one PySem.W.kitx_list I.kIn ⟨o,h1,h2⟩ e (fun z=>nomatch z) h
 | dct ks vs =>
  rw [Rp] at r;obtain ⟨a,xs,ys,ep,rfl,hH,_⟩:=r;cases ru;obtain ⟨⟨_,_,_,o,es,h4,h5,_⟩,_⟩:=(show cA X.prog X.w H s.heap a (.ext (DAt (gOf X) a xs ys ep)) from I.hok a _ hH);exact PySem.W.kia_one PySem.W.kitx_dict I.kIn ⟨o,h4,h5.1⟩ e (fun z=>nomatch z) h
def ab8 (X:Cx):List V->Hp->VK->Prop:=fun xs H Q=>∃ d v t,xs=[v,.ty t.name]/\Rp (gOf X) H d v/\Q (.bl (kO d t)) H
def Rb:gD X (.builtin "isinstance") (ab8 X):=by
 intro pins s σ H xs us Q I r h;obtain ⟨d,v,t,rfl,rd,q⟩:=h;obtain ⟨u,w',rfl,ru,rw'⟩:=vals2 r;cases rw';exact Y5 t I rd ru fun tk=>⟨.bl _,H,I.tok _,rfl,q⟩
def SrcR (X:Cx) (H:Hp) (p:Addr) (ds:List D) (zs:List V):Prop :=
 Rps (gOf X) H ds zs/\(SqL X.K H p zs\/SqT X.K H p zs\/∃ xs ys,DictR X H p ds xs ys/\zs=xs.map fun x=>V.ref x.2.1)
theorem Ko {p:Addr}{ds:List D}{zs:List V}{Q:zw->Shared->Prop} (hA:A.handled=none) (I:Inv X pins σ H s) (S:SrcR X H p ds zs)
  (h:∀ h' tk us,(∀ b o,s.heap.get? b=some o->h'.get? b=some o)->Vals zs us->Q us { s with heap:=h',toks:=tk }):wpAny (model X.prog X.w) A (collect (.ref p)) Q E s:=by
 rcases S.2 with sq | sq | ⟨xs,ys,d,ez⟩
 .obtain ⟨its,rv,pl,hz⟩:=I.list sq;obtain ⟨o,ho,hc,n,hd⟩:=pl.isList;have hlen:=rv.length;exact wpAny_collect_seq p (.inl rfl) ho hc hd (fun h' kp=>h h' s.toks its kp rv) (by simp only [List.size_toArray];omega)
 .obtain ⟨its,rv,pl,hz⟩:=I.tuple sq;obtain ⟨o,ho,hc,n,hd⟩:=pl;have hlen:=rv.length;exact wpAny_collect_seq p (.inr rfl) ho hc hd (fun h' kp=>h h' s.toks its kp rv) (by simp only [List.size_toArray];omega)
 .subst ez;obtain ⟨ep,dat⟩:=d.at_;obtain ⟨⟨h1,h2,h3,o,es,h4,h5,h6,h7,h8⟩,_⟩:=(show cA X.prog X.w H s.heap p (.ext (DAt (gOf X) p xs ys ep)) from I.hok p _ dat);have hsz:es.size=xs.length:=by rw [<- Array.length_toList,h7,List.length_map]
  refine PySem.W.kdu_collect (MN (ep:=ep) (es:=es) h1) hA ⟨o,h4,h5,h6⟩ (by omega) fun h' tk acc kp hacc=>h h' tk acc.toList kp ?_
  have key:∀ (l:List (D × Addr × Value)) (us:zw),l.length=us.length->(∀ (j:Nat) u,us[j]?=some u->∃ x,l[j]?=some x/\u=.ref x.2.1)->Vals (l.map fun x=>V.ref x.2.1) us:=by
   intro l;induction l with
   | nil=>intro us hl _;cases us with | nil=>exact .nil | cons _ _=>simp at hl
   | cons x l ih =>
    intro us hl hj;cases us with
    | nil=>simp at hl
    | cons u us =>
     obtain ⟨y,ey,eu⟩:=hj 0 u rfl;simp at ey;subst ey;exact .cons eu (ih us (by simpa using hl) fun j w hw=>by simpa using hj (j+1) w (by simpa using hw))
  refine key xs acc.toList (by have e:=hacc.1;simp only [Array.length_toList];omega) fun j u hu=>?_
  obtain ⟨hj,eu⟩:=hacc.2 j u (by rw [<- Array.getElem?_toList];exact hu);have hjx:j < xs.length:=by omega
  refine ⟨xs[j],by simp [hjx],?_⟩;rw [eu];have e:=entry_at h7 j;rw [Array.getElem?_eq_getElem hj,List.getElem?_eq_getElem hjx] at e;have e':=ja (e.trans (Option.map_some ..));rw [e'];rfl
def Lw (X:Cx):List V->Hp->VK->Prop:=fun vs H Q=>∃ (p:Addr) (ds:List D) (zs:List V),vs=[.ref p]/\SrcR X H p ds zs/\SortOk ds/\∀ S ys,H S=none->(∀ Hs,Rps (gOf X) Hs ds zs->Rps (gOf X) Hs (iT ds) ys)->Q (.ref S) (upd H S (.lst ys))
def JX (hc:X.calm=true) (hu:X.A.units+100 < cLine):gD X (.builtin "sorted") (Lw X):=by
 intro pins s σ H xs us Q I r h;obtain ⟨p,ds,zs,rfl,src,S,q⟩:=h;obtain ⟨u,rfl,ru⟩:=vals1 r;cases ru;refine Calls.call_function_entry kind_sorted plain_sorted entry_sorted (args_sorted1 _) ?_;unfold Builtin.«sorted»;refine vx (m:=checkCount "sorted" 1 1 _) (vy ?_)
 refine vx (Ko (A:=X.A.in1) (I.ok.hd hc) I src fun h' tk vs kp rv=>?_);have hlen:=src.1.length;have hlen2:=rv.length;have hS64:=S.len;refine vx (wpAny_newList ?_ (by rw [sizeLine_eq];omega));have hoL:(h'.push (seqObj "list" vs.toArray 0)).get? h'.objs.size=some (seqObj "list" vs.toArray 0):=v3 _ rfl
 have I2:Inv X pins σ H { s with heap:=h'.push (seqObj "list" vs.toArray 0),toks:=tk }:=I.kept fun b o e=>vT _ (kp b o e)
 have I1:Inv X pins σ H { s with heap:=h',toks:=tk }:=I.kept kp;have dS:=S.dp;have rs:∀ h'':Heap,(∀ b o,b ≠ h'.objs.size -> (h'.push (seqObj "list" vs.toArray 0)).get? b=some o -> h''.get? b=some o) -> aF h'' ds vs:=fun h'' kk=>(CJ I1 (by omega) src.1 rv).keep fun b o e _=>kk b o (ya (v4 e)) (vT _ e)
 refine vx (wpAny_holding (y0 slot_list_sort (s:={ s with heap:=h'.push (seqObj "list" vs.toArray 0),toks:=tk }) ⟨_,hoL,rfl⟩ entry_list_sort (Sv hoL S rs (by show X.A.units+1+1+40 < cLine; omega) fun pm pb so=>⟨_,rfl,?_⟩) (args_list_sort _)))
 refine vy ⟨_,rfl,?_⟩;have hpsz:=pb.size;have hfresh:H h'.objs.size=none:=I1.hok.fresh (v6 _);obtain ⟨c,hc2⟩:=sortedHeap_at (out:=List.toArray (pm.toList.map fun i=>vs.getD i Value.none)) hoL;have plt:∀ i∈pm.toList,i < ds.length:=fun i hi=>by
  have:=(Array.perm_iff_toList_perm.mp pb.perm).mem_iff (a:=i);simp at this;exact this.mp (by simpa using hi)
 have getV:∀ {i},i < ds.length->RelV (zs.getD i .non) (vs.getD i Value.none):=fun {i} hi=>by
  have e1:zs.getD i .non=zs[i]'(by omega):=by simp [show i < zs.length by omega]
  obtain ⟨u,e2,ru⟩:=rv.get (i:=i) (x:=zs[i]'(by omega)) (by simp [show i < zs.length by omega]);rw [e1];have e3:vs.getD i Value.none=u:=by simp [List.getD,e2]
  rw [e3];exact ru
 have valsP:∀ l:zz,(∀ i∈l,i < ds.length)->Vals (l.map fun i=>zs.getD i .non) (l.map fun i=>vs.getD i Value.none):=by
  intro l;induction l with
  | nil=>intro _;exact .nil
  | cons i l ih=>intro hl;exact .cons (getV (hl i vE)) (ih fun j hj=>hl j (vz _ hj))
 have repsP:∀ Hs,Rps (gOf X) Hs ds zs->∀ l:zz,(∀ i∈l,i < ds.length)->Rps (gOf X) Hs (l.map fun i=>ds.getD i .non) (l.map fun i=>zs.getD i .non):=by
  intro Hs rHs l;induction l with
  | nil=>intro _;exact Rps.nil
  | cons i l ih =>
   intro hl;have hi:=hl i vE;obtain ⟨v,e1,rr⟩:=rHs.getD (i:=i) (d:=ds.getD i .non) (by simp [hi]);have e2:zs.getD i .non=v:=by simp [List.getD,e1]
   rw [List.map_cons,List.map_cons];refine Rps.cons ?_ (ih fun j hj=>hl j (vz _ hj));rw [e2];exact rr
 have perm:(pm.toList.map fun i=>ds.getD i .non).Perm ds:=by
  have h1:(pm.toList.map fun i=>ds.getD i .non).Perm ((List.range ds.length).map fun i=>ds.getD i .non):=((Array.perm_iff_toList_perm.mp pb.perm).map _);have h2:(List.range ds.length).map (fun i=>ds.getD i D.non)=ds:=by
   refine List.ext_getElem (by simp) fun i h1 h2=>?_
   simp at h1;simp [h1]
  rw [h2] at h1;exact h1
 have sorted:(pm.toList.map fun i=>ds.getD i .non).Pairwise leD:=by
  rw [List.pairwise_iff_getElem];intro i j hi hj hij;simp only [List.length_map,Array.length_toList] at hi hj;simp only [List.getElem_map,Array.getElem_toList];have e:=so i j (by omega) (by omega);have ki:Kp (ju ds) pm i=ju ds pm[i]:=by unfold Kp;rw [Array.getElem?_eq_getElem hi]
  have kj:Kp (ju ds) pm j=ju ds pm[j]:=by unfold Kp;rw [Array.getElem?_eq_getElem hj]
  rw [ki,kj] at e;unfold leD;rw [<- Ls S.cmp (plt _ (by simp)) (plt _ (by simp))];exact yl (by omega)
 have eS:=yP S.cmp perm sorted;refine ⟨.ref h'.objs.size,upd H h'.objs.size (.lst (pm.toList.map fun i=>zs.getD i .non)),?_,rfl,q _ _ hfresh (fun Hs rHs=>by rw [eS];exact repsP Hs rHs _ plt)⟩;refine I1.laid (t':=tk) (fun b o e=>?_) (v6 _) ⟨?_,_,c,valsP _ plt,?_⟩
 .have hlt:b < h'.objs.size:=v4 e;rw [sortedHeap_old (Nat.ne_of_lt hlt) (by rw [size_push'];exact Nat.lt_succ_of_lt hlt)];exact vT _ e
 .rw [List.length_map,Array.length_toList,hpsz,sizeLine_eq];omega
 .exact hc2
def Uy {prog:Program}{w:World}{t b:Addr}{ws:zw} (ht:IsTup s.heap t (List.toArray [])) (hb:IsTup s.heap b ws.toArray)
  (h1:Q (.ref b) s):wpAny (model prog w) A (binaryOp .Add (.ref t) (.ref b)) Q E s:=by
 obtain ⟨⟨cls,dd,data,sl⟩,ho,hc,n,hd⟩:=id ht;obtain ⟨⟨cls2,dd2,data2,sl2⟩,ho2,hc2,n2,hd2⟩:=id hb;simp only at hc hd hc2 hd2;subst hc hd hc2 hd2;exact concat_meets ⟨_,ho,rfl⟩ ⟨_,ho2,rfl⟩ noFill_tuple_add seq_tuple_add PySem.F.slot_tuple_add PySem.F.entry_tuple_add (PySem.F.args_tuple_add_2 _ _)
  (tuple_addW0 t b _ ws.toArray n n2 dd dd2 sl sl2 (by simp)) ⟨ho,ho2,h1⟩
def Qw (K:zt):R2:=fun x y H Q=>∃ a b ys,x=.ref a/\y=.ref b/\SqT K H a []/\SqT K H b ys/\Q (.ref b) H
def Wa:OpR X (binaryOp .Add) (Qw X.K):=by
 intro pins s σ H x y v u Q I rx ry h;obtain ⟨a,b,ys,rfl,rfl,ha,hb,q⟩:=h;cases rx;cases ry;obtain ⟨its,r1,p1,_⟩:=I.tuple ha;obtain ⟨its2,r2,p2,_⟩:=I.tuple hb;cases r1;exact Uy p1 p2 ⟨.ref b,H,I,rfl,q⟩
def W5 (K:zt):R2:=fun x y H Q=>∃ l b xs zs,x=.ref l/\y=.ref b/\SqL K H l xs/\SqL K H b zs/\xs.length+zs.length<=sizeLine/\∀ p,H p=none->Q (.ref p) (upd H p (.lst (xs++zs)))
def abJ (K:zt):V->List V->Hp->VK->Prop:=fun x vs H Q=>∃ l b xs zs,x=.ref l/\vs=[.ref b]/\H l=some (.lst xs)/\(SqL K H b zs\/SqT K H b zs)/\xs.length+zs.length<=lim/\Q .non (upd H l (.lst (xs++zs)))
def Yp:MtM X "list.extend" (abJ X.K):=by
 intro pins s σ H x vs v us Q I rx rv h;obtain ⟨l,b,xs,zs,rfl,rfl,hH,hB,hz,q⟩:=h;cases rx;obtain ⟨u,rfl,ru⟩:=rv.one;cases ru;have hlim:=jy;obtain ⟨z,its,n,r,hl,e⟩:=I.lstM hH;obtain ⟨T,o,its2,n2,hT,ho,hc,hd,r2⟩:∃ (T:String) (o:Obj) (its2:zw) (n2:Nat),(T="list" \/ T="tuple") /\ s.heap.get? b=some o /\ o.cls=.type T /\ o.data=.seq its2.toArray n2 /\ Vals zs its2:=by
  rcases hB with hB | hB
  .obtain ⟨its2,r2,pl,_⟩:=I.list hB;obtain ⟨o,ho,hc,n2,hd⟩:=pl.isList;exact ⟨"list",o,its2,n2,.inl rfl,ho,hc,hd,r2⟩
  .obtain ⟨its2,r2,⟨o,ho,hc,n2,hd⟩,_⟩:=I.tuple hB;exact ⟨"tuple",o,its2,n2,.inr rfl,ho,hc,hd,r2⟩
 have hl2:=r2.length;refine y0 PySem.F.slot_list_extend ⟨_,e,rfl⟩ PySem.F.entry_list_extend ?_ (PySem.F.args_list_extend_2 _ _);show wpAny _ _ (Builtin.List.listExtendWith (.ref l) (.ref b) .none) _ _ s
 unfold Builtin.List.listExtendWith;refine vx (wpAny_typeOf ⟨o,ho,hc⟩ ?_);have h1:(Builtin.List.listSameRef (.ref l) (.ref b) || Value.type T == Value.type "list" || Value.type T == Value.type "tuple")=true:=by
  rcases hT with rfl | rfl <;> simp
 rw [if_pos h1];refine vx (listItems_at ho hd ?_);refine vx (listItems_at e rfl ?_);have hlong:¬ (!its.toArray.isEmpty && Builtin.List.listTooLong (its.toArray.size+its2.toArray.size))=true:=by
  rw [Uo (by rw [List.size_toArray,List.size_toArray];omega),Bool.and_false];exact js
 rw [if_neg hlong];refine vx (listUpdate_at e rfl ?_ (by rw [List.size_toArray];omega) (by simp only [List.size_toArray,Array.size_append];omega));refine vy ⟨_,rfl,?_⟩;exact ⟨.non,_,I.lset (t':=s.toks) (its':=its++its2) hH e (by simp) (r.append r2) (by rw [List.length_append];omega),rfl,q⟩
end
end Mi
namespace Mi
open PySem L2
open PyProof.Rows hiding St
variable {h h':Heap}{l:Addr}{n:Nat}{Q:zn}
section
variable {prog:Program}{w:World}{A:Around}{E:zn}{s:Shared}{z ti to i1 i2 l1 l2:Addr}{n1 n2:Nat}{us vs:vj}{u v c d:Value}
structure ZAt (z ti to i1 i2 l1 l2:Addr) (f:Value) (us vs:vj) (n1 n2:Nat) (h:Heap):Prop where
 ap:ZipApart z ti to i1 i2 l1 l2
 zr:IsZip h z ti to f
 its:IsPair h ti (.ref i1) (.ref i2)
 out:∃ c d,IsPair h to c d
 one:h.IsTupleIter i1 l1 n1
 two:h.IsTupleIter i2 l2 n2
 src1:h.IsTuple l1 us
 src2:h.IsTuple l2 vs
theorem ux {i:Addr} (x:h.IsTupleIter i l n) (k:∀ o,h.get? i=some o->h'.get? i=some o):h'.IsTupleIter i l n:=let ⟨o,e,r⟩:=x;⟨o,k o e,r⟩
theorem pA (x:h.IsTuple l us) (k:∀ o,h.get? l=some o->h'.get? l=some o):h'.IsTuple l us:=let ⟨o,e,r⟩:=x;⟨o,k o e,r⟩
def Tn (S:ZAt z ti to i1 i2 l1 l2 .none us vs n1 n2 s.heap) (hu:us[n1]?=some u) (hv:vs[n2]?=some v)
  (hQ:∀ g,ZAt z ti to i1 i2 l1 l2 (rawInt s.heap.objs.size) us vs (n1+1) (n2+1) g->IsPair g s.heap.objs.size u v->g.objs.size=s.heap.objs.size+1 ->
   (∀ b o,b≠z->b≠to->b≠i1->b≠i2->s.heap.get? b=some o->g.get? b=some o)->Q (.ref s.heap.objs.size) { s with heap:=g }) :
  wpAny (model prog w) A (Builtin.«zip.__next__» ⟨[.ref z],[]⟩) (fun fin s'=>∃ v,fin=.done (.ret v)/\Q v s') E s:=by
 obtain ⟨D,hz,ht,⟨c,d,ho⟩,k1,k2,m1,m2⟩:=S;show wpAny _ _ (field (.ref z) 2 >>= _) _ _ _
 refine vx (y9 hz rfl (x:=.bool false) rfl ?_);show wpAny _ _ (field (.ref z) 3 >>= _) _ _ _
 refine vx (y9 hz rfl (x:=.ref ti) rfl (vx (wpAny_seqItems ht rfl ?_)));show wpAny _ _ (Builtin.SmallTypes.ownedTupleIsFree (.ref z) >>= _) _ _ _
 refine vx ?_;unfold Builtin.SmallTypes.ownedTupleIsFree;refine vx (y9 hz rfl (x:=.none) rfl (vy ?_));simp only [if_true];refine vx (wpAny_rule (vx (y9 hz rfl (x:=.ref to) rfl (vx (wpAny_setField_rec hz (by simp) fun g1 z1 e1=>?_)))));replace z1:IsZip g1 z ti to .ellipsis:=z1;refine vx ?_;simp only [List.zipIdx_cons,List.zipIdx_nil,List.forIn_cons,List.forIn_nil];refine vx (vx (wpAny_onRaise ?_));show wpAny _ _ (Builtin.SmallTypes.nextOf (.ref i1) >>= _) _ _ _
 refine vx (nZ (k1.extBut e1.extBut D.i1z) (m1.extBut e1.extBut D.l1z) hu fun g2 k12 e2=>vy ?_);have o2:IsPair g2 to c d:=e2.extBut _ _ D.TOi1 (e1.extBut _ _ D.TOz ho);refine vx (wpAny_seqItems o2 rfl (vx (wpAny_updateSeq_pair o2 fun g3 o3 e3=>?_)));replace o3:IsPair g3 to u d:=o3;refine vx (wpAny_letGo (vy (vx (vx (wpAny_onRaise ?_)))));show wpAny _ _ (Builtin.SmallTypes.nextOf (.ref i2) >>= _) _ _ _
 refine vx (nZ (((k2.extBut e1.extBut D.i2z).extBut e2.extBut D.i12.symm).extBut e3.extBut D.TOi2.symm) (((m2.extBut e1.extBut D.l2z).extBut e2.extBut D.l2i1).extBut e3.extBut D.l2TO) hv fun g4 k24 e4=>vy ?_);have o4:IsPair g4 to u d:=e4.extBut _ _ D.TOi2 o3;refine vx (wpAny_seqItems o4 rfl (vx (wpAny_updateSeq_pair o4 fun g5 o5 e5=>?_)));replace o5:IsPair g5 to u v:=o5;refine vx (wpAny_letGo (vy (vy (vx (wpAny_seqItems o5 rfl (vx (wpAny_newTuple ?_)))))));have sz:g5.objs.size=s.heap.objs.size:=by rw [e5.1,e4.1,e3.1,e2.1,e1.1]
 have z5:IsZip g5 z ti to .ellipsis:=e5.extBut _ _ D.TOz.symm (e4.extBut _ _ D.i2z.symm (e3.extBut _ _ D.TOz.symm (e2.extBut _ _ D.i1z.symm z1)));have kp:∀ b o,b≠z->b≠to->b≠i1->b≠i2->s.heap.get? b=some o->g5.get? b=some o:=fun b o b1 b2 b3 b4 e=>e5.extBut _ _ b2 (e4.extBut _ _ b4 (e3.extBut _ _ b2 (e2.extBut _ _ b3 (e1.extBut _ _ b1 e))))
 have k15:g5.IsTupleIter i1 l1 (n1+1):=((k12.extBut e3.extBut D.TOi1.symm).extBut e4.extBut D.i12).extBut e5.extBut D.TOi1.symm;have k25:g5.IsTupleIter i2 l2 (n2+1):=k24.extBut e5.extBut D.TOi2.symm;have zlt:z < g5.objs.size:=v4 z5;show wpAny _ _ (Builtin.SmallTypes.ownedTupleHandOut (.ref z) (.ref g5.objs.size) >>= _) _ _ _
 refine vx ?_;unfold Builtin.SmallTypes.ownedTupleHandOut;have z6:IsZip (g5.push { cls:=.type "tuple",data:=.seq #[u,v] }) z ti to .ellipsis:=vT _ z5
 refine vx (wpAny_setField_rec z6 (by simp) fun g7 z7 e7=>?_);replace z7:IsZip g7 z ti to (rawInt g5.objs.size):=z7;refine wpAny_setField_rec z7 (by simp) fun g8 z8 e8=>?_
 replace z8:IsZip g8 z ti to (rawInt g5.objs.size):=z8;have up:∀ b o,b≠z->g5.get? b=some o->g8.get? b=some o:=fun b o b1 e=>e8.extBut _ _ b1 (e7.extBut _ _ b1 (vT _ e))
 have p8:IsPair g8 g5.objs.size u v:=e8.extBut _ _ (yb zlt) (e7.extBut _ _ (yb zlt) (v3 _ rfl));have s8:g8.objs.size=g5.objs.size+1:=by rw [e8.1,e7.1,Heap.size_push]
 rw [sz] at z8 p8 s8;refine vy ⟨_,rfl,?_⟩;show Q (.ref g5.objs.size) _
 rw [sz];have kp8:∀ b o,b≠z->b≠to->b≠i1->b≠i2->s.heap.get? b=some o->g8.get? b=some o:=fun b o b1 b2 b3 b4 e=>up b o b1 (kp b o b1 b2 b3 b4 e)
 exact hQ g8 ⟨D,z8,kp8 _ _ D.TIz D.TITO D.TIi1 D.TIi2 ht,⟨_,_,up _ _ D.TOz o5⟩,ux k15 fun o e=>up _ o D.i1z e,ux k25 fun o e=>up _ o D.i2z e,pA m1 fun o e=>kp8 _ o D.l1z D.l1TO D.l1i1 D.l1i2 e,pA m2 fun o e=>kp8 _ o D.l2z D.l2TO D.l2i1 D.l2i2 e⟩ p8 s8 kp8
def Uq {Q:Fin->Shared->Prop} (hh:A.handled=none) (S:ZAt z ti to i1 i2 l1 l2 .none us vs n1 n2 s.heap) (he:us[n1]?=none\/vs[n2]?=none)
  (hE:∀ g e,(∀ b o,b ≠ z -> b ≠ to -> b ≠ i1 -> b ≠ i2 -> s.heap.get? b=some o -> g.get? b=some o) -> (∃ o,g.get? e=some o /\ o.cls=.type "StopIteration") -> E (.ref e) { s with heap:=g }) :
  wpAny (model prog w) A (Builtin.«zip.__next__» ⟨[.ref z],[]⟩) Q E s:=by
 obtain ⟨D,hz,ht,⟨c,d,ho⟩,k1,k2,m1,m2⟩:=S;show wpAny _ _ (field (.ref z) 2 >>= _) _ _ _
 refine vx (y9 hz rfl (x:=.bool false) rfl ?_);show wpAny _ _ (field (.ref z) 3 >>= _) _ _ _
 refine vx (y9 hz rfl (x:=.ref ti) rfl (vx (wpAny_seqItems ht rfl ?_)));show wpAny _ _ (Builtin.SmallTypes.ownedTupleIsFree (.ref z) >>= _) _ _ _
 refine vx ?_;unfold Builtin.SmallTypes.ownedTupleIsFree;refine vx (y9 hz rfl (x:=.none) rfl (vy ?_));simp only [if_true];refine vx (wpAny_rule (vx (y9 hz rfl (x:=.ref to) rfl (vx (wpAny_setField_rec hz (by simp) fun g1 z1 e1=>?_)))));replace z1:IsZip g1 z ti to .ellipsis:=z1;refine vx ?_;simp only [List.zipIdx_cons,List.zipIdx_nil,List.forIn_cons,List.forIn_nil];refine vx (vx (wpAny_onRaise ?_));show wpAny _ _ (Builtin.SmallTypes.nextOf (.ref i1) >>= _) _ _ _
 cases hx:us[n1]? with
 | none =>
  refine vx (vM hh (k1.extBut e1.extBut D.i1z) (m1.extBut e1.extBut D.l1z) hx fun g2 e e2 q=>?_);obtain ⟨oe,qo,qc⟩:=q;have z2:IsZip g2 z ti to .ellipsis:=e2 _ _ D.i1z.symm z1;have ez:e≠z:=fun x=>by subst x;rw [z2] at qo;cases qo;simp at qc
  exact wpAny_setField_rec z2 (by simp) fun g3 _ e3=>hE g3 e (fun b o b1 _ b3 _ x=>e3.extBut _ _ b1 (e2 _ _ b3 (e1.extBut _ _ b1 x))) ⟨oe,e3.extBut _ _ ez qo,qc⟩
 | some x =>
  have hy:vs[n2]?=none:=by
   rcases he with q | q
   .rw [hx] at q;cases q
   .exact q
  refine vx (nZ (k1.extBut e1.extBut D.i1z) (m1.extBut e1.extBut D.l1z) hx fun g2 k12 e2=>vy ?_);have o2:IsPair g2 to c d:=e2.extBut _ _ D.TOi1 (e1.extBut _ _ D.TOz ho);refine vx (wpAny_seqItems o2 rfl (vx (wpAny_updateSeq_pair o2 fun g3 o3 e3=>?_)));refine vx (wpAny_letGo (vy (vx (vx (wpAny_onRaise ?_)))));show wpAny _ _ (Builtin.SmallTypes.nextOf (.ref i2) >>= _) _ _ _
  refine vx (vM hh (((k2.extBut e1.extBut D.i2z).extBut e2.extBut D.i12.symm).extBut e3.extBut D.TOi2.symm) (((m2.extBut e1.extBut D.l2z).extBut e2.extBut D.l2i1).extBut e3.extBut D.l2TO) hy fun g4 e e4 q=>?_);obtain ⟨oe,qo,qc⟩:=q;have z4:IsZip g4 z ti to .ellipsis:=e4 _ _ D.i2z.symm (e3.extBut _ _ D.TOz.symm (e2.extBut _ _ D.i1z.symm z1));have ez:e≠z:=fun x=>by subst x;rw [z4] at qo;cases qo;simp at qc
  exact wpAny_setField_rec z4 (by simp) fun g5 _ e5=>hE g5 e (fun b o b1 b2 b3 b4 x=>e5.extBut _ _ b1 (e4 _ _ b4 (e3.extBut _ _ b2 (e2.extBut _ _ b3 (e1.extBut _ _ b1 x))))) ⟨oe,e5.extBut _ _ ez qo,qc⟩
def Nk {Q:Option Value->Shared->Prop} (S:ZAt z ti to i1 i2 l1 l2 .none us vs n1 n2 s.heap) (hu:us[n1]?=some u) (hv:vs[n2]?=some v)
  (hQ:∀ g,ZAt z ti to i1 i2 l1 l2 (rawInt s.heap.objs.size) us vs (n1+1) (n2+1) g->IsPair g s.heap.objs.size u v->g.objs.size=s.heap.objs.size+1 ->
   (∀ b o,b≠z->b≠to->b≠i1->b≠i2->s.heap.get? b=some o->g.get? b=some o)->Q (some (.ref s.heap.objs.size)) { s with heap:=g }) :
  wpAny (model prog w) A (pyNext (.ref z)) Q E s:=by
 have ty:s.TypeIs (.ref z) "zip":=⟨_,S.zr,rfl⟩
 unfold pyNext;exact vx (wpAny_attempt (y4 (name:=Str.ofString "__next__") ty F.slot_zip_next (y0 F.slot_zip_next ty F.entry_zip_next (Tn S hu hv fun g q1 q2 q3 q4=>vy (hQ g q1 q2 q3 q4)) (F.args_zip_next_1 _))))
def QD {Q:Option Value->Shared->Prop} (hh:A.handled=none) (S:ZAt z ti to i1 i2 l1 l2 .none us vs n1 n2 s.heap) (he:us[n1]?=none\/vs[n2]?=none)
  (hQ:∀ g,(∀ b o,b≠z->b≠to->b≠i1->b≠i2->s.heap.get? b=some o->g.get? b=some o)->Q none { s with heap:=g }):wpAny (model prog w) A (pyNext (.ref z)) Q E s:=by
 have ty:s.TypeIs (.ref z) "zip":=⟨_,S.zr,rfl⟩
 unfold pyNext;refine vx (wpAny_attempt (y4 (name:=Str.ofString "__next__") ty F.slot_zip_next (y0 F.slot_zip_next ty F.entry_zip_next (Uq hh S he fun g e kp q=>?_) (F.args_zip_next_1 _))))
 obtain ⟨o,qo,qc⟩:=q;exact vx (wpAny_isInstance (T:="StopIteration") (b:=true) ⟨o,qo,qc⟩ isSubtype_stop (vy (hQ _ kp)))
noncomputable abbrev zo (l:Addr):Obj:={ cls:=.type "tuple_iterator",data:=.fields #[.ref l,.int 0 0] }
abbrev zh (h:Heap) (l1 l2:Addr):Heap:=((((h.push (zo l1)).push (zo l2)).push { cls:=.type "tuple",data:=.seq #[.ref h.objs.size,.ref (h.push (zo l1)).objs.size] }).push { cls:=.type "tuple",data:=.seq #[.none,.none] }).push
 { cls:=.type "zip",data:=.fields #[.none,.bool false,.bool false,.ref ((h.push (zo l1)).push (zo l2)).objs.size,.ref (((h.push (zo l1)).push (zo l2)).push { cls:=.type "tuple",data:=.seq #[.ref h.objs.size,.ref (h.push (zo l1)).objs.size] }).objs.size] }
theorem Ws (l1 l2:Addr) (us vs:vj):Meets (Builtin.«zip.__new__» ⟨[.type "zip",.ref l1,.ref l2],[]⟩) (fun _ R s=>s.heap.IsTuple l1 us /\ s.heap.IsTuple l2 vs /\
   R (.ok (.ret (.ref ((((s.heap.push (zo l1)).push (zo l2)).push { cls:=.type "tuple",data:=.seq #[.ref s.heap.objs.size,.ref (s.heap.push (zo l1)).objs.size] }).push { cls:=.type "tuple",data:=.seq #[.none,.none] }).objs.size))) { s with heap:=zh s.heap l1 l2 }) :=
 .of_wp fun prog w A R s h=>by
  obtain ⟨hp,g,d,tk,os⟩:=s;obtain ⟨m1,m2,h⟩:=h;have hsub:=sub_zip;have t1:Heap.IsTuple (Shared.heap ⟨hp,g,d,tk,os⟩) l1 us:=m1;have t2:Heap.IsTuple (Shared.heap ⟨hp.push (zo l1),g,d,tk,os⟩) l2 vs:=pA m2 fun o e=>vT _ e
  wp_walk using wpAny_pyIter_tuple t1,wpAny_pyIter_tuple t2
  exact ⟨_,rfl,h⟩
theorem zap {a b:Nat} (h1:a < n) (h2:b < n):ZipApart (n+4) (n+2) (n+3) n (n+1) a b where
 TIz:=show n+2≠n+4 by omega
 TOz:=show n+3≠n+4 by omega
 i1z:=show n≠n+4 by omega
 i2z:=show n+1≠n+4 by omega
 TITO:=show n+2≠n+3 by omega
 TIi1:=show n+2≠n by omega
 TIi2:=show n+2≠n+1 by omega
 TOi1:=show n+3≠n by omega
 TOi2:=show n+3≠n+1 by omega
 i12:=show n≠n+1 by omega
 l1z:=show a≠n+4 by omega
 l1TO:=show a≠n+3 by omega
 l1i1:=show a≠n by omega
 l1i2:=show a≠n+1 by omega
 l2z:=show b≠n+4 by omega
 l2TO:=show b≠n+3 by omega
 l2i1:=show b≠n by omega
 l2i2:=show b≠n+1 by omega
def Rh (m1:s.heap.IsTuple l1 us) (m2:s.heap.IsTuple l2 vs)
  (h:∀ g,ZAt (s.heap.objs.size+4) (s.heap.objs.size+2) (s.heap.objs.size+3) s.heap.objs.size (s.heap.objs.size+1) l1 l2 .none us vs 0 0 g->g.objs.size=s.heap.objs.size+5 ->
   (∀ b o,s.heap.get? b=some o->g.get? b=some o)->Q (.ref (s.heap.objs.size+4)) { s with heap:=g }) :
  wpAny (model prog w) A (call (.type "zip") [.ref l1,.ref l2]) Q E s:=by
 refine callType_new F.called_zip (by decide) (F.typeCall_zip_2 _ _) (F.newCall_zip_2 _ _) (fun obj=>F.args_object_init_3 obj _ _) F.entry_zip_new (Ws l1 l2 us vs) ⟨m1,m2,?_⟩;have lt1:l1 < s.heap.objs.size:=by obtain ⟨_,e,_⟩:=m1;exact v4 e
 have lt2:l2 < s.heap.objs.size:=by obtain ⟨_,e,_⟩:=m2;exact v4 e
 have a1:(s.heap.push (zo l1)).objs.size=s.heap.objs.size+1:=Heap.size_push ..;have a2:((s.heap.push (zo l1)).push (zo l2)).objs.size=s.heap.objs.size+2:=by rw [Heap.size_push,a1]
 have a3:(((s.heap.push (zo l1)).push (zo l2)).push { cls:=.type "tuple",data:=.seq #[.ref s.heap.objs.size,.ref (s.heap.push (zo l1)).objs.size] }).objs.size=s.heap.objs.size+3:=by rw [Heap.size_push,a2]
 have a4:((((s.heap.push (zo l1)).push (zo l2)).push { cls:=.type "tuple",data:=.seq #[.ref s.heap.objs.size,.ref (s.heap.push (zo l1)).objs.size] }).push { cls:=.type "tuple",data:=.seq #[.none,.none] }).objs.size=s.heap.objs.size+4:=by rw [Heap.size_push,a3]
 have a5:(zh s.heap l1 l2).objs.size=s.heap.objs.size+5:=by rw [Heap.size_push,a4]
 have b5:(zh s.heap l1 l2).get? ((((s.heap.push (zo l1)).push (zo l2)).push { cls:=.type "tuple",data:=.seq #[.ref s.heap.objs.size,.ref (s.heap.push (zo l1)).objs.size] }).push { cls:=.type "tuple",data:=.seq #[.none,.none] }).objs.size=some _:=v3 _ rfl
 have b4:(zh s.heap l1 l2).get? (((s.heap.push (zo l1)).push (zo l2)).push { cls:=.type "tuple",data:=.seq #[.ref s.heap.objs.size,.ref (s.heap.push (zo l1)).objs.size] }).objs.size=some _:=vT _ (v3 _ rfl)
 have b3:(zh s.heap l1 l2).get? ((s.heap.push (zo l1)).push (zo l2)).objs.size=some _:=vT _ (vT _ (v3 _ rfl));have b2:(zh s.heap l1 l2).get? (s.heap.push (zo l1)).objs.size=some _:=vT _ (vT _ (vT _ (v3 _ rfl)));have b1:(zh s.heap l1 l2).get? s.heap.objs.size=some _:=vT _ (vT _ (vT _ (vT _ (v3 _ rfl))));have kp:∀ b o,s.heap.get? b=some o->(zh s.heap l1 l2).get? b=some o:=fun b o x=>vT _ (vT _ (vT _ (vT _ (vT _ x))))
 show _/\_
 rw [a2,a3,a4] at b5;rw [a1,a2] at b3;rw [a3] at b4;rw [a1] at b2;rw [a4];exact ⟨⟨_,b5,rfl⟩,h _ ⟨zap lt1 lt2,b5,b3,⟨_,_,b4⟩,⟨_,b1,rfl,rfl⟩,⟨_,b2,rfl,rfl⟩,pA m1 fun o e=>kp _ o e,pA m2 fun o e=>kp _ o e⟩ a5 kp⟩
end
def Itz (K:zt) (a b:Addr):It :=
 ⟨fun i H=>∃ xs ys x y,SqT K H a xs/\SqT K H b ys/\xs[i]?=some x/\ys[i]?=some y,
  fun i H x H'=>∃ p y1 y2,H p=none/\x=.ref p/\H'=upd H p (.tup [y1,y2])/\(∀ xs,SqT K H a xs->xs[i]?=some y1)/\∀ ys,SqT K H b ys->ys[i]?=some y2,
  fun i H=>∃ xs ys,SqT K H a xs/\SqT K H b ys/\(xs[i]?=none\/ys[i]?=none)⟩
def Z8 (z ti to i1 i2 a b:Addr) (i:Nat) (h:Heap):Prop:=IsZip h z ti to .none/\IsPair h ti (.ref i1) (.ref i2)/\(∃ c d,IsPair h to c d)/\h.IsTupleIter i1 a i/\h.IsTupleIter i2 b i
variable {z ti to i1 i2 a b:Addr}{us:vj}
theorem Lb {i:Nat}{vs:vj} (D:ZipApart z ti to i1 i2 a b) (S:Z8 z ti to i1 i2 a b i h) (m1:h.IsTuple a us) (m2:h.IsTuple b vs):ZAt z ti to i1 i2 a b .none us vs i i h :=
 ⟨D,S.1,S.2.1,S.2.2.1,S.2.2.2.1,S.2.2.2.2,m1,m2⟩
def Uk (h:b∈([z,ti,to,i1,i2]:List Addr)):b=z\/b=ti\/b=to\/b=i1\/b=i2:=by simpa using h
variable {P:Program}{w:World}{K:zt}{els:ve}{x1:Nat}{tpos:Pos}
def QF (D:ZipApart z ti to i1 i2 a b) :
  Turn P w K (.Tuple els x1 tpos) (Itz K a b) [z,ti,to,i1,i2] z (Z8 z ti to i1 i2 a b) where
 mem:=by simp
 obj:=fun i h st q hq=>by
  obtain ⟨r1,r2,⟨c,d,r3⟩,⟨o4,e4,c4,d4⟩,⟨o5,e5,c5,d5⟩⟩:=st;rcases Uk hq with e | e | e | e | e <;> subst e
  .exact ⟨_,r1,fun v x=>by cases x⟩
  .exact ⟨_,r2,fun v x=>by cases x⟩
  .exact ⟨_,r3,fun v x=>by cases x⟩
  .exact ⟨o4,e4,fun v x=>by rw [d4] at x;cases x⟩
  .exact ⟨o5,e5,fun v x=>by rw [d5] at x;cases x⟩
 keep:=fun i h h' st k=>by
  obtain ⟨r1,r2,⟨c,d,r3⟩,r4,r5⟩:=st;exact ⟨k z (by simp) _ r1,k ti (by simp) _ r2,⟨c,d,k to (by simp) _ r3⟩,ux r4 fun o e=>k i1 (by simp) o e,ux r5 fun o e=>k i2 (by simp) o e⟩
 item:=by
  intro X hP hw hK hc i pins s σ H E I hf st hg;subst hP hw hK;obtain ⟨xs,ys,x,y,hqx,hqy,hx,hy⟩:=hg;obtain ⟨us,rx,p1,_⟩:=I.tuple hqx;obtain ⟨vs,ry,p2,_⟩:=I.tuple hqy;obtain ⟨u,hu,ru⟩:=rx.get hx;obtain ⟨v,hv,rv⟩:=ry.get hy;have S:=Lb D st (show s.heap.IsTuple a us.toArray from p1) (show s.heap.IsTuple b vs.toArray from p2);refine Nk S (u:=u) (v:=v) (by simpa using hu) (by simpa using hv) fun g S1 hT hsz kp=>?_
  refine ⟨.ref s.heap.objs.size,rfl,wpAny_letOwnedTupleGo_zip (s:={ s with heap:=g }) S1.zr fun g2 hz2 e2=>?_⟩;have e2':Heap.SameBut z g g2:=e2;have lt:∀ q o,s.heap.get? q=some o->q < s.heap.objs.size:=fun q o e=>v4 e
  have zlt:=lt _ _ st.1;have kp2:∀ q o,q≠z->q≠to->q≠i1->q≠i2->s.heap.get? q=some o->g2.get? q=some o:=fun q o n1 n2 n3 n4 e=>e2'.extBut q o n1 (kp q o n1 n2 n3 n4 e)
  have fz:=hf z (by simp);have fo:=hf to (by simp);have f1:=hf i1 (by simp);have f2:=hf i2 (by simp);have zl:=hf ti (by simp);have hTn:H s.heap.objs.size=none:=I.hok.fresh (v6 _);have nT:∀ q o,s.heap.get? q=some o->q≠s.heap.objs.size:=fun q o e=>ya (v4 e)
  have hTo:g2.get? s.heap.objs.size=some { cls:=.type "tuple",data:=.seq #[u,v] }:=e2'.extBut _ _ (yb zlt) hT
  have nch:∀ q,q ∉ ([z,to,i1,i2]:List Addr)->q≠z/\q≠to/\q≠i1/\q≠i2:=fun q hq=>by simpa using hq
  have I2:Inv X pins σ (upd H s.heap.objs.size (.tup [x,y])) { s with heap:=g2 }:=by
   refine I.step (g':=s.gens) (d':=s.drawn) (t':=s.toks) (ch:=[z,to,i1,i2]) (fun q hq=>?_) (fun q o _ _ hc e _=>kp2 q o (nch q hc).1 (nch q hc).2.1 (nch q hc).2.2.1 (nch q hc).2.2.2 e) (fun q o _ _ hc e _=>⟨o.slots,kp2 q o (nch q hc).1 (nch q hc).2.1 (nch q hc).2.2.1 (nch q hc).2.2.2 e⟩) (fun q o _ e n=>by rw [ao (nT q o e)];exact n)
    (fun q o hc e=>⟨o,kp2 q o (nch q hc).1 (nch q hc).2.1 (nch q hc).2.2.1 (nch q hc).2.2.2 e⟩) (fun q zs e=>by rw [ao (ak e hTn)];exact e) (fun q o u e=>by rw [ao (ak e hTn)];exact e) (fun q ps e=>⟨#[],by rw [ao (ak e hTn),e];simp⟩) (fun m hm=>?_) (fun q u' e=>?_) I.bare
   .have hq':q=z\/q=to\/q=i1\/q=i2:=by simpa using hq
    rcases hq' with e | e | e | e <;> subst e
    .exact ⟨fz.2.2.2.1,fz.2.1,fz.2.2.2.2.1,fz.2.2.2.2.2⟩
    .exact ⟨fo.2.2.2.1,fo.2.1,fo.2.2.2.2.1,fo.2.2.2.2.2⟩
    .exact ⟨f1.2.2.2.1,f1.2.1,f1.2.2.2.2.1,f1.2.2.2.2.2⟩
    .exact ⟨f2.2.2.2.1,f2.2.1,f2.2.2.2.2.1,f2.2.2.2.2.2⟩
   .obtain ⟨o,es,ep,ho,r⟩:=hm;exact ⟨o,es,ep,kp2 _ o (Ne.symm fz.2.1) (Ne.symm fo.2.1) (Ne.symm f1.2.1) (Ne.symm f2.2.1) ho,r⟩
   .by_cases hqT:q=s.heap.objs.size
    .subst hqT;rw [aB] at e;cases e;exact ⟨by show 2<=sizeLine;decide,[u,v],.cons ru (.cons rv .nil),⟨_,hTo,rfl,_,rfl⟩⟩
    .rw [ao hqT] at e;have nb:∀ c v,H c=some v->c≠z/\c≠to/\c≠i1/\c≠i2:=fun c v e=>⟨ak e fz.1,ak e fo.1,ak e f1.1,ak e f2.1⟩
     refine (I.hok q u' e).stay (fun c v hc r=>?_) (fun c r=>by rw [ao (ak r hTn)];exact r) (fun c zs r=>by rw [ao (ak r hTn)];exact r) (fun c _ r _=>by rw [ao (ak r hTn)];exact r);have nc:c≠z/\c≠to/\c≠i1/\c≠i2:=by
      rcases hc with k | k
      .rw [k];exact nb q u' e
      .exact nb c _ k
     exact kp2 c v nc.1 nc.2.1 nc.2.2.1 nc.2.2.2 r
  refine ⟨.ref s.heap.objs.size,_,I2,rfl,⟨s.heap.objs.size,x,y,hTn,rfl,rfl,fun ws hw=>by rw [I.tuple_inj hw hqx];exact hx,fun ws hw=>by rw [I.tuple_inj hw hqy];exact hy⟩,?_,fun q hq=>?_⟩
  .obtain ⟨c,d,ho⟩:=S1.out;exact ⟨hz2,e2'.extBut _ _ D.TIz S1.its,⟨c,d,e2'.extBut _ _ D.TOz ho⟩,S1.one.extBut e2'.extBut D.i1z,S1.two.extBut e2'.extBut D.i2z⟩
  .have hn:∀ {q o},s.heap.get? q=some o->H q=none->upd H s.heap.objs.size (.tup [x,y]) q=none:=fun e n=>by rw [ao (nT _ _ e)];exact n
   obtain ⟨r1,r2,⟨c,d,r3⟩,⟨o4,e4,_⟩,⟨o5,e5,_⟩⟩:=st;rcases Uk hq with e | e | e | e | e <;> subst e
   .exact hn r1 fz.1
   .exact hn r2 zl.1
   .exact hn r3 fo.1
   .exact hn e4 f1.1
   .exact hn e5 f2.1
 done:=by
  intro X hP hw hK hc i pins s σ H E I hf st hg;subst hP hw hK;obtain ⟨xs,ys,hqx,hqy,he⟩:=hg;obtain ⟨us,rx,p1,_⟩:=I.tuple hqx;obtain ⟨vs,ry,p2,_⟩:=I.tuple hqy;have S:=Lb D st (show s.heap.IsTuple a us.toArray from p1) (show s.heap.IsTuple b vs.toArray from p2);have l1:=rx.length;have l2:=ry.length;have he':us.toArray[i]?=none\/vs.toArray[i]?=none:=by
   rcases he with e | e
   .left;rw [List.getElem?_eq_none_iff] at e;simp;omega
   .right;rw [List.getElem?_eq_none_iff] at e;simp;omega
  refine QD (I.ok.hd hc) S he' fun g kp=>⟨rfl,?_⟩
  have fz:=hf z (by simp);have fo:=hf to (by simp);have f1:=hf i1 (by simp);have f2:=hf i2 (by simp);have nch:∀ q,q ∉ ([z,to,i1,i2]:List Addr)->q≠z/\q≠to/\q≠i1/\q≠i2:=fun q hq=>by simpa using hq
  have kc:∀ q o,q ∉ ([z,to,i1,i2]:List Addr)->s.heap.get? q=some o->g.get? q=some o:=fun q o hc e=>kp q o (nch q hc).1 (nch q hc).2.1 (nch q hc).2.2.1 (nch q hc).2.2.2 e
  refine I.step (g':=s.gens) (d':=s.drawn) (t':=s.toks) (ch:=[z,to,i1,i2]) (fun q hq=>?_) (fun q o _ _ hc e _=>kc q o hc e) (fun q o _ _ hc e _=>⟨o.slots,kc q o hc e⟩) (fun _ _ _ _ n=>n) (fun q o hc e=>⟨o,kc q o hc e⟩)
   (fun _ _ e=>e) (fun _ _ _ e=>e) (fun q ps e=>⟨#[],by rw [e];simp⟩) (fun m hm=>?_) (fun q u' e=>?_) I.bare
  .have hq':q=z\/q=to\/q=i1\/q=i2:=by simpa using hq
   rcases hq' with e | e | e | e <;> subst e
   .exact ⟨fz.2.2.2.1,fz.2.1,fz.2.2.2.2.1,fz.2.2.2.2.2⟩
   .exact ⟨fo.2.2.2.1,fo.2.1,fo.2.2.2.2.1,fo.2.2.2.2.2⟩
   .exact ⟨f1.2.2.2.1,f1.2.1,f1.2.2.2.2.1,f1.2.2.2.2.2⟩
   .exact ⟨f2.2.2.2.1,f2.2.1,f2.2.2.2.2.1,f2.2.2.2.2.2⟩
  .obtain ⟨o,es,ep,ho,r⟩:=hm;exact ⟨o,es,ep,kp _ o (Ne.symm fz.2.1) (Ne.symm fo.2.1) (Ne.symm f1.2.1) (Ne.symm f2.2.1) ho,r⟩
  .have nb:∀ c v,H c=some v->c≠z/\c≠to/\c≠i1/\c≠i2:=fun c v e=>⟨ak e fz.1,ak e fo.1,ak e f1.1,ak e f2.1⟩
   refine (I.hok q u' e).stay (fun c v hc r=>?_) (fun c r=>r) fun c zs r=>r
   have nc:c≠z/\c≠to/\c≠i1/\c≠i2:=by
    rcases hc with k | k
    .rw [k];exact nb q u' e
    .exact nb c _ k
   exact kp c v nc.1 nc.2.1 nc.2.2.1 nc.2.2.2 r
 self:=fun _ _ _ _ _ st h=>wpAny_pyIter_zip st.1 h
variable {ta:TA}{p pos:Pos}{tg:Expr}
section
variable {X:Cx}
def boot_zip:bootBuiltins "zip"=some (.type "zip"):=by decide +kernel
def aco (K:zt) (ta:TA):TI:=fun σ H R=>ta σ H fun vs H1=>∃ a xs b ys,vs=[.ref a,.ref b]/\SqT K H1 a xs/\SqT K H1 b ys/\R (Itz K a b) H1
def abd {pins:w4}{σ:St}{H:Hp}{s:Shared}{R:It->Hp->Prop}{xs ys:List V}{E:zn} (I:Inv X pins σ H s) (hx:SqT X.K H a xs) (hy:SqT X.K H b ys) (q:R (Itz X.K a b) H) :
  wpAny (model X.prog X.w) X.A (call (.type "zip") [.ref a,.ref b]) (fun v s1=>wpAny (model X.prog X.w) X.A (pyIter v) (PIE X pins σ (.Tuple els x1 tpos) R) E s1) E s:=by
 obtain ⟨us,rx,p1,_⟩:=I.tuple hx;obtain ⟨vs,ry,p2,_⟩:=I.tuple hy;refine Rh (show s.heap.IsTuple a us.toArray from p1) (show s.heap.IsTuple b vs.toArray from p2) fun g S hsz kp=>?_
 refine wpAny_pyIter_zip (s:={ s with heap:=g }) S.zr ?_;have I1:Inv X pins σ H { s with heap:=g }:=I.kept (t':=s.toks) kp;refine ⟨s.heap.objs.size+4,_,_,_,H,rfl,I1,QF S.ap,⟨S.zr,S.its,S.out,S.one,S.two⟩,fun c hc=>?_,q⟩;have hle:s.heap.objs.size<=c:=by
  rcases Uk hc with e | e | e | e | e <;> subst e
  .exact Nat.le_add_right _ _
  .exact Nat.le_add_right _ _
  .exact Nat.le_add_right _ _
  .exact v6 _
  .exact Nat.le_add_right _ _
 exact I.fpOk hle (I.hok.fresh hle)
def aan {a b:Expr} (hg:Gl X "zip") (hm:X.mg "zip"=none) (ha:PA X [a,b] ta) (hs:starEach [a,b] X.env=[(false,eval a X.env),(false,eval b X.env)]) (hs2:starEach [b] X.env=[(false,eval b X.env)]) :
  PI X (.Tuple els x1 tpos) (.Call (.Name "zip" p) [a,b] [] pos) (aco X.K ta):=by
 intro pins s σ H R I h;refine Call_ (fX I hg hm boot_zip (y6 (thn (ha pos pins s σ H _ I h) fun us s1 ⟨vs,H1,I1,r1,q1⟩=>?_) (by rw [hs,hs2]) (by rw [hs2];rfl)));obtain ⟨c,xs,d,ys,rfl,hx,hy,q⟩:=q1;obtain ⟨u,v,rfl,ru,rv⟩:=vals2 r1;cases ru;cases rv;exact abd I1 hx hy q
def Hq:bootBuiltins "reversed"=some (.type "reversed"):=by decide +kernel
noncomputable def Itv (K:zt) (a:Addr) (n:Nat):It :=
 ⟨fun i H=>∃ xs x,SqL K H a xs/\i < n/\xs[n - 1 - i]?=some x,fun i H x H'=>H'=H/\∀ xs,SqL K H a xs->xs[n - 1 - i]?=some x,fun i _=>i=n⟩
def Wg (a it:Addr) (n:Nat):Turn P w K tg (Itv K a n) [it] it (fun i h=>h.IsRevIter it a ((n:Int) - 1 - (i:Int))) where
 mem:=by simp
 obj:=fun i h st b hb=>by
  obtain ⟨o,e,c,d⟩:=st;rw [List.mem_singleton.mp hb];exact ⟨o,e,fun v z=>by rw [d] at z;cases z⟩
 keep:=fun i h h' st k=>st.at fun o e=>k it (by simp) o e
 item:=by
  intro X hP hw hK hc i pins s σ H E I hf st hg;subst hP hw hK;obtain ⟨xs,x,hq,hi,hx⟩:=hg;obtain ⟨us,rv,p,_⟩:=I.list hq;obtain ⟨u,hu,ru⟩:=rv.get hx;obtain ⟨f0,f1,f2,f3,f4,f5⟩:=hf it (by simp);have e1:(n:Int) - 1 - (i:Int)=((n - 1 - i:Nat):Int):=by omega
  have e2:((n - 1 - i:Nat):Int) - 1=(n:Int) - 1 - ((i+1:Nat):Int):=by omega
  have st1:s.heap.IsRevIter it a ((n - 1 - i:Nat):Int):=e1 ▸ st;refine wpAny_pyNext_rev_item st1 p.isList (x:=u) (by simpa using hu) fun h' st' sb=>?_
  have I1:Inv X pins σ H { s with heap:=h' }:=I.turned (t':=s.toks) (fun b o hb e=>(sb.2 b hb).trans e) f0 f1 f3 f4 f5;have st2:h'.IsRevIter it a ((n:Int) - 1 - ((i+1:Nat):Int)):=e2 ▸ st';obtain ⟨o,e,c,d⟩:=id st';exact ⟨u,rfl,Bd (s:={ s with heap:=h' }) e c d (by decide) ⟨x,H,I1,ru,⟨rfl,fun ys hy=>by rw [I.list_inj hy hq];exact hx⟩,st2,fun b hb=>(hf b hb).1⟩⟩
 done:=by
  intro X hP hw hK hc i pins s σ H E I hf st hg;subst hP hw hK;obtain ⟨f0,f1,f2,f3,f4,f5⟩:=hf it (by simp);have hg':i=n:=hg;subst hg';have st1:s.heap.IsRevIter it a (-1):=(show (i:Int) - 1 - (i:Int)=-1 by omega) ▸ st;exact wpAny_pyNext_rev_end (I.ok.hd hc) st1 fun h' eb=>⟨rfl,I.turned (t':=s.toks) (fun b o hb e=>eb b o hb e) f0 f1 f3 f4 f5⟩
 self:=fun _ _ _ _ _ st h=>wpAny_pyIter_revIter st h
def acM (K:zt) (ta:TA):TI:=fun σ H R=>ta σ H fun vs H1=>∃ a xs,vs=[.ref a]/\SqL K H1 a xs/\R (Itv K a xs.length) H1
def abg {a:Expr} (hg:Gl X "reversed") (hm:X.mg "reversed"=none) (ha:PA X [a] ta) (hs:starEach [a] X.env=[(false,eval a X.env)]):PI X tg (.Call (.Name "reversed" p) [a] [] pos) (acM X.K ta):=by
 intro pins s σ H R I h;refine Call_ (fX I hg hm Hq (y6 (thn (ha pos pins s σ H _ I h) fun us s1 ⟨vs,H1,I1,r1,q1⟩=>?_) hs rfl));obtain ⟨b,xs,rfl,hq,q⟩:=q1;obtain ⟨u,rfl,ru⟩:=vals1 r1;cases ru;obtain ⟨ws,rv,p',_⟩:=I1.list hq;refine call_reversed_list p'.isList ?_;have hl:ws.toArray.size=xs.length:=by have:=rv.length;simp;omega
 have hr:(s1.heap.push (revObj b ((ws.toArray.size:Int) - 1))).IsRevIter s1.heap.objs.size b ((ws.toArray.size:Int) - 1):=⟨_,v3 _ rfl,rfl,rfl⟩;rw [hl] at hr ⊢;refine wpAny_pyIter_revIter hr ?_;have I2:Inv X pins σ H1 { s1 with heap:=s1.heap.push (revObj b ((xs.length:Int) - 1)) }:=I1.kept (t':=s1.toks) fun c o e=>vT _ e
 refine ⟨s1.heap.objs.size,_,_,_,H1,rfl,I2,Wg b s1.heap.objs.size xs.length,?_,fun c hc=>?_,q⟩
 .have e:(xs.length:Int) - 1 - ((0:Nat):Int)=(xs.length:Int) - 1:=by omega
  show Heap.IsRevIter _ _ _ ((xs.length:Int) - 1 - ((0:Nat):Int))
  rw [e];exact hr
 .rw [List.mem_singleton.mp hc];exact I1.fpOk (v6 _) (I1.hok.fresh (v6 _))
end
end Mi
namespace Mi
open PySem L2
open PyProof.Rows hiding St
noncomputable def atV:List (D × Addr × Value)->List V->D->Option V
 | x::xs,y::ys,k=>if x.1=k then some y else atV xs ys k
 | _,_,_=>none
theorem sO {k:D}:∀ {xs:List (D × Addr × Value)}{ys:List V},Vals ys (xs.map (·.2.2))->(∃ v p,atV xs ys k=some v/\atKey xs k=some p/\RelV v p.2)\/(atV xs ys k=none/\atKey xs k=none)
 | [],[],_=>.inr ⟨rfl,rfl⟩
 | [],_::_,h=>by cases h
 | _::_,[],h=>by cases h
 | x::xs,y::ys,h=>by
  cases h with
  | cons r rs =>
   by_cases e:x.1=k
   .refine .inl ⟨y,x.2,if_pos e,?_,r⟩;unfold atKey;rw [List.find?_cons_of_pos (by simpa using e)];rfl
   .have e1:atV (x::xs) (y::ys) k=atV xs ys k:=if_neg e;have e2:atKey (x::xs) k=atKey xs k:=by
     unfold atKey;rw [List.find?_cons_of_neg (by simpa using e)]
    rw [e1,e2];exact sO rs
section
variable {X:Cx}
def Wy (X:Cx):R2:=fun x y H Q=>∃ k a ks xs ys v,Rp (gOf X) H k y/\kOk ks k=true/\x=.ref a/\DictR X H a ks xs ys/\atV xs ys k=some v/\Q v H
def Xm (hu:X.A.units+100 < cLine):IxR X (Wy X):=by
 intro value slice pins s σ H x y v u Q I rx ry h hs;obtain ⟨k,a,ks,xs,ys,z,r1,hk,rfl,d,hv,q⟩:=h;cases rx;obtain ⟨hkb,h1,h2,h3,h4⟩:=dictOf I d hk;obtain ⟨_,_,ds,rfl⟩:=gQ hkb;rw [Rp] at r1;obtain ⟨b,zs,rfl,sq,rs⟩:=id r1;cases ry;have hin:X.A.in1.units=X.A.units+1:=rfl;rcases sO (k:=.tup ds) h3 with ⟨z',p,e1,e2,rp⟩ | ⟨e1,_⟩
 .rw [hv] at e1;cases e1;exact subscriptTail_builtinR (x:=p.2) h4.typeIs slot_dict_getitem.lookup
   (wpAny_getItem_heap (Q:=fun r s'=>r=p.2/\EP X pins σ Q r s') (knd:=gU X.prog X.w) (by show X.A.in1.units+10 < cLine;omega) (xQ I hkb (by rw [Rp];exact ⟨b,zs,rfl,sq,rs⟩)) h4 e2 ⟨rfl,z,H,I.tok _,rp,q⟩) hs
 .rw [hv] at e1;cases e1
def tDg (X:Cx) (td ty tx:TE):TE:=fun σ H Q=>td σ H fun x H1=>∃ a ks xs ys,x=.ref a/\DictR X H1 a ks xs ys/\ty σ H1 fun y H2=>tx σ H2 fun z H3=>∃ k ks xs ys,Rp (gOf X) H3 k y/\kOk ks k=true/\DictR X H3 a ks xs ys/\Q ((atV xs ys k).getD z) H3
def Wi {o e f:Expr}{td ty tx:TE}{apos cpos:Pos} (hu:X.A.units+100 < cLine) (ho:PE X o td) (he:PE X e ty) (hf:PE X f tx) (m:M2 X o "get" apos e f cpos):PE X (.Call (.Attribute o "get" apos) [e,f] [] cpos) (tDg X td ty tx):=by
 intro pins s σ H Q I h;refine wpAny_Call_method m.base m.few m.line PySem.F.plainAttrs_dict PySem.F.slot_dict_get PySem.F.type_dict_get (thn (ho pins s σ H _ I h) fun u s1 ⟨x,H1,I1,rx,a,ks,xs,ys,ex,d,q1⟩=>?_);subst ex;obtain rfl:u=Value.ref a:=rx;obtain ⟨h4,ob,e1,e2⟩:=Hx I1 d;refine ⟨h4,?_,?_⟩
 .intro c ec;cases ec;exact ⟨ob,e1,e2⟩
 rw [m.trees];refine Calls.callWith_builtin rfl (Calls.evalArgs_plain (Calls.spliced_cons (thn (he pins s1 σ H1 _ I1 q1) fun iv s2 ⟨y,H2,I2,ry,q2⟩ =>
  Calls.spliced_cons (thn (hf pins s2 σ H2 _ I2 q2) fun fv s3 ⟨z,H3,I3,rz,k,ks3,xs3,ys3,r1,hk,d3,q3⟩=>Calls.spliced_nil ?_))))
 obtain ⟨hkb,g1,g2,g3,g4⟩:=dictOf I3 d3 hk;obtain ⟨_,_,ds,rfl⟩:=gQ hkb;rw [Rp] at r1;obtain ⟨b,zs,rfl,sq,rs⟩:=id r1;cases ry;have hin:X.A.in1.units=X.A.units+1:=rfl;refine call_meetsIn PySem.F.slot_dict_get g4.typeIs PySem.F.entry_dict_get (PySem.F.args_dict_get_3 _ _ _) (meetsH_dict_get_default (gU X.prog X.w) a b g1 fv) ⟨by show X.A.in1.units+10 < cLine;omega,_,xs3,xQ I3 hkb (by rw [Rp];exact ⟨b,zs,rfl,sq,rs⟩),g4,?_⟩;refine ⟨_,H3,I3.tok _,?_,q3⟩;rcases sO (k:=.tup ds) g3 with ⟨z',p,e1,e2,rp⟩ | ⟨e1,e2⟩
 .rw [e1,e2];exact rp
 .rw [e1,e2];exact rz
end
end Mi
namespace Mi
open PySem L2
open PyProof.Rows hiding St
theorem M6:typeLookup (.type "list_reverseiterator") "__len__"=pure none:=by rw [typeLookup_type,builtinLookup_eq_fast]; kernel_rfl
theorem Wq:typeLookup (.type "list_reverseiterator") "__length_hint__"=pure (some (.builtin "list_reverseiterator.__length_hint__")):=by rw [typeLookup_type,builtinLookup_eq_fast]; kernel_rfl
variable {it l:Addr}{items:vj}
section
variable {prog:Program}{w:World}{A:Around}{E:zn}{s:Shared}
def Wv {Q:Bool->Shared->Prop}{i:Int} (hr:s.heap.IsRevIter it l i) (h:Q false s):wpAny (model prog w) A (Builtin.List.listLengthHint (.ref it)) Q E s:=by
 unfold Builtin.List.listLengthHint;refine vx (wpAny_specialOf hr.typeIs M6 ?_);show wpAny _ _ (specialOf (Value.ref it) (Str.ofString "__length_hint__") >>= _) _ _ _
 refine vx (wpAny_specialOf hr.typeIs Wq ?_);generalize hid:("list_reverseiterator.__length_hint__":String)=id0
 wp_delta
 rw [show splitId id0=some ("list_reverseiterator","__length_hint__") from by subst hid; decide +kernel]
 subst hid;refine vx (wpAny_isInstance (T:="list_reverseiterator") (b:=true) hr.typeIs (by rw [isSubtype_type]; kernel_rfl) ?_)
 refine wpAny_ite_split (fun hab=>absurd hab (by decide)) (fun _=>?_);refine wpAny_ite_split (fun _=>?_) (fun hab=>absurd (by decide +kernel) hab);refine wpAny_ite_split (fun hab=>absurd hab (by decide +kernel)) (fun _=>?_);exact vy h
def Ra {acc:vj} (h:ItemsOf (fun j v=>items[items.size - 1 - j]?=some v) acc items.size):acc.toList=items.toList.reverse:=by
 apply List.ext_getElem?;intro j;by_cases hj:j < items.size
 .have e:acc[j]?=some (acc[j]'(by rw [h.1];exact hj)):=Array.getElem?_eq_getElem _;have q:=h.2 j _ e;rw [List.getElem?_reverse (by simpa using hj)];rw [Array.getElem?_toList,e,Array.getElem?_toList,Array.length_toList];exact q.symm
 .rw [List.getElem?_eq_none (by rw [Array.length_toList,h.1];omega),List.getElem?_eq_none (by rw [List.length_reverse,Array.length_toList];omega)]
def FT {Q:zn} (hh:A.handled=none) (hr:s.heap.IsRevIter it l ((items.size:Int) - 1)) (hl:s.heap.IsList l items) (hlen:items.size<=sizeLine)
  (hQ:∀ g tk acc c,(∀ b o,b ≠ it -> s.heap.get? b=some o -> g.get? b=some o) -> g.get? s.heap.objs.size=some { cls:=.type "list",dict:=none,data:=.seq acc c,slots:=#[] } -> acc.toList=items.toList.reverse -> Q (.ref s.heap.objs.size) { s with heap:=g,toks:=tk }) :
  wpAny (model prog w) A (call (.type "list") [.ref it]) Q E s:=by
 refine callType_codes (Q₁:=fun obj s₁=>obj=.ref s.heap.objs.size /\ s₁={ s with heap:=s.heap.push { cls:=.type "list",data:=.seq #[] } }) PySem.F.called_list (PySem.F.typeCall_list_1 _) PySem.F.entry_list_init (code_list_new _ ⟨rfl,rfl⟩) fun obj s₁ h₁=>?_
 obtain ⟨rfl,rfl⟩:=h₁;have hS:(s.heap.push { cls:=.type "list",data:=.seq #[] }).get? s.heap.objs.size=some { cls:=.type "list",data:=.seq #[] }:=v3 _ rfl
 refine ⟨⟨_,hS,rfl⟩,PySem.F.args_list_init_2 _ _,?_⟩;have ilt:it < s.heap.objs.size:=by obtain ⟨_,e,_⟩:=hr;exact v4 e
 have llt:l < s.heap.objs.size:=by obtain ⟨_,e,_⟩:=hl;exact v4 e
 have lit:l≠it:=fun z=>by
  obtain ⟨o1,e1,c1,_⟩:=hr;obtain ⟨o2,e2,c2,_⟩:=hl;rw [z,e1] at e2;cases e2;rw [c1] at c2;exact absurd c2 (by simp)
 have nS:∀ b,b < s.heap.objs.size->s.heap.objs.size≠b:=fun b hb=>yb hb
 show wpAny _ _ (do let old <- Builtin.List.listItems (.ref s.heap.objs.size);Builtin.List.listUpdate (.ref s.heap.objs.size) (fun _=>#[]);letGo old.toList.reverse;Builtin.List.listExtendWith (.ref s.heap.objs.size) (.ref it) .none) _ _ _
 refine vx ?_;unfold Builtin.List.listItems;refine vx (wpAny_seqItems hS rfl (vy ?_));show wpAny _ _ (updateSeq s.heap.objs.size (fun _=>#[]) >>= fun _=>letGo (#[]:vj).toList.reverse >>= fun _=>Builtin.List.listExtendWith (.ref s.heap.objs.size) (.ref it) .none) _ _ _
 refine vx (wpAny_updateSeq hS rfl ?_);have hS2:=yn (Obj.mapSeq (fun _=>(#[]:vj))) hS rfl;have oth:∀ b o,s.heap.get? b=some o -> ((s.heap.push { cls:=.type "list",data:=.seq #[] }).update s.heap.objs.size (Obj.mapSeq (fun _=>(#[]:vj)))).get? b=some o:=fun b o e=>(ym _ _ (nS b (v4 e))).trans (vT _ e)
 refine vx (wpAny_letGo ?_);have hr2:((s.heap.push { cls:=.type "list",data:=.seq #[] }).update s.heap.objs.size (Obj.mapSeq (fun _=>(#[]:vj)))).IsRevIter it l ((items.size:Int) - 1):=hr.at fun o e=>oth it o e
 have hl2:((s.heap.push { cls:=.type "list",data:=.seq #[] }).update s.heap.objs.size (Obj.mapSeq (fun _=>(#[]:vj)))).IsList l items:=hl.at fun o e=>oth l o e
 unfold Builtin.List.listExtendWith;refine vx (wpAny_typeOf (T:="list_reverseiterator") (hr2.typeIs (s:={ s with heap:=(s.heap.push { cls:=.type "list",data:=.seq #[] }).update s.heap.objs.size (Obj.mapSeq (fun _=>(#[]:vj))) })) ?_)
 have h1:Builtin.List.listSameRef (.ref s.heap.objs.size) (.ref it)=false:=by simp [Builtin.List.listSameRef,nS it ilt]
 have h2:(Value.type "list_reverseiterator" == Value.type "list")=false:=by decide
 have h3:(Value.type "list_reverseiterator" == Value.type "tuple")=false:=by decide
 simp only [h1,h2,h3,Bool.or_false,Bool.false_eq_true,if_false];refine vx (wpAny_pyIter_revIter (s:={ s with heap:=(s.heap.push { cls:=.type "list",data:=.seq #[] }).update s.heap.objs.size (Obj.mapSeq (fun _=>(#[]:vj))) }) hr2 ?_)
 refine vx (wpAny_holding (Wv (s:={ s with heap:=(s.heap.push { cls:=.type "list",data:=.seq #[] }).update s.heap.objs.size (Obj.mapSeq (fun _=>(#[]:vj))) }) hr2 ?_))
 refine wpAny_ite_split (fun hab=>absurd hab (by decide +kernel)) (fun _=>vy ⟨plainId_quiet PySem.F.plain_extend_loop _,?_⟩);have W:=(Walks.listRev (prog:=prog) (w:=w) (A:=A.in1.in1) hh it l lit items).toS;refine codeAny_extend_loopS W hlen s.heap.objs.size (fun hm=>?_) .none items.size 0 _ #[] _ rfl (yf _) ⟨yf _,?_,hl2⟩ hS2 (ItemsOf.nil _) fun s' acc' c' hm hS' hacc=>?_
 .rcases z9.mp hm with z | z
  .exact nS it ilt z
  .exact nS l llt (yv.mp z)
 .have e:(items.size:Int) - 1 - ((0:Nat):Int)=(items.size:Int) - 1:=by omega
  rw [e];exact hr2
 .rw [Moved.eq_with hm];refine ⟨rfl,hQ s'.heap s'.toks acc' c' (fun b o hb e=>hm.heap b o (fun hmem=>?_) (oth b o e)) hS' (Ra hacc)⟩;rcases z9.mp hmem with z | z
  .exact nS b (v4 e) z.symm
  .exact hb (yv.mp z)
end
section
variable {X:Cx}
def tLR (K:zt) (ta:TA):TE:=fun σ H Q=>ta σ H fun vs H1=>∃ a xs,vs=[.ref a]/\SqL K H1 a xs/\∀ S:Addr,H1 S=none->Q (.ref S) (upd H1 S (.lst xs.reverse))
def Om {a:Expr}{ta:TA}{p pos p2 pos2:Pos} (hc:X.calm=true) (hg:Gl X "reversed") (hm:X.mg "reversed"=none) (hgl:Gl X "list") (hml:X.mg "list"=none) (ha:PA X [a] ta) (hs:starEach [a] X.env=[(false,eval a X.env)]) :
  PE X (.Call (.Name "list" p) [.Call (.Name "reversed" p2) [a] [] pos2] [] pos) (tLR X.K ta):=by
 intro pins s σ H Q I h;refine Call_ (fX I hgl hml boot_list (y6 (Calls.spliced_cons ?_) rfl rfl));refine Call_ (fX I hg hm Hq (y6 (thn (ha pos2 pins s σ H _ I h) fun us s1 ⟨vs,H1,I1,r1,q1⟩=>?_) hs rfl));obtain ⟨b,xs,rfl,hq,q⟩:=q1;obtain ⟨u,rfl,ru⟩:=vals1 r1;cases ru;obtain ⟨ws,rv,p',hz⟩:=I1.list hq;have hl:xs.length=ws.length:=rv.length;refine call_reversed_list p'.isList (Calls.spliced_nil ?_);have nit:∀ c o,s1.heap.get? c=some o->(s1.heap.push (revObj b ((ws.toArray.size:Int) - 1))).get? c=some o:=fun c o e=>vT _ e
 refine FT (s:={ s1 with heap:=s1.heap.push (revObj b ((ws.toArray.size:Int) - 1)) }) (it:=s1.heap.objs.size) (l:=b) (items:=ws.toArray) (I1.ok.hd hc) ⟨_,v3 _ rfl,rfl,rfl⟩ (p'.isList.at fun o e=>nit b o e) (by rw [List.size_toArray];omega) fun g tk acc c kp hS hacc=>?_
 have hsz:(s1.heap.push (revObj b ((ws.toArray.size:Int) - 1))).objs.size=s1.heap.objs.size+1:=Heap.size_push ..;have hle:s1.heap.objs.size<=(s1.heap.push (revObj b ((ws.toArray.size:Int) - 1))).objs.size:=by rw [hsz];exact Nat.le_succ _
 have hacc':acc=ws.reverse.toArray:=by
  apply Array.ext';rw [hacc]
 subst hacc';refine ⟨.ref _,_,I1.laid (t':=tk) (o:=.lst xs.reverse) (fun d o e=>kp d o (ya (v4 e)) (nit d o e)) hle ⟨by rw [List.length_reverse];omega,ws.reverse,c,rv.reverse,hS⟩,rfl,q _ (I1.hok.fresh hle)⟩
end
end Mi
namespace Mi
open PySem L2
open PyProof.Rows hiding St
section
variable {prog:Program}{w:World}{knd:HeapKind prog w D}{A:Around}{E:zn}{s:Shared}
def Ss {d a:Addr}{xs:List (D × Addr × Value)}{k:D}{dflt:Value}{Q:zn} (hu:knd.room A) (hkey:knd.is s.heap k a) (hm:s.heap.DictOfH knd d xs)
  (h1:∀ p,atKey xs k=some p->Q p.2 { s with toks:=s.toks+knd.draws k })
  (h2:atKey xs k=none->∀ h',h'.DictOfH knd d (storedH xs k a dflt)->Heap.SameBut d s.heap h'->Q dflt { s with heap:=h',toks:=s.toks+knd.draws k })
  (hsz:xs.length<=sizeLine):wpAny (model prog w) A (dictSetDefault d (.ref a) dflt) Q E s:=by
 obtain ⟨o,es,ep,ho,hc,hd,he,his,hn⟩:=hm;unfold dictSetDefault
 try with_reducible refine wpAny_holding ?_
 refine vx (knd.pyHash hu hkey ?_);refine vx (wpAny_dictFind_heap (s:={ s with toks:=s.toks+knd.draws k }) hu hkey ho hd he his hn ?_ ?_)
 .intro hno;have hnot:k ∉ xs.map (·.1):=not_mem_keys_of_get hno;refine vx (wpAny_rule (vx (wpAny_updateDictKeys (hz:=by have e:=size_of_entries he;omega) (s:={ s with toks:=s.toks+knd.draws k }) ho hd (vy (h2 (atKey_none_of_get hno) _ ⟨_,_,ep+1,yn _ ho (Obj.isFreed_of_dict (Obj.data_mapDictKeys hd _)),
   hc.mapDictKeys _,Obj.data_mapDictKeys hd _,?_,?_,?_⟩ (je ..))))))
  .rw [storedH_new (atKey_none_of_get hno)];simp [he,entryOfKey]
  .rw [storedH_new (atKey_none_of_get hno)];intro x hx;rcases yc.mp hx with hx | hx
   .exact knd.keeps (his x hx) ho hd (je ..)
   .simp only [List.mem_singleton] at hx;subst hx;exact knd.keeps hkey ho hd (je ..)
  .rw [storedH_new (atKey_none_of_get hno)];rw [List.map_append,List.nodup_append];refine ⟨hn,by simp,?_⟩;intro x hx y hy;simp only [List.map_cons,List.map_nil,List.mem_singleton] at hy;subst hy;exact fun e=>hnot (e ▸ hx)
 .intro j p hj;refine vx (jw (s:={ s with toks:=s.toks+knd.draws k }) ho hd ?_);rw [entry_at he j,hj];exact vx (wpAny_rule (vy (h1 p (atKey_of_get hn hj))))
theorem J6 (knd:HeapKind prog w D) (d a:Addr) (hd:(d == sysModules)=false) (dflt:Value) :
  MeetsIn prog w (Builtin.«dict.setdefault» ⟨[.ref d,.ref a,dflt],[]⟩) (fun A R s=>knd.room A.in1/\∃ k xs,knd.is s.heap k a/\s.heap.DictOfH knd d xs/\xs.length<=sizeLine /\
   (∀ p,atKey xs k=some p->R (.ok (.ret p.2)) { s with toks:=s.toks+knd.draws k }) /\
   (atKey xs k=none->∀ h',h'.DictOfH knd d (storedH xs k a dflt)->Heap.SameBut d s.heap h'->R (.ok (.ret dflt)) { s with heap:=h',toks:=s.toks+knd.draws k })) :=
 .of_wp fun A R s ⟨hu,k,xs,hkey,hm,hz,h1,h2⟩=>by
  unfold Builtin.«dict.setdefault»;refine vx ?_;unfold Builtin.Dict.keyAndDefault;refine vx (wpAny_notOrdered_dict hm.typeIs ?_);show wpAny _ _ (pure (d,Value.ref a,some dflt)) _ _ s
  refine vy ?_;show wpAny _ _ (if (d == sysModules)=true then _ else (dictSetDefault d (.ref a) dflt >>= _)) _ _ s
  rw [if_neg (by rw [hd];exact Bool.false_ne_true)];exact vx (Ss hu hkey hm (fun p hp=>vy ⟨p.2,rfl,h1 p hp⟩) (fun hn h' hm' hs'=>vy ⟨dflt,rfl,h2 hn h' hm' hs'⟩) hz)
end
variable {tg:Expr}
section
variable {X:Cx}
def tSd (X:Cx) (td ty tx:TE):TE:=fun σ H Q=>td σ H fun x H1=>∃ a ks xs ys,x=.ref a/\DictR X H1 a ks xs ys/\ty σ H1 fun y H2=>tx σ H2 fun z H3=>∃ k ks xs ys,Rp (gOf X) H3 k y/\kOk ks k=true/\DictR X H3 a ks xs ys/\xs.length < lim /\
 (∀ v,atV xs ys k=some v->Q v H3)/\(atV xs ys k=none->∀ b u ep,y=.ref b->RelV z u->Q z (upd H3 a (.ext (DAt (gOf X) a (xs++[(k,b,u)]) (ys++[z]) ep))))
def X6 {o e f:Expr}{td ty tx:TE}{apos cpos:Pos} (hu:X.A.units+100 < cLine) (ho:PE X o td) (he:PE X e ty) (hf:PE X f tx) (m:M2 X o "setdefault" apos e f cpos):PE X (.Call (.Attribute o "setdefault" apos) [e,f] [] cpos) (tSd X td ty tx):=by
 intro pins s σ H Q I h;refine wpAny_Call_method m.base m.few m.line PySem.F.plainAttrs_dict PySem.F.slot_dict_setdefault PySem.F.type_dict_setdefault (thn (ho pins s σ H _ I h) fun u s1 ⟨x,H1,I1,rx,a,ks,xs,ys,ex,d,q1⟩=>?_);subst ex;obtain rfl:u=Value.ref a:=rx;obtain ⟨h4,ob,e1,e2⟩:=Hx I1 d;refine ⟨h4,?_,?_⟩
 .intro c ec;cases ec;exact ⟨ob,e1,e2⟩
 rw [m.trees];refine Calls.callWith_builtin rfl (Calls.evalArgs_plain (Calls.spliced_cons (thn (he pins s1 σ H1 _ I1 q1) fun iv s2 ⟨y,H2,I2,ry,q2⟩ =>
  Calls.spliced_cons (thn (hf pins s2 σ H2 _ I2 q2) fun fv s3 ⟨z,H3,I3,rz,k,ks3,xs3,ys3,r1,hk,d3,hl,q3,q4⟩=>Calls.spliced_nil ?_))))
 obtain ⟨hkb,g1,g2,g3,g4⟩:=dictOf I3 d3 hk;obtain ⟨_,_,ds,rfl⟩:=gQ hkb;rw [Rp] at r1;obtain ⟨b,zs,rfl,sq,rs⟩:=id r1;cases ry;have hin:X.A.in1.units=X.A.units+1:=rfl;have hlz:=jy;refine call_meetsIn PySem.F.slot_dict_setdefault g4.typeIs PySem.F.entry_dict_setdefault (PySem.F.args_dict_setdefault_3 _ _ _) (J6 (gU X.prog X.w) a b g1 fv)
  ⟨by show X.A.in1.units+10 < cLine;omega,_,xs3,xQ I3 hkb (by rw [Rp];exact ⟨b,zs,rfl,sq,rs⟩),g4,g2,fun p hp=>?_,fun hno h' hm' hs'=>?_⟩
 .rcases sO (k:=.tup ds) g3 with ⟨z',p',e1,e2,rp⟩ | ⟨e1,e2⟩
  .rw [hp] at e2;cases e2;exact ⟨_,H3,I3.tok _,rp,q3 _ e1⟩
  .rw [hp] at e2;cases e2
 .have hv:atV xs3 ys3 (.tup ds)=none:=by
   rcases sO (k:=.tup ds) g3 with ⟨z',p',e1,e2,rp⟩ | ⟨e1,e2⟩
   .rw [hno] at e2;cases e2
   .exact e1
  obtain ⟨o',es',ep',e1,e2,e3,e4,e5,e6⟩:=id hm';rw [storedH_new hno] at e4 e6;refine ⟨_,_,?_,rz,q4 hv b fv ep' rfl rz⟩;have mu:Mut (H3 a):=by obtain ⟨_,dat⟩:=d3.at_;rw [dat];exact trivial
  refine I3.write (x:=a) (e:=a) mu (.inl rfl) (fun c w hc hw=>(hs'.2 c hc).trans hw) ⟨_,e1⟩ ?_;refine ⟨⟨g1,by rw [List.length_append,List.length_singleton];omega,by rw [List.map_append];exact g3.append (.cons rz .nil),o',es',e1,e2,e3,e4,e6⟩,⟨_,e1⟩,fun ha hb p kp=>?_⟩;obtain ⟨p1,p2,p3,o2,es2,q1,q2⟩:=p;exact ⟨p1,p2,p3,o2,es2,kp _ q1,q2⟩
noncomputable def Itk (g:G) (a:Addr) (xs:List (D × Addr × Value)) (ys:List V) (ep:Nat):It :=
 ⟨fun i H=>H a=some (.ext (DAt g a xs ys ep))/\i < xs.length,fun i H x H'=>H'=H/\∃ e,xs[i]?=some e/\x=.ref e.2.1,fun i H=>H a=some (.ext (DAt g a xs ys ep))/\xs.length<=i⟩
def PX {P:Program}{w:World}{K:zt} (a it:Addr) (xs:List (D × Addr × Value)) (ys:List V) (ep:Nat):Turn P w K tg (Itk ⟨P,w,K⟩ a xs ys ep) [it] it (fun i h=>h.IsKeyIter it a i xs.length ep) where
 mem:=by simp
 obj:=fun i h st b hb=>by
  have e:b=it:=by simpa using hb
  subst e;obtain ⟨o,e,c,d⟩:=st;exact ⟨o,e,fun v z=>by rw [d] at z;cases z⟩
 keep:=fun i h h' st k=>st.at fun o e=>k it (by simp) o e
 item:=by
  intro X hP hw hK hc i pins s σ H E I hf st hg;subst hP hw hK;obtain ⟨hq,hx⟩:=hg;obtain ⟨⟨h1,h2,h3,o',es,h4,h5,h6,h7,h8⟩,_⟩:=(show cA X.prog X.w H s.heap a (.ext (DAt (gOf X) a xs ys ep)) from I.hok a _ hq);have hsz:es.size=xs.length:=by rw [<- Array.length_toList,h7,List.length_map]
  obtain ⟨f0,f1,f2,f3,f4,f5⟩:=hf it (by simp);have hi:i < es.size:=by omega
  have ek:es[i].key=.ref xs[i].2.1:=by
   have e:=entry_at h7 i;rw [Array.getElem?_eq_getElem hi,List.getElem?_eq_getElem hx] at e;have e':=ja (e.trans (Option.map_some ..));rw [e'];rfl
  refine JC (es:=es) (ep:=ep) (by rw [hsz];exact st) ⟨o',h4,h5,h6⟩ hi fun h' st' sb=>?_
  have I1:Inv X pins σ H { s with heap:=h' }:=I.turned (t':=s.toks) (fun b o hb e=>(sb.2 b hb).trans e) f0 f1 f3 f4 f5;rw [hsz] at st';obtain ⟨o,e,c,d⟩:=id st';exact ⟨_,rfl,Bd (s:={ s with heap:=h' }) e c d (by decide) ⟨.ref xs[i].2.1,H,I1,by rw [ek];rfl,⟨rfl,xs[i],by simp,rfl⟩,st',fun b hb=>(hf b hb).1⟩⟩
 done:=by
  intro X hP hw hK hc i pins s σ H E I hf st hg;subst hP hw hK;obtain ⟨hq,hx⟩:=hg;obtain ⟨⟨h1,h2,h3,o',es,h4,h5,h6,h7,h8⟩,_⟩:=(show cA X.prog X.w H s.heap a (.ext (DAt (gOf X) a xs ys ep)) from I.hok a _ hq);have hsz:es.size=xs.length:=by rw [<- Array.length_toList,h7,List.length_map]
  obtain ⟨f0,f1,f2,f3,f4,f5⟩:=hf it (by simp);exact Mj (es:=es) (ep:=ep) (I.ok.hd hc) (by rw [hsz];exact st) ⟨o',h4,h5,h6⟩ (by omega) fun h' eb=>⟨rfl,I.turned (t':=s.toks) (fun b o hb e=>eb b o hb e) f0 f1 f3 f4 f5⟩
 self:=fun _ _ _ _ _ st h=>wpAny_pyIter_keyiter st h
def acF (X:Cx) (tl:TE):TI:=fun σ H R=>tl σ H fun x H1=>∃ a xs ys ep,x=.ref a/\H1 a=some (.ext (DAt (gOf X) a xs ys ep))/\R (Itk (gOf X) a xs ys ep) H1
def aam {l:Expr}{tl:TE} (hl:PE X l tl):PI X tg l (acF X tl):=by
 intro pins s σ H R I h;refine thn (hl pins s σ H _ I h) fun v s1 ⟨x,H1,I1,r1,q1⟩=>?_
 obtain ⟨a,xs,ys,ep,e,hq,q⟩:=q1;subst e;cases r1;obtain ⟨⟨h1,h2,h3,o',es,h4,h5,h6,h7,h8⟩,_⟩:=(show cA X.prog X.w H1 s1.heap a (.ext (DAt (gOf X) a xs ys ep)) from I1.hok a _ hq);have hsz:es.size=xs.length:=by rw [<- Array.length_toList,h7,List.length_map]
 refine Iw h1 ⟨o',h4,h5,h6⟩ ?_;refine ⟨s1.heap.objs.size,[s1.heap.objs.size],_,_,H1,rfl,I1.kept (t':=s1.toks) fun b o e=>vT _ e,PX a _ xs ys ep,⟨_,v3 _ rfl,rfl,by rw [hsz];rfl⟩,fun b hb=>?_,q⟩;have e:b=s1.heap.objs.size:=by simpa using hb
 subst e;exact I1.fpOk (v6 _) (I1.hok.fresh (v6 _))
end
end Mi
set_option maxHeartbeats 400000
namespace Mi
open PySem L2
open PyProof.Rows hiding St
theorem jd {α β:Type} (f:α->β):∀ (l:List α) (j:Nat),(l.map f).eraseIdx j=(l.eraseIdx j).map f
 | [],_=>rfl
 | _::_,0=>rfl
 | a::l,j+1=>by rw [List.map_cons,List.eraseIdx_cons_succ,List.eraseIdx_cons_succ,List.map_cons,jd f l j]
section
variable {prog:Program}{w:World}{knd:HeapKind prog w D}{A:Around}{E:zn}{s:Shared}
def Rx {d a:Addr}{xs:List (D × Addr × Value)}{k:D}{Q:Option DictEntry->Shared->Prop} (hu:knd.room A) (hkey:knd.is s.heap k a) (hm:s.heap.DictOfH knd d xs)
  (h1:k ∉ xs.map (·.1)->Q none { s with toks:=s.toks+knd.draws k })
  (h2:∀ (j:Nat) (p:Addr × Value),xs[j]?=some (k,p)->∀ e:DictEntry,e.val=p.2->∀ h',h'.DictOfH knd d (xs.eraseIdx j)->Heap.SameBut d s.heap h'->Q (some e) { s with heap:=h',toks:=s.toks+knd.draws k })
  (hsz:xs.length<=sizeLine):wpAny (model prog w) A (Builtin.Dict.takeOut d (.ref a)) Q E s:=by
 obtain ⟨o,es,ep,ho,hc,hd,he,his,hn⟩:=hm;unfold Builtin.Dict.takeOut
 try with_reducible refine wpAny_holding ?_
 refine vx (knd.pyHash hu hkey ?_);refine vx (wpAny_dictFind_heap (s:={ s with toks:=s.toks+knd.draws k }) hu hkey ho hd he his hn ?_ ?_)
 .intro hno;exact vy (h1 (not_mem_keys_of_get hno))
 .intro j p hj;refine vx (jw (s:={ s with toks:=s.toks+knd.draws k }) ho hd ?_);rw [entry_at he j,hj];refine vx (wpAny_updateDictKeys (hz:=by have e:=size_of_entries he;omega) (s:={ s with toks:=s.toks+knd.draws k }) ho hd (vy (h2 j p hj _ rfl _ ⟨_,_,ep+1,yn _ ho (Obj.isFreed_of_dict (Obj.data_mapDictKeys hd _)),hc.mapDictKeys _,Obj.data_mapDictKeys hd _,?_,?_,?_⟩ (je ..))))
  .have e1:(es.eraseIdxIfInBounds j).toList=es.toList.eraseIdx j:=by obtain ⟨l⟩:=es;simp
   rw [e1,he,jd]
  .intro x hx;exact knd.keeps (his x (List.mem_of_mem_eraseIdx hx)) ho hd (je ..)
  .exact hn.sublist ((List.eraseIdx_sublist xs j).map _)
def Np (knd:HeapKind prog w D) (d a:Addr) (hd:(d == sysModules)=false) (dflt:Value) :
  MeetsIn prog w (Builtin.«dict.pop» ⟨[.ref d,.ref a,dflt],[]⟩) (fun A R s=>knd.room A.in1/\∃ k xs,knd.is s.heap k a/\s.heap.DictOfH knd d xs/\xs.length<=sizeLine /\
   (∀ (j:Nat) (p:Addr × Value),xs[j]?=some (k,p)->∀ h',h'.DictOfH knd d (xs.eraseIdx j)->Heap.SameBut d s.heap h'->R (.ok (.ret p.2)) { s with heap:=h',toks:=s.toks+knd.draws k }) /\
   (k ∉ xs.map (·.1)->∀ tk,R (.ok (.ret dflt)) { s with toks:=tk })) :=
 .of_wp fun A R s ⟨hu,k,xs,hkey,hm,hz,h1,h2⟩=>by
  obtain ⟨o,es,ep,ho,hc,hdat,he,his,hn⟩:=id hm;unfold Builtin.«dict.pop»;refine vx ?_;unfold Builtin.Dict.keyAndDefault;refine vx (wpAny_notOrdered_dict hm.typeIs ?_);show wpAny _ _ (pure (d,Value.ref a,some dflt)) _ _ s
  refine vy ?_;have hp:(keyPart (Value.ref a)).isSome=false:=rfl;simp only [hp,Bool.false_eq_true,if_false];refine vx (jw ho hdat (vx (vy ?_)));cases hE:es.isEmpty with
  | true =>
   have hno:k ∉ xs.map (·.1):=by
    have e0:es=#[]:=by simpa using hE
    rw [e0] at he;have:xs=[]:=by cases xs with | nil=>rfl | cons _ _=>simp at he
    rw [this];simp
   simp only [if_true];refine vx (wpAny_rule (vx (vy ?_)));simp only [Option.isNone_none,if_true];refine vx (wpAny_missedRemoval_other hd ?_);exact vx (wpAny_rule (vy ⟨dflt,rfl,h2 hno s.toks⟩))
  | false =>
   simp only [Bool.false_eq_true,if_false];refine vx (Rx hu hkey hm (fun hno=>?_) (fun j p hj e ev h' hm' hs'=>?_) hz)
   .simp only [Option.isNone_none,if_true];refine vx (wpAny_missedRemoval_other hd ?_);exact vx (wpAny_rule (vy ⟨dflt,rfl,h2 hno _⟩))
   .simp only [Option.isNone_some,Bool.false_eq_true,if_false];exact vx (wpAny_letGo (vy ⟨e.val,rfl,by rw [ev];exact h1 j p hj h' hm' hs'⟩))
end
variable {e:Expr}{te:TE}{j:Nat}{pos:Pos}
section
variable {X:Cx}
def tDp (X:Cx) (td ty tx:TE):TE:=fun σ H Q=>td σ H fun x H1=>∃ a ks xs ys,x=.ref a/\DictR X H1 a ks xs ys/\ty σ H1 fun y H2=>tx σ H2 fun z H3=>∃ k ks xs ys,Rp (gOf X) H3 k y/\kOk ks k=true/\DictR X H3 a ks xs ys /\
 (∀ (j:Nat) v,(xs.map (·.1)).Nodup->(xs.map (·.1))[j]?=some k->ys[j]?=some v->∀ ep,Q v (upd H3 a (.ext (DAt (gOf X) a (xs.eraseIdx j) (ys.eraseIdx j) ep))))/\(k ∉ xs.map (·.1)->Q z H3)
def Vo {o f:Expr}{td ty tx:TE}{apos cpos:Pos} (hu:X.A.units+100 < cLine) (ho:PE X o td) (he:PE X e ty) (hf:PE X f tx) (m:M2 X o "pop" apos e f cpos):PE X (.Call (.Attribute o "pop" apos) [e,f] [] cpos) (tDp X td ty tx):=by
 intro pins s σ H Q I h;refine wpAny_Call_method m.base m.few m.line PySem.F.plainAttrs_dict PySem.F.slot_dict_pop PySem.F.type_dict_pop (thn (ho pins s σ H _ I h) fun u s1 ⟨x,H1,I1,rx,a,ks,xs,ys,ex,d,q1⟩=>?_);subst ex;obtain rfl:u=Value.ref a:=rx;obtain ⟨h4,ob,e1,e2⟩:=Hx I1 d;refine ⟨h4,?_,?_⟩
 .intro c ec;cases ec;exact ⟨ob,e1,e2⟩
 rw [m.trees];refine Calls.callWith_builtin rfl (Calls.evalArgs_plain (Calls.spliced_cons (thn (he pins s1 σ H1 _ I1 q1) fun iv s2 ⟨y,H2,I2,ry,q2⟩ =>
  Calls.spliced_cons (thn (hf pins s2 σ H2 _ I2 q2) fun fv s3 ⟨z,H3,I3,rz,k,ks3,xs3,ys3,r1,hk,d3,q3,q4⟩=>Calls.spliced_nil ?_))))
 obtain ⟨hkb,g1,g2,g3,g4⟩:=dictOf I3 d3 hk;obtain ⟨_,_,ds,rfl⟩:=gQ hkb;rw [Rp] at r1;obtain ⟨b,zs,rfl,sq,rs⟩:=id r1;cases ry;have hin:X.A.in1.units=X.A.units+1:=rfl;refine call_meetsIn PySem.F.slot_dict_pop g4.typeIs PySem.F.entry_dict_pop (PySem.F.args_dict_pop_3 _ _ _) (Np (gU X.prog X.w) a b g1 fv)
  ⟨by show X.A.in1.units+10 < cLine;omega,_,xs3,xQ I3 hkb (by rw [Rp];exact ⟨b,zs,rfl,sq,rs⟩),g4,g2,fun j p hj h' hm' hs'=>?_,fun hno tk=>⟨_,H3,I3.tok _,rz,q4 hno⟩⟩
 obtain ⟨o',es',ep',e1,e2,e3,e4,e5,e6⟩:=id hm';have hjl:j < xs3.length:=(vV.mp hj).1;have hl3:=g3.length;rw [List.length_map] at hl3;obtain ⟨w,hw⟩:∃ w,ys3[j]?=some w:=⟨ys3[j]'(by omega),List.getElem?_eq_getElem _⟩;obtain ⟨u,hu',ru⟩:=g3.get hw;rw [List.getElem?_map,hj] at hu';cases hu';refine ⟨w,_,?_,ru,q3 j w (by obtain ⟨_,_,_,_,_,_,_,_,hn⟩:=g4;exact hn) (by rw [List.getElem?_map,hj];rfl) hw ep'⟩;have mu:Mut (H3 a):=by obtain ⟨_,dat⟩:=d3.at_;rw [dat];exact trivial
 refine I3.write (x:=a) (e:=a) mu (.inl rfl) (fun c w hc hw=>(hs'.2 c hc).trans hw) ⟨_,e1⟩ ?_;refine ⟨⟨g1,ye (Fo xs3 j) g2,by rw [<- jd];exact g3.eraseIdx j,o',es',e1,e2,e3,e4,e6⟩,⟨_,e1⟩,fun ha hb p kp=>?_⟩;obtain ⟨p1,p2,p3,o2,es2,q1,q2⟩:=p;exact ⟨p1,p2,p3,o2,es2,kp _ q1,q2⟩
def aaS (K:zt):V->List V->Hp->VK->Prop:=fun x vs H Q=>∃ (l:Addr) (ns:List Int) (k:Int) (j:Nat),x=.ref l/\vs=[.int k]/\SqL K H l (ns.map V.int)/\ns.findIdx? (fun a=>decide (a=k))=some j/\Q (.int j) H
noncomputable def isV (k:Int):Value->Bool
 | .int a _=>a == k
 | _=>false
def V0:MtM X "list.index" (aaS X.K):=by
 intro pins s σ H x vs v us Q I rx rv h;obtain ⟨l,ns,k,j,rfl,rfl,hl,hj,q⟩:=h;cases rx;obtain ⟨u,rfl,ru⟩:=rv.one;obtain ⟨t,rfl⟩:=ru;obtain ⟨its,r,pl,hz⟩:=I.list hl;obtain ⟨⟨cls,dd,data,sl⟩,ho,hc,n,hd⟩:=pl.isList;simp only at hc hd;subst hc hd;have hlen:=r.length;rw [List.length_map] at hlen hz;have at_:∀ (i:Nat) (hi:i < ns.length),∃ t',its[i]?=some (.int ns[i] t'):=fun i hi=>by
  obtain ⟨u,hu,ru⟩:=r.get (i:=i) (x:=.int ns[i]) (by rw [List.getElem?_map,List.getElem?_eq_getElem hi];rfl);obtain ⟨t',rfl⟩:=ru;exact ⟨t',hu⟩
 have isAt:∀ (i:Nat) (hi:i < its.toArray.size),isV k its.toArray[i]=decide (ns[i]'(by rw [hlen];simpa using hi)=k):=fun i hi=>by
  obtain ⟨t',e⟩:=at_ i (by rw [hlen];simpa using hi);have:its.toArray[i]=.int (ns[i]'(by rw [hlen];simpa using hi)) t':=by
   have:=(vV.mp e).2;simpa using this
  rw [this];show ((ns[i]'_) == k)=_
  rw [Bool.eq_iff_iff];simp
 obtain ⟨hjl,hj1,hj2⟩:=List.findIdx?_eq_some_iff_getElem.mp hj;have hjs:j < its.toArray.size:=by rw [List.size_toArray,<- hlen];exact hjl
 have hn:=tu;refine call_meets F.slot_list_index ⟨_,ho,rfl⟩ F.entry_list_index (F.args_list_index_2 _ _) (SeqAt.list_indexAt l its.toArray n dd sl (.int k t) (isV k) j hjs (by omega) (by rw [isAt j hjs];exact hj1) (fun m hm hmj=>?_)) ⟨ho,fun y hy=>?_,?_⟩
 .rw [isAt m hm];have:=hj2 m hmj;simpa using this
 .obtain ⟨i,hi,rfl⟩:=Array.getElem_of_mem hy;obtain ⟨t',e⟩:=at_ i (by rw [hlen];simpa using hi);have e2:its.toArray[i]=.int (ns[i]'(by rw [hlen];simpa using hi)) t':=by
   have:=(vV.mp e).2;simpa using this
  rw [e2];exact ZF (y:=.int _) (x:=.int k) ⟨t',rfl⟩ ⟨t,rfl⟩ rfl rfl
 .exact ⟨.int j,H,I.tok _,⟨_,rfl⟩,q⟩
def acC (X:Cx) (te:TE):TE:=fun σ H Q=>te σ H fun x H1=>∃ a xs,x=.ref a/\SqL X.K H1 a xs/\∀ p,H1 p=none->Q (.ref p) (upd H1 p (.lst xs.reverse))
def abe {p1 p2 p3:Pos} (he:PE X e te):PE X (.Subscript e (.Slice none none (some (.UnaryOp .USub (.Constant (.int 1) j p1) p2)) p3) pos) (acC X te):=by
 intro pins s σ H Q I h;refine Subscript_ (thn (he pins s σ H _ I h) fun v s1 ⟨x,H1,I1,r1,q1⟩=>?_);obtain ⟨a,xs,rfl,hx,q⟩:=q1;cases r1;refine wpAny_Slice ?_;rw [evalPart_none];refine vy (vy ?_);refine thn (LQ (X:=X) (W4 QV Ti) pins s1 σ H1 (fun o H'=>o=some (-1)/\H'=H1) I1 ⟨_,rfl,_,rfl,rfl,rfl⟩) fun vk s3 ⟨o,H3,I3,pk,eo,eh⟩=>?_
 subst eo eh;have I4:Inv X pins σ H3 { s3 with heap:=s3.heap.push { cls:=.type "slice",data:=.fields #[.none,.none,vk] } }:=I3.kept (t':=s3.toks) fun b ob q=>vT _ q
 obtain ⟨its,r,ht,hz⟩:=I4.list hx;have hlen:=r.length;show wpAny (model X.prog X.w) X.A (subscriptTail e (.Slice none none _ p3) (.ref a) (.ref s3.heap.objs.size)) (EP X pins σ Q) X.xe { s3 with heap:=s3.heap.push { cls:=.type "slice",data:=.fields #[.none,.none,vk] } }
 refine tail_any (ops:=[.ref a,.ref s3.heap.objs.size]) ht.isList.typeIs slot_list_getitem.lookup ?_ (by with_unfolding_all rfl);refine wpAny_getItem_list_slice ht.isList (Heap.IsSliceOf.new ..) .none .none pk (by decide) ?_ (by rw [List.size_toArray] <;> omega);rw [PySem.W.krv_pick];exact ⟨.ref _,_,I4.laid (o:=.lst xs.reverse) (fun b ob q=>vT _ q) (v6 _) ⟨by rw [List.length_reverse];exact hz,_,0,r.reverse,v3 _ rfl⟩,rfl,q _ (I4.hok.fresh (v6 _))⟩
def Bq (hc:X.calm=true):gD X (.type "list") (fun vs H Q=>∃ a ks xs ys,vs=[.ref a] /\ DictR X H a ks xs ys /\ ∀ S,H S=none -> Q (.ref S) (upd H S (.lst (xs.map fun x=>V.ref x.2.1)))):=by
 intro pins s σ H vs us Q I rv h;obtain ⟨a,ks,xs,ys,rfl,d,q⟩:=h;obtain ⟨u,rfl,ru⟩:=vals1 rv;obtain rfl:u=Value.ref a:=ru;obtain ⟨ep,dat⟩:=d.at_;obtain ⟨⟨h1,h2,h3,o',es,h4,h5,h6,h7,h8⟩,_⟩:=(show cA X.prog X.w H s.heap a (.ext (DAt (gOf X) a xs ys ep)) from I.hok a _ dat);have hsz:es.size=xs.length:=by rw [<- Array.length_toList,h7,List.length_map]
 refine PySem.W.kdl_call (MN (ep:=ep) (es:=es) h1) (I.ok.hd hc) ⟨o',h4,h5,h6⟩ (by omega) fun h' tk acc c kp hS hacc=>?_
 have hv:Vals (xs.map fun x=>V.ref x.2.1) acc.toList:=by
  have key:∀ (l:List (D × Addr × Value)) (us:zw),l.length=us.length->(∀ (j:Nat) u,us[j]?=some u->∃ x,l[j]?=some x/\u=.ref x.2.1)->Vals (l.map fun x=>V.ref x.2.1) us:=by
   intro l;induction l with
   | nil=>intro us hl _;cases us with | nil=>exact .nil | cons _ _=>simp at hl
   | cons x l ih =>
    intro us hl hj;cases us with
    | nil=>simp at hl
    | cons u us =>
     obtain ⟨y,ey,eu⟩:=hj 0 u rfl;simp at ey;subst ey;subst eu;exact .cons rfl (ih us (by simpa using hl) fun j w hw=>by simpa using hj (j+1) w (by simpa using hw))
  refine key xs acc.toList (by have e:=hacc.1;simp only [Array.length_toList];omega) fun j u hu=>?_
  obtain ⟨hj,eu⟩:=hacc.2 j u (by rw [<- Array.getElem?_toList];exact hu);have hjx:j < xs.length:=by omega
  refine ⟨xs[j],by simp [hjx],?_⟩;rw [eu];have e:=entry_at h7 j;rw [Array.getElem?_eq_getElem hj,List.getElem?_eq_getElem hjx] at e;have e':=ja (e.trans (Option.map_some ..));rw [e'];rfl
 have hlen:=hv.length;refine ⟨.ref _,_,I.laid (t':=tk) (o:=.lst (xs.map fun x=>V.ref x.2.1)) (fun d o e=>kp d o e) (v6 _) ⟨by rw [List.length_map];omega,acc.toList,c,hv,by simpa using hS⟩,rfl,q _ (I.hok.fresh (v6 _))⟩
end
theorem Ri (a v:Value):argsOk "max" ⟨[a],[(Str.ofString "default",v)]⟩:=by unfold argsOk; kernel_rfl
variable {its:zw}{ns:List Int}{s:Shared}{Q:Value -> Shared -> Prop}
section
variable {prog:Program}{w:World}{A:Around}{E:zn}{R:Result->Shared->Prop}{I l S:Addr}{kw:List (Str × Value)}
def Za (hh:A.handled=none) (hlI:l≠I) (hSI:S≠I) (hSl:S≠l)  (hv:Vals (ns.map V.int) its) :
  ∀ (r j:Nat) (s:Shared) (b:Int) (tb:Tok) (c:Nat),ns.length - j=r->j<=ns.length->s.heap.IsListIter I l j->s.heap.IsList l its.toArray ->
  s.heap.get? S=some { cls:=.type "list",dict:=none,data:=.seq #[.int b tb,.int b tb] c,slots:=#[] } ->
  (∀ t h' tk,(∀ x o,x≠I->x≠S->s.heap.get? x=some o->h'.get? x=some o)->R (.ok (.ret (.int (mxI b (ns.drop j)) t))) { s with heap:=h',toks:=tk }) ->
  codeAny (model prog w) A (.builtin "max.loop" ⟨[.ref I,.none,.ref S],kw⟩) R s:=by
 have hname:(toString "max" ++ toString ".loop":String)="max.loop":=by decide
 have W:=Walks.list (prog:=prog) (w:=w) (A:=A.in1) hh I l hlI its.toArray;have hlen:=hv.length;rw [List.length_map] at hlen;have hsz:its.toArray.size=ns.length:=by rw [List.size_toArray];exact hlen.symm
 intro r;induction r with
 | zero =>
  intro j s b tb c hr hj hi hl hS hR;have hjn:j=ns.length:=by omega
  refine codeAny_builtin PySem.F.entry_max_loop ?_;rw [Around.under_plainId PySem.F.plain_max_loop _];show wpAny _ A.in1 (seqItems? (.ref S) >>= _) _ _ s
  refine vx (wpAny_seqItems hS rfl ?_);show wpAny _ A.in1 (tryCatch (pyNext (.ref I)) _ >>= _) _ _ s
  refine vx (wpAny_tryCatch (W.done s _ _ ⟨by rw [hsz,<- hjn];exact hi,hl⟩ fun h' tk hk'=>?_));have hS':=hk' S _ (by simpa using hSI) hS;show wpAny _ A.in1 (updateSeq S (fun _=>#[]) >>= _) _ _ _
  refine vx (wpAny_updateSeq hS' rfl (vx (wpAny_letGo (vy ?_))));have:=hR tb (h'.update S (Obj.mapSeq fun _=>#[])) tk fun x o hx1 hx2 e=>(ym _ _ (Ne.symm hx2)).trans (hk' x o (by simpa using hx1) e)
  rw [hjn,List.drop_length] at this;exact this
 | succ r ih =>
  intro j s b tb c hr hj hi hl hS hR;have hlt:j < ns.length:=by omega
  refine codeAny_builtin PySem.F.entry_max_loop ?_;rw [Around.under_plainId PySem.F.plain_max_loop _];show wpAny _ A.in1 (seqItems? (.ref S) >>= _) _ _ s
  refine vx (wpAny_seqItems hS rfl ?_);show wpAny _ A.in1 (tryCatch (pyNext (.ref I)) _ >>= _) _ _ s
  refine vx (wpAny_tryCatch (W.item j s _ _ (by rw [hsz];exact hlt) ⟨hi,hl⟩ fun v h' tk hP hst' hk'=>?_));have hS':=hk' S _ (by simpa using hSI) hS;obtain ⟨u,hu,ru⟩:=hv.get (i:=j) (x:=.int ns[j]) (by rw [List.getElem?_map,List.getElem?_eq_getElem hlt];rfl);obtain ⟨t2,rfl⟩:=ru;have ev:v=.int ns[j] t2:=by
   have h1:its[j]?=some v:=by simpa using hP
   rw [hu] at h1;exact (ja h1).symm
  subst ev;have hdr:ns.drop j=ns[j]::ns.drop (j+1):=List.drop_eq_getElem_cons hlt;rw [hdr] at hR;show wpAny _ A.in1 (tryCatch (holding [.int ns[j] t2,.int ns[j] t2] (richCompare .Gt (.int ns[j] t2) (.int b tb) >>= _)) _ >>= _) _ _ _
  refine vx (wpAny_tryCatch (wpAny_holding (vx (CmpOf.ints_gt (prog:=prog) (w:=w) (A:=A.in1) (P:=fun i v=>∃ t,v=.int (if i=0 then ns[j] else b) t) (fun i=>if i=0 then ns[j] else b) (fun i v h=>h) 0 1 _ _ _ _ _ ⟨t2,rfl⟩ ⟨tb,rfl⟩ ?_))));refine vx (wpAny_holding (y8 ?_));refine vx (wpAny_letGo (vy ?_));show wpAny _ A.in1 (if decide (ns[j] > b)=true then _ else _) _ _ _
  by_cases hb:b < ns[j]
  .rw [if_pos (by simpa using hb)];have hR':∀ t h' tk,(∀ x o,x≠I->x≠S->s.heap.get? x=some o->h'.get? x=some o)->R (.ok (.ret (.int (mxI ns[j] (ns.drop (j+1))) t))) { s with heap:=h',toks:=tk }:=fun t h2 tk2 k2=>by
    have:=hR t h2 tk2 k2;rw [mxI,if_pos hb] at this;exact this
   refine vx ?_;refine wpAny_updateSeq hS' rfl (vx (wpAny_letGo ?_));rw [hname];refine vy ⟨plainId_quiet PySem.F.plain_max_loop _,ih (j+1) _ ns[j] t2 _ (by omega) hlt ?_ ?_ (yn _ hS' rfl) fun t h2 tk2 k2=>hR' t h2 tk2 fun x o hx1 hx2 e=>k2 x o hx1 hx2 ((ym _ _ (Ne.symm hx2)).trans (hk' x o (by simpa using hx1) e))⟩
   .exact hst'.1.at fun o e=>(ym _ _ hSI).trans e
   .exact hst'.2.at fun o e=>(ym _ _ hSl).trans e
  .rw [if_neg (by simpa using hb)];have hR':∀ t h' tk,(∀ x o,x≠I->x≠S->s.heap.get? x=some o->h'.get? x=some o)->R (.ok (.ret (.int (mxI b (ns.drop (j+1))) t))) { s with heap:=h',toks:=tk }:=fun t h2 tk2 k2=>by
    have:=hR t h2 tk2 k2;rw [mxI,if_neg hb] at this;exact this
   refine vx (wpAny_letGo ?_);rw [hname];exact vy ⟨plainId_quiet PySem.F.plain_max_loop _,ih (j+1) _ b tb c (by omega) hlt hst'.1 hst'.2 hS' fun t h2 tk2 k2=>hR' t h2 tk2 fun x o hx1 hx2 e=>k2 x o hx1 hx2 (hk' x o (by simpa using hx1) e)⟩
def Mt (hkw:kw=[] \/ ∃ d,kw=[(Str.ofString "default",d)]) (hl:s.heap.IsList l its.toArray)
  (h:∀ I S h₂,l ≠ I -> S ≠ I -> S ≠ l -> (∀ b o,s.heap.get? b=some o -> h₂.get? b=some o /\ b ≠ I /\ b ≠ S) -> h₂.IsListIter I l 0 -> h₂.IsList l its.toArray -> h₂.get? S=some { cls:=.type "list",dict:=none,data:=.seq #[] 0,slots:=#[] } ->
   codeAny (model prog w) A (.builtin "max.loop" ⟨[.ref I,.none,.ref S],kw⟩) (fun r s'=>match r with | .ok (.ret v)=>Q v s' | .ok _=>False | .error e=>E e s') { s with heap:=h₂ }) :
  wpAny (model prog w) A (call (.builtin "max") [.ref l] kw) Q E s:=by
 have hname:(toString "max" ++ toString ".loop":String)="max.loop":=by decide
 have hargs:argsOk "max" ⟨[.ref l],kw⟩:=by
  rcases hkw with rfl | ⟨d,rfl⟩
  .exact PySem.F.args_max1 _
  .exact Ri _ _
 refine kmk_tree PySem.F.kind_max PySem.F.plain_max PySem.F.entry_max hargs ?_;have hb:∃ dv:Option Value,Builtin.Builtins.bindParams "max" ["key","default"] 0 ⟨[],kw⟩=pure [none,dv] /\ (dv.toList.map fun d=>(Str.ofString "default",d))=kw:=by
  rcases hkw with rfl | ⟨d,rfl⟩
  .exact ⟨none,rfl,rfl⟩
  .exact ⟨some d,rfl,rfl⟩
 obtain ⟨dv,hb,hk⟩:=hb;show wpAny _ A.in1 (Builtin.Builtins.bindParams "max" ["key","default"] 0 ⟨[],kw⟩ >>= _) _ _ s
 refine vx (wpAny_of_eq hb ?_);refine vx (vy ?_);refine vx (wpAny_pyIter_list hl ?_);refine vx (wpAny_newList ?_ (yf _));rw [hname];have e0:(dv.toList.map fun d=>(("default":Str),d))=kw:=hk
 have hll:l < s.heap.objs.size:=by obtain ⟨_,e,_⟩:=hl;exact v4 e
 have hS:(s.heap.push { cls:=.type "list_iterator",data:=.fields #[.ref l,.int 0 0] }).objs.size=s.heap.objs.size+1:=Heap.size_push ..
 have:=h s.heap.objs.size (s.heap.push { cls:=.type "list_iterator",data:=.fields #[.ref l,.int 0 0] }).objs.size ((s.heap.push { cls:=.type "list_iterator",data:=.fields #[.ref l,.int 0 0] }).push { cls:=.type "list",dict:=none,data:=.seq #[] 0,slots:=#[] })
  (ya hll) (by rw [hS];exact yb (jM _)) (by rw [hS];exact yb (Nat.lt_succ_of_lt hll)) (fun b o e=>⟨vT _ (vT _ e),ya (v4 e),by rw [hS];exact ya (Nat.lt_succ_of_lt (v4 e))⟩)
  (by exact ⟨_,vT _ (v3 _ rfl),rfl,rfl⟩) ((hl.push _).push _) (v3 _ rfl)
 rw [<- e0] at this;exact vy ⟨plainId_quiet PySem.F.plain_max_loop _,this⟩
def Ln {n:Int} (hh:A.handled=none) (hkw:kw=[] \/ ∃ d,kw=[(Str.ofString "default",d)]) (hl:s.heap.IsList l its.toArray) (hv:Vals ((n::ns).map V.int) its)
  (h:∀ t h' tk,(∀ b o,s.heap.get? b=some o->h'.get? b=some o)->Q (.int (mxI n ns) t) { s with heap:=h',toks:=tk }) :
  wpAny (model prog w) A (call (.builtin "max") [.ref l] kw) Q E s:=by
 refine Mt hkw hl fun I S h₂ hlI hSI hSl kp hi hl2 hS=>?_
 have hname:(toString "max" ++ toString ".loop":String)="max.loop":=by decide
 have W:=Walks.list (prog:=prog) (w:=w) (A:=A.in1) hh I l hlI its.toArray;have hlen:=hv.length;rw [List.length_map,List.length_cons] at hlen;refine codeAny_builtin PySem.F.entry_max_loop ?_;rw [Around.under_plainId PySem.F.plain_max_loop _];show wpAny _ A.in1 (seqItems? (.ref S) >>= _) _ _ _
 refine vx (wpAny_seqItems hS rfl ?_);show wpAny _ A.in1 (tryCatch (pyNext (.ref I)) _ >>= _) _ _ _
 refine vx (wpAny_tryCatch (W.item 0 _ _ _ (by rw [List.size_toArray];omega) ⟨hi,hl2⟩ fun v h' tk hP hst' hk'=>?_));have hS':=hk' S _ (by simpa using hSI) hS;obtain ⟨u,hu,ru⟩:=hv.get (i:=0) (x:=.int n) rfl;obtain ⟨t2,rfl⟩:=ru;have ev:v=.int n t2:=by
  have h1:its[0]?=some v:=by simpa using hP
  rw [hu] at h1;exact (ja h1).symm
 subst ev;show wpAny _ A.in1 (updateSeq S (fun _=>#[.int n t2,.int n t2]) >>= _) _ _ _
 refine vx (wpAny_updateSeq hS' rfl ?_);rw [hname];refine vy ⟨plainId_quiet PySem.F.plain_max_loop _,Za hh hlI hSI hSl hv _ 1 _ n t2 _ rfl (by rw [List.length_cons];omega) ?_ ?_ (yn _ hS' rfl) fun t h3 tk3 k3=>?_⟩
 .exact hst'.1.at fun o e=>(ym _ _ hSI).trans e
 .exact hst'.2.at fun o e=>(ym _ _ hSl).trans e
 .exact h t h3 tk3 fun b o e=>k3 b o (kp b o e).2.1 (kp b o e).2.2 ((ym _ _ (Ne.symm (kp b o e).2.2)).trans (hk' b o (by simpa using (kp b o e).2.1) (kp b o e).1))
def YG {Q:zn}{d:Value} (hh:A.handled=none) (hl:s.heap.IsList l ([]:zw).toArray) (h:∀ h' tk,(∀ b o,s.heap.get? b=some o->h'.get? b=some o)->Q d { s with heap:=h',toks:=tk }) :
  wpAny (model prog w) A (call (.builtin "max") [.ref l] [(Str.ofString "default",d)]) Q E s:=by
 refine Mt (.inr ⟨d,rfl⟩) hl fun I S h₂ hlI hSI hSl kp hi hl2 hS=>?_
 have W:=Walks.list (prog:=prog) (w:=w) (A:=A.in1) hh I l hlI ([]:zw).toArray;refine codeAny_builtin PySem.F.entry_max_loop ?_;rw [Around.under_plainId PySem.F.plain_max_loop _];show wpAny _ A.in1 (seqItems? (.ref S) >>= _) _ _ _
 refine vx (wpAny_seqItems hS rfl ?_);show wpAny _ A.in1 (tryCatch (pyNext (.ref I)) _ >>= _) _ _ _
 refine vx (wpAny_tryCatch (W.done _ _ _ ⟨hi,hl2⟩ fun h' tk hk'=>?_));show wpAny _ A.in1 (rule _ >>= _) _ _ _
 exact vx (wpAny_rule (vy (h h' tk fun b o e=>hk' b o (by simpa using (kp b o e).2.1) (kp b o e).1)))
end
section
variable {X:Cx}
def Tr (hc:X.calm=true):gD X (.builtin "max") (fun vs H Q=>∃ (a:Addr) (n:Int) (ns:List Int),vs=[.ref a] /\ SqL X.K H a ((n::ns).map V.int) /\ Q (.int (mxI n ns)) H):=by
 intro pins s σ H vs us Q I rv h;obtain ⟨a,n,ns,rfl,hx,q⟩:=h;obtain ⟨u,rfl,ru⟩:=vals1 rv;obtain rfl:u=Value.ref a:=ru;obtain ⟨its,r,pl,hz⟩:=I.list hx;exact Ln (I.ok.hd hc) (.inl rfl) pl.isList r fun t h' tk kp=>⟨.int (mxI n ns),H,I.kept kp,⟨t,rfl⟩,q⟩
def acO (X:Cx) (k:Int):List V->Hp->VK->Prop:=fun vs H Q=>∃ (a:Addr) (ns:List Int),vs=[.ref a]/\SqL X.K H a (ns.map V.int)/\Q (.int (match ns with | []=>k | n::l=>mxI n l)) H
def Xx:bootBuiltins "max"=some (.builtin "max"):=by decide +kernel
def Yq {k:Int}{p q r:Pos} (hc:X.calm=true) (hg:Gl X "max") (hm:X.mg "max"=none) (he:PE X e te) (hn:starEach [e] X.env=(false,eval e X.env)::starEach [] X.env) :
  PE X (.Call (.Name "max" p) [e] [⟨some "default",.Constant (.int k) j q,r⟩] pos) (tCB (acO X k) (Oj te Ox)):=by
 intro pins s σ H Q I h;refine wpAny_Call_Name_kw (fX I hg hm Xx ?_ (by decide) (by decide));refine PyProof.Rows.callWith_kw ?_ (by rw [hn];rfl) (by rw [hn];rfl) rfl rfl;refine thn (dD he gH hn pos pins s σ H _ I h) fun us s1 ⟨vs,H1,I1,r1,a,ns,e1,hx,q⟩=>?_
 subst e1;obtain ⟨u,rfl,ru⟩:=vals1 r1;obtain rfl:u=Value.ref a:=ru;refine PyProof.Rows.kws_cons (wpAny_Constant_int (PyProof.Rows.kws_nil ?_));obtain ⟨its,rr,pl,hz⟩:=(I1.tok (s1.toks+1)).list hx;cases ns with
 | nil =>
  have e0:its=[]:=by
   have:=rr.length;cases its with | nil=>rfl | cons _ _=>simp at this
  subst e0;exact YG (I1.ok.hd hc) pl.isList fun h' tk kp=>⟨.int k,H1,(I1.tok (s1.toks+1)).kept kp,⟨_,rfl⟩,q⟩
 | cons n ns=>exact Ln (I1.ok.hd hc) (.inr ⟨_,rfl⟩) pl.isList rr fun t h' tk kp=>⟨.int (mxI n ns),H1,(I1.tok (s1.toks+1)).kept kp,⟨t,rfl⟩,q⟩
end
end Mi
namespace PySem
open Builtin
end PySem
namespace HT
open PySem PyProof.Rows
end HT
namespace L2
open PySem PySem.Spec PyProof.Rows
end L2
set_option maxHeartbeats 1000000
namespace Mi
open PySem L2
inductive M where
 | var (i:Nat) | con (d:D)
 | tup (es:List M) | lst (es:List M) | dct0
 | bin (op:BO) (a b:M) | cmp (op:CO) (a b:M) | chain (p q:CO) (a b c:M)
 | and (es:List M) | or (es:List M) | not (a:M) | neg (a:M)
 | ix (a b:M) | slc (a lo hi:M)
 | dget (a k d:M) | maxd (a:M) (k:Int) | idx (i:Nat) (e:M) | rev (a:M)
 | call (f:Nat) (es:List M) | blt (f:BI) (es:List M) | isin (a:M) (t:Ty)
 | comp (elt:M) (tg:Tg) (k:IK) (src:List M) (hc:Bool) (c:M) (cap:List Bool)
noncomputable def bO:D->R Bool
 | .bl b=>.ok b
 | _=>.stuck
noncomputable def Zw:M->Bool
 | .comp ..=>true
 | _=>false
def vP (c:M):D->R Bool
 | .bl b=>.ok b
 | .lst ds=>if Zw c=true then .ok (!ds.isEmpty) else .stuck
 | _=>.stuck
noncomputable def lU:D->R (Option Int)
 | .int i=>.ok (some i)
 | _=>.stuck
noncomputable def dh:M->Bool
 | .con .non=>true
 | _=>false
noncomputable def cutD (ds:List D) (lo hi:Option Int):List D:=(ds.drop (HT.sIx ds.length 0 lo)).take (HT.sIx ds.length ds.length hi - HT.sIx ds.length 0 lo)
def slD (d:D) (lo hi:Option Int):R D:=match d with
 | .lst ds=>.ok (.lst (cutD ds lo hi))
 | _=>.stuck
noncomputable def uY:D->R D
 | .lst ds=>.ok (.int ds.length)
 | .tup ds=>.ok (.int ds.length)
 | _=>.stuck
def jh (d:D):R D:=do
 let ds <- Gz d
 if mR ds then .ok (.lst (iT ds)) else .stuck
def xq:D->R D
 | .lst ds=>(match intsOf ds with | some (i::is)=>.ok (.int (mxI i is)) | _=>.stuck)
 | _=>.stuck
def GD (k:Int):D->R D
 | .lst []=>.ok (.int k)
 | d=>xq d
def O9:D->D->R D
 | .lst ds,.int k=>(match intsOf ds with
   | some is=>(match is.findIdx? (fun a=>decide (a=k)) with | some j=>.ok (.int j) | none=>.stuck)
   | none=>.stuck)
 | _,_=>.stuck
noncomputable def Og:D->R D
 | .lst ds=>.ok (.lst ds.reverse)
 | _=>.stuck
def fO:BI->List D->R D
 | .len,[d]=>uY d
 | .min2,[.int a,.int b]=>.ok (.int (if b < a then b else a))
 | .all,[.lst ds]=>(match boolsOf ds with | some bs=>.ok (.bl (bs.all id)) | none=>.stuck)
 | .any,[.lst ds]=>(match boolsOf ds with | some bs=>.ok (.bl (bs.any id)) | none=>.stuck)
 | .sorted,[d]=>jh d
 | .list,[.lst ds]=>.ok (.lst ds)
 | .list,[.tup ds]=>.ok (.lst ds)
 | .list,[.dct ks _]=>.ok (.lst ks)
 | .tuple,[.lst ds]=>.ok (.tup ds)
 | .tuple,[.tup ds]=>.ok (.tup ds)
 | .listEnum,[.tup ds]=>.ok (.lst (aQ 0 ds))
 | .listRev,[.lst ds]=>.ok (.lst ds.reverse)
 | .maxl,[d]=>xq d
 | _,_=>.stuck
def ud:D->D->D->R D
 | .dct ks vs,k,z=>if kOk ks k then .ok ((cY ks vs k).getD z) else .stuck
 | _,_,_=>.stuck
noncomputable def dj:Tg->D->En->R En
 | .one i,d,ρ=>.ok (ρ.set i (some d))
 | .two i j,.tup [a,b],ρ=>.ok ((ρ.set i (some a)).set j (some b))
 | _,_,_=>.stuck
noncomputable def gK (f:D->R (Option D)):List D->R (List D)
 | []=>.ok []
 | d::ds=>do
  let y <- f d
  let ys <- gK f ds
  .ok (match y with | some y=>y::ys | none=>ys)
noncomputable def bF (ρ:En) (i:Nat):R D:=match ρ[i]? with | some (some d)=>.ok d | _=>.stuck
mutual
noncomputable def evE (cl:Nat->List D->R D):M->En->R D
 | .var i,ρ=>bF ρ i
 | .con d,_=>.ok d
 | .tup es,ρ=>do let ds <- cu cl es ρ;if ds.length<=lim then .ok (.tup ds) else .stuck
 | .lst es,ρ=>do let ds <- cu cl es ρ;if ds.length<=lim then .ok (.lst ds) else .stuck
 | .dct0,_=>.ok (.dct [] [])
 | .bin op a b,ρ=>do let x <- evE cl a ρ;let y <- evE cl b ρ;jO op x y
 | .cmp op a b,ρ=>do let x <- evE cl a ρ;let y <- evE cl b ρ;let r <- bV op x y;.ok (.bl r)
 | .chain p q a b c,ρ=>do
  let x <- evE cl a ρ
  let y <- evE cl b ρ
  let r <- bV p x y
  if r then do let z <- evE cl c ρ;let r2 <- bV q y z;.ok (.bl r2) else .ok (.bl false)
 | .and es,ρ=>jj cl es ρ
 | .or es,ρ=>lq cl es ρ
 | .not a,ρ=>do let x <- evE cl a ρ;let t <- bO x;.ok (.bl (!t))
 | .neg a,ρ=>do let x <- evE cl a ρ;(match x with | .int i=>.ok (.int (-i)) | _=>.stuck)
 | .ix a b,ρ=>do let x <- evE cl a ρ;let y <- evE cl b ρ;ixD x y
 | .slc a lo hi,ρ=>do
  let x <- evE cl a ρ
  let l <- (if dh lo then .ok none else (do let d <- evE cl lo ρ;lU d))
  let h <- (if dh hi then .ok none else (do let d <- evE cl hi ρ;lU d))
  slD x l h
 | .dget a k d,ρ=>do let x <- evE cl a ρ;let y <- evE cl k ρ;let z <- evE cl d ρ;ud x y z
 | .maxd a k,ρ=>do let x <- evE cl a ρ;GD k x
 | .idx i e,ρ=>do let x <- bF ρ i;let y <- evE cl e ρ;O9 x y
 | .rev a,ρ=>do let x <- evE cl a ρ;Og x
 | .call f es,ρ=>do let ds <- cu cl es ρ;cl f ds
 | .blt f es,ρ=>do let ds <- cu cl es ρ;fO f ds
 | .isin a t,ρ=>do let x <- evE cl a ρ;.ok (.bl (kO x t))
 | .comp elt tg k src hc c cap,ρ=>do
  let ss <- cu cl src ρ
  let items <- itemsOf k ss
  let ys <- gK (fun d=>do
   let ρ' <- dj tg d (bx cap ρ)
   let t <- (if hc then (do let x <- evE cl c ρ';bO x) else .ok true)
   if t then do let y <- evE cl elt ρ';.ok (some y) else .ok none) items
  if ys.length<=lim then .ok (.lst ys) else .stuck
noncomputable def cu (cl:Nat->List D->R D):List M->En->R (List D)
 | [],_=>.ok []
 | e::es,ρ=>do let d <- evE cl e ρ;let ds <- cu cl es ρ;.ok (d::ds)
noncomputable def jj (cl:Nat->List D->R D):List M->En->R D
 | [],_=>.stuck
 | [e],ρ=>do let x <- evE cl e ρ;let t <- bO x;.ok (.bl t)
 | e::e'::es,ρ=>do let x <- evE cl e ρ;let t <- bO x;if t then jj cl (e'::es) ρ else .ok (.bl false)
noncomputable def lq (cl:Nat->List D->R D):List M->En->R D
 | [],_=>.stuck
 | [e],ρ=>do let x <- evE cl e ρ;let t <- bO x;.ok (.bl t)
 | e::e'::es,ρ=>do let x <- evE cl e ρ;let t <- bO x;if t then .ok (.bl true) else lq cl (e'::es) ρ
end
inductive GS where
 | sda (k v:M) | forr (t:Tg) (k:IK) (src:List M) (b:GS)
noncomputable def aK:Tg->zz
 | .one i=>[i]
 | .two i j=>[i,j]
def tgG:GS->zz
 | .sda _ _=>[]
 | .forr t _ _ b=>aK t++tgG b
noncomputable def fM:En->zz->En
 | ρ,[]=>ρ
 | ρ,i::U=>fM (ρ.set i none) U
inductive MS where
 | set (t:Tg) (e:M) | app (i:Nat) (e:M) | ext (i:Nat) (e:M)
 | expr (e:M) | ret (e:M) | ifs (c:M) (a b:List MS) | forr (t:Tg) (k:IK) (src:List M) (b:List MS)
 | rai
 | chk (j:Nat) (e:M)
 | grp (i:Nat) (g:GS)
 | dpop (t i:Nat) (k:M) | lset (i:Nat) (k v:M) | whl (c:M) (b:List MS) | call2 (i j f:Nat) (e:M)
 | retO (i:Nat) | setF (i f:Nat) (es:List M) | setB (t:Tg) (e:M) | setC (i:Nat) (e:M)
inductive Out where
 | nx (ρ:En) | rt (d:D) | ro (d:D)
noncomputable def aN:En->En->En
 | a::as,b::bs=>(if a.isSome then b else none)::aN as bs
 | [],bs=>bs.map fun _=>none
 | _,[]=>[]
def jo (f:D->En->R Out) (ρ₀:En):List D->En->R Out
 | [],ρ=>.ok (.nx ρ)
 | d::ds,ρ=>do
  let o <- f d ρ
  match o with
  | .nx ρ'=>jo f ρ₀ ds (aN ρ₀ ρ')
  | o=>.ok o
def tW (c:En->R Bool) (f:En->R Out) (ρ₀:En):Nat->En->R Out
 | 0,_=>.stuck
 | n+1,ρ=>do
  let t <- c ρ
  if t then do
   let o <- f ρ
   match o with
   | .nx ρ'=>tW c f ρ₀ n (aN ρ₀ ρ')
   | o=>.ok o
  else .ok (.nx ρ)
noncomputable def wfu:Nat:=1000
def yQ:D->D->R D
 | .lst ds,d=>if ds.length < lim then .ok (.lst (ds++[d])) else .stuck
 | _,_=>.stuck
def Ib:D->D->R D
 | .lst ds,.lst es=>if ds.length+es.length<=lim then .ok (.lst (ds++es)) else .stuck
 | _,_=>.stuck
def putD:D->D->D->R D
 | .dct ks vs,k,v=>if kOk ks k/\ks.length < lim/\ks.length=vs.length then .ok (.dct (iY ks vs k v).1 (iY ks vs k v).2) else .stuck
 | _,_,_=>.stuck
mutual
noncomputable def lfD:D->Bool
 | .tup ds=>yZ ds
 | .lst _=>false
 | .dct _ _=>false
 | _=>true
noncomputable def yZ:List D->Bool
 | []=>true
 | d::ds=>lfD d && yZ ds
end
def lfL:D->Bool
 | .lst ds=>yZ ds
 | _=>false
mutual
noncomputable def ndD:D->Bool
 | .tup ds=>iu ds
 | .lst ds=>iu ds
 | .dct _ _=>false
 | _=>true
noncomputable def iu:List D->Bool
 | []=>true
 | d::ds=>ndD d && iu ds
end
def ndC:D->Bool
 | .dct ks vs=>iu ks && iu vs
 | _=>false
def Gs:D->D->R (D × D)
 | .dct ks vs,k=>if kOk ks k/\ks.length=vs.length then (match ks.findIdx? (fun c=>decide (c=k)) with
   | some j=>(match vs[j]? with | some v=>.ok (v,.dct (ks.eraseIdx j) (vs.eraseIdx j)) | none=>.stuck)
   | none=>.ok (.lst [],.dct ks vs)) else .stuck
 | _,_=>.stuck
def tQ:D->D->D->R D
 | .lst ds,.int k,v=>(match ixN ds.length k with | some j=>if lfD v then .ok (.lst (ds.set j v)) else .stuck | none=>.stuck)
 | .dct ks vs,k,v=>if lfD v && lfD k then putD (.dct ks vs) k v else .stuck
 | _,_,_=>.stuck
noncomputable def Dm:D->R (D × D)
 | .tup [a,b]=>.ok (a,b)
 | _=>.stuck
noncomputable def T6 (ρ:En):D->R Out
 | .bl true=>.ok (.nx ρ)
 | _=>.stuck
def zm:D->D->D->R D
 | .dct ks vs,k,v=>if kOk ks k/\ks.length < lim/\ks.length=vs.length then (match cY ks vs k with
   | some (.lst l)=>if l.length < lim then .ok (.dct (iY ks vs k (.lst (l++[v]))).1 (iY ks vs k (.lst (l++[v]))).2) else .stuck
   | some _=>.stuck
   | none=>.ok (.dct (ks++[k]) (vs++[.lst [v]]))) else .stuck
 | _,_,_=>.stuck
noncomputable def nD (f:D->D->R D):List D->D->R D
 | [],d=>.ok d
 | x::xs,d=>do let d' <- f x d;nD f xs d'
def lF (cl:Nat->List D->R D):GS->En->D->R D
 | .sda k v,ρ,d=>do let kk <- evE cl k ρ;let vv <- evE cl v ρ;zm d kk vv
 | .forr t ik src b,ρ,d=>do
  let ss <- cu cl src ρ
  let items <- itemsOf ik ss
  nD (fun x d=>do let ρ1 <- dj t x (fM ρ (aK t++tgG b));lF cl b ρ1 d) items d
noncomputable def Ju:D->R Unit
 | .dct [] []=>.ok ()
 | _=>.stuck
mutual
noncomputable def bA (cl:Nat->List D->R D):MS->En->R Out
 | .set t e,ρ=>do let d <- evE cl e ρ;let ρ' <- dj t d ρ;.ok (.nx ρ')
 | .app i e,ρ=>do let l <- bF ρ i;let d <- evE cl e ρ;let l' <- yQ l d;.ok (.nx (ρ.set i (some l')))
 | .ext i e,ρ=>do let l <- bF ρ i;let d <- evE cl e ρ;let l' <- Ib l d;.ok (.nx (ρ.set i (some l')))
 | .expr e,ρ=>do let _ <- evE cl e ρ;.ok (.nx ρ)
 | .ret e,ρ=>do let d <- evE cl e ρ;.ok (.rt d)
 | .ifs c a b,ρ=>do
  let x <- evE cl c ρ
  let t <- vP c x
  if t then bZ cl a ρ else bZ cl b ρ
 | .forr t k src b,ρ=>do
  let ss <- cu cl src ρ
  let items <- itemsOf k ss
  jo (fun d ρ=>do let ρ1 <- dj t d ρ;bZ cl b ρ1) ρ items ρ
 | .dpop t i k,ρ=>do
  let d <- bF ρ i
  let kk <- evE cl k ρ
  let r <- Gs d kk
  .ok (.nx ((ρ.set i (some r.2)).set t (some r.1)))
 | .lset i k v,ρ=>do
  let vv <- evE cl v ρ
  let d <- bF ρ i
  let kk <- evE cl k ρ
  let d' <- tQ d kk vv
  .ok (.nx (ρ.set i (some d')))
 | .whl c b,ρ=>tW (fun ρ=>do let x <- evE cl c ρ;bO x) (fun ρ=>bZ cl b ρ) ρ wfu ρ
 | .call2 i j f e,ρ=>do
  let d <- evE cl e ρ
  let a <- bF ρ i
  let b <- bF ρ j
  let r <- cl (1000+f) (if i=j then [d,a] else [d,a,b])
  let r <- Dm r
  .ok (.nx ((ρ.set i (some r.1)).set j (some r.2)))
 | .retO i,ρ=>do let d <- bF ρ i;.ok (.ro d)
 | .setF i f es,ρ=>do let ds <- cu cl es ρ;let d <- cl (2000+f) ds;if ndC d then .ok (.nx (ρ.set i (some d))) else .stuck
 | .setB t e,ρ=>do let d <- evE cl e ρ;if lfD d then (do let ρ' <- dj t d ρ;.ok (.nx ρ')) else .stuck
 | .setC i e,ρ=>do let d <- evE cl e ρ;if lfL d then .ok (.nx (ρ.set i (some d))) else .stuck
 | .grp i g,ρ=>do
  let d <- bF ρ i
  let _ <- Ju d
  let d' <- lF cl g (fM ρ (i::tgG g)) d
  .ok (.nx ((fM ρ (i::tgG g)).set i (some d')))
 | .rai,ρ=>.stuck
 | .chk _ e,ρ=>do let d <- evE cl e ρ;let r <- cl 5000 [d];T6 ρ r
noncomputable def bZ (cl:Nat->List D->R D):List MS->En->R Out
 | [],ρ=>.ok (.nx ρ)
 | m::ms,ρ=>do
  let o <- bA cl m ρ
  match o with
  | .nx ρ'=>bZ cl ms ρ'
  | o=>.ok o
end
mutual
noncomputable def aC:M->zz
 | .var i=>[i]
 | .con _=>[]
 | .tup es=>aV es
 | .lst es=>aV es
 | .dct0=>[]
 | .bin _ a b=>aC a++aC b
 | .cmp _ a b=>aC a++aC b
 | .chain _ _ a b c=>aC a++(aC b++aC c)
 | .and es=>aV es
 | .or es=>aV es
 | .not a=>aC a
 | .neg a=>aC a
 | .ix a b=>aC a++aC b
 | .slc a b c=>aC a++(aC b++aC c)
 | .dget a b c=>aC a++(aC b++aC c)
 | .maxd a _=>aC a
 | .idx i e=>i::aC e
 | .rev a=>aC a
 | .call _ es=>aV es
 | .blt _ es=>aV es
 | .isin a _=>aC a
 | .comp elt _ _ src _ c _=>aV src++(aC c++aC elt)
noncomputable def aV:List M->zz
 | []=>[]
 | e::es=>aC e++aV es
end
noncomputable def without (O U:zz):zz:=O.filter fun i=>!U.contains i
noncomputable def Rg:M->Bool
 | .lst _=>true
 | .blt .list _=>true
 | .dct0=>true
 | _=>false
abbrev Ow:=Option (zz)
noncomputable def jD:Ow->Ow->Ow
 | none,b=>b
 | a,none=>a
 | some a,some b=>some (a.filter fun i=>b.contains i)
mutual
noncomputable def vC (inv:zz):MS->zz->Option Ow
 | .set (.one i) e,O=>some (some (if Rg e then i::without (without O (aC e)) [i] else without (without O (aC e)) [i]))
 | .set (.two i j) e,O=>some (some (without (without O (aC e)) [i,j]))
 | .app i e,O=>if (without O (aC e)).contains i then some (some (without O (aC e))) else none
 | .ext i e,O=>if (without O (aC e)).contains i then some (some (without O (aC e))) else none
 | .expr e,O=>some (some (without O (aC e)))
 | .ret e,O=>some none
 | .ifs c a b,O=>do
  let x <- dg inv a O
  let y <- dg inv b O
  some (jD x y)
 | .forr t k src b,O=>do
  let O1:=without (without O (aV src)) (aK t)
  let x <- dg O1 b O1
  let O2:=(jD (some O1) x).getD []
  let y <- dg O2 b O2
  match y with
  | none=>some (some O2)
  | some O3=>if O2.all (fun i=>O3.contains i) then some (some O2) else none
 | .rai,O=>some none
 | .chk _ e,O=>some (some (without O (aC e)))
 | .dpop t i k,O=>if (without O (aC k)).contains i && !(t == i) then some (some (without (without O (aC k)) [t])) else none
 | .lset i k v,O=>if O.contains i then some (some O) else none
 | .whl c b,O=>do
  let x <- dg O b O
  let O2:=(jD (some O) x).getD []
  let y <- dg O2 b O2
  match y with
  | none=>some (some O2)
  | some O3=>if O2.all (fun i=>O3.contains i) then some (some O2) else none
 | .call2 i j f e,O=>if (without O (aC e)).contains i && (without O (aC e)).contains j then some (some (without O (aC e))) else none
 | .retO i,O=>if O.contains i then some none else none
 | .setF i f es,O=>some (some (i::without (without O (aV es)) [i]))
 | .setB t e,O=>some (some (without O (aK t)))
 | .setC i e,O=>some (some (i::without O [i]))
 | .grp i g,O=>if O.contains i && !(tgG g).contains i then some (some [i]) else none
noncomputable def dg (inv:zz):List MS->zz->Option Ow
 | [],O=>some (some O)
 | m::ms,O=>do
  let x <- vC inv m O
  match x with
  | none=>some none
  | some O1=>dg inv ms O1
end
mutual
noncomputable def Ud:MS->zz
 | .set t _=>aK t
 | .grp _ g=>tgG g
 | .ifs _ a b=>mU a++mU b
 | .forr t _ _ b=>aK t++mU b
 | .whl _ b=>mU b
 | .dpop t _ _=>[t]
 | .setF i _ _=>[i]
 | .setB t _=>aK t
 | .setC i _=>[i]
 | _=>[]
noncomputable def mU:List MS->zz
 | []=>[]
 | m::ms=>Ud m++mU ms
end
structure Def where
 np:Nat
 nn:Nat
 body:List MS
 nrm:Bool
def Ar (d:Def):Bool:=!(mU d.body).contains 1 && !(mU d.body).contains (d.np - 1) && (match dg [] d.body [1,d.np - 1] with | some (some O)=>O.contains 1 && O.contains (d.np - 1) | _=>false)
variable {α β:Type}
section eqs
variable (cl:Nat->List D->R D) (ρ:En)
theorem wJ (i:Nat):evE cl (.var i) ρ=bF ρ i:=rfl
theorem wK (d:D):evE cl (.con d) ρ=.ok d:=rfl
theorem wL (es:List M):evE cl (.tup es) ρ=(do let ds <- cu cl es ρ;if ds.length<=lim then .ok (.tup ds) else .stuck):=rfl
theorem wM (es:List M):evE cl (.lst es) ρ=(do let ds <- cu cl es ρ;if ds.length<=lim then .ok (.lst ds) else .stuck):=rfl
theorem wN:evE cl .dct0 ρ=.ok (.dct [] []):=rfl
theorem wO (op:BO) (a b:M):evE cl (.bin op a b) ρ=(do let x <- evE cl a ρ;let y <- evE cl b ρ;jO op x y):=rfl
theorem wP (op:CO) (a b:M):evE cl (.cmp op a b) ρ=(do let x <- evE cl a ρ;let y <- evE cl b ρ;let r <- bV op x y;.ok (.bl r)):=rfl
theorem qJ (p q:CO) (a b c:M):evE cl (.chain p q a b c) ρ=(do
  let x <- evE cl a ρ
  let y <- evE cl b ρ
  let r <- bV p x y
  if r then do let z <- evE cl c ρ;let r2 <- bV q y z;.ok (.bl r2) else .ok (.bl false)):=rfl
theorem wQ (es:List M):evE cl (.and es) ρ=jj cl es ρ:=rfl
theorem wt (es:List M):evE cl (.or es) ρ=lq cl es ρ:=rfl
theorem wR (a:M):evE cl (.not a) ρ=(do let x <- evE cl a ρ;let t <- bO x;.ok (.bl (!t))):=rfl
theorem wu (a b:M):evE cl (.ix a b) ρ=(do let x <- evE cl a ρ;let y <- evE cl b ρ;ixD x y):=rfl
theorem wT (a lo hi:M):evE cl (.slc a lo hi) ρ=(do
  let x <- evE cl a ρ
  let l <- (if dh lo then .ok none else (do let d <- evE cl lo ρ;lU d))
  let h <- (if dh hi then .ok none else (do let d <- evE cl hi ρ;lU d))
  slD x l h):=rfl
theorem qW (a k d:M):evE cl (.dget a k d) ρ=(do let x <- evE cl a ρ;let y <- evE cl k ρ;let z <- evE cl d ρ;ud x y z):=rfl
theorem qX (f:Nat) (es:List M):evE cl (.call f es) ρ=(do let ds <- cu cl es ρ;cl f ds):=rfl
theorem wU (f:BI) (es:List M):evE cl (.blt f es) ρ=(do let ds <- cu cl es ρ;fO f ds):=rfl
theorem qY (a:M) (t:Ty):evE cl (.isin a t) ρ=(do let x <- evE cl a ρ;.ok (.bl (kO x t))):=rfl
theorem qZ (elt:M) (tg:Tg) (k:IK) (src:List M) (hc:Bool) (c:M) (cap:List Bool):evE cl (.comp elt tg k src hc c cap) ρ=(do
  let ss <- cu cl src ρ
  let items <- itemsOf k ss
  let ys <- gK (fun d=>do
   let ρ' <- dj tg d (bx cap ρ)
   let t <- (if hc then (do let x <- evE cl c ρ';bO x) else .ok true)
   if t then do let y <- evE cl elt ρ';.ok (some y) else .ok none) items
  if ys.length<=lim then .ok (.lst ys) else .stuck):=rfl
theorem qa:cu cl [] ρ=.ok []:=rfl
theorem qK (e:M) (es:List M):cu cl (e::es) ρ=(do let d <- evE cl e ρ;let ds <- cu cl es ρ;.ok (d::ds)):=rfl
theorem qb (e:M):jj cl [e] ρ=(do let x <- evE cl e ρ;let t <- bO x;.ok (.bl t)):=rfl
theorem qL (e e':M) (es:List M):jj cl (e::e'::es) ρ=(do let x <- evE cl e ρ;let t <- bO x;if t then jj cl (e'::es) ρ else .ok (.bl false)):=rfl
theorem wV (e:M):lq cl [e] ρ=(do let x <- evE cl e ρ;let t <- bO x;.ok (.bl t)):=rfl
theorem qd (e e':M) (es:List M):lq cl (e::e'::es) ρ=(do let x <- evE cl e ρ;let t <- bO x;if t then .ok (.bl true) else lq cl (e'::es) ρ):=rfl
theorem wC (t:Tg) (e:M):bA cl (.set t e) ρ=(do let d <- evE cl e ρ;let ρ' <- dj t d ρ;.ok (.nx ρ')):=rfl
theorem wD (i:Nat) (e:M):bA cl (.app i e) ρ=(do let l <- bF ρ i;let d <- evE cl e ρ;let l' <- yQ l d;.ok (.nx (ρ.set i (some l')))):=rfl
theorem wE (i:Nat) (e:M):bA cl (.ext i e) ρ=(do let l <- bF ρ i;let d <- evE cl e ρ;let l' <- Ib l d;.ok (.nx (ρ.set i (some l')))):=rfl
theorem qV (e:M):bA cl (.expr e) ρ=(do let _ <- evE cl e ρ;.ok (.nx ρ)):=rfl
theorem wF (e:M):bA cl (.ret e) ρ=(do let d <- evE cl e ρ;.ok (.rt d)):=rfl
theorem wG (c:M) (a b:List MS):bA cl (.ifs c a b) ρ=(do
  let x <- evE cl c ρ
  let t <- vP c x
  if t then bZ cl a ρ else bZ cl b ρ):=rfl
theorem wH (t:Tg) (k:IK) (src:List M) (b:List MS):bA cl (.forr t k src b) ρ=(do
  let ss <- cu cl src ρ
  let items <- itemsOf k ss
  jo (fun d ρ=>do let ρ1 <- dj t d ρ;bZ cl b ρ1) ρ items ρ):=rfl
theorem qu (a:M) (k:Int):evE cl (.maxd a k) ρ=(do let x <- evE cl a ρ;GD k x):=rfl
theorem wq (i:Nat) (e:M):evE cl (.idx i e) ρ=(do let x <- bF ρ i;let y <- evE cl e ρ;O9 x y):=rfl
theorem wr (a:M):evE cl (.rev a) ρ=(do let x <- evE cl a ρ;Og x):=rfl
theorem qv (t i:Nat) (k:M):bA cl (.dpop t i k) ρ=(do
  let d <- bF ρ i
  let kk <- evE cl k ρ
  let r <- Gs d kk
  .ok (.nx ((ρ.set i (some r.2)).set t (some r.1)))):=rfl
theorem qw (i:Nat) (k v:M):bA cl (.lset i k v) ρ=(do
  let vv <- evE cl v ρ
  let d <- bF ρ i
  let kk <- evE cl k ρ
  let d' <- tQ d kk vv
  .ok (.nx (ρ.set i (some d')))):=rfl
theorem Tf (c:M) (b:List MS):bA cl (.whl c b) ρ=tW (fun ρ=>do let x <- evE cl c ρ;bO x) (fun ρ=>bZ cl b ρ) ρ wfu ρ:=rfl
theorem qQ (i j f:Nat) (e:M):bA cl (.call2 i j f e) ρ=(do
  let d <- evE cl e ρ
  let a <- bF ρ i
  let b <- bF ρ j
  let r <- cl (1000+f) (if i=j then [d,a] else [d,a,b])
  let r <- Dm r
  .ok (.nx ((ρ.set i (some r.1)).set j (some r.2)))):=rfl
theorem qx (i:Nat):bA cl (.retO i) ρ=(do let d <- bF ρ i;.ok (.ro d)):=rfl
theorem qy (i f:Nat) (es:List M):bA cl (.setF i f es) ρ=(do let ds <- cu cl es ρ;let d <- cl (2000+f) ds;if ndC d then .ok (.nx (ρ.set i (some d))) else .stuck):=rfl
theorem qz (t:Tg) (e:M):bA cl (.setB t e) ρ=(do let d <- evE cl e ρ;if lfD d then (do let ρ' <- dj t d ρ;.ok (.nx ρ')) else .stuck):=rfl
theorem wA (i:Nat) (e:M):bA cl (.setC i e) ρ=(do let d <- evE cl e ρ;if lfL d then .ok (.nx (ρ.set i (some d))) else .stuck):=rfl
theorem wk (i:Nat) (g:GS):bA cl (.grp i g) ρ=(do
  let d <- bF ρ i
  let _ <- Ju d
  let d' <- lF cl g (fM ρ (i::tgG g)) d
  .ok (.nx ((fM ρ (i::tgG g)).set i (some d')))):=rfl
theorem wl (k v:M) (d:D):lF cl (.sda k v) ρ d=(do let kk <- evE cl k ρ;let vv <- evE cl v ρ;zm d kk vv):=rfl
theorem wm (t:Tg) (ik:IK) (src:List M) (b:GS) (d:D):lF cl (.forr t ik src b) ρ d=(do
  let ss <- cu cl src ρ
  let items <- itemsOf ik ss
  nD (fun x d=>do let ρ1 <- dj t x (fM ρ (aK t++tgG b));lF cl b ρ1 d) items d):=rfl
theorem wn (k v:M):tgG (.sda k v)=[]:=rfl
theorem wo (t:Tg) (ik:IK) (src:List M) (b:GS):tgG (.forr t ik src b)=aK t++tgG b:=rfl
theorem zj (i:Nat):aK (.one i)=[i]:=rfl
theorem zk (i j:Nat):aK (.two i j)=[i,j]:=rfl
theorem zR:fM ρ []=ρ:=rfl
theorem zS (i:Nat) (U:zz):fM ρ (i::U)=fM (ρ.set i none) U:=rfl
theorem wI:bA cl .rai ρ=.stuck:=rfl
theorem Rm (j:Nat) (e:M):bA cl (.chk j e) ρ=(do let d <- evE cl e ρ;let r <- cl 5000 [d];T6 ρ r):=rfl
theorem wB:bZ cl [] ρ=.ok (.nx ρ):=rfl
def tV (ms:List MS):Out->R Out
 | .nx ρ'=>bZ cl ms ρ'
 | o=>.ok o
theorem qU (m:MS) (ms:List MS):bZ cl (m::ms) ρ=(bA cl m ρ >>= tV cl ms):=rfl
theorem qG (ms:List MS):tV cl ms (.nx ρ)=bZ cl ms ρ:=rfl
theorem qI (ms:List MS) (d:D):tV cl ms (.ro d)=.ok (.ro d):=rfl
theorem qH (ms:List MS) (d:D):tV cl ms (.rt d)=.ok (.rt d):=rfl
theorem wv (d:D):bF (some d::ρ) 0=.ok d:=rfl
theorem ww (o:Option D) (i:Nat):bF (o::ρ) (i+1)=bF ρ i:=rfl
theorem qf (b:Bool):bO (.bl b)=.ok b:=rfl
theorem wW (i:Int):lU (.int i)=.ok (some i):=rfl
theorem wX (i:Nat) (d:D):dj (.one i) d ρ=.ok (ρ.set i (some d)):=rfl
theorem wY (i j:Nat) (a b:D):dj (.two i j) (.tup [a,b]) ρ=.ok ((ρ.set i (some a)).set j (some b)):=rfl
theorem wZ (d:D) (b:Option D) (as bs:En):aN (some d::as) (b::bs)=b::aN as bs:=rfl
theorem wa (b:Option D) (as bs:En):aN (none::as) (b::bs)=none::aN as bs:=rfl
theorem wb:aN [] []=[]:=rfl
theorem wx:dh (.con .non)=true:=rfl
theorem wy (i:Int):dh (.con (.int i))=false:=rfl
theorem wz (i:Nat):dh (.var i)=false:=rfl
theorem zA (op:BO) (a b:M):dh (.bin op a b)=false:=rfl
theorem wc (a b:α):(if true=true then a else b)=a:=rfl
theorem wd (a b:α):(if false=true then a else b)=b:=rfl
theorem zC (f:α->β) (a:α) (l:List α):List.map f (a::l)=f a::List.map f l:=rfl
theorem zD (f:α->β):List.map f []=[]:=rfl
theorem wS (i:Int):evE cl (.neg (.con (.int i))) ρ=.ok (.int (-i)):=rfl
theorem zH (a:α):List.replicate 0 a=[]:=rfl
theorem zI (n:Nat) (a:α):List.replicate (n+1) a=a::List.replicate n a:=rfl
theorem zJ:(!true)=false:=rfl
theorem zK:(!false)=true:=rfl
theorem zE (a:α) (l m:List α):(a::l)++m=a::(l++m):=rfl
theorem zF (m:List α):([]:List α)++m=m:=rfl
theorem wf (bs:List Bool) (v:Option D) (vs:En):bx (true::bs) (v::vs)=v::bx bs vs:=rfl
theorem wg (bs:List Bool) (v:Option D) (vs:En):bx (false::bs) (v::vs)=none::bx bs vs:=rfl
theorem wj:bx [] ([]:En)=[]:=rfl
theorem zb (a:α) (l:List α):(a::l).length=l.length+1:=rfl
theorem zd :([]:List α).length=0:=rfl
theorem ze (a:α) (l:List α):(a::l)[0]?=some a:=rfl
theorem zf (a:α) (l:List α) (i:Nat):(a::l)[i+1]?=l[i]?:=rfl
theorem zg (a b:α) (l:List α):(a::l).set 0 b=b::l:=rfl
theorem zi (a b:α) (l:List α) (i:Nat):(a::l).set (i+1) b=a::l.set i b:=rfl
theorem zG (l:List α):l++[]=l:=List.append_nil l
theorem zl:(false=true)=False:=Bool.false_eq_true
theorem V8 (f:Nat) (es:List M):aC (.call f es)=aV es:=rfl
theorem Hg:aV []=[]:=rfl
theorem RV (e:M) (es:List M):aV (e::es)=aC e++aV es:=rfl
end eqs
end Mi
set_option maxHeartbeats 1000000
namespace Mi
open PySem L2
open PyProof.Rows hiding St
variable {i:Nat}
def bB {O U:zz}:i∈without O U↔i∈O/\i ∉ U:=by
 unfold without;rw [List.mem_filter];simp
def cN (g:G) (H Hs:Hp) (a:Addr):D->Prop
 | .lst ds=>∃ xs,H a=some (.lst xs)/\Rps g Hs ds xs
 | .dct ks vs=>∃ xs ys ep,H a=some (.ext (DAt g a xs ys ep))/\ks=xs.map (·.1)/\Rps g Hs ks (xs.map fun x=>V.ref x.2.1)/\Rps g Hs vs ys
 | _=>False
variable {g:G}{H Hs:Hp}{a:Addr}{d:D}
theorem cN.obj (h:cN g H Hs a d):∃ o,H a=some o:=by
 cases d <;> simp only [cN] at h
 .obtain ⟨xs,h,_⟩:=h;exact ⟨_,h⟩
 .obtain ⟨xs,ys,_,h,_⟩:=h;exact ⟨_,h⟩
theorem cN.mono {H' Hs':Hp} (h:cN g H Hs a d) (k:∀ o,H a=some o->H' a=some o) (m:Same Hs Hs'):cN g H' Hs' a d:=by
 cases d <;> simp only [cN] at h ⊢
 .obtain ⟨xs,h,r⟩:=h;exact ⟨xs,k _ h,r.mono m⟩
 .obtain ⟨xs,ys,ep,h,e,r1,r2⟩:=h;exact ⟨xs,ys,ep,k _ h,e,r1.mono m,r2.mono m⟩
variable {o:HO}
theorem cN.pub (h:cN g H Hs a d) (ho:H a=some o) (m:Same Hs (upd Hs a o)):Rp g (upd Hs a o) d (.ref a):=by
 cases d <;> simp only [cN] at h
 .obtain ⟨xs,h,r⟩:=h;rw [ho] at h;cases h;rw [Rp];exact ⟨a,xs,rfl,SqL.of aB,r.mono m⟩
 .obtain ⟨xs,ys,ep,h,e,r1,r2⟩:=h;rw [ho] at h;cases h;rw [Rp];exact ⟨a,xs,ys,ep,rfl,aB,e,r1.mono m,r2.mono m⟩
noncomputable def W3:HO->Bool
 | .ext _=>true | _=>false
noncomputable def tE:HO->Bool
 | .lst _=>true | .ext _=>true | _=>false
def iB (Hs Hs':Hp):Prop:=∀ b o,Hs' b=some o->Hs b=some o\/tE o=true
theorem iB.refl (Hs:Hp):iB Hs Hs:=fun _ _ q=>.inl q
variable {Hs1 Hs2:Hp}
theorem iB.trans (a:iB Hs Hs1) (b:iB Hs1 Hs2):iB Hs Hs2:=fun c o q=>by
 rcases b c o q with z | z
 .exact a c o z
 .exact .inr z
theorem cN.onlyM (h:cN g H Hs a d) (ho:H a=some o):iB Hs (upd Hs a o):=fun b u q=>by
 by_cases e:b=a
 .subst e;rw [aB] at q;cases q;right;cases d <;> simp only [cN] at h
  .obtain ⟨xs,h,_⟩:=h;rw [ho] at h;cases h;rfl
  .obtain ⟨xs,ys,_,h,_⟩:=h;rw [ho] at h;cases h;rfl
 .rw [ao e] at q;exact .inl q
structure Ent where
 hp:Hp
 pins:List (Nat × Addr)
structure FR (g:G) (E:Ent) (Es:Hp) (O:zz) (ρ:En) (σ:St) (H Hs:Hp):Prop where
 grow:Grow E.hp Es H Hs
 len:ρ.length=σ.length
 val:∀ (i:Nat) d,ρ[i]?=some (some d)->i ∉ O->∃ v,σ[i]?=some (some v)/\Rp g Hs d v
 own:∀ i∈O,∀ d,ρ[i]?=some (some d)->∃ a,σ[i]?=some (some (.ref a))/\E.hp a=none/\Hs a=none/\cN g H Hs a d
 apart:∀ i∈O,∀ j∈O,i≠j->∀ d e a,ρ[i]?=some (some d)->ρ[j]?=some (some e)->σ[i]?=some (some (.ref a))->σ[j]?≠some (some (.ref a))
 pin:∀ q∈E.pins,σ[q.1]?=some (some (.ref q.2))
variable {p b:Addr}{Hs3:Hp}
section
variable {g:G}{E:Ent}{Es:Hp}{O O':zz}{ρ:En}{σ:St}{H Hs H' Hs':Hp}
theorem FR.grown (F:FR g E Es O ρ σ H Hs) (w:Grow H Hs H' Hs'):FR g E Es O ρ σ H' Hs':=by
 have m:=w.same F.grow.sub;refine ⟨F.grow.trans w,F.len,fun i d h hi=>?_,fun i hi d h=>?_,F.apart,F.pin⟩
 .obtain ⟨v,e,r⟩:=F.val i d h hi;exact ⟨v,e,r.mono m⟩
 .obtain ⟨a,e,e0,e1,o⟩:=F.own i hi d h;obtain ⟨ob,ho⟩:=o.obj;exact ⟨a,e,e0,by rw [w.old a ob ho];exact e1,o.mono (fun u q=>w.keep a u q) m⟩
theorem FR.sub (F:FR g E Es O ρ σ H Hs):Same Hs H:=F.grow.sub
theorem FR.pub1 (F:FR g E Es O ρ σ H Hs) (i:Nat):∃ Hs',FR g E Es (O.filter fun j=>j != i) ρ σ H Hs'/\Same Hs Hs'/\iB Hs Hs':=by
 have memf:∀ {j},j∈(O.filter fun j=>j != i)↔j∈O/\j≠i:=by intro j;rw [List.mem_filter];simp
 by_cases hi:i∈O
 .cases hd:ρ[i]? with
  | none =>
   refine ⟨Hs,⟨F.grow,F.len,fun j d h hj=>F.val j d h fun z=>hj (memf.mpr ⟨z,?_⟩),fun j hj d h=>F.own j (memf.mp hj).1 d h,fun j hj k hk=>F.apart j (memf.mp hj).1 k (memf.mp hk).1,F.pin⟩,fun _ _ q=>q,iB.refl _⟩;rintro rfl;rw [hd] at h;cases h
  | some x =>
   cases x with
   | none =>
    refine ⟨Hs,⟨F.grow,F.len,fun j d h hj=>F.val j d h fun z=>hj (memf.mpr ⟨z,?_⟩),fun j hj d h=>F.own j (memf.mp hj).1 d h,fun j hj k hk=>F.apart j (memf.mp hj).1 k (memf.mp hk).1,F.pin⟩,fun _ _ q=>q,iB.refl _⟩;rintro rfl;rw [hd] at h;cases h
   | some d0 =>
    obtain ⟨a,e,e0,e1,o⟩:=F.own i hi d0 hd;obtain ⟨ob,ho⟩:=o.obj;have m:Same Hs (upd Hs a ob):=fun b u q=>by
     have:b≠a:=ak q e1;rw [ao this];exact q
    refine ⟨upd Hs a ob,⟨⟨F.grow.keep,fun b u q=>?_,fun b u q=>?_⟩,F.len,fun j d h hj=>?_,fun j hj d h=>?_,fun j hj k hk=>F.apart j (memf.mp hj).1 k (memf.mp hk).1,F.pin⟩,m,o.onlyM ho⟩
    .rw [ao (ak q e0)];exact F.grow.old b u q
    .by_cases hb:b=a
     .subst hb;rw [aB] at q;cases q;exact ho
     .rw [ao hb] at q;exact F.grow.sub b u q
    .by_cases hji:j=i
     .subst hji;rw [hd] at h;cases h;exact ⟨.ref a,e,o.pub ho m⟩
     .obtain ⟨v,ev,r⟩:=F.val j d h fun z=>hj (memf.mpr ⟨z,hji⟩)
      exact ⟨v,ev,r.mono m⟩
    .obtain ⟨hjO,hji⟩:=memf.mp hj;obtain ⟨b,eb,b0,b1,ob'⟩:=F.own j hjO d h;have hba:b≠a:=fun z=>by
      subst z;exact F.apart i hi j hjO (Ne.symm hji) d0 d b hd h e eb
     exact ⟨b,eb,b0,by rw [ao hba];exact b1,ob'.mono (fun _ q=>q) m⟩
 .refine ⟨Hs,⟨F.grow,F.len,fun j d h hj=>F.val j d h fun z=>hj (memf.mpr ⟨z,fun q=>hi (q ▸ z)⟩),fun j hj d h=>F.own j (memf.mp hj).1 d h,fun j hj k hk=>F.apart j (memf.mp hj).1 k (memf.mp hk).1,F.pin⟩,fun _ _ q=>q,iB.refl _⟩
theorem FR.congrO (F:FR g E Es O ρ σ H Hs) (h:∀ i,i∈O'↔i∈O):FR g E Es O' ρ σ H Hs :=
 ⟨F.grow,F.len,fun i d q hi=>F.val i d q fun z=>hi ((h i).mpr z),fun i hi d q=>F.own i ((h i).mp hi) d q,fun i hi j hj=>F.apart i ((h i).mp hi) j ((h j).mp hj),F.pin⟩
theorem FR.pubs:∀ (U:zz) {Hs:Hp}{O:zz},FR g E Es O ρ σ H Hs->∃ Hs',FR g E Es (without O U) ρ σ H Hs'/\Same Hs Hs'/\iB Hs Hs'
 | [],Hs,O,F=>⟨Hs,F.congrO fun i=>by rw [bB];simp,fun _ _ q=>q,iB.refl _⟩
 | u::U,Hs,O,F=>by
  obtain ⟨H1,F1,m1,w1⟩:=F.pub1 u;obtain ⟨H2,F2,m2,w2⟩:=FR.pubs U F1;refine ⟨H2,F2.congrO fun i=>?_,fun a o q=>m2 a o (m1 a o q),w1.trans w2⟩;rw [bB,bB,List.mem_filter];simp;constructor
  .rintro ⟨a,b,c⟩;exact ⟨⟨a,b⟩,c⟩
  .rintro ⟨⟨a,b⟩,c⟩;exact ⟨a,b,c⟩
theorem FR.fewer (F:FR g E Es O ρ σ H Hs) (h:∀ i∈O',i∈O):∃ Hs',FR g E Es O' ρ σ H Hs'/\Same Hs Hs':=by
 obtain ⟨H1,F1,m1,_⟩:=FR.pubs (O.filter fun i=>!O'.contains i) F;refine ⟨H1,F1.congrO fun i=>?_,m1⟩;rw [bB,List.mem_filter];simp;constructor
 .intro hi;exact ⟨h i hi,fun _=>hi⟩
 .rintro ⟨a,b⟩;exact b a
theorem FR.setS {v:V} (F:FR g E Es O ρ σ H Hs) (hq:∀ q∈E.pins,q.1≠i) (r:Rp g Hs d v):FR g E Es (without O [i]) (ρ.set i (some d)) (σ.set i (some v)) H Hs:=by
 have memw:∀ {j},j∈without O [i]↔j∈O/\j≠i:=by intro j;rw [bB];simp
 refine ⟨F.grow,by rw [List.length_set,List.length_set];exact F.len,fun j e h hj=>?_,fun j hj e h=>?_,fun j hj k hk hjk e f a h1 h2 h3=>?_,fun q hp'=>by rw [List.getElem?_set_ne (Ne.symm (hq q hp'))];exact F.pin q hp'⟩
 .by_cases hji:j=i
  .subst hji;have hl:j < ρ.length:=by
    have:=(vV.mp h).1;simpa using this
   rw [List.getElem?_set_self hl] at h;cases h;exact ⟨v,by rw [List.getElem?_set_self (by rw [<- F.len];exact hl)],r⟩
  .rw [List.getElem?_set_ne (Ne.symm hji)] at h;obtain ⟨w,ew,rw'⟩:=F.val j e h fun z=>hj (memw.mpr ⟨z,hji⟩)
   exact ⟨w,by rw [List.getElem?_set_ne (Ne.symm hji)];exact ew,rw'⟩
 .obtain ⟨hjO,hji⟩:=memw.mp hj;rw [List.getElem?_set_ne (Ne.symm hji)] at h;obtain ⟨a,ea,q⟩:=F.own j hjO e h;exact ⟨a,by rw [List.getElem?_set_ne (Ne.symm hji)];exact ea,q⟩
 .obtain ⟨hjO,hji⟩:=memw.mp hj;obtain ⟨hkO,hki⟩:=memw.mp hk;rw [List.getElem?_set_ne (Ne.symm hji)] at h1 h3;rw [List.getElem?_set_ne (Ne.symm hki)] at h2;rw [List.getElem?_set_ne (Ne.symm hki)];exact F.apart j hjO k hkO hjk e f a h1 h2 h3
theorem FR.adopt (F:FR g E Es O ρ σ H Hs) (hq:∀ q∈E.pins,q.1≠i) (w:Grow H Hs H' Hs') (hp:H p=none) (Hsp:Hs' p=none) (r:cN g H' Hs' p d):FR g E Es (i::without O [i]) (ρ.set i (some d)) (σ.set i (some (.ref p))) H' Hs':=by
 have memw:∀ {j},j∈without O [i]↔j∈O/\j≠i:=by intro j;rw [bB];simp
 have Ep:E.hp p=none:=by
  cases q:E.hp p with
  | none=>rfl
  | some u=>rw [F.grow.keep p u q] at hp;cases hp
 have F':=F.grown w;refine ⟨F'.grow,by rw [List.length_set,List.length_set];exact F.len,fun j e h hj=>?_,fun j hj e h=>?_,fun j hj k hk hjk e f a h1 h2 h3=>?_,fun q hp'=>by rw [List.getElem?_set_ne (Ne.symm (hq q hp'))];exact F.pin q hp'⟩
 .have hji:j≠i:=fun z=>hj (by rw [z];exact vE)
  rw [List.getElem?_set_ne (Ne.symm hji)] at h;obtain ⟨w,ew,rw'⟩:=F'.val j e h fun z=>hj (vz _ (memw.mpr ⟨z,hji⟩))
  exact ⟨w,by rw [List.getElem?_set_ne (Ne.symm hji)];exact ew,rw'⟩
 .by_cases hji:j=i
  .subst hji;have hl:j < ρ.length:=by
    have:=(vV.mp h).1;simpa using this
   rw [List.getElem?_set_self hl] at h;cases h;exact ⟨p,by rw [List.getElem?_set_self (by rw [<- F.len];exact hl)],Ep,Hsp,r⟩
  .have hjO:j∈O:=by
    rcases z9.mp hj with z | z
    .exact absurd z hji
    .exact (memw.mp z).1
   rw [List.getElem?_set_ne (Ne.symm hji)] at h;obtain ⟨a,ea,q⟩:=F'.own j hjO e h;exact ⟨a,by rw [List.getElem?_set_ne (Ne.symm hji)];exact ea,q⟩
 .have inO:∀ {k},k∈i::without O [i]->k≠i->k∈O:=fun {k} hk hki=>by
   rcases z9.mp hk with z | z
   .exact absurd z hki
   .exact (memw.mp z).1
  have neP:∀ {k e a},k∈O->ρ[k]?=some (some e)->σ[k]?=some (some (.ref a))->a≠p:=fun {k e a} hk h1 h2=>by
   obtain ⟨b,eb,_,_,ob⟩:=F.own k hk e h1;rw [h2] at eb;cases eb;obtain ⟨u,hu⟩:=ob.obj;exact ak hu hp
  have setSelf:∀ {v:V},(σ.set i (some v))[i]?=some (some v)\/i ≥ σ.length:=fun {v}=>by
   by_cases hl:i < σ.length
   .left;rw [List.getElem?_set_self hl]
   .right;omega
  by_cases hji:j=i
  .subst hji;have hkj:k≠j:=Ne.symm hjk;have hlj:j < σ.length:=by
    have:=(vV.mp h3).1;simpa using this
   rw [List.getElem?_set_self hlj] at h3;cases h3;rw [List.getElem?_set_ne (Ne.symm hkj)] at h2;rw [List.getElem?_set_ne (Ne.symm hkj)];intro z;exact neP (inO hk hkj) h2 z rfl
  .rw [List.getElem?_set_ne (Ne.symm hji)] at h1 h3;by_cases hki:k=i
   .subst hki;intro z;have hlk:k < σ.length:=by
     have:=(vV.mp z).1;simpa using this
    rw [List.getElem?_set_self hlk] at z;cases z;exact neP (inO hj hji) h1 h3 rfl
   .rw [List.getElem?_set_ne (Ne.symm hki)] at h2;rw [List.getElem?_set_ne (Ne.symm hki)];exact F.apart j (inO hj hji) k (inO hk hki) hjk e f a h1 h2 h3
theorem FR.setO (F:FR g E Es O ρ σ H Hs) (hq:∀ q∈E.pins,q.1≠i) (hp:H p=none) (r:cN g (upd H p o) Hs p d):FR g E Es (i::without O [i]) (ρ.set i (some d)) (σ.set i (some (.ref p))) (upd H p o) Hs:=by
 refine F.adopt hq (Grow.own F.sub hp) hp ?_ r;cases q:Hs p with
 | none=>rfl
 | some u=>rw [F.sub p u q] at hp;cases hp
theorem FR.mut {i:Nat}{d d':D}{a:Addr}{o:HO} (F:FR g E Es O ρ σ H Hs) (hi:i∈O) (hd:ρ[i]?=some (some d)) (ha:σ[i]?=some (some (.ref a))) (r:cN g (upd H a o) Hs a d'):FR g E Es O (ρ.set i (some d')) σ (upd H a o) Hs:=by
 obtain ⟨b,eb,b0,b1,ob⟩:=F.own i hi d hd;rw [ha] at eb;cases eb;refine ⟨⟨fun c u q=>?_,F.grow.old,fun c u q=>?_⟩,by rw [List.length_set];exact F.len,fun j e h hj=>?_,fun j hj e h=>?_,fun j hj k hk hjk e f c h1 h2 h3=>?_,F.pin⟩
 .rw [ao (ak q b0)];exact F.grow.keep c u q
 .rw [ao (ak q b1)];exact F.grow.sub c u q
 .have hji:j≠i:=fun z=>hj (z ▸ hi)
  rw [List.getElem?_set_ne (Ne.symm hji)] at h;exact F.val j e h hj
 .by_cases hji:j=i
  .subst hji;have hl:j < ρ.length:=by
    have:=(vV.mp h).1;simpa using this
   rw [List.getElem?_set_self hl] at h;cases h;exact ⟨a,ha,b0,b1,r⟩
  .rw [List.getElem?_set_ne (Ne.symm hji)] at h;obtain ⟨c,ec,c0,c1,oc⟩:=F.own j hj e h;have hca:c≠a:=fun z=>by
    subst z;exact F.apart i hi j hj (Ne.symm hji) d e c hd h ha ec
   exact ⟨c,ec,c0,c1,oc.mono (fun u q=>by rw [ao hca];exact q) fun _ _ q=>q⟩
 .have some1:∀ {k e},(ρ.set i (some d'))[k]?=some (some e)->∃ e',ρ[k]?=some (some e'):=fun {k e} h=>by
   by_cases hki:k=i
   .subst hki;exact ⟨d,hd⟩
   .rw [List.getElem?_set_ne (Ne.symm hki)] at h;exact ⟨e,h⟩
  obtain ⟨e',h1'⟩:=some1 h1;obtain ⟨f',h2'⟩:=some1 h2;exact F.apart j hj k hk hjk e' f' c h1' h2' h3
noncomputable def hole (H:Hp) (a:Addr):Hp:=fun b=>if b=a then none else H b
theorem eO (h:b≠a):hole H a b=H b:=if_neg h
theorem iJ :hole H a a=none:=if_pos rfl
theorem FR.lend2 {i j:Nat}{d d' e e':D}{a b:Addr} (F:FR g E Es O ρ σ H Hs) (hi:i∈O) (hj:j∈O) (hd:ρ[i]?=some (some d)) (he:ρ[j]?=some (some e)) (ha:σ[i]?=some (some (.ref a))) (hb:σ[j]?=some (some (.ref b))) (w:Grow (hole (hole H a) b) Hs H' Hs') (na:Hs' a=none) (nb:Hs' b=none) (ra:cN g H' Hs' a d') (rb:cN g H' Hs' b e'):FR g E Es O ((ρ.set i (some d')).set j (some e')) σ H' Hs'/\Same Hs Hs':=by
 obtain ⟨a',ea,a0,a1,oa⟩:=F.own i hi d hd;rw [ha] at ea;cases ea;obtain ⟨b',eb,b0,b1,ob⟩:=F.own j hj e he;rw [hb] at eb;cases eb;have up:∀ c o,c≠a->c≠b->H c=some o->H' c=some o/\Hs' c=Hs c:=fun c o hc hc2 q=>by
  have q':hole (hole H a) b c=some o:=by rw [eO hc2,eO hc];exact q
  exact ⟨w.keep c o q',w.old c o q'⟩
 have sm:Same Hs Hs':=fun c o q=>by
  rw [(up c o (ak q a1) (ak q b1) (F.sub c o q)).2];exact q
 have back:∀ {k f},((ρ.set i (some d')).set j (some e'))[k]?=some (some f)->k≠i->k≠j->ρ[k]?=some (some f):=fun {k f} h h1 h2=>by
  rw [List.getElem?_set_ne (Ne.symm h2),List.getElem?_set_ne (Ne.symm h1)] at h;exact h
 refine ⟨⟨⟨fun c u q=>?_,fun c u q=>?_,w.sub⟩,by rw [List.length_set,List.length_set];exact F.len,fun k f h hk=>?_,fun k hk f h=>?_,fun k hk l hl hkl f f2 c h1 h2 h3=>?_,F.pin⟩,sm⟩
 .exact (up c u (ak q a0) (ak q b0) (F.grow.keep c u q)).1
 .exact ((up c u (ak q a0) (ak q b0) (F.grow.keep c u q)).2).trans (F.grow.old c u q)
 .obtain ⟨v,ev,rv⟩:=F.val k f (back h (fun z=>hk (z ▸ hi)) (fun z=>hk (z ▸ hj))) hk;exact ⟨v,ev,rv.mono sm⟩
 .by_cases hkj:k=j
  .subst hkj;have hl:k < (ρ.set i (some d')).length:=by
    have:=(vV.mp h).1;simpa using this
   rw [List.getElem?_set_self hl] at h;cases h;exact ⟨b,hb,b0,nb,rb⟩
  .by_cases hki:k=i
   .subst hki;rw [List.getElem?_set_ne (Ne.symm hkj)] at h;have hl:k < ρ.length:=by
     have:=(vV.mp h).1;simpa using this
    rw [List.getElem?_set_self hl] at h;cases h;exact ⟨a,ha,a0,na,ra⟩
   .have h':=back h hki hkj;obtain ⟨c,ec,c0,c1,oc⟩:=F.own k hk f h';have hca:c≠a:=fun z=>by
     subst z;exact F.apart i hi k hk (Ne.symm hki) d f c hd h' ha ec
    have hcb:c≠b:=fun z=>by
     subst z;exact F.apart j hj k hk (Ne.symm hkj) e f c he h' hb ec
    obtain ⟨u,hu⟩:=oc.obj;exact ⟨c,ec,c0,by rw [(up c u hca hcb hu).2];exact c1,oc.mono (fun u q=>(up c u hca hcb q).1) sm⟩
 .have some1:∀ {k f},((ρ.set i (some d')).set j (some e'))[k]?=some (some f)->∃ f',ρ[k]?=some (some f'):=fun {k f} h=>by
   by_cases hkj:k=j
   .subst hkj;exact ⟨e,he⟩
   .by_cases hki:k=i
    .subst hki;exact ⟨d,hd⟩
    .exact ⟨f,back h hki hkj⟩
  obtain ⟨f',h1'⟩:=some1 h1;obtain ⟨g',h2'⟩:=some1 h2;exact F.apart k hk l hl hkl f' g' c h1' h2' h3
theorem vm:∀ {a b:En}{i:Nat}{d:D},(aN a b)[i]?=some (some d)->b[i]?=some (some d)
 | [],b,i,d,h=>by
  simp only [aN,List.getElem?_map] at h;cases e:b[i]? <;> simp [e] at h
 | _::_,[],i,d,h=>by simp [aN] at h
 | x::as,y::bs,0,d,h=>by
  simp only [aN,List.getElem?_cons_zero] at h ⊢;split at h
  .exact h
  .cases h
 | x::as,y::bs,i+1,d,h=>by
  simp only [aN,List.getElem?_cons_succ] at h ⊢;exact vm h
theorem vN:∀ (a b:En),(aN a b).length=b.length
 | [],b=>by simp [aN]
 | _::_,[]=>rfl
 | _::as,_::bs=>by simp [aN,vN as bs]
theorem FR.less {ρ':En} (F:FR g E Es O ρ σ H Hs) (hl:ρ'.length=ρ.length) (h:∀ (i:Nat) d,ρ'[i]?=some (some d)->ρ[i]?=some (some d)):FR g E Es O ρ' σ H Hs :=
 ⟨F.grow,hl.trans F.len,fun i d q hi=>F.val i d (h i d q) hi,fun i hi d q=>F.own i hi d (h i d q),fun i hi j hj hij d e a q1 q2=>F.apart i hi j hj hij d e a (h i d q1) (h j e q2),F.pin⟩
theorem rB {H1:Hp} (hs:Same Hs H) (hw:iB Hs Hs1) (g2:Grow H Hs1 H1 Hs2):∃ Hs3,Grow H Hs H1 Hs3/\(∀ t o,Hs2 t=some o->tE o=false->Hs3 t=some o)/\∀ t,H t=none->Hs3 t=Hs2 t:=by
 classical
 refine ⟨fun b=>if (H b).isSome then Hs b else Hs2 b,⟨g2.keep,fun a o q=>?_,fun a o q=>?_⟩,fun t o q hm=>?_,fun t ht=>?_⟩
 .show (if (H a).isSome then Hs a else Hs2 a)=_
  rw [q];rfl
 .by_cases e:(H a).isSome=true
  .have q':Hs a=some o:=by rw [<- q];exact (if_pos e).symm
   exact g2.keep a o (hs a o q')
  .have q':Hs2 a=some o:=by rw [<- q];exact (if_neg e).symm
   exact g2.sub a o q'
 .show (if (H t).isSome then Hs t else Hs2 t)=_
  by_cases e:(H t).isSome=true
  .rw [if_pos e];obtain ⟨u,hu⟩:=yz.mp e;have h1:Hs1 t=some o:=by rw [<- g2.old t u hu];exact q
   rcases hw t o h1 with z | z
   .exact z
   .rw [hm] at z;cases z
  .rw [if_neg e];exact q
 .show (if (H t).isSome then Hs t else Hs2 t)=_
  rw [ht];rfl
def Qy {K:zt}{xs:List V} (h:∀ t o,Hs2 t=some o->tE o=false->Hs3 t=some o) (q:SqT K Hs2 a xs):SqT K Hs3 a xs:=by
 rcases q with (q | ⟨o,q⟩) | q
 .exact .inl (.inl (h _ _ q rfl))
 .exact .inl (.inr ⟨o,h _ _ q rfl⟩)
 .exact .inr q
mutual
theorem oW {Hs2 Hs3:Hp} (h:∀ t o,Hs2 t=some o->tE o=false->Hs3 t=some o):∀ {d:D}{v:V},lfD d=true->Rp g Hs2 d v->Rp g Hs3 d v
 | .non,v,_,r=>by rw [Rp] at r ⊢;exact r
 | .bl _,v,_,r=>by rw [Rp] at r ⊢;exact r
 | .int _,v,_,r=>by rw [Rp] at r ⊢;exact r
 | .str _,v,_,r=>by rw [Rp] at r ⊢;exact r
 | .tup ds,v,l,r=>by
  rw [Rp] at r ⊢;obtain ⟨a,xs,e,s,rs⟩:=r;rw [lfD] at l;exact ⟨a,xs,e,Qy h s,vG h l rs⟩
 | .lst _,v,l,r=>by rw [lfD] at l;cases l
 | .dct _ _,v,l,r=>by rw [lfD] at l;cases l
theorem vG {Hs2 Hs3:Hp} (h:∀ t o,Hs2 t=some o->tE o=false->Hs3 t=some o):∀ {ds:List D}{vs:List V},yZ ds=true->Rps g Hs2 ds vs->Rps g Hs3 ds vs
 | [],vs,_,r=>by rw [Rps] at r ⊢;exact r
 | d::ds,vs,l,r=>by
  rw [Rps] at r ⊢;rw [yZ,Bool.and_eq_true] at l;obtain ⟨y,ys,e,r1,r2⟩:=r;exact ⟨y,ys,e,oW h l.1 r1,vG h l.2 r2⟩
end
mutual
theorem Xn {Hs2:Hp}{b:Addr}{P:Heap->Prop} (hb:Hs2 b=some (.ext P)):∀ {d:D}{v:V},ndD d=true->Rp g Hs2 d v->Rp g (hole Hs2 b) d v
 | .non,v,_,r=>by rw [Rp] at r ⊢;exact r
 | .bl _,v,_,r=>by rw [Rp] at r ⊢;exact r
 | .int _,v,_,r=>by rw [Rp] at r ⊢;exact r
 | .str _,v,_,r=>by rw [Rp] at r ⊢;exact r
 | .tup ds,v,l,r=>by
  rw [Rp] at r ⊢;obtain ⟨a,xs,e,s,rs⟩:=r;rw [ndD] at l;refine ⟨a,xs,e,?_,oH hb l rs⟩;have ne:∀ o,Hs2 a=some o->W3 o=false->hole Hs2 b a=some o:=fun o q h=>by
   rw [eO (fun z=>by rw [z,hb] at q;cases q;cases h)];exact q
  rcases s with (q | ⟨o,q⟩) | q
  .exact .inl (.inl (ne _ q rfl))
  .exact .inl (.inr ⟨o,ne _ q rfl⟩)
  .exact .inr q
 | .lst ds,v,l,r=>by
  rw [Rp] at r ⊢;obtain ⟨a,xs,e,s,rs⟩:=r;rw [ndD] at l;refine ⟨a,xs,e,?_,oH hb l rs⟩;have ne:∀ o,Hs2 a=some o->W3 o=false->hole Hs2 b a=some o:=fun o q h=>by
   rw [eO (fun z=>by rw [z,hb] at q;cases q;cases h)];exact q
  rcases s with (q | ⟨o,q⟩) | q
  .exact .inl (.inl (ne _ q rfl))
  .exact .inl (.inr ⟨o,ne _ q rfl⟩)
  .exact .inr q
 | .dct _ _,v,l,r=>by rw [ndD] at l;cases l
theorem oH {Hs2:Hp}{b:Addr}{P:Heap->Prop} (hb:Hs2 b=some (.ext P)):∀ {ds:List D}{vs:List V},iu ds=true->Rps g Hs2 ds vs->Rps g (hole Hs2 b) ds vs
 | [],vs,_,r=>by rw [Rps] at r ⊢;exact r
 | d::ds,vs,l,r=>by
  rw [Rps] at r ⊢;rw [iu,Bool.and_eq_true] at l;obtain ⟨y,ys,e,r1,r2⟩:=r;exact ⟨y,ys,e,Xn hb l.1 r1,oH hb l.2 r2⟩
end
end
end Mi
set_option maxHeartbeats 1000000
namespace Mi
open PySem L2
open PyProof.Rows hiding St
def aj {α β:Type}{r:R α}{f:α->R β}{b:β} (h:(r >>= f)=.ok b):∃ a,r=.ok a/\f a=.ok b:=by
 cases r with
 | ok a=>exact ⟨a,rfl,h⟩
 | exc x=>rw [TX] at h;cases h
 | stuck=>rw [NT] at h;cases h
theorem Q5 {α:Type}{a b:α} (h:(R.ok a)=.ok b):a=b:=by cases h;rfl
def bK {α:Type}{c:Prop} [Decidable c] {a:R α}{b:α} (h:(if c then a else .stuck)=.ok b):c/\a=.ok b:=by
 by_cases hc:c
 .rw [if_pos hc] at h;exact ⟨hc,h⟩
 .rw [if_neg hc] at h;cases h
variable {X:Cx}{e:Expr}
theorem aZ {t t':TE} (h:PE X e t) (i:∀ σ H Q,t' σ H Q->t σ H Q):PE X e t':=fun pins s σ H Q I hq=>h pins s σ H Q I (i σ H Q hq)
theorem Bl {t t':TT} (h:PT X e t) (i:∀ σ H Q,t' σ H Q->t σ H Q):PT X e t':=fun pins s σ H Q I hq=>h pins s σ H Q I (i σ H Q hq)
theorem Qj {e:ve}{t t':TA} (h:PA X e t) (i:∀ σ H Q,t' σ H Q->t σ H Q):PA X e t':=fun pos pins s σ H Q I hq=>h pos pins s σ H Q I (i σ H Q hq)
variable {g:G}{i:Int}{ds:List D}{xs:List V}{x:V}{z:D}
section
variable {X:Cx}{H Hs H1 Hs1:Hp}{Q:VK}{d:D}{v:V}
def aW :Rp g H (.int i) v↔v=.int i:=by rw [Rp]
def nQ {i:Bool}:Rp g H (.bl i) v↔v=.bl i:=by rw [Rp]
def Ck :Rp g H .non v↔v=.non:=by rw [Rp]
def Tp {i:Str}:Rp g H (.str i) v↔v=.str i:=by rw [Rp]
def cX :Rp g H (.tup ds) v↔∃ a xs,v=.ref a/\SqT g.K H a xs/\Rps g H ds xs:=by rw [Rp]
def bI :Rp g H (.lst ds) v↔∃ a xs,v=.ref a/\SqL g.K H a xs/\Rps g H ds xs:=by rw [Rp]
def kY {ks vs:List D}:Rp g H (.dct ks vs) v↔∃ a xs ys ep,v=.ref a/\H a=some (.ext (DAt g a xs ys ep))/\ks=xs.map (·.1)/\Rps g H ks (xs.map fun x=>V.ref x.2.1)/\Rps g H vs ys:=by rw [Rp]
def XD (X:Cx) (H Hs:Hp) (Q:VK) (d:D):Prop:=∀ v H' Hs',Grow H Hs H' Hs'->Rp (gOf X) Hs' d v->Q v H'
theorem XD.grow (h:XD X H Hs Q d) (w:Grow H Hs H1 Hs1):XD X H1 Hs1 Q d:=fun v H' Hs' g r=>h v H' Hs' (w.trans g) r
theorem XD.here (h:XD X H Hs Q d) (hs:Same Hs H) (r:Rp (gOf X) Hs d v):Q v H:=h v H Hs (Grow.refl hs) r
theorem XD.int (h:XD X H Hs Q (.int i)) (hs:Same Hs H):Q (.int i) H:=h.here hs (aW.mpr rfl)
theorem XD.bl {i:Bool} (h:XD X H Hs Q (.bl i)) (hs:Same Hs H):Q (.bl i) H:=h.here hs (nQ.mpr rfl)
theorem XD.non (h:XD X H Hs Q .non) (hs:Same Hs H):Q .non H:=h.here hs (Ck.mpr rfl)
theorem oR {p:Addr}{o:HO} (hs:Same Hs H) (hp:H p=none):Same Hs (upd Hs p o):=(Grow.new (o:=o) hs hp).same hs
theorem XD.newL (h:XD X H Hs Q (.lst ds)) (hs:Same Hs H) (r:Rps (gOf X) Hs ds xs):∀ p,H p=none->Q (.ref p) (upd H p (.lst xs)):=fun p hp =>
 h _ _ _ (Grow.new (o:=.lst xs) hs hp) (bI.mpr ⟨p,xs,rfl,SqL.of aB,r.mono (oR hs hp)⟩)
theorem XD.newT (h:XD X H Hs Q (.tup ds)) (hs:Same Hs H) (r:Rps (gOf X) Hs ds xs):∀ p,H p=none->Q (.ref p) (upd H p (.tup xs)):=fun p hp =>
 h _ _ _ (Grow.new (o:=.tup xs) hs hp) (cX.mpr ⟨p,xs,rfl,SqT.of aB,r.mono (oR hs hp)⟩)
def Op2 (X:Cx) (r:R2) (op:D->D->R D):Prop:=∀ x y d e z H Hs Q,Same Hs H->Rp (gOf X) Hs d x->Rp (gOf X) Hs e y->op d e=.ok z->XD X H Hs Q z->r x y H Q
def Zn:OpR X (binaryOp .Add) (W5 X.K):=by
 intro pins s σ H x y v u Q I rx ry h;obtain ⟨l,b,xs,zs,rfl,rfl,hH,hB,hz,q⟩:=h;cases rx;cases ry;obtain ⟨its,r,pl,_⟩:=I.list hH;obtain ⟨its2,r2,pl2,_⟩:=I.list hB;obtain ⟨⟨cls,dd,data,sl⟩,ho,hc,n,hd⟩:=pl.isList;obtain ⟨⟨cls2,dd2,data2,sl2⟩,ho2,hc2,n2,hd2⟩:=pl2.isList;simp only at hc hd hc2 hd2;subst hc hd hc2 hd2;have hl:=r.length;have hl2:=r2.length;have e:its.toArray++its2.toArray=(its++its2).toArray:=by simp
 refine concat_meets ⟨_,ho,rfl⟩ ⟨_,ho2,rfl⟩ noFill_list_add seq_list_add PySem.F.slot_list_add PySem.F.entry_list_add (PySem.F.args_list_add_2 _ _) (list_addW l b its.toArray its2.toArray n n2 dd dd2 sl sl2 (by simp only [List.size_toArray];omega)) ⟨ho,ho2,?_⟩;rw [e];exact ⟨.ref _,_,I.lnew (t':=s.toks) (r.append r2) (by rw [List.length_append];omega),rfl,q _ I.fresh⟩
def N8 (X:Cx):R2:=fun x y H Q=>rI0 (fun i j=>.int (i+j)) x y H Q\/(Qw X.K x y H Q\/(WY X.K x y H Q\/W5 X.K x y H Q))
theorem Xz:OpR X (binaryOp .Add) (N8 X):=aaH.or (Wa.or (Ym.or Zn))
def Xy:Op2 X (N8 X) mY:=by
 intro x y d e z H Hs Q hs rx ry h k;have hlim:=jy;cases d <;> cases e <;> simp only [mY] at h <;> try (cases h;done)
 .cases h;exact .inl ⟨_,_,aW.mp rx,aW.mp ry,k.int hs⟩
 .obtain ⟨hl,h⟩:=bK h;cases h;obtain ⟨a,xs,rfl,s1,r1⟩:=cX.mp rx;obtain ⟨b,ys,rfl,s2,r2⟩:=cX.mp ry;have l1:=r1.length;have l2:=r2.length;by_cases hx:xs=[]
  .subst hx;refine .inr (.inl ⟨a,b,ys,rfl,rfl,aO hs s1,aO hs s2,k.here hs ?_⟩);rename_i as bs;have:as=[]:=by cases as with | nil=>rfl | cons _ _=>simp at l1
   subst this;exact ry
  .refine .inr (.inr (.inl ⟨a,b,xs,ys,rfl,rfl,aO hs s1,aO hs s2,hx,by omega,fun hy=>?_,fun _=>k.newT hs (r1.append r2)⟩));subst hy;rename_i as bs;have:bs=[]:=by cases bs with | nil=>rfl | cons _ _=>simp at l2
   subst this;rw [List.append_nil] at k;exact k.here hs rx
 .obtain ⟨hl,h⟩:=bK h;cases h;obtain ⟨a,xs,rfl,s1,r1⟩:=bI.mp rx;obtain ⟨b,ys,rfl,s2,r2⟩:=bI.mp ry;have l1:=r1.length;have l2:=r2.length;exact .inr (.inr (.inr ⟨a,b,xs,ys,rfl,rfl,aL hs s1,aL hs s2,by omega,k.newL hs (r1.append r2)⟩))
noncomputable def Vd:BO->Operator
 | .add=>.Add | .sub=>.Sub | .mul=>.Mult | .mod=>.Mod
def abf (X:Cx):BO->R2
 | .add=>N8 X
 | .sub=>rI0 fun i j=>.int (i - j)
 | .mul=>rI Nx fun i j=>.int (i * j)
 | .mod=>rI (fun _ j=>0 < j) fun i j=>.int (i % j)
def Zy (o:BO):OpR X (binaryOp (Vd o)) (abf X o):=by
 cases o
 .exact Xz
 .exact Z9
 .exact abp
 .exact aal
def Bs (h:j9 i=true):-(2 ^ 64) < i/\i < 2 ^ 64:=by
 cases i with
 | ofNat n =>
  have:=Nat.le_of_ble_eq_true h;rw [Int.ofNat_eq_natCast];exact ⟨by omega,by omega⟩
 | negSucc n =>
  have:=Nat.le_of_ble_eq_true h;exact ⟨by omega,by omega⟩
def YC (o:BO):Op2 X (abf X o) (jO o):=by
 cases o
 .intro x y d e z H Hs Q hs rx ry h k;exact Xy x y d e z H Hs Q hs rx ry (by simpa only [jO] using h) k
 all_goals
  intro x y d e z H Hs Q hs rx ry h k;cases d <;> cases e <;> simp only [jO] at h <;> try (cases h;done)
 .cases h;exact ⟨_,_,aW.mp rx,aW.mp ry,k.int hs⟩
 .obtain ⟨c,h⟩:=bK h;cases h;refine ⟨_,_,aW.mp rx,aW.mp ry,?_,k.int hs⟩;simp only [Bool.or_eq_true] at c;rcases c with c | c
  .exact .inl (Bs c)
  .exact .inr (Bs c)
 .obtain ⟨c,h⟩:=bK h;cases h;exact ⟨_,_,aW.mp rx,aW.mp ry,c,k.int hs⟩
noncomputable def rm:CO->CmpOp
 | .eq=>.Eq | .ne=>.NotEq | .lt=>.Lt | .le=>.LtE | .gt=>.Gt | .ge=>.GtE | .notin=>.NotIn
def Od (X:Cx):CO->R2
 | .eq=>aaN X
 | .ne=>ZR X
 | .lt=>rI0 fun i j=>.bl (decide (i < j))
 | .le=>rI0 fun i j=>.bl (decide (i<=j))
 | .gt=>rI0 fun i j=>.bl (decide (j < i))
 | .ge=>rI0 fun i j=>.bl (decide (j<=i))
 | .notin=>fun x y H Q=>Vr X true x y H Q\/Nf X true x y H Q
def tH (hu:X.A.units+100 < cLine) (o:CO):OpR X (compareOp (rm o)) (Od X o):=by
 cases o
 .exact abb hu
 .exact aaP hu
 .exact ab5
 .exact acg
 .exact ace
 .exact abY
 .exact (QG hu).or (OJ hu)
def VG {b:Bool}{y:V}{e:D} (hs:Same Hs H) (rx:Rp (gOf X) Hs d x) (ry:Rp (gOf X) Hs e y) (h:inD d e=.ok b) (k:Q (.bl (!b)) H):Vr X true x y H Q\/Nf X true x y H Q:=by
 cases e <;> simp only [inD] at h <;> try (cases h;done)
 .obtain ⟨c,h⟩:=bK h;cases h;obtain ⟨p,xs,rfl,s1,r1⟩:=cX.mp ry;simp only [Bool.and_eq_true,decide_eq_true_eq] at c;exact .inl ⟨d,_,p,xs,rx.mono hs,rfl,.inr (aO hs s1),r1.mono hs,c.1,c.2,k⟩
 .obtain ⟨c,h⟩:=bK h;cases h;obtain ⟨p,xs,rfl,s1,r1⟩:=bI.mp ry;simp only [Bool.and_eq_true,decide_eq_true_eq] at c;exact .inl ⟨d,_,p,xs,rx.mono hs,rfl,.inl (aL hs s1),r1.mono hs,c.1,c.2,k⟩
 .obtain ⟨c,h⟩:=bK h;cases h;obtain ⟨a,xs,ys,ep,rfl,ha,e1,r1,r2⟩:=kY.mp ry;exact .inr ⟨d,a,_,xs,ys,rx.mono hs,c,rfl,⟨⟨ep,hs _ _ ha⟩,e1,r1.mono hs⟩,k⟩
def xr (o:CO):Op2 X (Od X o) (fun d e=>do let r <- bV o d e;.ok (.bl r)):=by
 intro x y d e z H Hs Q hs rx ry h0 k;obtain ⟨b,h,hz⟩:=aj h0;clear h0;cases hz;cases o
 .simp only [bV] at h;obtain ⟨c,h⟩:=bK h;cases h;exact ⟨d,e,rx.mono hs,ry.mono hs,c,k.bl hs⟩
 .simp only [bV] at h;obtain ⟨c,h⟩:=bK h;cases h;exact ⟨d,e,rx.mono hs,ry.mono hs,c,k.bl hs⟩
 .cases d <;> cases e <;> simp only [bV] at h <;> try (cases h;done)
  cases h;exact ⟨_,_,aW.mp rx,aW.mp ry,k.bl hs⟩
 .cases d <;> cases e <;> simp only [bV] at h <;> try (cases h;done)
  cases h;exact ⟨_,_,aW.mp rx,aW.mp ry,k.bl hs⟩
 .cases d <;> cases e <;> simp only [bV] at h <;> try (cases h;done)
  cases h;exact ⟨_,_,aW.mp rx,aW.mp ry,k.bl hs⟩
 .cases d <;> cases e <;> simp only [bV] at h <;> try (cases h;done)
  cases h;exact ⟨_,_,aW.mp rx,aW.mp ry,k.bl hs⟩
 .simp only [bV] at h;obtain ⟨c,h1,h2⟩:=aj h;clear h;cases h2;exact VG hs rx ry h1 (k.bl hs)
def aat (X:Cx):R2:=fun x y H Q=>(abo X.K x y H Q\/Z7 X.K x y H Q)\/Wy X x y H Q
theorem acH (hu:X.A.units+100 < cLine):IxR X (aat X):=(XM.or abh).or (Xm hu)
theorem gets {g:G}{k:D}:∀ {xs:List (D × Addr × Value)}{vs:List D}{ys:List V},Rps g H vs ys->(∃ z v,cY (xs.map (·.1)) vs k=some z/\atV xs ys k=some v/\Rp g H z v)\/(cY (xs.map (·.1)) vs k=none/\atV xs ys k=none)
 | [],_,_,_=>.inr ⟨rfl,rfl⟩
 | x::xs,[],ys,r=>by
  obtain rfl:=r.nil_inv;exact .inr ⟨rfl,rfl⟩
 | x::xs,z::vs,ys,r=>by
  obtain ⟨v,ys',rfl,r0,rs⟩:=r.cons_inv;by_cases e:x.1=k
  .exact .inl ⟨z,v,if_pos e,if_pos e,r0⟩
  .have e1:cY ((x::xs).map (·.1)) (z::vs) k=cY (xs.map (·.1)) vs k:=if_neg e;have e2:atV (x::xs) (v::ys') k=atV xs ys' k:=if_neg e;rw [e1,e2];exact gets rs
def S8 (r:Rps g Hs ds xs) (h:(match ixN ds.length i with | some k=>(match ds[k]? with | some d=>R.ok d | none=>.stuck) | none=>.stuck)=.ok z):∃ v,atI xs i=some v/\Rp g Hs z v:=by
 cases e:ixN ds.length i with
 | none=>rw [e] at h;cases h
 | some k =>
  rw [e] at h;cases e2:ds[k]? with
  | none=>simp only [e2] at h;cases h
  | some d =>
   simp only [e2] at h;cases h;obtain ⟨v,ev,rv⟩:=r.getD e2;refine ⟨v,?_,rv⟩;unfold atI;rw [<- r.length,e];exact ev
def aaq:Op2 X (aat X) ixD:=by
 intro x y d e z H Hs Q hs rx ry h k;cases d <;> try (cases h;done)
 .cases e <;> try (cases h;done)
  obtain ⟨a,xs,rfl,s1,r1⟩:=cX.mp rx;obtain ⟨v,e1,r2⟩:=S8 r1 h;exact .inl (.inr ⟨a,xs,_,v,rfl,aW.mp ry,aO hs s1,e1,k.here hs r2⟩)
 .cases e <;> try (cases h;done)
  obtain ⟨a,xs,rfl,s1,r1⟩:=bI.mp rx;obtain ⟨v,e1,r2⟩:=S8 r1 h;exact .inl (.inl ⟨a,xs,_,v,rfl,aW.mp ry,aL hs s1,e1,k.here hs r2⟩)
 .rename_i ks vs;obtain ⟨hk,h⟩:=bK h;obtain ⟨a,xs,ys,ep,rfl,ha,e1,r1,r2⟩:=kY.mp rx;subst e1;rcases gets (k:=e) (xs:=xs) r2 with ⟨z',v,g1,g2,g3⟩ | ⟨g1,g2⟩
  .rw [g1] at h;cases h;exact .inr ⟨e,a,_,xs,ys,v,ry.mono hs,hk,rfl,⟨⟨ep,hs _ _ ha⟩,rfl,r1.mono hs⟩,g2,k.here hs g3⟩
  .rw [g1] at h;cases h
def abq (X:Cx):V->Option Int->Option Int->Hp->VK->Prop:=fun x lo hi H Q=>aag X.K x lo hi H Q
theorem acu:SlR X (abq X):=YX
def TY {lo hi:Option Int} (hs:Same Hs H) (rx:Rp (gOf X) Hs d x) (h:slD d lo hi=.ok z) (k:XD X H Hs Q z):abq X x lo hi H Q:=by
 cases d <;> simp only [slD] at h <;> try (cases h;done)
 .cases h;obtain ⟨a,xs,rfl,s1,r1⟩:=bI.mp rx;have l1:=r1.length;refine ⟨a,xs,rfl,aL hs s1,k.newL hs ?_⟩;unfold cutD GP;rw [<- l1];exact (r1.drop _).take _
end
end Mi
set_option maxHeartbeats 1000000
namespace Mi
open PySem L2
open PyProof.Rows hiding St
noncomputable def QL:M->Bool
 | .var _=>true | _=>false
noncomputable def ab3:M->Nat
 | .var i=>i | _=>0
structure Tx where
 F:z0
 gl:List (Str × D)
noncomputable def fB (sc:Scope) (x:Str):Bool:=match sc.names.lookup x with
 | some .local=>true | some .cell=>true | some .free=>true | _=>false
noncomputable def jY (sc:Scope) (x:Str):Bool:=match sc.names.lookup x with
 | some .local=>true | some .cell=>true | _=>false
noncomputable def eV (sc:Scope) (x:Str):Bool:=match sc.names.lookup x with
 | some .globalImplicit=>true | _=>false
noncomputable def aJ (x:Str):Bool:=!(x == ("__debug__":Str)) && !(x == ("__classdict__":Str)) && !(x == ("__name__":Str))
noncomputable def boB:BO->Operator->Bool
 | .add,.Add=>true | .sub,.Sub=>true | .mul,.Mult=>true | .mod,.Mod=>true | _,_=>false
def aaD {o:BO}{p:Operator} (h:boB o p=true):p=Vd o:=by cases o <;> cases p <;> first | rfl | cases h
noncomputable def coB:CO->CmpOp->Bool
 | .eq,.Eq=>true | .ne,.NotEq=>true | .lt,.Lt=>true | .le,.LtE=>true | .gt,.Gt=>true | .ge,.GtE=>true | .notin,.NotIn=>true | _,_=>false
variable {o:CO}{p:CmpOp}
def Iu (h:coB o p=true):p=rm o:=by cases o <;> cases p <;> first | rfl | cases h
noncomputable def Um:D->Const->Bool
 | .int i,.int j=>decide (i=j)
 | .bl i,.bool j=>decide (i=j)
 | .non,.none=>true
 | .str x,.str y=>decide (x=y)
 | _,_=>false
noncomputable def RM:BI->Str
 | .len=>"len" | .min2=>"min" | .all=>"all" | .any=>"any" | .sorted=>"sorted" | .list=>"list" | .tuple=>"tuple" | .listEnum=>"list" | .listRev=>"list" | .maxl=>"max"
noncomputable def glB:Option D->D->Bool
 | some (.int i),.int j=>decide (i=j)
 | some (.str i),.str j=>decide (i=j)
 | _,_=>false
variable {d:D}
def aaU {o:Option D} (h:glB o d=true):o=some d:=by
 unfold glB at h;split at h
 .rw [of_decide_eq_true h]
 .rw [of_decide_eq_true h]
 .cases h
noncomputable def Ty.nm:Ty->Str
 | .int=>"int" | .bool=>"bool" | .str=>"str" | .tuple=>"tuple" | .list=>"list"
noncomputable def lJ:z0:=["len","min","max","all","any","sorted","list","tuple","isinstance","int","bool","str","range","enumerate","zip","reversed"]
noncomputable def scB (around scope:Scope):Bool :=
 decide (scope.kind=.function) && decide ((scope.names.map (·.1)).Nodup) && scope.names.all fun p=>decide (p.2≠.free) || decide (around.names.lookup p.1=some .cell) || decide (around.names.lookup p.1=some .free)
noncomputable def isK (k:Nat) (e:Expr):Bool:=Nat.beq e.ctorIdx k
noncomputable def isS (k:Nat) (s:Stmt):Bool:=Nat.beq s.ctorIdx k
variable {k:Nat}{e:Expr}{b:Bool}
theorem fU (h:(isK k e && b)=true):e.ctorIdx=k:=Nat.eq_of_beq_eq_true (Bool.and_eq_true_iff.mp h).1
theorem sE {s:Stmt} (h:(isS k s && b)=true):s.ctorIdx=k:=Nat.eq_of_beq_eq_true (Bool.and_eq_true_iff.mp h).1
section
variable {e:Expr}{s:Stmt}{b:Bool}
theorem eY (h:(isK 23 e && b)=true):∃ x p,e=.Name x p:=Expr.Name.elim (motive_1:=fun e=>∃ x p,e=.Name x p) e (fU h) fun _ _=>⟨_,_,rfl⟩
theorem Ek (h:(isK 25 e && b)=true):∃ x k p,e=.Tuple x k p:=Expr.Tuple.elim (motive_1:=fun e=>∃ x k p,e=.Tuple x k p) e (fU h) fun _ _ _=>⟨_,_,_,rfl⟩
theorem uo (h:(isK 24 e && b)=true):∃ x p,e=.List x p:=Expr.List.elim (motive_1:=fun e=>∃ x p,e=.List x p) e (fU h) fun _ _=>⟨_,_,rfl⟩
theorem JT (h:(isK 6 e && b)=true):∃ x y p,e=.Dict x y p:=Expr.Dict.elim (motive_1:=fun e=>∃ x y p,e=.Dict x y p) e (fU h) fun _ _ _=>⟨_,_,_,rfl⟩
theorem Tc (h:(isK 2 e && b)=true):∃ x o y p,e=.BinOp x o y p:=Expr.BinOp.elim (motive_1:=fun e=>∃ x o y p,e=.BinOp x o y p) e (fU h) fun _ _ _ _=>⟨_,_,_,_,rfl⟩
theorem yw (h:(isK 15 e && b)=true):∃ x o y p,e=.Compare x o y p:=Expr.Compare.elim (motive_1:=fun e=>∃ x o y p,e=.Compare x o y p) e (fU h) fun _ _ _ _=>⟨_,_,_,_,rfl⟩
theorem Ba (h:(isK 0 e && b)=true):∃ o y p,e=.BoolOp o y p:=Expr.BoolOp.elim (motive_1:=fun e=>∃ o y p,e=.BoolOp o y p) e (fU h) fun _ _ _=>⟨_,_,_,rfl⟩
theorem rK (h:(isK 3 e && b)=true):∃ o y p,e=.UnaryOp o y p:=Expr.UnaryOp.elim (motive_1:=fun e=>∃ o y p,e=.UnaryOp o y p) e (fU h) fun _ _ _=>⟨_,_,_,rfl⟩
theorem jJ (h:(isK 21 e && b)=true):∃ x y p,e=.Subscript x y p:=Expr.Subscript.elim (motive_1:=fun e=>∃ x y p,e=.Subscript x y p) e (fU h) fun _ _ _=>⟨_,_,_,rfl⟩
theorem Er (h:(isK 26 e && b)=true):∃ x y z p,e=.Slice x y z p:=Expr.Slice.elim (motive_1:=fun e=>∃ x y z p,e=.Slice x y z p) e (fU h) fun _ _ _ _=>⟨_,_,_,_,rfl⟩
theorem oZ (h:(isK 8 e && b)=true):∃ x y z p,e=.ListComp x y z p:=Expr.ListComp.elim (motive_1:=fun e=>∃ x y z p,e=.ListComp x y z p) e (fU h) fun _ _ _ _=>⟨_,_,_,_,rfl⟩
theorem lG (h:(isK 16 e && b)=true):∃ x y z p,e=.Call x y z p:=Expr.Call.elim (motive_1:=fun e=>∃ x y z p,e=.Call x y z p) e (fU h) fun _ _ _ _=>⟨_,_,_,_,rfl⟩
theorem jE (h:(isK 20 e && b)=true):∃ x y p,e=.Attribute x y p:=Expr.Attribute.elim (motive_1:=fun e=>∃ x y p,e=.Attribute x y p) e (fU h) fun _ _ _=>⟨_,_,_,rfl⟩
theorem jq (h:(isS 5 s && b)=true):∃ x y p,s=.Assign x y p:=Stmt.Assign.elim s (sE h) fun _ _ _=>⟨_,_,_,rfl⟩
theorem uf (h:(isS 24 s && b)=true):∃ x p,s=.Expr x p:=Stmt.Expr.elim s (sE h) fun _ _=>⟨_,_,rfl⟩
theorem BW (h:(isS 3 s && b)=true):∃ x p,s=.Return x p:=Stmt.Return.elim s (sE h) fun _ _=>⟨_,_,rfl⟩
theorem aaV (h:(isS 12 s && b)=true):∃ x y z p,s=.If x y z p:=Stmt.If.elim s (sE h) fun _ _ _ _=>⟨_,_,_,_,rfl⟩
theorem K5 (h:(isS 9 s && b)=true):∃ x y z w p,s=.For x y z w p:=Stmt.For.elim s (sE h) fun _ _ _ _ _=>⟨_,_,_,_,_,rfl⟩
theorem RJ (h:(isS 11 s && b)=true):∃ x y z p,s=.While x y z p:=Stmt.While.elim s (sE h) fun _ _ _ _=>⟨_,_,_,_,rfl⟩
end
def iW (e:Expr) (f:Str->ve->Bool):Bool:=isK 16 e && match e with
 | .Call g es ks _=>isK 23 g && (match g,ks with | .Name x _,[]=>f x es | _,_=>false)
 | _=>false
def cM {f:Str->ve->Bool} (h:iW e f=true):∃ x p es q,e=.Call (.Name x p) es [] q/\f x es=true:=by
 obtain ⟨g,es,ks,q,rfl⟩:=lG h;have h2:(isK 23 g && _)=true:=h;obtain ⟨x,p,rfl⟩:=eY h2;cases ks with
 | nil=>exact ⟨x,p,es,q,rfl,h⟩
 | cons _ _=>cases h
def tgB (N:z0) (sc:Scope):Tg->Expr->Bool
 | .one i,e=>isK 23 e && match e with | .Name x _=>jY sc x && decide (N[i]?=some x) | _=>false
 | .two i j,e=>isK 25 e && match e with
  | .Tuple es _ _=>(match es with
   | [a,b]=>isK 23 a && (isK 23 b && match a,b with | .Name x _,.Name y _=>jY sc x && jY sc y && decide (N[i]?=some x) && decide (N[j]?=some y) && decide (i≠j) | _,_=>false)
   | _=>false)
  | _=>false
variable {N:z0}{sc:Scope}{i:Nat}
def rY (h:tgB N sc (.one i) e=true):∃ x p,e=.Name x p/\jY sc x=true/\N[i]?=some x:=by
 obtain ⟨x,p,rfl⟩:=eY h;have h2:(jY sc x && decide (N[i]?=some x))=true:=h;simp only [Bool.and_eq_true,decide_eq_true_eq] at h2;exact ⟨x,p,rfl,h2⟩
def sS {j:Nat} (h:tgB N sc (.two i j) e=true):∃ x p y q k r,e=.Tuple [.Name x p,.Name y q] k r/\((((jY sc x=true/\jY sc y=true)/\N[i]?=some x)/\N[j]?=some y)/\i≠j):=by
 obtain ⟨es,k,r,rfl⟩:=Ek h;rcases es with _ | ⟨a,_ | ⟨b,_ | ⟨c,es⟩⟩⟩ <;> try (cases h;done)
 obtain ⟨x,p,rfl⟩:=eY (show (isK 23 a && _)=true from h);obtain ⟨y,q,rfl⟩:=eY (show (isK 23 b && _)=true from h);have h2:(jY sc x && jY sc y && decide (N[i]?=some x) && decide (N[j]?=some y) && decide (i≠j))=true:=h;simp only [Bool.and_eq_true,decide_eq_true_eq] at h2;exact ⟨x,p,y,q,k,r,rfl,h2⟩
noncomputable def JM:Expr->Bool
 | .Tuple ..=>true | _=>false
noncomputable def lH:Expr->Bool
 | .Slice ..=>false | _=>true
noncomputable def noStar:Expr->Bool
 | .Starred ..=>false | _=>true
noncomputable def fD:Expr->Bool
 | .Set ..=>false | _=>true
noncomputable def Gq:Expr->ve
 | .Call _ es _ _=>es
 | _=>[]
def jf:IK->Expr->ve
 | .seq,e=>[e]
 | .rng,e=>Gq e
 | .enum,e=>Gq e
 | .zip,e=>Gq e
 | .rev,e=>Gq e
def iD (sc:Scope):IK->Expr->Expr->Bool
 | .seq,_,e=>fD e
 | .rng,_,e=>iW e fun f es=>decide (f="range") && eV sc f && (decide (es.length=1) || decide (es.length=2)) && es.all noStar
 | .enum,tg,e=>iW e fun f es=>decide (f="enumerate") && eV sc f && decide (es.length=1) && es.all noStar && JM tg
 | .zip,tg,e=>iW e fun f es=>decide (f="zip") && eV sc f && decide (es.length=2) && es.all noStar && JM tg
 | .rev,_,e=>iW e fun f es=>decide (f="reversed") && eV sc f && decide (es.length=1) && es.all noStar
def Io (nm:Str) (e:Expr) (f:Str->Expr->Expr->Bool):Bool:=isK 16 e && match e with
 | .Call g es ks cp=>isK 20 g && (match g with
  | .Attribute o m ap=>isK 23 o && (match o,es,ks with | .Name x _,[y,z],[]=>decide (m=nm) && (ap.endLine == cp.line) && f x y z | _,_,_=>false)
  | _=>false)
 | _=>false
def Lq {nm:Str}{f:Str->Expr->Expr->Bool} (h:Io nm e f=true):∃ x p ap y z cp,e=.Call (.Attribute (.Name x p) nm ap) [y,z] [] cp/\(ap.endLine == cp.line)=true/\f x y z=true:=by
 obtain ⟨g,es,ks,cp,rfl⟩:=lG h;obtain ⟨o,m,ap,rfl⟩:=jE (show (isK 20 g && _)=true from h);obtain ⟨x,p,rfl⟩:=eY (show (isK 23 o && _)=true from h);rcases es with _ | ⟨y,_ | ⟨z,_ | ⟨w,es⟩⟩⟩ <;> try (cases h;done)
 rcases ks with _ | ⟨k,ks⟩ <;> try (cases h;done)
 have h2:(decide (m=nm) && (ap.endLine == cp.line) && f x y z)=true:=h;simp only [Bool.and_eq_true,decide_eq_true_eq] at h2;obtain ⟨⟨rfl,h3⟩,h4⟩:=h2;exact ⟨x,p,ap,y,z,cp,rfl,h3,h4⟩
def Gx (e:Expr) (f:Str->Str->Expr->Bool->Bool):Bool:=isK 16 e && match e with
 | .Call g es ks cp=>isK 20 g && (match g with
  | .Attribute o m ap=>isK 23 o && (match o,es,ks with | .Name x _,[v],[]=>f x m v (ap.endLine == cp.line) | _,_,_=>false)
  | _=>false)
 | _=>false
def Jf {f:Str->Str->Expr->Bool->Bool} (h:Gx e f=true):∃ x p m ap v cp,e=.Call (.Attribute (.Name x p) m ap) [v] [] cp/\f x m v (ap.endLine == cp.line)=true:=by
 obtain ⟨g,es,ks,cp,rfl⟩:=lG h;obtain ⟨o,m,ap,rfl⟩:=jE (show (isK 20 g && _)=true from h);obtain ⟨x,p,rfl⟩:=eY (show (isK 23 o && _)=true from h);rcases es with _ | ⟨v,_ | ⟨v2,es⟩⟩ <;> try (cases h;done)
 rcases ks with _ | ⟨k,ks⟩ <;> try (cases h;done)
 exact ⟨x,p,m,ap,v,cp,rfl,h⟩
def abj (e:Expr) (k:Int) (f:Str->Expr->Bool):Bool:=isK 16 e && match e with
 | .Call g es ks _=>isK 23 g && (match g,es,ks with
  | .Name x _,[a],[⟨some n,v,_⟩]=>isK 19 v && (match v with | .Constant (.int i) _ _=>decide (n="default") && decide (i=k) && f x a | _=>false)
  | _,_,_=>false)
 | _=>false
def aaJ (e:Expr) (f:Expr->Bool):Bool:=isK 21 e && match e with
 | .Subscript x s _=>isK 26 s && (match s with
  | .Slice none none (some u) _=>isK 3 u && (match u with | .UnaryOp .USub v _=>isK 19 v && (match v with | .Constant (.int i) _ _=>decide (i=1) && f x | _=>false) | _=>false)
  | _=>false)
 | _=>false
theorem Ef (h:(isK 19 e && b)=true):∃ x y p,e=.Constant x y p:=Expr.Constant.elim (motive_1:=fun e=>∃ x y p,e=.Constant x y p) e (fU h) fun _ _ _=>⟨_,_,_,rfl⟩
def Y7 {k:Int}{f:Str -> Expr -> Bool} (h:abj e k f=true):∃ x p a j q r cp,e=.Call (.Name x p) [a] [⟨some "default",.Constant (.int k) j q,r⟩] cp /\ f x a=true:=by
 obtain ⟨g,es,ks,cp,rfl⟩:=lG h;obtain ⟨x,p,rfl⟩:=eY (show (isK 23 g && _)=true from h);rcases es with _ | ⟨a,_ | ⟨a2,es⟩⟩ <;> try (cases h;done)
 rcases ks with _ | ⟨⟨_ | n,v,r⟩,_ | ⟨k2,ks⟩⟩ <;> try (cases h;done)
 .obtain ⟨c,j,q,rfl⟩:=Ef (show (isK 19 v && _)=true from h);cases c <;> try (cases h;done)
  rename_i i;have h2:(decide (n="default") && decide (i=k) && f x a)=true:=h
  simp only [Bool.and_eq_true,decide_eq_true_eq] at h2;obtain ⟨⟨rfl,rfl⟩,h3⟩:=h2;exact ⟨x,p,a,j,q,r,cp,rfl,h3⟩
def Xf {f:Expr->Bool} (h:aaJ e f=true):∃ x j p1 p2 p3 pos,e=.Subscript x (.Slice none none (some (.UnaryOp .USub (.Constant (.int 1) j p1) p2)) p3) pos/\f x=true:=by
 obtain ⟨x,s,pos,rfl⟩:=jJ h;obtain ⟨l,u,st,p3,rfl⟩:=Er (show (isK 26 s && _)=true from h);cases l <;> cases u <;> cases st <;> try (cases h;done)
 rename_i u;obtain ⟨o,v,p2,rfl⟩:=rK (show (isK 3 u && _)=true from h);cases o <;> try (cases h;done)
 obtain ⟨c,j,p1,rfl⟩:=Ef (show (isK 19 v && _)=true from h);cases c <;> try (cases h;done)
 rename_i i;have h2:(decide (i=1) && f x)=true:=h;simp only [Bool.and_eq_true,decide_eq_true_eq] at h2;obtain ⟨rfl,h3⟩:=h2;exact ⟨x,j,p1,p2,p3,pos,rfl,h3⟩
mutual
noncomputable def okE (T:Tx) (N:z0):M->Scope->Expr->Bool
 | .var i,sc,e=>isK 23 e && match e with | .Name x _=>aJ x && fB sc x && decide (N[i]?=some x) | _=>false
 | .con d,sc,e=>match e with
  | .Constant c _ _=>Um d c
  | .Name x _=>aJ x && eV sc x && glB (T.gl.lookup x) d
  | _=>false
 | .tup ms,sc,e=>isK 25 e && match e with | .Tuple es _ _=>bJ T N ms sc es && es.all noStar | _=>false
 | .lst ms,sc,e=>isK 24 e && match e with | .List es _=>bJ T N ms sc es && es.all noStar | _=>false
 | .dct0,sc,e=>isK 6 e && match e with | .Dict [] [] _=>true | _=>false
 | .bin o a b,sc,e=>isK 2 e && match e with | .BinOp x p y _=>boB o p && okE T N a sc x && okE T N b sc y | _=>false
 | .cmp o a b,sc,e=>isK 15 e && match e with | .Compare x [p] [y] _=>coB o p && fD y && okE T N a sc x && okE T N b sc y | _=>false
 | .chain o o' a b c,sc,e=>isK 15 e && match e with | .Compare x [p,p'] [y,z] _=>coB o p && coB o' p' && fD y && fD z && okE T N a sc x && okE T N b sc y && okE T N c sc z | _=>false
 | .and ms,sc,e=>isK 0 e && match e with | .BoolOp .And es _=>bJ T N ms sc es && !ms.isEmpty | _=>false
 | .or ms,sc,e=>isK 0 e && match e with | .BoolOp .Or es _=>bJ T N ms sc es && !ms.isEmpty | _=>false
 | .not a,sc,e=>isK 3 e && match e with | .UnaryOp .Not x _=>okE T N a sc x | _=>false
 | .neg a,sc,e=>isK 3 e && match e with | .UnaryOp .USub x _=>okE T N a sc x | _=>false
 | .ix a b,sc,e=>isK 21 e && match e with | .Subscript x y _=>lH y && okE T N a sc x && okE T N b sc y | _=>false
 | .slc a lo hi,sc,e=>isK 21 e && match e with
  | .Subscript x s _=>isK 26 s && (match s with | .Slice l h st _=>st.isNone && (okE T N a sc x && (match l with | none=>dh lo | some y=>!dh lo && okE T N lo sc y) && (match h with | none=>dh hi | some y=>!dh hi && okE T N hi sc y)) | _=>false)
  | _=>false
 | .dget a k d,sc,e=>QL a && Io "get" e fun x y z=>fB sc x && aJ x && decide (N[ab3 a]?=some x) && okE T N k sc y && okE T N d sc z && noStar y && noStar z
 | .maxd a k,sc,e=>abj e k fun x y=>decide (x="max") && eV sc x && okE T N a sc y && noStar y
 | .idx i m,sc,e=>Gx e fun x n v b=>decide (n="index") && b && fB sc x && aJ x && decide (N[i]?=some x) && okE T N m sc v && noStar v
 | .rev a,sc,e=>aaJ e fun x=>okE T N a sc x
 | .call f ms,sc,e=>iW e fun x es=>aJ x && eV sc x && decide (T.F[f]?=some x) && bJ T N ms sc es && es.all noStar
 | .blt b ms,sc,e=>iW e fun x es=>decide (x=RM b) && eV sc x && !es.isEmpty && es.all noStar && (match b,es with
   | .listEnum,[e']=>iW e' fun y es'=>decide (y="enumerate") && eV sc y && bJ T N ms sc es' && es'.all noStar && decide (es'.length=1)
   | .listEnum,_=>false
   | .listRev,[e']=>iW e' fun y es'=>decide (y="reversed") && eV sc y && bJ T N ms sc es' && es'.all noStar && decide (es'.length=1)
   | .listRev,_=>false
   | _,_=>bJ T N ms sc es)
 | .isin a t,sc,e=>iW e fun x es=>match es with
  | [y,z']=>isK 23 z' && (match z' with | .Name z _=>decide (x="isinstance") && eV sc x && okE T N a sc y && noStar y && decide (z=t.nm) && eV sc z | _=>false)
  | _=>false
 | .comp elt tg k src hc c cap,sc,e=>isK 8 e && match e with
  | .ListComp elt' [⟨tg',iter,ifs,as⟩] scope _=>decide (as=0) && scB sc scope && tgB N scope tg tg' && iD sc k tg' iter && bJ T N src sc (jf k iter) &&
   (match hc,ifs with | true,[c']=>okE T N c scope c' | false,[]=>true | _,_=>false) && okE T N elt scope elt' && decide (cap=cJ N scope)
  | _=>false
noncomputable def bJ (T:Tx) (N:z0):List M->Scope->ve->Bool
 | [],_,es=>es.isEmpty
 | m::ms,sc,es=>match es with | e::es=>okE T N m sc e && bJ T N ms sc es | []=>false
end
section
variable {T:Tx}{N:z0}{sc:Scope}{a b c:M}{ms:List M}{x y z:Expr}{es:ve}{pos p2 p3:Pos}{s f:Str}{k:Nat}
theorem Zm :okE T N (.var i) sc (.Name s pos)=(aJ s && fB sc s && decide (N[i]?=some s)):=rfl
theorem Vm :okE T N (.con d) sc (.Name s pos)=(aJ s && eV sc s && glB (T.gl.lookup s) d):=rfl
theorem Y6:okE T N (.tup ms) sc (.Tuple es k pos)=(bJ T N ms sc es && es.all noStar):=rfl
theorem Ld:okE T N (.lst ms) sc (.List es pos)=(bJ T N ms sc es && es.all noStar):=rfl
theorem Xv {o:BO}{p:Operator}:okE T N (.bin o a b) sc (.BinOp x p y pos)=(boB o p && okE T N a sc x && okE T N b sc y):=rfl
theorem Y0 :okE T N (.cmp o a b) sc (.Compare x [p] [y] pos)=(coB o p && fD y && okE T N a sc x && okE T N b sc y):=rfl
theorem Rk {o':CO}{p':CmpOp}:okE T N (.chain o o' a b c) sc (.Compare x [p,p'] [y,z] pos)=(coB o p && coB o' p' && fD y && fD z && okE T N a sc x && okE T N b sc y && okE T N c sc z):=rfl
theorem Zk:okE T N (.and ms) sc (.BoolOp .And es pos)=(bJ T N ms sc es && !ms.isEmpty):=rfl
theorem abl:okE T N (.or ms) sc (.BoolOp .Or es pos)=(bJ T N ms sc es && !ms.isEmpty):=rfl
theorem aa0:okE T N (.ix a b) sc (.Subscript x y pos)=(lH y && okE T N a sc x && okE T N b sc y):=rfl
theorem Xd {l h:Option Expr}:okE T N (.slc a b c) sc (.Subscript x (.Slice l h none p2) pos)=(okE T N a sc x && (match l with | none=>dh b | some y=>!dh b && okE T N b sc y) && (match h with | none=>dh c | some y=>!dh c && okE T N c sc y)):=rfl
theorem Ie {elt:M}{tg:Tg}{ik:IK}{hc:Bool}{cap:List Bool}{elt' tg' iter:Expr}{ifs:ve}{as:Int}{scope:Scope}:okE T N (.comp elt tg ik ms hc c cap) sc (.ListComp elt' [⟨tg',iter,ifs,as⟩] scope pos)=(decide (as=0) && scB sc scope && tgB N scope tg tg' && iD sc ik tg' iter && bJ T N ms sc (jf ik iter) &&
   (match hc,ifs with | true,[c']=>okE T N c scope c' | false,[]=>true | _,_=>false) && okE T N elt scope elt' && decide (cap=cJ N scope)):=rfl
theorem uh:bJ T N [] sc es=es.isEmpty:=rfl
theorem Mf:bJ T N (a::ms) sc []=false:=rfl
theorem dF:bJ T N (a::ms) sc (x::es)=(okE T N a sc x && bJ T N ms sc es):=rfl
end
end Mi
set_option maxHeartbeats 1000000
namespace Mi
open PySem L2
open PyProof.Rows hiding St
def Vs (g:G) (ρ:En) (σ:St) (Hs:Hp) (U:zz):Prop:=ρ.length=σ.length/\∀ i∈U,∀ d,ρ[i]?=some (some d)->∃ v,σ[i]?=some (some v)/\Rp g Hs d v
section
variable {g:G}{ρ:En}{σ:St}{Hs Hs':Hp}{U U':zz}
theorem Vs.mono (h:Vs g ρ σ Hs U) (m:Same Hs Hs'):Vs g ρ σ Hs' U:=⟨h.1,fun i hi d e=>let ⟨v,a,r⟩:=h.2 i hi d e;⟨v,a,r.mono m⟩⟩
theorem Vs.sub (h:Vs g ρ σ Hs U) (hs:∀ i∈U',i∈U):Vs g ρ σ Hs U':=⟨h.1,fun i hi d e=>h.2 i (hs i hi) d e⟩
theorem Vs.l (h:Vs g ρ σ Hs (U++U')):Vs g ρ σ Hs U:=h.sub fun _ hi=>vF _ hi
theorem Vs.r (h:Vs g ρ σ Hs (U++U')):Vs g ρ σ Hs U':=h.sub fun _ hi=>vS _ hi
end
def tM (X:Cx) (U:zz) (r:En->R D):TE:=fun σ H Q=>∃ ρ Hs d,Same Hs H/\Vs (gOf X) ρ σ Hs U/\r ρ=.ok d/\XD X H Hs Q d
def XDs (X:Cx) (H Hs:Hp) (Q:List V->Hp->Prop) (ds:List D):Prop:=∀ vs H' Hs',Grow H Hs H' Hs'->Rps (gOf X) Hs' ds vs->Q vs H'
def tMs (X:Cx) (U:zz) (r:En->R (List D)):TA:=fun σ H Q=>∃ ρ Hs ds,Same Hs H/\Vs (gOf X) ρ σ Hs U/\r ρ=.ok ds/\XDs X H Hs Q ds
def tMT (X:Cx) (U:zz) (r:En->R D):TT:=fun σ H Q=>∃ ρ Hs b,Same Hs H/\Vs (gOf X) ρ σ Hs U/\r ρ=.ok (.bl b)/\∀ H' Hs',Grow H Hs H' Hs'->Q b H'
section
variable {X:Cx}{σ:St}{H Hs:Hp}{Q:VK}{U Ua Ub Uc:zz}{r ra rb rc:En->R D}
def Gu {rr:R2}{op:D->D->R D} (o:Op2 X rr op):tM X (Ua++Ub) (fun ρ=>do let x <- ra ρ;let y <- rb ρ;op x y) σ H Q->tOp rr (tM X Ua ra) (tM X Ub rb) σ H Q:=by
 rintro ⟨ρ,Hs,z,hs,hv,h,k⟩;obtain ⟨x,hx,h⟩:=aj h;obtain ⟨y,hy,h⟩:=aj h;refine ⟨ρ,Hs,x,hs,hv.l,hx,fun v H1 Hs1 g1 r1=>?_⟩;refine ⟨ρ,Hs1,y,g1.sub,hv.r.mono (g1.same hs),hy,fun u H2 Hs2 g2 r2=>?_⟩;exact o v u x y z H2 Hs2 Q g2.sub (r1.mono (g2.same g1.sub)) r2 h (k.grow (g1.trans g2))
def Dv {Q:Bool->Hp->Prop}:tMT X U r σ H Q->tM X U r σ H fun x H1=>∃ c,x=.bl c/\Q c H1:=by
 rintro ⟨ρ,Hs,b,hs,hv,h,k⟩;exact ⟨ρ,Hs,.bl b,hs,hv,h,fun v H1 Hs1 g1 r1=>⟨b,nQ.mp r1,k H1 Hs1 g1⟩⟩
end
structure ScRel (sc:Scope) (X:Cx):Prop where
 glb:∀ x,eV sc x=true->Gl X x
 vis:∀ x,fB sc x=true->Vis X.env.scope x
 cf:∀ x,sc.names.lookup x=some .cell\/sc.names.lookup x=some .free->X.env.scope.names.lookup x=some .cell\/X.env.scope.names.lookup x=some .free
 own:∀ x,jY sc x=true->L2.Loc X.env.scope x/\(X.fn x=true\/X.env.scope.names.lookup x=some .local)
def spD (g:G) (c:List D->R D) (np:Nat):Sp:=fun vs H Q _=>∃ ds Hs d,vs.length=np/\Same Hs H/\Rps g Hs ds vs/\c ds=.ok d/\∀ v H' Hs',Grow H Hs H' Hs'->Rp g Hs' d v->Q v H'
def O5 (g:G) (c:List D->R D) (np:Nat):Sp:=fun vs H Q _=>∃ d0 d e d' e' v0 a b Hs,((vs=[v0,.ref a,.ref b]/\a≠b/\c [d0,d,e]=.ok (.tup [d',e']))\/(vs=[v0,.ref a]/\a=b/\d=e/\c [d0,d]=.ok (.tup [d',e'])))/\vs.length=np/\Same Hs H/\Rp g Hs d0 v0/\Hs a=none/\Hs b=none/\cN g H Hs a d/\cN g H Hs b e/\∀ H' Hs',Grow (hole (hole H a) b) Hs H' Hs'->Hs' a=none->Hs' b=none->cN g H' Hs' a d'->cN g H' Hs' b e'->Q .non H'
def spF (g:G) (c:List D->R D) (np:Nat):Sp:=fun vs H Q _=>∃ ds Hs d,vs.length=np/\Same Hs H/\Rps g Hs ds vs/\c ds=.ok d/\∀ v H' Hs',Grow H Hs H' Hs'->Rp g Hs' d v->(∀ a,v=.ref a->H a=none)->Q v H'
def GlV:D->Option Value->Prop
 | .int i,o=>∃ t,o=some (.int i t)
 | .str z,o=>∃ t,o=some (.str z t)
 | _,_=>False
structure Cok (T:Tx) (cl:Nat->List D->R D) (X:Cx):Prop where
 calm:X.calm=true
 nd:X.N.Nodup
 un:X.A.units+100 < cLine
 blt:∀ f∈lJ,X.mg f=none
 gl:∀ x d,T.gl.lookup x=some d->GlV d (X.mg x)
 fns:∀ f x,T.F[f]?=some x->∃ k a fd ps,FnOk X.prog X.w X.K X.mg X.base CX0 k a fd ps (spD (gOf X) (cl f) ps.length)/\Room k X.A/\X.mg x=some (.ref a)/\PySem.W.keepIn X.K (.ref a)=true/\Binds X.K fd ps []/\(∀ ds d,cl f ds=.ok d->ds.length=ps.length)/\FnOk X.prog X.w X.K X.mg X.base CX0 k a fd ps (O5 (gOf X) (cl (1000+f)) ps.length)/\(∀ ds d,cl (1000+f) ds=.ok d->ds.length=ps.length)/\FnOk X.prog X.w X.K X.mg X.base CX0 k a fd ps (spF (gOf X) (cl (2000+f)) ps.length)/\∀ ds d,cl (2000+f) ds=.ok d->ds.length=ps.length
variable {cl:Nat->List D->R D}{X:Cx}
theorem Cok.blk {T:Tx} (C:Cok T cl X) (scope:Scope) (s:Shared) (H:Hp) (fp:List Addr) (xe:zn):Cok T cl (cO X scope s H fp xe) :=
 ⟨C.calm,C.nd,C.un,C.blt,C.gl,C.fns⟩
variable {sc scope:Scope}
def Jb (h:scB sc scope=true) (S:ScRel sc X):ScOk X.env.scope scope:=by
 unfold scB at h;simp only [Bool.and_eq_true,decide_eq_true_eq,List.all_eq_true,Bool.or_eq_true] at h;refine ⟨h.1.1,h.1.2,fun x hx=>?_⟩;have:=h.2 (x,.free) (jn hx);rcases this with (q | q) | q
 .exact absurd rfl q
 .exact S.cf x (.inl q)
 .exact S.cf x (.inr q)
variable {x:Str}
def uq (h:fB sc x=true):Vis sc x:=by
 unfold fB at h;unfold Vis;split at h <;> simp_all
def lK (h:jY sc x=true):L2.Loc sc x:=by
 unfold jY at h;unfold L2.Loc;split at h <;> simp_all
def tZ (h:eV sc x=true):sc.names.lookup x=some .globalImplicit:=by
 unfold eV at h;split at h <;> simp_all
variable {H:Hp}
def Ej {s:Shared}{fp:List Addr}{xe:zn} (S:ScRel sc X):ScRel scope (cO X scope s H fp xe):=by
 have look:∀ x,(cO X scope s H fp xe).env.scope.names.lookup x=(scope.names.lookup x).map fun k=>if (k == NameKind.free && X.env.scope.kind == .function && X.env.kindOf x == some .cell) then NameKind.cell else k:=fun x=>oM scope X.env x
 refine ⟨fun x h=>?_,fun x h=>?_,fun x h=>?_,fun x h=>?_⟩
 .show (cO X scope s H fp xe).env.scope.names.lookup x=_
  rw [look,tZ h];rfl
 .unfold Vis;rw [look];rcases uq h with e | e | e <;> rw [e]
  .exact .inl rfl
  .exact .inr (.inl rfl)
  .simp only [Option.map_some];split
   .exact .inr (.inl rfl)
   .exact .inr (.inr rfl)
 .rw [look];rcases h with e | e <;> rw [e]
  .exact .inl rfl
  .simp only [Option.map_some];split
   .exact .inl rfl
   .exact .inr rfl
 .unfold L2.Loc;rw [look];rcases lK h with e | e <;> rw [e]
  .exact ⟨.inl rfl,.inr rfl⟩
  .exact ⟨.inr rfl,.inl (by show decide (scope.names.lookup x=some .cell)=true;rw [e];rfl)⟩
variable {e:Expr}{env:Env}
def aA {es:ve} (h:noStar e=true):starEach (e::es) env=(false,eval e env)::starEach es env:=by
 cases e <;> first | rfl | cases h
theorem eU {env:Env}{pos:Pos}:∀ {es:ve},es.all noStar=true->(backTo pos (starEach es env)).any (·.1)=false
 | [],_=>rfl
 | e::es,h=>by
  simp only [List.all_cons,Bool.and_eq_true] at h;rw [aA h.1];show (false || (backTo pos (starEach es env)).any (·.1))=false
  rw [eU h.2];rfl
variable {i f:Nat}{d z:D}{p:Pos}{bs:List Bool}
section
variable {X:Cx}{σ:St}{H Hs:Hp}{Q:VK}{U Ua Ub Uc:zz}{r ra rb rc:En->R D}{e:Expr}{es:ve}{rs:En->R (List D)}
theorem Zj:PA X [] (tMs X [] fun _=>.ok []):=Qj gH fun σ H Q=>by
 rintro ⟨ρ,Hs,ds,hs,hv,h,k⟩;cases h;exact k [] H Hs (Grow.refl hs) .nil
theorem T3 (ha:PE X e (tM X Ua ra)) (hr:PA X es (tMs X Ub rs)) (hn:noStar e=true):PA X (e::es) (tMs X (Ua++Ub) fun ρ=>do let d <- ra ρ;let ds <- rs ρ;.ok (d::ds)) :=
 Qj (dD ha hr (aA hn)) fun σ H Q=>by
  rintro ⟨ρ,Hs,zs,hs,hv,h,k⟩;obtain ⟨x,hx,h⟩:=aj h;obtain ⟨ys,hy,h⟩:=aj h;cases h;refine ⟨ρ,Hs,x,hs,hv.l,hx,fun v H1 Hs1 g1 r1=>?_⟩;refine ⟨ρ,Hs1,ys,g1.sub,hv.r.mono (g1.same hs),hy,fun us H2 Hs2 g2 r2=>?_⟩;exact k (v::us) H2 Hs2 (g1.trans g2) (Rps.cons (r1.mono (g2.same g1.sub)) r2)
variable {pos:Pos}
def Hf (hN:X.N[i]?=some x) (hv:Vis X.env.scope x) (ho:aJ x=true):PE X (.Name x pos) (tM X [i] fun ρ=>bF ρ i):=by
 unfold aJ at ho;simp only [Bool.and_eq_true,Bool.not_eq_true'] at ho;refine aZ (gJ hN hv ho.1.1 ho.1.2) fun σ H Q=>?_
 rintro ⟨ρ,Hs,d,hs,hv,h,k⟩;dsimp only [bF] at h;split at h
 .cases h;rename_i e;obtain ⟨v,ev,rv⟩:=hv.2 i (yv.mpr rfl) d e;exact ⟨v,ev,k.here hs rv⟩
 .cases h
theorem aa7 {c:Const}{j:Nat} (h:Um d c=true):PE X (.Constant c j pos) (tM X [] fun _=>.ok d):=by
 cases d <;> cases c <;> simp only [Um] at h <;> try (cases h;done)
 .refine aZ abr fun σ H Q=>?_
  rintro ⟨ρ,Hs,d,hs,hv,h,k⟩;cases h;exact k.non hs
 .simp only [decide_eq_true_eq] at h;subst h;refine aZ abK fun σ H Q=>?_
  rintro ⟨ρ,Hs,d,hs,hv,h,k⟩;cases h;exact k.bl hs
 .simp only [decide_eq_true_eq] at h;subst h;refine aZ Ti fun σ H Q=>?_
  rintro ⟨ρ,Hs,d,hs,hv,h,k⟩;cases h;exact k.int hs
 .simp only [decide_eq_true_eq] at h;subst h;refine aZ abk fun σ H Q=>?_
  rintro ⟨ρ,Hs,d,hs,hv,h,k⟩;cases h;exact k.here hs (Tp.mpr rfl)
theorem YM {T:Tx} (C:Cok T cl X) (hg:Gl X x) (ho:aJ x=true) (h:T.gl.lookup x=some d):PE X (.Name x pos) (tM X [] fun _=>.ok d):=by
 unfold aJ at ho;simp only [Bool.and_eq_true,Bool.not_eq_true'] at ho;have g:=C.gl x d h;cases d <;> try exact g.elim
 .obtain ⟨t,e⟩:=g;refine aZ (Ml hg e (v:=.int _) ⟨t,rfl⟩ ho.1.1) fun σ H Q=>?_
  rintro ⟨ρ,Hs,d,hs,hv,h,k⟩;cases h;exact k.int hs
 .obtain ⟨t,e⟩:=g;refine aZ (Ml hg e (v:=.str _) ⟨t,rfl⟩ ho.1.1) fun σ H Q=>?_
  rintro ⟨ρ,Hs,d,hs,hv,h,k⟩;cases h;exact k.here hs (Tp.mpr rfl)
theorem aaf {k:Nat} (h:PA X es (tMs X U rs)):PE X (.Tuple es k pos) (tM X U fun ρ=>do let ds <- rs ρ;if ds.length<=lim then .ok (.tup ds) else .stuck) :=
 aZ (Z5 h) fun σ H Q=>by
  rintro ⟨ρ,Hs,d,hs,hv,h,k⟩;obtain ⟨ds,hd,h⟩:=aj h;obtain ⟨hl,h⟩:=bK h;cases h;refine ⟨ρ,Hs,ds,hs,hv,hd,fun vs H1 Hs1 g1 r1=>⟨?_,(k.grow g1).newT g1.sub r1⟩⟩;rw [<- r1.length];exact ye hl jy
theorem Z2 (h:PA X es (tMs X U rs)):PE X (.List es pos) (tM X U fun ρ=>do let ds <- rs ρ;if ds.length<=lim then .ok (.lst ds) else .stuck) :=
 aZ (Bj h) fun σ H Q=>by
  rintro ⟨ρ,Hs,d,hs,hv,h,k⟩;obtain ⟨ds,hd,h⟩:=aj h;obtain ⟨hl,h⟩:=bK h;cases h;refine ⟨ρ,Hs,ds,hs,hv,hd,fun vs H1 Hs1 g1 r1=>⟨?_,(k.grow g1).newL g1.sub r1⟩⟩;rw [<- r1.length];exact ye hl jy
theorem XD.newD (k:XD X H Hs Q (.dct [] [])) (hs:Same Hs H):∀ p,H p=none->Q (.ref p) (upd H p (.ext (DAt (gOf X) p [] [] 0))):=fun p hp =>
 k _ _ _ (Grow.new (o:=.ext (DAt (gOf X) p [] [] 0)) hs hp) (kY.mpr ⟨p,[],[],0,rfl,aB,rfl,Rps.nil,Rps.nil⟩)
theorem Z0:PE X (.Dict [] [] pos) (tM X [] fun _=>.ok (.dct [] [])):=aZ Lk fun σ H Q=>by
 rintro ⟨ρ,Hs,d,hs,hv,h,k⟩;cases h;exact k.newD hs
variable {a b c:Expr}
theorem aao (o:BO) (ha:PE X a (tM X Ua ra)) (hb:PE X b (tM X Ub rb)):PE X (.BinOp a (Vd o) b pos) (tM X (Ua++Ub) fun ρ=>do let x <- ra ρ;let y <- rb ρ;jO o x y) :=
 aZ (acd (Zy o) ha hb) fun σ H Q h=>Gu (YC o) h
def Ai {p:CmpOp} (h:fD b=true):behindInMarks p b=false:=by cases b <;> first | rfl | cases h
theorem aa4 (hu:X.A.units+100 < cLine) (o:CO) (ha:PE X a (tM X Ua ra)) (hb:PE X b (tM X Ub rb)) (hn:fD b=true) :
  PE X (.Compare a [rm o] [b] pos) (tM X (Ua++Ub) fun ρ=>do let x <- ra ρ;let y <- rb ρ;let r <- bV o x y;.ok (.bl r)) :=
 aZ (Yn (tH hu o) ha hb (Ai hn)) fun σ H Q h=>Gu (xr o) h
theorem aaM (hu:X.A.units+100 < cLine) (o:CO) (ha:PE X a (tM X Ua ra)) (hb:PE X b (tM X Ub rb)) (hn:fD b=true) :
  PT X (.Compare a [rm o] [b] pos) (tMT X (Ua++Ub) fun ρ=>do let x <- ra ρ;let y <- rb ρ;let r <- bV o x y;.ok (.bl r)) :=
 Bl (Xj (tH hu o) ha hb (Ai hn)) fun σ H Q h=>Gu (xr o) (Dv h)
def HX (o o':CO):tM X (Ua++(Ub++Uc)) (fun ρ=>do let x <- ra ρ;let y <- rb ρ;let r <- bV o x y;if r then do let z <- rc ρ;let r2 <- bV o' y z;.ok (.bl r2) else .ok (.bl false)) σ H Q ->
  HB (Od X o) (Od X o') (tM X Ua ra) (tM X Ub rb) (tM X Uc rc) σ H Q:=by
 rintro ⟨ρ,Hs,z,hs,hv,h,k⟩;obtain ⟨x,hx,h⟩:=aj h;obtain ⟨y,hy,h⟩:=aj h;obtain ⟨t,ht,h⟩:=aj h;refine ⟨ρ,Hs,x,hs,hv.l,hx,fun v H1 Hs1 g1 r1=>?_⟩;refine ⟨ρ,Hs1,y,g1.sub,hv.r.l.mono (g1.same hs),hy,fun u H2 Hs2 g2 r2=>?_⟩;have hv2:=hv.r.r.mono ((g1.trans g2).same hs);refine xr o v u x y (.bl t) H2 Hs2 _ g2.sub (r1.mono (g2.same g1.sub)) r2 (by show (bV o x y >>= fun r=>R.ok (D.bl r))=_;rw [ht];rfl) fun w H3 Hs3 g3 r3=>⟨t,nQ.mp r3,?_⟩
 have k3:=(k.grow (g1.trans g2)).grow g3;cases t with
 | false=>rw [if_neg (by decide)];rw [if_neg (by decide)] at h;cases h;exact k3.bl g3.sub
 | true =>
  rw [if_pos rfl];rw [if_pos rfl] at h;obtain ⟨zc,hc,h⟩:=aj h;refine ⟨ρ,Hs3,zc,g3.sub,hv2.mono (g3.same g2.sub),hc,fun q H4 Hs4 g4 r4=>?_⟩;exact xr o' u q y zc z H4 Hs4 Q g4.sub (r2.mono ((g3.trans g4).same g2.sub)) r4 h (k3.grow g4)
def Mu {p p':CmpOp} (h:fD c=true):lastMarks [p,p'] [b,c]=false:=by
 show behindInMarks p' c=false
 exact Ai h
theorem Wj (hu:X.A.units+100 < cLine) (o o':CO) (ha:PE X a (tM X Ua ra)) (hb:PE X b (tM X Ub rb)) (hc:PE X c (tM X Uc rc)) (hn:fD c=true) :
  PE X (.Compare a [rm o,rm o'] [b,c] pos) (tM X (Ua++(Ub++Uc)) fun ρ=>do let x <- ra ρ;let y <- rb ρ;let r <- bV o x y;if r then do let z <- rc ρ;let r2 <- bV o' y z;.ok (.bl r2) else .ok (.bl false)) :=
 aZ (Va (tH hu o) (tH hu o') ha hb hc (Mu hn)) fun σ H Q h=>HX o o' h
theorem V2 (hu:X.A.units+100 < cLine) (o o':CO) (ha:PE X a (tM X Ua ra)) (hb:PE X b (tM X Ub rb)) (hc:PE X c (tM X Uc rc)) (hn:fD c=true) :
  PT X (.Compare a [rm o,rm o'] [b,c] pos) (tMT X (Ua++(Ub++Uc)) fun ρ=>do let x <- ra ρ;let y <- rb ρ;let r <- bV o x y;if r then do let z <- rc ρ;let r2 <- bV o' y z;.ok (.bl r2) else .ok (.bl false)) :=
 Bl (UJ (tH hu o) (tH hu o') ha hb hc (Mu hn)) fun σ H Q h=>HX o o' (Dv h)
theorem aac (ha:PE X a (tM X Ua ra)):PE X (.UnaryOp .Not a pos) (tM X Ua fun ρ=>do let x <- ra ρ;let t <- bO x;.ok (.bl (!t))) :=
 aZ (Z1 ha) fun σ H Q=>by
  rintro ⟨ρ,Hs,z,hs,hv,h,k⟩;obtain ⟨x,hx,h⟩:=aj h;obtain ⟨t,ht,h⟩:=aj h;cases h;cases x <;> simp only [bO] at ht <;> try (cases ht;done)
  cases ht;exact ⟨ρ,Hs,_,hs,hv,hx,fun v H1 Hs1 g1 r1=>⟨t,nQ.mp r1,(k.grow g1).bl g1.sub⟩⟩
def dX {t:Bool} (h:bO d=.ok t):d=.bl t:=by
 cases d <;> simp only [bO] at h <;> first | (cases h;rfl) | cases h
theorem ZD (ha:PT X a (tMT X Ua ra)):PT X (.UnaryOp .Not a pos) (tMT X Ua fun ρ=>do let x <- ra ρ;let t <- bO x;.ok (.bl (!t))) :=
 Bl (SX ha) fun σ H Q=>by
  rintro ⟨ρ,Hs,z,hs,hv,h,k⟩;obtain ⟨x,hx,h1⟩:=aj h;obtain ⟨t,ht,h2⟩:=aj h1;clear h h1;cases dX ht;cases h2;exact ⟨ρ,Hs,t,hs,hv,hx,k⟩
theorem aap (ha:PE X a (tM X Ua ra)):PE X (.UnaryOp .USub a pos) (tM X Ua fun ρ=>do let x <- ra ρ;(match x with | .int i=>.ok (.int (-i)) | _=>.stuck)) :=
 aZ (W4 QV ha) fun σ H Q=>by
  rintro ⟨ρ,Hs,z,hs,hv,h,k⟩;obtain ⟨x,hx,h⟩:=aj h;cases x <;> simp only at h <;> try (cases h;done)
  cases h;exact ⟨ρ,Hs,_,hs,hv,hx,fun v H1 Hs1 g1 r1=>⟨_,aW.mp r1,(k.grow g1).int g1.sub⟩⟩
def Uh (h:lH b=true):K9 b:=by
 intro o i;cases b <;> first | rfl | cases h
theorem ach (hu:X.A.units+100 < cLine) (ha:PE X a (tM X Ua ra)) (hb:PE X b (tM X Ub rb)) (hp:lH b=true):PE X (.Subscript a b pos) (tM X (Ua++Ub) fun ρ=>do let x <- ra ρ;let y <- rb ρ;ixD x y) :=
 aZ (abR (acH hu) ha hb (Uh hp)) fun σ H Q h=>Gu aaq h
def X5 {ap cp:Pos}{f:Expr}{Ue Uf:zz}{re rf:En->R D} (hu:X.A.units+100 < cLine) (hN:X.N[i]?=some x) (hv:Vis X.env.scope x) (ho:aJ x=true) (he:PE X e (tM X Ue re)) (hf:PE X f (tM X Uf rf)) (n1:noStar e=true) (n2:noStar f=true) (hl:(ap.endLine == cp.line)=true) :
  PE X (.Call (.Attribute (.Name x p) "get" ap) [e,f] [] cp) (tM X ([i] ++ (Ue ++ Uf)) fun ρ=>do let x <- bF ρ i; let y <- re ρ; let z <- rf ρ; ud x y z):=by
 have hx:PE X (.Name x p) (tM X [i] fun ρ=>bF ρ i):=Hf hN hv ho;refine aZ (Wi hu hx he hf ⟨rfl,by rw [aA n1,aA n2];rfl,hl,by rw [aA n1,aA n2];rfl⟩) fun σ H Q=>?_
 rintro ⟨ρ,Hs,z,hs,hv,h,k⟩;obtain ⟨dx,hdx,h⟩:=aj h;obtain ⟨dy,hdy,h⟩:=aj h;obtain ⟨dz,hdz,h⟩:=aj h;cases dx <;> try (cases h;done)
 rename_i ks vs;obtain ⟨hk,h⟩:=bK h;cases h;refine ⟨ρ,Hs,_,hs,hv.l,hdx,fun v H1 Hs1 g1 r1=>?_⟩;obtain ⟨a,xs,ys,ep,rfl,ha,e1,r2,r3⟩:=kY.mp r1;subst e1;refine ⟨a,_,xs,ys,rfl,⟨⟨ep,g1.sub _ _ ha⟩,rfl,r2.mono g1.sub⟩,ρ,Hs1,dy,g1.sub,hv.r.l.mono (g1.same hs),hdy,fun u H2 Hs2 g2 q2=>?_⟩;refine ⟨ρ,Hs2,dz,g2.sub,hv.r.r.mono ((g1.trans g2).same hs),hdz,fun w H3 Hs3 g3 q3=>?_⟩;have m:=(g2.trans g3).same g1.sub;have m3:=m.trans g3.sub;refine ⟨dy,_,xs,ys,(q2.mono (g3.same g2.sub)).mono g3.sub,hk,⟨⟨ep,m3 _ _ ha⟩,rfl,r2.mono m3⟩,?_⟩;rcases gets (k:=dy) (xs:=xs) (r3.mono m) with ⟨z',v,j1,j2,j3⟩ | ⟨j1,j2⟩
 .rw [j2,Option.getD_some];rw [j1,Option.getD_some] at k;exact (k.grow ((g1.trans g2).trans g3)).here g3.sub j3
 .rw [j2,Option.getD_none];rw [j1,Option.getD_none] at k;exact (k.grow ((g1.trans g2).trans g3)).here g3.sub q3
def tPo (X:Cx) (U:zz) (r:En->R (Option Int)):TO:=fun σ H Q=>∃ ρ Hs o,Same Hs H/\Vs (gOf X) ρ σ Hs U/\r ρ=.ok o/\∀ H' Hs',Grow H Hs H' Hs'->Q o H'
theorem SJ {e:Option Expr}{t t':TO} (h:PO X e t) (i:∀ σ H Q,t' σ H Q->t σ H Q):PO X e t':=fun pins s σ H Q I hq=>h pins s σ H Q I (i σ H Q hq)
theorem acv:PO X none (tPo X U fun _=>.ok none):=SJ Xi fun σ H Q=>by
 rintro ⟨ρ,Hs,z,hs,hv,h,k⟩;cases h;exact k H Hs (Grow.refl hs)
theorem acB (ha:PE X a (tM X U ra)):PO X (some a) (tPo X U fun ρ=>do let d <- ra ρ;lU d):=SJ (LQ ha) fun σ H Q=>by
 rintro ⟨ρ,Hs,z,hs,hv,h,k⟩;obtain ⟨x,hx,h⟩:=aj h;cases x <;> simp only [lU] at h <;> try (cases h;done)
 cases h;exact ⟨ρ,Hs,_,hs,hv,hx,fun v H1 Hs1 g1 r1=>⟨_,aW.mp r1,k H1 Hs1 g1⟩⟩
theorem Zr {lo hi:Option Expr}{rl rh:En->R (Option Int)}{p2:Pos} (ha:PE X a (tM X Ua ra)) (hl:PO X lo (tPo X Ub rl)) (hh:PO X hi (tPo X Uc rh)) :
  PE X (.Subscript a (.Slice lo hi none p2) pos) (tM X (Ua++(Ub++Uc)) fun ρ=>do let x <- ra ρ;let l <- rl ρ;let h <- rh ρ;slD x l h) :=
 aZ (V6 acu ha hl hh) fun σ H Q=>by
  rintro ⟨ρ,Hs,z,hs,hv,h,k⟩;obtain ⟨x,hx,h⟩:=aj h;obtain ⟨l,h1,h⟩:=aj h;obtain ⟨u,h2,h⟩:=aj h;refine ⟨ρ,Hs,x,hs,hv.l,hx,fun v H1 Hs1 g1 r1=>?_⟩;refine ⟨ρ,Hs1,l,g1.sub,hv.r.l.mono (g1.same hs),h1,fun H2 Hs2 g2=>?_⟩;refine ⟨ρ,Hs2,u,g2.sub,hv.r.r.mono ((g1.trans g2).same hs),h2,fun H3 Hs3 g3=>?_⟩;exact TY g3.sub (r1.mono ((g2.trans g3).same g1.sub)) h (k.grow ((g1.trans g2).trans g3))
theorem Uu (ha:PE X a (tM X Ua ra)) (he:∀ whole,isTrue a X.env whole=(do let v <- whole;standAt a.pos;holding [v] (truthy v))):PT X a (tMT X Ua ra) :=
 Bl (Rt ha he) fun σ H Q h=>Dv h
def YW {T:Tx} (C:Cok T cl X) (hg:Gl X x) (ho:aJ x=true) (hF:T.F[f]?=some x) (ha:PA X (e::es) (tMs X U rs)) (hn:(e::es).all noStar=true) :
  PE X (.Call (.Name x p) (e::es) [] pos) (tM X U fun ρ=>do let ds <- rs ρ;cl f ds):=by
 unfold aJ at ho;simp only [Bool.and_eq_true,Bool.not_eq_true',List.all_cons] at ho hn;obtain ⟨k,a,fd,ps,F,hr,hm,hk,hb,hlen,_⟩:=C.fns f x hF;refine aZ (xO F hr hg hm hk hb .nil BR ha ho.1.1 (aA hn.1) (eU hn.2)) fun σ H Q=>?_
 rintro ⟨ρ,Hs,z,hs,hv,h,k⟩;obtain ⟨ds,hd,h⟩:=aj h;refine ⟨ρ,Hs,ds,hs,hv,hd,fun vs H1 Hs1 g1 r1=>?_⟩;show spD (gOf X) (cl f) ps.length (vs++[]) H1 Q E0
 rw [List.append_nil];exact ⟨ds,Hs1,z,by rw [<- r1.length];exact hlen ds z h,g1.sub,r1,h,fun v H2 Hs2 g2 r2=>k v H2 Hs2 (g1.trans g2) r2⟩
def Wn {T:Tx} (C:Cok T cl X) (hg:Gl X x) (ho:aJ x=true) (hF:T.F[f]?=some x) :
  PE X (.Call (.Name x p) [] [] pos) (tM X [] fun ρ=>cl f []):=by
 unfold aJ at ho;simp only [Bool.and_eq_true,Bool.not_eq_true'] at ho;obtain ⟨k,a,fd,ps,F,hr,hm,hk,hb,hlen,_⟩:=C.fns f x hF;refine aZ (Ui F hr hg hm hk hb .nil BR ho.1.1) fun σ H Q=>?_
 rintro ⟨ρ,Hs,z,hs,hv,h,k⟩;exact ⟨[],Hs,z,hlen [] z h,hs,Rps.nil,h,fun v H2 Hs2 g2 r2=>k v H2 Hs2 g2 r2⟩
noncomputable def Di:BI->Bool
 | .listEnum=>false | .listRev=>false | _=>true
def abM (X:Cx):List V->Hp->VK->Prop:=fun xs H Q=>(∃ p ys,xs=[.ref p]/\(SqL X.K H p ys\/SqT X.K H p ys)/\∀ l,H l=none->Q (.ref l) (upd H l (.lst ys)))\/(∃ a ks zs ys,xs=[.ref a]/\DictR X H a ks zs ys/\∀ S,H S=none->Q (.ref S) (upd H S (.lst (zs.map fun x=>V.ref x.2.1))))
def Ul (X:Cx):BI->List V->Hp->VK->Prop
 | .len=>fun xs H Q=>∃ p ys,xs=[.ref p]/\(SqL X.K H p ys\/SqT X.K H p ys)/\Q (.int ys.length) H
 | .min2=>fun xs H Q=>∃ i j,xs=[.int i,.int j]/\Q (.int (if j < i then j else i)) H
 | .all=>aaY X
 | .any=>abn X
 | .sorted=>Lw X
 | .list=>abM X
 | .maxl=>fun xs H Q=>∃ (a:Addr) (n:Int) (ns:List Int),xs=[.ref a]/\SqL X.K H a ((n::ns).map V.int)/\Q (.int (mxI n ns)) H
 | .tuple=>fun xs H Q=>∃ p ys,xs=[.ref p]/\((SqL X.K H p ys/\∀ l,H l=none->Q (.ref l) (upd H l (.tup ys)))\/(SqT X.K H p ys/\Q (.ref p) H))
 | .listEnum=>fun _ _ _=>False
 | .listRev=>fun _ _ _=>False
theorem yS {g:G}{Hs:Hp}:∀ {ds:List D}{xs:List V}{bs:List Bool},Rps g Hs ds xs->boolsOf ds=some bs->xs=bs.map V.bl
 | [],xs,bs,r,h=>by
  simp only [boolsOf] at h;cases h;exact r.nil_inv
 | d::ds,xs,bs,r,h=>by
  obtain ⟨v,ws,rfl,r1,r2⟩:=r.cons_inv;cases d <;> simp only [boolsOf] at h <;> try (cases h;done)
  cases e:boolsOf ds with
  | none=>rw [e] at h;cases h
  | some cs =>
   rw [e] at h;cases h;rw [yS r2 e,nQ.mp r1];rfl
theorem w6 {g:G}{Hs:Hp}:∀ {ds:List D}{xs:List V}{is:List Int},Rps g Hs ds xs->intsOf ds=some is->xs=is.map V.int
 | [],xs,is,r,h=>by
  simp only [intsOf] at h;cases h;exact r.nil_inv
 | d::ds,xs,is,r,h=>by
  obtain ⟨v,ws,rfl,r1,r2⟩:=r.cons_inv;cases d <;> simp only [intsOf] at h <;> try (cases h;done)
  cases e:intsOf ds with
  | none=>rw [e] at h;cases h
  | some cs =>
   rw [e] at h;cases h;rw [w6 r2 e,aW.mp r1];rfl
theorem Fi {g:G}{H:Hp}:∀ (ns:List Int),Rps g H (ns.map D.int) (ns.map V.int)
 | []=>Rps.nil
 | n::ns=>Rps.cons (aW.mpr rfl) (Fi ns)
def Mz (h:xq d=.ok z):∃ ds i is,d=.lst ds/\intsOf ds=some (i::is)/\z=.int (mxI i is):=by
 cases d <;> try (cases h;done)
 rename_i ds;replace h:(match intsOf ds with | some (i::is)=>R.ok (D.int (mxI i is)) | _=>.stuck)=.ok z:=h;split at h
 .cases h;exact ⟨ds,_,_,rfl,‹_›,rfl⟩
 .cases h
def Vt {es:List D} (e:boolsOf es=none):fO .all [.lst es]=.stuck:=by
 show (match boolsOf es with | some bs=>R.ok (D.bl (bs.all id)) | none=>.stuck)=_
 rw [e]
def G9 {es:List D} (e:boolsOf es=some bs):fO .all [.lst es]=.ok (.bl (bs.all id)):=by
 show (match boolsOf es with | some bs=>R.ok (D.bl (bs.all id)) | none=>.stuck)=_
 rw [e]
def Wt {es:List D} (e:boolsOf es=none):fO .any [.lst es]=.stuck:=by
 show (match boolsOf es with | some bs=>R.ok (D.bl (bs.any id)) | none=>.stuck)=_
 rw [e]
def Jg {es:List D} (e:boolsOf es=some bs):fO .any [.lst es]=.ok (.bl (bs.any id)):=by
 show (match boolsOf es with | some bs=>R.ok (D.bl (bs.any id)) | none=>.stuck)=_
 rw [e]
def TV (b:BI) {ds:List D}{vs:List V} (hs:Same Hs H) (r:Rps (gOf X) Hs ds vs) (h:fO b ds=.ok z) (k:XD X H Hs Q z) (hb:Di b=true):Ul X b vs H Q:=by
 have one:∀ {d:D},Rps (gOf X) Hs [d] vs->∃ v,vs=[v]/\Rp (gOf X) Hs d v:=fun r=>by
  obtain ⟨v,ws,rfl,r1,r2⟩:=r.cons_inv;cases r2.nil_inv;exact ⟨v,rfl,r1⟩
 have two:∀ {d e:D},Rps (gOf X) Hs [d,e] vs->∃ v w,vs=[v,w]/\Rp (gOf X) Hs d v/\Rp (gOf X) Hs e w:=fun r=>by
  obtain ⟨v,ws,rfl,r1,r2⟩:=r.cons_inv;obtain ⟨w,ws,rfl,r3,r4⟩:=r2.cons_inv;cases r4.nil_inv;exact ⟨v,w,rfl,r1,r3⟩
 rcases ds with _ | ⟨d,_ | ⟨e,_ | ⟨f,fs⟩⟩⟩
 .cases b <;> cases h
 .obtain ⟨v,rfl,r1⟩:=one r;cases b
  case listEnum=>cases hb
  case listRev=>cases hb
  all_goals dsimp only [Ul]
  case min2=>cases d <;> cases h
  case len =>
   cases d <;> try (cases h;done)
   .obtain ⟨a,xs,rfl,s1,r2⟩:=cX.mp r1;cases h;exact ⟨a,xs,rfl,.inr (aO hs s1),by rw [<- r2.length];exact k.int hs⟩
   .obtain ⟨a,xs,rfl,s1,r2⟩:=bI.mp r1;cases h;exact ⟨a,xs,rfl,.inl (aL hs s1),by rw [<- r2.length];exact k.int hs⟩
  case all =>
   cases d <;> try (cases h;done)
   rename_i es;cases e:boolsOf es with
   | none=>rw [Vt e] at h;cases h
   | some bs =>
    rw [G9 e] at h;cases h;obtain ⟨a,xs,rfl,s1,r2⟩:=bI.mp r1;cases yS r2 e;exact ⟨a,bs,rfl,aL hs s1,k.bl hs⟩
  case any =>
   cases d <;> try (cases h;done)
   rename_i es;cases e:boolsOf es with
   | none=>rw [Wt e] at h;cases h
   | some bs =>
    rw [Jg e] at h;cases h;obtain ⟨a,xs,rfl,s1,r2⟩:=bI.mp r1;cases yS r2 e;exact ⟨a,bs,rfl,aL hs s1,k.bl hs⟩
  case sorted =>
   obtain ⟨es,he,h1⟩:=aj (show (Gz d >>= fun ds=>if mR ds then R.ok (.lst (iT ds)) else .stuck)=.ok z from h);clear h;obtain ⟨hs1,h2⟩:=bK h1;clear h1;cases h2;cases d <;> simp only [Gz] at he <;> try (cases he;done)
   .cases he;obtain ⟨a,xs,rfl,s1,r2⟩:=cX.mp r1;exact ⟨a,es,xs,rfl,⟨r2.mono hs,.inr (.inl (aO hs s1))⟩,ug hs1,fun S ys hS rS=>k.newL hs (rS Hs r2) S hS⟩
   .cases he;obtain ⟨a,xs,rfl,s1,r2⟩:=bI.mp r1;exact ⟨a,es,xs,rfl,⟨r2.mono hs,.inl (aL hs s1)⟩,ug hs1,fun S ys hS rS=>k.newL hs (rS Hs r2) S hS⟩
   .cases he;obtain ⟨a,xs,ys0,ep,rfl,ha,e1,r2,r3⟩:=kY.mp r1;exact ⟨a,_,_,rfl,⟨r2.mono hs,.inr (.inr ⟨xs,ys0,⟨⟨ep,hs _ _ ha⟩,e1,r2.mono hs⟩,rfl⟩)⟩,ug hs1,fun S ys hS rS=>k.newL hs (rS Hs r2) S hS⟩
  case list =>
   cases d <;> try (cases h;done)
   .cases h;obtain ⟨a,xs,rfl,s1,r2⟩:=cX.mp r1;exact .inl ⟨a,xs,rfl,.inr (aO hs s1),k.newL hs r2⟩
   .cases h;obtain ⟨a,xs,rfl,s1,r2⟩:=bI.mp r1;exact .inl ⟨a,xs,rfl,.inl (aL hs s1),k.newL hs r2⟩
   .cases h;obtain ⟨a,xs,ys,ep,rfl,ha,e1,r2,r3⟩:=kY.mp r1;exact .inr ⟨a,_,xs,ys,rfl,⟨⟨ep,hs _ _ ha⟩,e1,r2.mono hs⟩,k.newL hs r2⟩
  case maxl =>
   obtain ⟨ds,i,is,rfl,e1,rfl⟩:=Mz h;obtain ⟨a,xs,rfl,s1,r2⟩:=bI.mp r1;cases w6 r2 e1;exact ⟨a,i,is,rfl,aL hs s1,k.int hs⟩
  case tuple =>
   cases d <;> try (cases h;done)
   .cases h;obtain ⟨a,xs,rfl,s1,r2⟩:=cX.mp r1;exact ⟨a,xs,rfl,.inr ⟨aO hs s1,k.here hs r1⟩⟩
   .cases h;obtain ⟨a,xs,rfl,s1,r2⟩:=bI.mp r1;exact ⟨a,xs,rfl,.inl ⟨aL hs s1,k.newT hs r2⟩⟩
 .obtain ⟨v,w,rfl,r1,r2⟩:=two r;cases b
  case listEnum=>cases hb
  case listRev=>cases hb
  case min2 =>
   cases d <;> cases e <;> try (cases h;done)
   cases h;cases aW.mp r1;cases aW.mp r2;exact ⟨_,_,rfl,k.int hs⟩
  all_goals (first | (cases h;done) | (cases d <;> cases h))
 .have e0:fO b (d::e::f::fs)=.stuck:=by cases b <;> first | rfl | (cases d <;> first | rfl | (cases e <;> rfl))
  rw [e0] at h;cases h
def boot_max:bootBuiltins "max"=some (.builtin "max"):=by decide +kernel
def QW:bootBuiltins "any"=some (.builtin "any"):=by decide +kernel
def Ql:bootBuiltins "int"=some (.type "int"):=by decide +kernel
def RK:bootBuiltins "str"=some (.type "str"):=by decide +kernel
def yD:bootBuiltins "tuple"=some (.type "tuple"):=by decide +kernel
def uy:bootBuiltins "list"=some (.type "list"):=by decide +kernel
def aaL {T:Tx} (b:BI)  (C:Cok T cl X) (hx:x=RM b) (hg:Gl X x) (ha:PA X (e::es) (tMs X U rs)) (hn:(e::es).all noStar=true) (hb:Di b=true) :
  PE X (.Call (.Name x p) (e::es) [] pos) (tM X U fun ρ=>do let ds <- rs ρ;fO b ds):=by
 simp only [List.all_cons,Bool.and_eq_true] at hn;have key:PE X (.Call (.Name x p) (e::es) [] pos) (tCB (Ul X b) (tMs X U rs)):=by
  subst hx;cases b
  case listEnum=>cases hb
  case listRev=>cases hb
  case len=>exact jL Jr hg (C.blt _ (by decide +kernel)) PySem.boot_len ha (by decide +kernel) (by decide +kernel) (aA hn.1) (eU hn.2)
  case min2=>exact jL (Pz C.calm) hg (C.blt _ (by decide +kernel)) boot_min ha (by decide +kernel) (by decide +kernel) (aA hn.1) (eU hn.2)
  case all=>exact jL (Rr C.calm) hg (C.blt _ (by decide +kernel)) boot_all ha (by decide +kernel) (by decide +kernel) (aA hn.1) (eU hn.2)
  case any=>exact jL (Ru C.calm) hg (C.blt _ (by decide +kernel)) QW ha (by decide +kernel) (by decide +kernel) (aA hn.1) (eU hn.2)
  case sorted=>exact jL (JX C.calm C.un) hg (C.blt _ (by decide +kernel)) boot_sorted ha (by decide +kernel) (by decide +kernel) (aA hn.1) (eU hn.2)
  case maxl=>exact jL (Tr C.calm) hg (C.blt _ (by decide +kernel)) boot_max ha (by decide +kernel) (by decide +kernel) (aA hn.1) (eU hn.2)
  case list=>exact vI (vW.or (Bq C.calm)) hg (C.blt _ (by decide +kernel)) uy ha (by decide +kernel) (by decide +kernel) (aA hn.1) (eU hn.2)
  case tuple=>exact vI Fy hg (C.blt _ (by decide +kernel)) yD ha (by decide +kernel) (by decide +kernel) (aA hn.1) (eU hn.2)
 refine aZ key fun σ H Q=>?_
 rintro ⟨ρ,Hs,z,hs,hv,h,k⟩;obtain ⟨ds,hd,h⟩:=aj h;exact ⟨ρ,Hs,ds,hs,hv,hd,fun vs H1 Hs1 g1 r1=>TV b g1.sub r1 h (k.grow g1) hb⟩
end
end Mi
set_option maxHeartbeats 1000000
namespace Mi
open PySem L2
open PyProof.Rows hiding St
variable {g:G}{d:D}{vs zs ys:List V}{p p2 pos2 cp tpos:Pos}{j x1:Nat}{ds:List D}{els:ve}
section
variable {X:Cx}{σ:St}{H Hs:Hp}{Q:VK}{U Ua Ub Uc:zz}{r ra rb rc:En->R D}{e a:Expr}{es:ve}{rs:En->R (List D)}{pos:Pos}{T:Tx}{cl:Nat->List D->R D}
def oE (r:Rps g Hs [d] vs):∃ v,vs=[v]/\Rp g Hs d v:=by
 obtain ⟨v,ws,rfl,r1,r2⟩:=r.cons_inv;cases r2.nil_inv;exact ⟨v,rfl,r1⟩
def CW {e:D} (r:Rps g Hs [d,e] vs):∃ v w,vs=[v,w]/\Rp g Hs d v/\Rp g Hs e w:=by
 obtain ⟨v,ws,rfl,r1,r2⟩:=r.cons_inv;obtain ⟨w,ws,rfl,r3,r4⟩:=r2.cons_inv;cases r4.nil_inv;exact ⟨v,w,rfl,r1,r3⟩
def Pa:bootBuiltins "bool"=some (.type "bool"):=by decide +kernel
def ab7 (C:Cok T cl X) (t:Ty) (hg:Gl X t.nm):PE X (.Name t.nm p) (tC (.ty t.name)):=by
 cases t
 .exact sU hg (C.blt _ (by decide +kernel)) Ql rfl (by decide +kernel) (by decide +kernel)
 .exact sU hg (C.blt _ (by decide +kernel)) Pa rfl (by decide +kernel) (by decide +kernel)
 .exact sU hg (C.blt _ (by decide +kernel)) RK rfl (by decide +kernel) (by decide +kernel)
 .exact sU hg (C.blt _ (by decide +kernel)) yD rfl (by decide +kernel) (by decide +kernel)
 .exact sU hg (C.blt _ (by decide +kernel)) uy rfl (by decide +kernel) (by decide +kernel)
def Ze (C:Cok T cl X) (t:Ty) (hg:Gl X "isinstance") (hg2:Gl X t.nm) (ha:PE X a (tM X U ra)) (hn:noStar a=true) :
  PE X (.Call (.Name "isinstance" p) [a,.Name t.nm p2] [] pos) (tM X U fun ρ=>do let x <- ra ρ; .ok (.bl (kO x t))):=by
 refine aZ (jL Rb hg (C.blt _ (by decide +kernel)) boot_isinstance (dD ha (dD (ab7 C t hg2) gH (aA rfl)) (aA hn)) (by decide +kernel) (by decide +kernel) (aA hn) rfl) fun σ H Q=>?_
 rintro ⟨ρ,Hs,z,hs,hv,h,k⟩;obtain ⟨x,hx,h1⟩:=aj h;clear h;cases h1;exact ⟨ρ,Hs,x,hs,hv,hx,fun v H1 Hs1 g1 r1=>⟨x,v,t,rfl,r1.mono g1.sub,(k.grow g1).bl g1.sub⟩⟩
theorem Ec {g:G}{Hs1 Hs':Hp} (m:Same Hs1 Hs'):∀ (n:Nat) {ds:List D}{xs:List V}{ps:List Addr},Rps g Hs1 ds xs->ps.length=xs.length ->
  (∀ (j:Nat) p x,ps[j]?=some p->xs[j]?=some x->Hs' p=some (.tup [.int ((n+j:Nat):Int),x]))->Rps g Hs' (aQ n ds) (ps.map V.ref)
 | n,[],xs,ps,r,hl,h=>by
  cases r.nil_inv;cases ps with
  | nil=>exact Rps.nil
  | cons _ _=>simp at hl
 | n,d::ds,xs,ps,r,hl,h=>by
  obtain ⟨v,ws,rfl,r1,r2⟩:=r.cons_inv;cases ps with
  | nil=>simp at hl
  | cons p ps =>
   have h0:=h 0 p v rfl rfl;refine Rps.cons (cX.mpr ⟨p,_,rfl,SqT.of h0,Rps.cons (aW.mpr (by simp)) (Rps.one (r1.mono m))⟩) (Ec m (n+1) r2 (by simpa using hl) fun j q x e1 e2=>?_);have:=h (j+1) q x (by simpa using e1) (by simpa using e2);rw [this,show n+(j+1)=n+1+j by omega]
def JZ (C:Cok T cl X) (hg:Gl X "enumerate") (hg2:Gl X "list") (ha:PA X [a] (tMs X U rs)) (hn:noStar a=true) :
  PE X (.Call (.Name "list" p) [.Call (.Name "enumerate" p2) [a] [] pos2] [] pos) (tM X U fun ρ=>do let ds <- rs ρ; fO .listEnum ds):=by
 refine aZ (Ks C.calm hg (C.blt _ (by decide +kernel)) hg2 (C.blt _ (by decide +kernel)) ha (aA hn)) fun σ H Q=>?_
 rintro ⟨ρ,Hs,z,hs,hv,h,k⟩;obtain ⟨ds,hd,h1⟩:=aj h;clear h;refine ⟨ρ,Hs,ds,hs,hv,hd,fun vs H1 Hs1 g1 r1=>?_⟩;rcases ds with _ | ⟨d,_ | ⟨d2,ds⟩⟩
 .cases h1
 .cases d <;> try (cases h1;done)
  cases h1;obtain ⟨v,rfl,r2⟩:=oE r1;obtain ⟨b,xs,rfl,s1,r3⟩:=cX.mp r2;refine ⟨b,xs,rfl,aO g1.sub s1,fun S H' ps hS hps kp hH' hl ht=>?_⟩
  classical
  let Hs':Hp:=fun b=>if b=S\/b∈ps then H' b else Hs1 b
  have old:∀ c o,H1 c=some o->Hs' c=Hs1 c:=fun c o q=>by
   have:¬ (c=S\/c∈ps):=by
    rintro (rfl | z)
    .rw [hS] at q;cases q
    .rw [hps c z] at q;cases q
   show (if c=S\/c∈ps then H' c else Hs1 c)=_
   rw [if_neg this]
  have g2:Grow H1 Hs1 H' Hs':=⟨kp,old,fun c o q=>by
   by_cases z:c=S\/c∈ps
   .have e:Hs' c=H' c:=if_pos z;rw [e] at q;exact q
   .have e:Hs' c=Hs1 c:=if_neg z;rw [e] at q;exact kp c o (g1.sub c o q)⟩
  have eS:Hs' S=some (.lst (ps.map V.ref)):=by
   have e:Hs' S=H' S:=if_pos (.inl rfl);rw [e];exact hH'
  refine k _ _ _ (g1.trans g2) (bI.mpr ⟨S,_,rfl,SqL.of eS,Ec (g2.same g1.sub) 0 r3 hl fun j p x e1 e2=>?_⟩);have hp:p∈ps:=List.mem_of_getElem? e1;have e:Hs' p=H' p:=if_pos (.inr hp);rw [e,ht j p x e1 e2];simp
 .cases d <;> cases h1
theorem Rps.reverse {g:G}{H:Hp}:∀ {ds:List D}{vs:List V},Rps g H ds vs->Rps g H ds.reverse vs.reverse
 | [],vs,r=>by cases r.nil_inv;exact Rps.nil
 | d::ds,vs,r=>by
  obtain ⟨v,ws,rfl,r0,rs⟩:=r.cons_inv;rw [List.reverse_cons,List.reverse_cons];exact (Rps.reverse rs).append (Rps.one r0)
def Xw {cl:Nat -> List D -> R D}{ra:En -> R D}{k:Int}{q r2:Pos} (C:Cok T cl X) (hg:Gl X "max") (ha:PE X a (tM X Ua ra)) (hn:noStar a=true) :
  PE X (.Call (.Name "max" p) [a] [⟨some "default",.Constant (.int k) j q,r2⟩] cp) (tM X Ua fun ρ=>do let d <- ra ρ; GD k d):=by
 refine aZ (Yq C.calm hg (C.blt _ (by decide +kernel)) ha (aA hn)) fun σ H Q=>?_
 rintro ⟨ρ,Hs,z,hs,hv,h,kk⟩;obtain ⟨d,hd,h⟩:=aj h;refine ⟨ρ,Hs,d,hs,hv,hd,fun v H1 Hs1 g1 r1=>?_⟩;by_cases e0:d=.lst []
 .subst e0;cases h;obtain ⟨a,xs,rfl,s1,r2⟩:=bI.mp r1;cases r2.nil_inv;exact ⟨a,[],rfl,aL g1.sub s1,(kk.grow g1).int g1.sub⟩
 .have h':xq d=.ok z:=by
   cases d <;> try exact h
   rename_i ds;cases ds with
   | nil=>exact absurd rfl e0
   | cons _ _=>exact h
  obtain ⟨ds,i,is,rfl,e1,rfl⟩:=Mz h';obtain ⟨a,xs,rfl,s1,r2⟩:=bI.mp r1;cases w6 r2 e1;exact ⟨a,i::is,rfl,aL g1.sub s1,(kk.grow g1).int g1.sub⟩
def Zt {i:Nat}{x:Str}{ap:Pos} (hN:X.N[i]?=some x) (hv:Vis X.env.scope x) (ho:aJ x=true) (ha:PE X a (tM X Ua ra)) (hn:noStar a=true) (hl:(ap.endLine == cp.line)=true) :
  PE X (.Call (.Attribute (.Name x p) "index" ap) [a] [] cp) (tM X (i::Ua) fun ρ=>do let d <- bF ρ i; let e <- ra ρ; O9 d e):=by
 refine aZ (GC PySem.F.plainAttrs_list PySem.F.slot_list_index PySem.F.type_list_index V0 (Hf hN hv ho) (dD ha gH (aA hn)) rfl (by rw [aA hn];rfl) hl (aA hn) rfl) fun σ H Q=>?_
 rintro ⟨ρ,Hs,z,hs,hv,h,kk⟩;obtain ⟨d,hd,h1⟩:=aj h;clear h;obtain ⟨e,he,h⟩:=aj h1;clear h1;cases d <;> try (cases h;done)
 rename_i ds;cases e <;> try (cases h;done)
 rename_i k;replace h:(match intsOf ds with | some is=>(match is.findIdx? (fun a=>decide (a=k)) with | some j=>R.ok (D.int j) | none=>.stuck) | none=>.stuck)=.ok z:=h;split at h <;> try (cases h;done)
 rename_i is e1;split at h <;> try (cases h;done)
 rename_i j e2;cases h;refine ⟨ρ,Hs,_,hs,hv.sub (fun j hj=>by rw [List.mem_singleton.mp hj];exact vE),hd,fun v H1 Hs1 g1 r1=>?_⟩;obtain ⟨a,xs,rfl,s1,r2⟩:=bI.mp r1;cases w6 r2 e1;refine ⟨.inl ⟨rfl,_,aL g1.sub s1⟩,ρ,Hs1,_,g1.sub,(hv.sub (fun j hj=>vz _ hj)).mono (g1.same hs),he,fun u H2 Hs2 g2 r3=>?_⟩;cases aW.mp r3;exact ⟨a,is,k,j,rfl,rfl,aL ((g2.same g1.sub).trans g2.sub) s1,e2,((kk.grow g1).grow g2).int g2.sub⟩
def Nq {cl:Nat -> List D -> R D} (C:Cok T cl X) (hg:Gl X "reversed") (hgl:Gl X "list") (ha:PA X [a] (tMs X U rs)) (hn:noStar a=true) :
  PE X (.Call (.Name "list" p) [.Call (.Name "reversed" p2) [a] [] pos2] [] pos) (tM X U fun ρ=>do let ds <- rs ρ; fO .listRev ds):=by
 refine aZ (Om C.calm hg (C.blt _ (by decide +kernel)) hgl (C.blt _ (by decide +kernel)) ha (aA hn)) fun σ H Q=>?_
 rintro ⟨ρ,Hs,z,hs,hv,h,k⟩;obtain ⟨ds,hd,h1⟩:=aj h;refine ⟨ρ,Hs,ds,hs,hv,hd,fun vs H1 Hs1 g1 r1=>?_⟩;rcases ds with _ | ⟨d,_ | ⟨d2,ds⟩⟩
 .cases h1
 .obtain ⟨v,rfl,r2⟩:=oE r1;cases d <;> try (cases h1;done)
  cases h1;obtain ⟨b,zs,rfl,s1,r3⟩:=bI.mp r2;exact ⟨b,zs,rfl,aL g1.sub s1,(k.grow g1).newL g1.sub r3.reverse⟩
 .cases d <;> cases h1
def aau {p1 p3:Pos} (ha:PE X a (tM X Ua ra)):PE X (.Subscript a (.Slice none none (some (.UnaryOp .USub (.Constant (.int 1) j p1) p2)) p3) pos) (tM X Ua fun ρ=>do let d <- ra ρ;Og d):=by
 refine aZ (abe ha) fun σ H Q=>?_
 rintro ⟨ρ,Hs,z,hs,hv,h,kk⟩;obtain ⟨d,hd,h⟩:=aj h;cases d <;> try (cases h;done)
 cases h;refine ⟨ρ,Hs,_,hs,hv,hd,fun v H1 Hs1 g1 r1=>?_⟩;obtain ⟨a,xs,rfl,s1,r2⟩:=bI.mp r1;exact ⟨a,xs,rfl,aL g1.sub s1,(kk.grow g1).newL g1.sub r2.reverse⟩
structure Src (g:G) (J:It) (Hs:Hp) (ds:List D):Prop where
 go:∀ i H,Same Hs H->i < ds.length->J.go i H
 yld:∀ i H x H' Hs1 d,Same Hs Hs1->Same Hs1 H->ds[i]?=some d->J.yld i H x H'->∃ Hs2,Grow H Hs1 H' Hs2/\Rp g Hs2 d x
 stop:∀ H,Same Hs H->J.stop ds.length H
theorem src_list {a:Addr} (h:SqL X.K Hs a zs) (r:Rps (gOf X) Hs ds zs):Src (gOf X) (Itl X.K a) Hs ds where
 go:=fun i H hs hi=>⟨zs,zs[i]'(by rw [<- r.length];exact hi),aL hs h,by simp⟩
 yld:=fun i H x H' Hs1 d hs1 hs e ⟨e1,y⟩=>by
  subst e1;have e2:=y zs (aL (hs1.trans hs) h);obtain ⟨v,e3,rv⟩:=r.getD e;rw [e2] at e3;cases e3;exact ⟨Hs1,Grow.refl hs,rv.mono hs1⟩
 stop:=fun H hs=>⟨zs,aL hs h,by rw [<- r.length];exact v6 _⟩
theorem XR {a:Addr} (h:SqT X.K Hs a zs) (r:Rps (gOf X) Hs ds zs):Src (gOf X) (Itt X.K a) Hs ds where
 go:=fun i H hs hi=>⟨zs,zs[i]'(by rw [<- r.length];exact hi),aO hs h,by simp⟩
 yld:=fun i H x H' Hs1 d hs1 hs e ⟨e1,y⟩=>by
  subst e1;have e2:=y zs (aO (hs1.trans hs) h);obtain ⟨v,e3,rv⟩:=r.getD e;rw [e2] at e3;cases e3;exact ⟨Hs1,Grow.refl hs,rv.mono hs1⟩
 stop:=fun H hs=>⟨zs,aO hs h,by rw [<- r.length];exact v6 _⟩
theorem W8 {a:Addr}{ks:List D}{xs:List (D × Addr × Value)}{ep:Nat} (h:Hs a=some (.ext (DAt (gOf X) a xs ys ep))) (e1:ks=xs.map (·.1)) (r:Rps (gOf X) Hs ks (xs.map fun x=>V.ref x.2.1)):Src (gOf X) (Itk (gOf X) a xs ys ep) Hs ks where
 go:=fun i H hs hi=>⟨hs _ _ h,by rw [e1,List.length_map] at hi;exact hi⟩
 yld:=fun i H x H' Hs1 d hs1 hs e ⟨e0,q,eq,ex⟩=>by
  subst e0 ex;obtain ⟨v,e3,rv⟩:=r.getD e;rw [List.getElem?_map,eq] at e3;cases e3;exact ⟨Hs1,Grow.refl hs,rv.mono hs1⟩
 stop:=fun H hs=>⟨hs _ _ h,by rw [e1,List.length_map];exact v6 _⟩
def Mp {lo:Int}{n:Nat}:Src (gOf X) (Itr lo n) Hs ((List.range n).map fun (k:Nat)=>D.int (lo+(k:Int))) where
 go:=fun i H hs hi=>by show i < n;simpa using hi
 yld:=fun i H x H' Hs1 d hs1 hs e ⟨e1,y⟩=>by
  subst e1 y;rw [List.getElem?_map] at e;cases q:(List.range n)[i]? with
  | none=>rw [q] at e;cases e
  | some j =>
   rw [q] at e;have:j=i:=by
    have:=vV.mp q;obtain ⟨_,z⟩:=this;simpa using z.symm
   subst this;cases e;exact ⟨Hs1,Grow.refl hs,aW.mpr rfl⟩
 stop:=fun H hs=>by simp [Itr]
theorem Aa:∀ {n:Nat}{ds:List D}{i:Nat}{d:D},(aQ n ds)[i]?=some d->∃ y,ds[i]?=some y/\d=.tup [.int ((n+i:Nat):Int),y]
 | n,[],i,d,h=>by simp [aQ] at h
 | n,y::ds,0,d,h=>by simp [aQ] at h;exact ⟨y,rfl,by rw [<- h];rfl⟩
 | n,y::ds,i+1,d,h=>by
  simp only [aQ,List.getElem?_cons_succ] at h;obtain ⟨z,e1,e2⟩:=Aa h;exact ⟨z,by simpa using e1,by rw [e2,show n+1+i=n+(i+1) by omega]⟩
theorem oO:∀ (n:Nat) (ds:List D),(aQ n ds).length=ds.length
 | _,[]=>rfl
 | n,d::ds=>by simp [aQ,oO (n+1) ds]
theorem Qs {a:Addr} (h:SqT X.K Hs a zs) (r:Rps (gOf X) Hs ds zs):Src (gOf X) (Oi X.K a) Hs (aQ 0 ds) where
 go:=fun i H hs hi=>⟨zs,zs[i]'(by rw [<- r.length];rw [oO] at hi;exact hi),aO hs h,by simp⟩
 yld:=fun i H x H' Hs1 d hs1 hs e ⟨p,y,hp,e1,e2,y2⟩=>by
  subst e1 e2;have e3:=y2 zs (aO (hs1.trans hs) h);obtain ⟨z,e4,e5⟩:=Aa e;obtain ⟨v,e6,rv⟩:=r.getD e4;rw [e3] at e6;cases e6;subst e5;refine ⟨_,Grow.new hs hp,cX.mpr ⟨p,_,rfl,SqT.of aB,Rps.cons (aW.mpr (by simp)) (Rps.one (rv.mono (hs1.trans (oR hs hp))))⟩⟩
 stop:=fun H hs=>⟨zs,aO hs h,by rw [oO,r.length]⟩
theorem Tt {a:Addr} (h:SqL X.K Hs a zs) (r:Rps (gOf X) Hs ds zs):Src (gOf X) (Ny X.K a) Hs (aQ 0 ds) where
 go:=fun i H hs hi=>⟨zs,zs[i]'(by rw [<- r.length];rw [oO] at hi;exact hi),aL hs h,by simp⟩
 yld:=fun i H x H' Hs1 d hs1 hs e ⟨p,y,hp,e1,e2,y2⟩=>by
  subst e1 e2;have e3:=y2 zs (aL (hs1.trans hs) h);obtain ⟨z,e4,e5⟩:=Aa e;obtain ⟨v,e6,rv⟩:=r.getD e4;rw [e3] at e6;cases e6;subst e5;refine ⟨_,Grow.new hs hp,cX.mpr ⟨p,_,rfl,SqT.of aB,Rps.cons (aW.mpr (by simp)) (Rps.one (rv.mono (hs1.trans (oR hs hp))))⟩⟩
 stop:=fun H hs=>⟨zs,aL hs h,by rw [oO,r.length]⟩
def tI (X:Cx) (U:zz) (r:En->R (List D)):TI:=fun σ H R=>∃ ρ Hs ds,Same Hs H/\Vs (gOf X) ρ σ Hs U/\r ρ=.ok ds/\∀ J H' Hs',Grow H Hs H' Hs'->Src (gOf X) J Hs' ds->R J H'
variable {tg iter b:Expr}
def aaF (h:PE X iter (tM X U r)):PI X tg iter (tI X U fun ρ=>do let d <- r ρ;itemsOf .seq [d]):=by
 intro pins s σ H R I hq;obtain ⟨ρ,Hs,ds,hs,hv,h1,k⟩:=hq;obtain ⟨d,hd,h2⟩:=aj h1;clear h1;cases d <;> try (cases h2;done)
 .cases h2;refine aak h pins s σ H R I ⟨ρ,Hs,_,hs,hv,hd,fun v H1 Hs1 g1 r1=>?_⟩;obtain ⟨a,zs,rfl,s1,r2⟩:=cX.mp r1;exact ⟨a,rfl,⟨zs,aO g1.sub s1⟩,k _ _ _ g1 (XR s1 r2)⟩
 .cases h2;refine Xe h pins s σ H R I ⟨ρ,Hs,_,hs,hv,hd,fun v H1 Hs1 g1 r1=>?_⟩;obtain ⟨a,zs,rfl,s1,r2⟩:=bI.mp r1;exact ⟨a,rfl,⟨zs,aL g1.sub s1⟩,k _ _ _ g1 (src_list s1 r2)⟩
 .cases h2;refine aam h pins s σ H R I ⟨ρ,Hs,_,hs,hv,hd,fun v H1 Hs1 g1 r1=>?_⟩;obtain ⟨a,xs,ys,ep,rfl,ha,e1,r2,r3⟩:=kY.mp r1;exact ⟨a,xs,ys,ep,rfl,g1.sub _ _ ha,k _ _ _ g1 (W8 ha e1 r2)⟩
def WL:(lim:Int) < 2 ^ 62:=by decide
def Yx (C:Cok T cl X) (hg:Gl X "range") (hn:noStar a=true) (ha:PA X [a] (tMs X U rs)) (hl:∀ ρ ds,rs ρ=.ok ds -> ds.length=1) :
  PI X tg (.Call (.Name "range" p) [a] [] pos) (tI X U fun ρ=>do let ds <- rs ρ; itemsOf .rng ds):=by
 intro pins s σ H R I hq;obtain ⟨ρ,Hs,ds,hs,hv,h1,k⟩:=hq;obtain ⟨d,hd,h2⟩:=aj h1;clear h1;have hlen:=hl ρ d hd;rcases d with _ | ⟨d,_ | ⟨d2,d3⟩⟩
 .simp at hlen
 .cases d <;> try (cases h2;done)
  obtain ⟨c,h3⟩:=bK h2;cases h3;refine R9 hg (C.blt _ (by decide +kernel)) ha (aA hn) pins s σ H R I ⟨ρ,Hs,_,hs,hv,hd,fun vs H1 Hs1 g1 r1=>?_⟩;obtain ⟨v,rfl,r2⟩:=oE r1;cases aW.mp r2;have:=WL;refine ⟨_,rfl,by omega,by omega,k _ _ _ g1 ?_⟩;have e:=Mp (X:=X) (Hs:=Hs1) (lo:=0) (n:=Int.toNat ‹Int›);simpa using e
 .simp at hlen
def Zi (C:Cok T cl X) (hg:Gl X "range") (hn:noStar a=true) (hn2:noStar b=true) (ha:PA X [a,b] (tMs X U rs)) (hl:∀ ρ ds,rs ρ=.ok ds -> ds.length=2) :
  PI X tg (.Call (.Name "range" p) [a,b] [] pos) (tI X U fun ρ=>do let ds <- rs ρ; itemsOf .rng ds):=by
 intro pins s σ H R I hq;obtain ⟨ρ,Hs,ds,hs,hv,h1,k⟩:=hq;obtain ⟨d,hd,h2⟩:=aj h1;clear h1;have hlen:=hl ρ d hd;rcases d with _ | ⟨d,_ | ⟨d2,_ | ⟨d3,d4⟩⟩⟩
 .simp at hlen
 .simp at hlen
 .cases d <;> cases d2 <;> try (cases h2;done)
  obtain ⟨c,h3⟩:=bK h2;cases h3;refine QB hg (C.blt _ (by decide +kernel)) ha (by rw [aA hn,aA hn2];rfl) (by rw [aA hn2];rfl) pins s σ H R I ⟨ρ,Hs,_,hs,hv,hd,fun vs H1 Hs1 g1 r1=>?_⟩;obtain ⟨v,w,rfl,r2,r3⟩:=CW r1;cases aW.mp r2;cases aW.mp r3;have:=WL;exact ⟨_,_,rfl,⟨by omega,by omega,by omega,by omega⟩,k _ _ _ g1 Mp⟩
 .simp at hlen
def Xq (C:Cok T cl X) (hg:Gl X "enumerate") (hn:noStar a=true) (ha:PA X [a] (tMs X U rs)) :
  PI X (.Tuple els x1 tpos) (.Call (.Name "enumerate" p) [a] [] pos) (tI X U fun ρ=>do let ds <- rs ρ; itemsOf .enum ds):=by
 intro pins s σ H R I hq;obtain ⟨ρ,Hs,ds,hs,hv,h1,k⟩:=hq;obtain ⟨d,hd,h2⟩:=aj h1;clear h1;rcases d with _ | ⟨d,_ | ⟨d2,d3⟩⟩
 .cases h2
 .cases d <;> try (cases h2;done)
  .cases h2;refine TF hg (C.blt _ (by decide +kernel)) ha (aA hn) pins s σ H R I ⟨ρ,Hs,_,hs,hv,hd,fun vs H1 Hs1 g1 r1=>?_⟩;obtain ⟨v,rfl,r2⟩:=oE r1;obtain ⟨a,zs,rfl,s1,r3⟩:=cX.mp r2;exact ⟨a,zs,rfl,aO g1.sub s1,k _ _ _ g1 (Qs s1 r3)⟩
  .cases h2;refine Us hg (C.blt _ (by decide +kernel)) ha (aA hn) pins s σ H R I ⟨ρ,Hs,_,hs,hv,hd,fun vs H1 Hs1 g1 r1=>?_⟩;obtain ⟨v,rfl,r2⟩:=oE r1;obtain ⟨a,zs,rfl,s1,r3⟩:=bI.mp r2;exact ⟨a,zs,rfl,aL g1.sub s1,k _ _ _ g1 (Tt s1 r3)⟩
 .cases d <;> cases h2
theorem zip_get:∀ {as bs:List D}{i:Nat}{d:D},(rT as bs)[i]?=some d->∃ x y,as[i]?=some x/\bs[i]?=some y/\d=.tup [x,y]
 | [],bs,i,d,h=>by cases bs <;> cases h
 | a::as,[],i,d,h=>by cases h
 | a::as,b::bs,0,d,h=>by cases h;exact ⟨a,b,rfl,rfl,rfl⟩
 | a::as,b::bs,i+1,d,h=>zip_get (as:=as) (bs:=bs) (i:=i) h
theorem Dj:∀ (as bs:List D),(rT as bs).length=min as.length bs.length
 | [],bs=>by cases bs <;> simp [rT]
 | a::as,[]=>by simp [rT]
 | a::as,b::bs=>by
  have:=Dj as bs;simp only [rT,List.length_cons];omega
theorem Yj {a b:Addr}{as bs:List D}{xs:List V} (h1:SqT X.K Hs a xs) (h2:SqT X.K Hs b ys) (r1:Rps (gOf X) Hs as xs) (r2:Rps (gOf X) Hs bs ys):Src (gOf X) (Itz X.K a b) Hs (rT as bs) where
 go:=fun i H hs hi=>by
  rw [Dj] at hi;have l1:=r1.length;have l2:=r2.length;exact ⟨xs,ys,xs[i]'(by omega),ys[i]'(by omega),aO hs h1,aO hs h2,by simp,by simp⟩
 yld:=fun i H x H' Hs1 d hs1 hs e ⟨p,u,v,hp,e1,e2,y1,y2⟩=>by
  subst e1 e2;obtain ⟨d1,d2,g1,g2,rfl⟩:=zip_get e;obtain ⟨v1,f1,q1⟩:=r1.getD g1;obtain ⟨v2,f2,q2⟩:=r2.getD g2;rw [y1 xs (aO (hs1.trans hs) h1)] at f1;cases f1;rw [y2 ys (aO (hs1.trans hs) h2)] at f2;cases f2;have m:Same Hs (upd Hs1 p (.tup [u,v])):=hs1.trans (oR hs hp);exact ⟨_,Grow.new hs hp,cX.mpr ⟨p,_,rfl,SqT.of aB,Rps.cons (q1.mono m) (Rps.one (q2.mono m))⟩⟩
 stop:=fun H hs=>by
  have l1:=r1.length;have l2:=r2.length;refine ⟨xs,ys,aO hs h1,aO hs h2,?_⟩;rw [Dj,List.getElem?_eq_none_iff,List.getElem?_eq_none_iff];omega
def Zz (C:Cok T cl X) (hg:Gl X "zip") (hn:noStar a=true) (hn2:noStar b=true) (ha:PA X [a,b] (tMs X U rs)) :
  PI X (.Tuple els x1 tpos) (.Call (.Name "zip" p) [a,b] [] pos) (tI X U fun ρ=>do let ds <- rs ρ; itemsOf .zip ds):=by
 intro pins s σ H R I hq;obtain ⟨ρ,Hs,ds,hs,hv,h1,k⟩:=hq;obtain ⟨d,hd,h2⟩:=aj h1;clear h1;rcases d with _ | ⟨d,_ | ⟨d2,_ | ⟨d3,d4⟩⟩⟩
 .cases h2
 .cases d <;> cases h2
 .cases d <;> cases d2 <;> try (cases h2;done)
  cases h2;refine aan hg (C.blt _ (by decide +kernel)) ha (by rw [aA hn,aA hn2];rfl) (by rw [aA hn2];rfl) pins s σ H R I ⟨ρ,Hs,_,hs,hv,hd,fun vs H1 Hs1 g1 r1=>?_⟩;obtain ⟨v,w,rfl,r2,r3⟩:=CW r1;obtain ⟨a1,xs,rfl,s1,q1⟩:=cX.mp r2;obtain ⟨a2,ys,rfl,s2,q2⟩:=cX.mp r3;exact ⟨a1,xs,a2,ys,rfl,aO g1.sub s1,aO g1.sub s2,k _ _ _ g1 (Yj s1 s2 q1 q2)⟩
 .cases d <;> cases d2 <;> cases h2
def X7 {a:Addr} (h:SqL X.K Hs a zs) (r:Rps (gOf X) Hs ds zs):Src (gOf X) (Itv X.K a zs.length) Hs ds.reverse where
 go:=fun i H hs hi=>by
  have l:=r.length;rw [List.length_reverse] at hi;exact ⟨zs,zs[zs.length - 1 - i]'(by omega),aL hs h,by omega,by simp⟩
 yld:=fun i H x H' Hs1 d hs1 hs e ⟨e1,y⟩=>by
  subst e1;have l:=r.length;have hi:i < ds.length:=by
   have:=(vV.mp e).1
   rwa [List.length_reverse] at this
  rw [List.getElem?_reverse hi,l] at e;have e2:=y zs (aL (hs1.trans hs) h);obtain ⟨v,e3,rv⟩:=r.getD e;rw [e2] at e3;cases e3;exact ⟨Hs1,Grow.refl hs,rv.mono hs1⟩
 stop:=fun H hs=>by
  have l:=r.length;show ds.reverse.length=zs.length
  rw [List.length_reverse,l]
def ZK (C:Cok T cl X) (hg:Gl X "reversed") (hn:noStar a=true) (ha:PA X [a] (tMs X U rs)) :
  PI X tg (.Call (.Name "reversed" p) [a] [] pos) (tI X U fun ρ=>do let ds <- rs ρ; itemsOf .rev ds):=by
 intro pins s σ H R I hq;obtain ⟨ρ,Hs,ds,hs,hv,h1,k⟩:=hq;obtain ⟨d,hd,h2⟩:=aj h1;clear h1;rcases d with _ | ⟨d,_ | ⟨d2,d3⟩⟩
 .cases h2
 .cases d <;> try (cases h2;done)
  cases h2;refine abg hg (C.blt _ (by decide +kernel)) ha (aA hn) pins s σ H R I ⟨ρ,Hs,_,hs,hv,hd,fun vs H1 Hs1 g1 r1=>?_⟩;obtain ⟨v,rfl,r2⟩:=oE r1;obtain ⟨a1,zs,rfl,s1,r3⟩:=bI.mp r2;exact ⟨a1,zs,rfl,aL g1.sub s1,k _ _ _ g1 (X7 s1 r3)⟩
 .cases d <;> cases h2
end
end Mi
set_option maxHeartbeats 1000000
namespace Mi
open PySem L2
open PyProof.Rows hiding St
noncomputable def putL {α:Type}:List (Option α)->List (Nat × α)->List (Option α)
 | xs,[]=>xs
 | xs,(i,a)::r=>putL (xs.set i (some a)) r
theorem oU {α:Type}:∀ (xs:List (Option α)) (l:List (Nat × α)),(putL xs l).length=xs.length
 | xs,[]=>rfl
 | xs,(i,a)::r=>by rw [putL,oU,List.length_set]
theorem Jw {α:Type}{j:Nat}:∀ {xs:List (Option α)}{l:List (Nat × α)},j ∉ l.map (·.1)->(putL xs l)[j]?=xs[j]?
 | xs,[],_=>rfl
 | xs,(i,a)::r,h=>by
  simp only [List.map_cons,List.mem_cons,not_or] at h;rw [putL,Jw h.2,List.getElem?_set_ne (Ne.symm h.1)]
theorem JV {g:G}{Hs:Hp}{j:Nat}{d:D}:∀ {l:List (Nat × D × V)}{ρ:En}{σ:St},ρ.length=σ.length->(∀ p∈l,Rp g Hs p.2.1 p.2.2) ->
  (putL ρ (l.map fun p=>(p.1,p.2.1)))[j]?=some (some d)->(∀ d,ρ[j]?=some (some d)->∃ v,σ[j]?=some (some v)/\Rp g Hs d v)\/j∈l.map (·.1)->∃ v,(putL σ (l.map fun p=>(p.1,p.2.2)))[j]?=some (some v)/\Rp g Hs d v
 | [],ρ,σ,hl,hr,h,o=>by
  rcases o with o | o
  .exact o d h
  .cases o
 | (i,e,v)::l,ρ,σ,hl,hr,h,o=>by
  simp only [List.map_cons,putL] at h ⊢;have hl2:(ρ.set i (some e)).length=(σ.set i (some v)).length:=by rw [List.length_set,List.length_set];exact hl
  refine JV hl2 (fun p hp=>hr p (vz _ hp)) h ?_;by_cases hj:j=i
  .subst hj;refine .inl fun d' q=>?_
   have hlt:j < ρ.length:=by
    have:=(vV.mp q).1;simpa using this
   rw [List.getElem?_set_self hlt] at q;cases q;exact ⟨v,by rw [List.getElem?_set_self (by rw [<- hl];exact hlt)],hr _ vE⟩
  .rw [List.map_cons,List.mem_cons] at o;rcases o with o | o | o
   .refine .inl fun d' q=>?_
    rw [List.getElem?_set_ne (Ne.symm hj)] at q ⊢;exact o d' q
   .exact absurd o hj
   .exact .inr o
variable {sc:Scope}{t:Tg}{tg:Expr}{d:D}{N:z0}
section
variable {X:Cx}{σ:St}{H Hs:Hp}{Q:VK}{U Ua Ub Uc:zz}{r ra rb rc:En->R D}{e a:Expr}{es:ve}{rs:En->R (List D)}{pos:Pos}{T:Tx}{cl:Nat->List D->R D}
def gTg (K:zt):Tg->TG
 | .one i=>Cv i
 | .two i j=>aaj K 2 (Oz (Cv i) (Oz (Cv j) aas))
theorem ji (C:Cok T cl X) (S:ScRel sc X) (h:tgB X.N sc t tg=true):PG X tg (gTg X.K t):=by
 cases t with
 | one i =>
  obtain ⟨_,_,rfl,ho,hn⟩:=rY h;obtain ⟨h1,h2⟩:=S.own _ ho;exact CN C.nd hn h1 h2
 | two i j =>
  obtain ⟨_,_,_,_,_,_,rfl,⟨⟨⟨h1,h2⟩,h3⟩,h4⟩,h5⟩:=sS h;obtain ⟨a1,a2⟩:=S.own _ h1;obtain ⟨b1,b2⟩:=S.own _ h2;exact ZV C.calm (JN (CN C.nd h3 a1 a2) (JN (CN C.nd h4 b1 b2) YT (by rfl)) (by rfl)) (by rfl) (by rfl)
def oG {ρ ρ':En}{x:V}{K:St->Hp->Prop} (hs:Same Hs H) (h:dj t d ρ=.ok ρ') (rx:Rp (gOf X) Hs d x)
  (k:∀ l:List (Nat × D × V),l.map (·.1)=aK t->(∀ p∈l,Rp (gOf X) Hs p.2.1 p.2.2)->ρ'=putL ρ (l.map fun p=>(p.1,p.2.1))->K (putL σ (l.map fun p=>(p.1,p.2.2))) H):gTg X.K t x σ H K:=by
 cases t with
 | one i =>
  cases h;exact k [(i,d,x)] rfl (fun p hp=>by rw [List.mem_singleton.mp hp];exact rx) rfl
 | two i j =>
  cases d <;> try (cases h;done)
  rename_i ds;rcases ds with _ | ⟨a,_ | ⟨b,_ | ⟨c,cs⟩⟩⟩ <;> try (cases h;done)
  cases h;obtain ⟨p,xs,rfl,s1,r1⟩:=cX.mp rx;obtain ⟨v,w,rfl,r2,r3⟩:=CW r1;refine ⟨p,[v,w],rfl,aO hs s1,rfl,v,[w],rfl,w,[],rfl,rfl,?_⟩;refine k [(i,a,v),(j,b,w)] rfl (fun q hq=>?_) rfl;rcases z9.mp hq with rfl | hq
  .exact r2
  .rw [List.mem_singleton.mp hq];exact r3
def tHc (X:Cx) (hc:Bool) (U:zz) (r:En->R D):TT:=if hc then tMT X U r else fun _ H Q=>Q true H
def Ax {i:Nat}{x:Str} (h:jY sc x=true) (hi:N[i]?=some x):(cJ N sc)[i]?=some false:=by
 unfold cJ;rw [List.getElem?_map,hi];rcases lK h with e | e <;> simp [e]
def aax (h:tgB N sc t tg=true):∀ i∈aK t,(cJ N sc)[i]?=some false:=by
 cases t with
 | one i =>
  obtain ⟨_,_,rfl,ho,hn⟩:=rY h;intro j hj;rw [List.mem_singleton.mp hj];exact Ax ho hn
 | two i j =>
  obtain ⟨_,_,_,_,_,_,rfl,⟨⟨⟨h1,h2⟩,h3⟩,h4⟩,h5⟩:=sS h;intro q hq;rcases z9.mp hq with rfl | hq
  .exact Ax h1 h3
  .rw [List.mem_singleton.mp hq];exact Ax h2 h4
def tMf (X:Cx) (U:zz) (r:En->R D):TE:=fun σ H Q=>∃ ρ Hs d,Same Hs H/\Vs (gOf X) ρ σ Hs U/\r ρ=.ok d/\∀ v H' Hs',Grow H Hs H' Hs'->Rp (gOf X) Hs' d v->(∃ a xs ds,v=.ref a/\d=.lst ds/\H a=none/\Hs' a=some (.lst xs)/\Rps (gOf X) Hs' ds xs)->Q v H'
def acr :tM X U r σ H Q->tMf X U r σ H Q:=by
 rintro ⟨ρ,Hs,d,hs,hv,h,k⟩;exact ⟨ρ,Hs,d,hs,hv,h,fun v H' Hs' g r _=>k v H' Hs' g r⟩
def Eo {scope:Scope}{hc:Bool}{rI:En->R (List D)}{cap:List Bool} (htg:tgB N scope t tg=true) (hcap:cap=cJ N scope) :
  tMf X (Ua++(Uc++Ub)) (fun ρ=>do
   let items <- rI ρ
   let ys <- gK (fun d=>do
    let ρ' <- dj t d (bx cap ρ)
    let b <- (if hc then (do let x <- rc ρ';bO x) else .ok true)
    if b then do let y <- rb ρ';.ok (some y) else .ok none) items
   if ys.length<=lim then .ok (.lst ys) else .stuck) σ H Q ->
  Bh (tI X Ua rI) (gTg X.K t) (tHc X hc Uc rc) (tM X Ub rb) (bx (cJ N scope)) σ H Q:=by
 rintro ⟨ρ,Hs,z,hs,hv,h,k⟩;obtain ⟨ds,hd,h1⟩:=aj h;obtain ⟨tot,ht,h2⟩:=aj h1;obtain ⟨hlim,h3⟩:=bK h2;clear h h1 h2;cases h3;have hll:=jy;generalize hf:(fun d=>do
    let ρ' <- dj t d (bx cap ρ)
    let b <- (if hc then (do let x <- rc ρ';bO x) else .ok true)
    if b then do let y <- rb ρ';.ok (some y) else .ok none)=f at ht
 refine ⟨ρ,Hs,ds,hs,hv.l,hd,fun J H1 Hs1 g1 src=>?_⟩;intro A hA;refine ⟨fun i m ys H'=>m=ds.length - i/\i<=ds.length/\∃ Hs' don rest,Grow H1 Hs1 H' Hs'/\Hs' A=none/\H' A=some (.lst ys)/\Rps (gOf X) Hs' don ys/\gK f (ds.drop i)=.ok rest/\don++rest=tot,⟨ds.length,by simp,yf _,Hs1,[],tot,Grow.own g1.sub hA,g1.sub.free hA,aB,Rps.nil,ht,rfl⟩,?_⟩;rintro i m ys H' ⟨rfl,hi,Hs',don,rest,g2,fA,eA,rA,hrest,etot⟩;have hs':=g1.sub;by_cases hlt:i < ds.length
 .refine .inr ⟨src.go i H' ((g2.same hs').trans g2.sub) hlt,fun x H2 hy=>?_⟩;have hdi:ds[i]?=some ds[i]:=by simp [hlt]
  obtain ⟨Hs2,g3,rx⟩:=src.yld i H' x H2 Hs' ds[i] (g2.same hs') g2.sub hdi hy;have edrop:ds.drop i=ds[i]::ds.drop (i+1):=by rw [List.drop_eq_getElem_cons hlt]
  rw [edrop] at hrest;unfold gK at hrest;obtain ⟨y,hy1,hr1⟩:=aj hrest;obtain ⟨zs,hz,hr2⟩:=aj hr1;clear hrest hr1;have hy0:=hy1;rw [<- hf] at hy1;obtain ⟨ρ',hρ,hy2⟩:=aj hy1;obtain ⟨b,hb,hy3⟩:=aj hy2;clear hy1 hy2;have gA:Grow H1 Hs1 H2 Hs2:=g2.trans g3;refine oG g3.sub hρ rx fun l hl hrl eρ=>?_
  have slots:∀ j∈aK t,(cJ N scope)[j]?=some false:=aax htg;have lenm:(bx cap ρ).length=(bx (cJ N scope) σ).length:=by rw [jX,jX];exact hv.1
  have mV:(l.map fun p=>(p.1,p.2.2)).map (·.1)=aK t:=by rw [<- hl,List.map_map];rfl
  have mD:(l.map fun p=>(p.1,p.2.1)).map (·.1)=aK t:=by rw [<- hl,List.map_map];rfl
  have ext:aaO (bx (cJ N scope) σ) (putL (bx (cJ N scope) σ) (l.map fun p=>(p.1,p.2.2))):=⟨oU _ _,fun j v q=>by
   have hj:j ∉ aK t:=fun hj=>by
    have:=(pZ q).1;rw [slots j hj] at this;cases this
   rw [Jw (by rw [mV];exact hj)];exact q⟩
  have vs2:∀ {U'},(∀ j∈U',j∈Uc++Ub)->Vs (gOf X) ρ' (putL (bx (cJ N scope) σ) (l.map fun p=>(p.1,p.2.2))) Hs2 U':=fun {U'} hU=>by
   refine ⟨by rw [eρ,oU,oU];exact lenm,fun j hj d hd'=>?_⟩;rw [eρ] at hd';refine JV lenm hrl hd' (.inl fun d2 hd2=>?_);obtain ⟨c1,c2⟩:=pZ hd2;obtain ⟨v,e1,r1⟩:=hv.r.2 j (hU j hj) d2 c2;exact ⟨v,Fv (by rw [<- hcap];exact c1) e1,r1.mono (((g1.trans gA).same hs))⟩
  refine ⟨ext,?_⟩;have aA2:H2 A=some (.lst ys):=g3.keep A _ eA;have step:∀ H4 Hs4,Grow H2 Hs2 H4 Hs4->(if b=true then tM X Ub rb (putL (bx (cJ N scope) σ) (l.map fun p=>(p.1,p.2.2))) H4 (fun y' H5=>H5 A=some (.lst ys)/\ys.length < sizeLine/\∃ m',m' < ds.length - i/\(m'=ds.length - (i+1)/\i+1<=ds.length/\∃ Hs' don rest,Grow H1 Hs1 (upd H5 A (.lst (ys++[y']))) Hs'/\Hs' A=none/\(upd H5 A (.lst (ys++[y']))) A=some (.lst (ys++[y']))/\Rps (gOf X) Hs' don (ys++[y'])/\gK f (ds.drop (i+1))=.ok rest/\don++rest=tot))
    else ∃ m',m' < ds.length - i/\(m'=ds.length - (i+1)/\i+1<=ds.length/\∃ Hs' don rest,Grow H1 Hs1 H4 Hs'/\Hs' A=none/\H4 A=some (.lst ys)/\Rps (gOf X) Hs' don ys/\gK f (ds.drop (i+1))=.ok rest/\don++rest=tot)):=by
   intro H4 Hs4 g4;have f4:Hs4 A=none:=by rw [(g3.trans g4).old A _ eA];exact fA
   cases b with
   | false =>
    rw [if_neg (by decide)];rw [if_neg (by decide)] at hy3;cases hy3;cases hr2;exact ⟨_,by omega,rfl,hlt,Hs4,don,zs,gA.trans g4,f4,g4.keep A _ aA2,rA.mono ((g3.trans g4).same g2.sub),hz,etot⟩
   | true =>
    rw [if_pos rfl];rw [if_pos rfl] at hy3;obtain ⟨w,hw,hy4⟩:=aj hy3;cases hy4;cases hr2;refine ⟨ρ',Hs4,w,g4.sub,(vs2 fun j hj=>vS _ hj).mono (g4.same g3.sub),hw,fun y' H5 Hs5 g5 r5=>?_⟩;have a5:H5 A=some (.lst ys):=(g4.trans g5).keep A _ aA2;have f5:Hs5 A=none:=by rw [((g3.trans g4).trans g5).old A _ eA];exact fA
    have rl:=rA.length;have hlen:ys.length < sizeLine:=by
     have:don.length+(w::zs).length=tot.length:=by rw [<- List.length_append,etot]
     rw [List.length_cons] at this;omega
    refine ⟨a5,hlen,_,by omega,rfl,hlt,Hs5,don++[w],zs,?_,f5,aB,?_,hz,by rw [List.append_assoc];exact etot⟩
    .have g6:=(gA.trans g4).trans g5;refine ⟨fun c o q=>by rw [ao (ak q hA)];exact g6.keep c o q,g6.old,fun c o q=>?_⟩;rw [ao (ak q f5)];exact g6.sub c o q
    .exact (rA.mono (((g3.trans g4).trans g5).same g2.sub)).append (Rps.one r5)
  cases hc with
  | false =>
   rw [if_neg (by decide)] at hb;cases hb;exact step H2 Hs2 (Grow.refl g3.sub)
  | true =>
   rw [if_pos rfl] at hb;obtain ⟨x2,hx2,hb2⟩:=aj hb;cases dX hb2;exact ⟨ρ',Hs2,b,g3.sub,vs2 fun j hj=>vF _ hj,hx2,fun H4 Hs4 g4=>step H4 Hs4 g4⟩
 .have e:i=ds.length:=by omega
  subst e;refine .inl ⟨src.stop H' ((g2.same hs').trans g2.sub),?_⟩;rw [List.drop_length] at hrest;cases hrest;rw [List.append_nil] at etot;subst etot;have m2:Same Hs' (upd Hs' A (.lst ys)):=fun c o q=>by rw [ao (ak q fA)];exact q
  refine k _ _ (upd Hs' A (.lst ys)) (g1.trans ⟨g2.keep,fun c o q=>by rw [ao (ak q hA)];exact g2.old c o q,fun c o q=>?_⟩) (bI.mpr ⟨A,ys,rfl,SqL.of aB,rA.mono m2⟩) ⟨A,ys,_,rfl,rfl,(show Same H H1 from g1.keep).free hA,aB,rA.mono m2⟩;by_cases z:c=A
  .subst z;rw [aB] at q;cases q;exact eA
  .rw [ao z] at q;exact g2.sub c o q
end
end Mi
set_option maxHeartbeats 1000000
namespace Mi
open PySem L2
open PyProof.Rows hiding St
noncomputable def plainT:Expr->Bool
 | .UnaryOp .Not _ _=>false
 | .BoolOp ..=>false
 | .IfExp ..=>false
 | .Compare ..=>false
 | _=>true
def nq {e:Expr}{env:Env} (h:plainT e=true):∀ whole,isTrue e env whole=(do let v <- whole;standAt e.pos;holding [v] (truthy v)):=by
 intro whole;cases e <;> first | rfl | (cases h;done) | skip
 rename_i op a p;cases op <;> first | rfl | cases h
def S9 (X:Cx) (U:zz) (r:En->R D) (e:Expr):Prop:=PE X e (tM X U r)/\PT X e (tMT X U r)
def Good (T:Tx) (cl:Nat->List D->R D) (m:M):Prop:=∀ {X:Cx}{sc:Scope}{e:Expr},Cok T cl X->ScRel sc X->okE T X.N m sc e=true->S9 X (aC m) (evE cl m) e
section
variable {T:Tx}{cl:Nat->List D->R D}{X:Cx}{sc:Scope}{U:zz}{r:En->R D}{e:Expr}
theorem aU (h:PE X e (tM X U r)) (hp:plainT e=true):S9 X U r e:=⟨h,Uu h (nq hp)⟩
theorem fV (C:Cok T cl X) (S:ScRel sc X):∀ {ms:List M}{es:ve},(∀ m∈ms,Good T cl m)->bJ T X.N ms sc es=true->es.all noStar=true->PA X es (tMs X (aV ms) (cu cl ms))
 | [],es,G,h,hn=>by
  rw [uh,List.isEmpty_iff] at h;subst h;have e:cu cl []=fun _=>.ok []:=funext fun _=>by simp only [cu]
  rw [e];simp only [aV];exact Zj
 | m::ms,[],G,h,hn=>by cases h
 | m::ms,x::es,G,h,hn=>by
  simp only [dF,Bool.and_eq_true] at h;simp only [List.all_cons,Bool.and_eq_true] at hn;have e:cu cl (m::ms)=(fun ρ=>(do let d <- evE cl m ρ;let ds <- cu cl ms ρ;.ok (d::ds))):=funext fun _=>by simp only [cu]
  rw [e];simp only [aV];exact T3 (G m vE C S h.1).1 (fV C S (fun q hq=>G q (vz _ hq)) h.2 hn.2) hn.1
theorem Ae:∀ {ms:List M}{ρ:En}{ds:List D},cu cl ms ρ=.ok ds->ds.length=ms.length
 | [],ρ,ds,h=>by simp only [cu] at h;cases h;rfl
 | m::ms,ρ,ds,h=>by
  simp only [cu] at h;obtain ⟨x,hx,h1⟩:=aj h;obtain ⟨xs,hxs,h2⟩:=aj h1;have:=Ae hxs;cases h2;simp [this]
theorem yU:∀ {ms:List M}{es:ve},bJ T X.N ms sc es=true->es.length=ms.length
 | [],es,h=>by
  rw [uh,List.isEmpty_iff] at h;rw [h];rfl
 | m::ms,[],h=>by cases h
 | m::ms,e::es,h=>by
  simp only [dF,Bool.and_eq_true] at h;simp [yU h.2]
theorem Mh (C:Cok T cl X) (S:ScRel sc X) {pos:Pos}:∀ {ms:List M}{es:ve},(∀ m∈ms,Good T cl m)->bJ T X.N ms sc es=true->ms.isEmpty=false->PE X (.BoolOp .And es pos) (tM X (aV ms) (jj cl ms))/\PW X (.BoolOp .And es pos) (tMT X (aV ms) (jj cl ms))
 | [],es,G,h,hn=>by cases hn
 | m::ms,[],G,h,hn=>by cases h
 | [m],[x],G,h,hn=>by
  simp only [dF,Bool.and_eq_true] at h;obtain ⟨g1,g2⟩:=G m vE C S h.1;constructor
  .refine aZ (R3 g1) fun σ H Q=>?_
   rintro ⟨ρ,Hs,z,hs,hv,h,k⟩;simp only [jj] at h;obtain ⟨d,hd,h1⟩:=aj h;obtain ⟨t,ht,h2⟩:=aj h1;clear h h1;cases dX ht;cases h2;simp only [aV] at hv;exact ⟨ρ,Hs,_,hs,hv.l,hd,k⟩
  .have:=Yh (pos:=pos) g2;intro wh pins s σ H Q I hq;refine this wh pins s σ H Q I ?_;obtain ⟨ρ,Hs,z,hs,hv,h,k⟩:=hq;simp only [jj] at h;obtain ⟨d,hd,h1⟩:=aj h;obtain ⟨t,ht,h2⟩:=aj h1;clear h h1;cases dX ht;cases h2;simp only [aV] at hv;exact ⟨ρ,Hs,_,hs,hv.l,hd,k⟩
 | [m],x::y::es,G,h,hn=>by rw [dF,uh] at h;simp at h
 | m::m'::ms,[x],G,h,hn=>by rw [dF,Mf] at h;simp at h
 | m::m'::ms,x::y::es,G,h,hn=>by
  have h':=h;simp only [dF,Bool.and_eq_true] at h;obtain ⟨g1,g2⟩:=G m vE C S h.1;obtain ⟨i1,i2⟩:=Mh C S (pos:=pos) (ms:=m'::ms) (es:=y::es) (fun q hq=>G q (vz _ hq)) (by simp only [dF,Bool.and_eq_true];exact h.2) rfl;constructor
  .refine aZ (aa2 g1 i1) fun σ H Q=>?_
   rintro ⟨ρ,Hs,z,hs,hv,h,k⟩;simp only [jj] at h;obtain ⟨d,hd,h1⟩:=aj h;obtain ⟨t,ht,h2⟩:=aj h1;clear h h1;cases dX ht;rw [aV] at hv;refine ⟨ρ,Hs,_,hs,hv.l,hd,fun v H1 Hs1 g1 r1=>⟨t,nQ.mp r1,?_⟩⟩;cases t with
   | false=>rw [if_neg (by decide)];rw [if_neg (by decide)] at h2;cases h2;exact (k.grow g1).bl g1.sub
   | true=>rw [if_pos rfl];rw [if_pos rfl] at h2;exact ⟨ρ,Hs1,z,g1.sub,hv.r.mono (g1.same hs),h2,k.grow g1⟩
  .have:=Zo (pos:=pos) g2 i2;intro wh pins s σ H Q I hq;refine this wh pins s σ H Q I ?_;obtain ⟨ρ,Hs,z,hs,hv,h,k⟩:=hq;simp only [jj] at h;obtain ⟨d,hd,h1⟩:=aj h;obtain ⟨t,ht,h2⟩:=aj h1;clear h h1;cases dX ht;rw [aV] at hv;refine ⟨ρ,Hs,t,hs,hv.l,hd,fun H1 Hs1 g1=>?_⟩;cases t with
   | false=>rw [if_neg (by decide)];rw [if_neg (by decide)] at h2;cases h2;exact k H1 Hs1 g1
   | true=>rw [if_pos rfl];rw [if_pos rfl] at h2;exact ⟨ρ,Hs1,z,g1.sub,hv.r.mono (g1.same hs),h2,fun H' Hs' g=>k H' Hs' (g1.trans g)⟩
theorem R6 (C:Cok T cl X) (S:ScRel sc X) {pos:Pos}:∀ {ms:List M}{es:ve},(∀ m∈ms,Good T cl m)->bJ T X.N ms sc es=true->ms.isEmpty=false->PE X (.BoolOp .Or es pos) (tM X (aV ms) (lq cl ms))/\PW X (.BoolOp .Or es pos) (tMT X (aV ms) (lq cl ms))
 | [],es,G,h,hn=>by cases hn
 | m::ms,[],G,h,hn=>by cases h
 | [m],[x],G,h,hn=>by
  simp only [dF,Bool.and_eq_true] at h;obtain ⟨g1,g2⟩:=G m vE C S h.1;constructor
  .refine aZ (R3 g1) fun σ H Q=>?_
   rintro ⟨ρ,Hs,z,hs,hv,h,k⟩;simp only [lq] at h;obtain ⟨d,hd,h1⟩:=aj h;obtain ⟨t,ht,h2⟩:=aj h1;clear h h1;cases dX ht;cases h2;simp only [aV] at hv;exact ⟨ρ,Hs,_,hs,hv.l,hd,k⟩
  .have:=aaR (pos:=pos) g2;intro wh pins s σ H Q I hq;refine this wh pins s σ H Q I ?_;obtain ⟨ρ,Hs,z,hs,hv,h,k⟩:=hq;simp only [lq] at h;obtain ⟨d,hd,h1⟩:=aj h;obtain ⟨t,ht,h2⟩:=aj h1;clear h h1;cases dX ht;cases h2;simp only [aV] at hv;exact ⟨ρ,Hs,_,hs,hv.l,hd,k⟩
 | [m],x::y::es,G,h,hn=>by rw [dF,uh] at h;simp at h
 | m::m'::ms,[x],G,h,hn=>by rw [dF,Mf] at h;simp at h
 | m::m'::ms,x::y::es,G,h,hn=>by
  simp only [dF,Bool.and_eq_true] at h;obtain ⟨g1,g2⟩:=G m vE C S h.1;obtain ⟨i1,i2⟩:=R6 C S (pos:=pos) (ms:=m'::ms) (es:=y::es) (fun q hq=>G q (vz _ hq)) (by simp only [dF,Bool.and_eq_true];exact h.2) rfl;constructor
  .refine aZ (abP g1 i1) fun σ H Q=>?_
   rintro ⟨ρ,Hs,z,hs,hv,h,k⟩;simp only [lq] at h;obtain ⟨d,hd,h1⟩:=aj h;obtain ⟨t,ht,h2⟩:=aj h1;clear h h1;cases dX ht;rw [aV] at hv;refine ⟨ρ,Hs,_,hs,hv.l,hd,fun v H1 Hs1 g1 r1=>⟨t,nQ.mp r1,?_⟩⟩;cases t with
   | true=>rw [if_pos rfl];rw [if_pos rfl] at h2;cases h2;exact (k.grow g1).bl g1.sub
   | false=>rw [if_neg (by decide)];rw [if_neg (by decide)] at h2;exact ⟨ρ,Hs1,z,g1.sub,hv.r.mono (g1.same hs),h2,k.grow g1⟩
  .have:=ab6 (pos:=pos) g2 i2;intro wh pins s σ H Q I hq;refine this wh pins s σ H Q I ?_;obtain ⟨ρ,Hs,z,hs,hv,h,k⟩:=hq;simp only [lq] at h;obtain ⟨d,hd,h1⟩:=aj h;obtain ⟨t,ht,h2⟩:=aj h1;clear h h1;cases dX ht;rw [aV] at hv;refine ⟨ρ,Hs,t,hs,hv.l,hd,fun H1 Hs1 g1=>?_⟩;cases t with
   | true=>rw [if_pos rfl];rw [if_pos rfl] at h2;cases h2;exact k H1 Hs1 g1
   | false=>rw [if_neg (by decide)];rw [if_neg (by decide)] at h2;exact ⟨ρ,Hs1,z,g1.sub,hv.r.mono (g1.same hs),h2,fun H' Hs' g=>k H' Hs' (g1.trans g)⟩
def sY (C:Cok T cl X) (S:ScRel sc X) {k:IK}{src:List M}{tg iter:Expr} (G:∀ m∈src,Good T cl m) (h1:iD sc k tg iter=true) (h2:bJ T X.N src sc (jf k iter)=true) :
  PI X tg iter (tI X (aV src) fun ρ=>do let ss <- cu cl src ρ;itemsOf k ss):=by
 cases k with
 | seq =>
  rcases src with _ | ⟨m,_ | ⟨m',ms⟩⟩
  .cases h2
  .replace h2:(okE T X.N m sc iter && bJ T X.N [] sc [])=true:=h2;simp only [Bool.and_eq_true] at h2;have g:=(G m vE C S h2.1).1;intro pins s σ H R I hq;refine aaF g pins s σ H R I ?_;obtain ⟨ρ,Hs,ds,hs,hv,h,k⟩:=hq;simp only [qK,qa] at h;simp only [RV,Hg] at hv;obtain ⟨ss,hss,h3⟩:=aj h;obtain ⟨d,hd,h4⟩:=aj hss;simp only [qT] at h4;cases h4;exact ⟨ρ,Hs,ds,hs,hv.l,by simp only [hd,qT];exact h3,k⟩
  ·(replace h2:(okE T X.N m sc iter && false)=true:=h2;simp at h2)
 | rng =>
  .obtain ⟨f,p,es,q,rfl,h3⟩:=cM h1;simp only [Bool.and_eq_true,decide_eq_true_eq,Bool.or_eq_true] at h3;obtain ⟨⟨⟨rfl,hg⟩,hl⟩,hn⟩:=h3;have gg:=S.glb _ hg;replace h2:bJ T X.N src sc es=true:=h2;have pa:=fV C S G h2 hn;have len:=yU h2;rcases es with _ | ⟨x,_ | ⟨y,_ | ⟨z,zs⟩⟩⟩
   .simp at hl
   .simp only [List.all_cons,List.all_nil,Bool.and_eq_true] at hn;exact Yx C gg hn.1 pa fun ρ ds h=>by rw [Ae h,<- len];rfl
   .simp only [List.all_cons,List.all_nil,Bool.and_eq_true] at hn;exact Zi C gg hn.1 hn.2.1 pa fun ρ ds h=>by rw [Ae h,<- len];rfl
   .simp at hl
 | enum =>
  .obtain ⟨f,p,es,q,rfl,h3⟩:=cM h1;simp only [Bool.and_eq_true,decide_eq_true_eq] at h3;obtain ⟨⟨⟨⟨rfl,hg⟩,hl⟩,hn⟩,ht⟩:=h3;have gg:=S.glb _ hg;replace h2:bJ T X.N src sc es=true:=h2;have pa:=fV C S G h2 hn;rcases es with _ | ⟨x,_ | ⟨y,ys⟩⟩
   .simp at hl
   .simp only [List.all_cons,List.all_nil,Bool.and_eq_true] at hn;cases tg <;> try (cases ht;done)
    exact Xq C gg hn.1 pa
   .simp at hl
 | zip =>
  .obtain ⟨f,p,es,q,rfl,h3⟩:=cM h1;simp only [Bool.and_eq_true,decide_eq_true_eq] at h3;obtain ⟨⟨⟨⟨rfl,hg⟩,hl⟩,hn⟩,ht⟩:=h3;have gg:=S.glb _ hg;replace h2:bJ T X.N src sc es=true:=h2;have pa:=fV C S G h2 hn;rcases es with _ | ⟨x,_ | ⟨y,_ | ⟨z,ys⟩⟩⟩
   .simp at hl
   .simp at hl
   .simp only [List.all_cons,List.all_nil,Bool.and_eq_true] at hn;cases tg <;> try (cases ht;done)
    exact Zz C gg hn.1 hn.2.1 pa
   .simp at hl
 | rev =>
  .obtain ⟨f,p,es,q,rfl,h3⟩:=cM h1;simp only [Bool.and_eq_true,decide_eq_true_eq] at h3;obtain ⟨⟨⟨rfl,hg⟩,hl⟩,hn⟩:=h3;have gg:=S.glb _ hg;replace h2:bJ T X.N src sc es=true:=h2;have pa:=fV C S G h2 hn;rcases es with _ | ⟨x,_ | ⟨y,ys⟩⟩
   .simp at hl
   .simp only [List.all_cons,List.all_nil,Bool.and_eq_true] at hn;exact ZK C gg hn.1 pa
   .simp at hl
end
end Mi
set_option maxHeartbeats 1000000
namespace Mi
open PySem L2
open PyProof.Rows hiding St
variable {i:Nat}{ms src:List M}{a b c lo elt:M}{o:CO}{sc:Scope}{iter:Expr}{k:IK}{tg:Tg}{hc:Bool}{cap:List Bool}
section
variable {T:Tx}{cl:Nat->List D->R D}
theorem VL :Good T cl (.var i):=by
 intro X sc e C S h;have ee:evE cl (.var i)=fun ρ=>bF ρ i:=rfl
 rw [ee];obtain ⟨_,_,rfl⟩:=eY h;rw [Zm] at h;simp only [Bool.and_eq_true,decide_eq_true_eq] at h;exact aU (Hf h.2 (S.vis _ h.1.2) h.1.1) rfl
theorem Vw {d:D}:Good T cl (.con d):=by
 intro X sc e C S h;have ee:evE cl (.con d)=fun _=>.ok d:=rfl
 rw [ee];cases e <;> try (cases h;done)
 .exact aU (aa7 h) rfl
 .rw [Vm] at h;simp only [Bool.and_eq_true] at h;exact aU (YM C (S.glb _ h.1.2) h.1.1 (aaU h.2)) rfl
theorem VF (G:∀ m∈ms,Good T cl m):Good T cl (.tup ms):=by
 intro X sc e C S h;have ee:evE cl (.tup ms)=fun ρ=>(do let ds <- cu cl ms ρ;if ds.length<=lim then .ok (.tup ds) else .stuck):=rfl
 rw [ee];obtain ⟨_,_,_,rfl⟩:=Ek h;rw [Y6] at h;simp only [Bool.and_eq_true] at h;exact aU (aaf (fV C S G h.1 h.2)) rfl
theorem Uw (G:∀ m∈ms,Good T cl m):Good T cl (.lst ms):=by
 intro X sc e C S h;have ee:evE cl (.lst ms)=fun ρ=>(do let ds <- cu cl ms ρ;if ds.length<=lim then .ok (.lst ds) else .stuck):=rfl
 rw [ee];obtain ⟨_,_,rfl⟩:=uo h;rw [Ld] at h;simp only [Bool.and_eq_true] at h;exact aU (Z2 (fV C S G h.1 h.2)) rfl
def Tv:Good T cl .dct0:=by
 intro X sc e C S h;have ee:evE cl .dct0=fun _=>.ok (.dct [] []):=rfl
 rw [ee];obtain ⟨ks,vs,p,rfl⟩:=JT h;cases ks <;> cases vs <;> first | exact aU Z0 rfl | cases h
theorem U3 {o:BO} (ga:Good T cl a) (gb:Good T cl b):Good T cl (.bin o a b):=by
 intro X sc e C S h;have ee:evE cl (.bin o a b)=fun ρ=>(do let x <- evE cl a ρ;let y <- evE cl b ρ;jO o x y):=rfl
 rw [ee];obtain ⟨_,_,_,_,rfl⟩:=Tc h;rw [Xv] at h;simp only [Bool.and_eq_true] at h;cases aaD h.1.1;exact aU (aao o (ga C S h.1.2).1 (gb C S h.2).1) rfl
def Wb (ga:Good T cl a) (gb:Good T cl b):Good T cl (.cmp o a b):=by
 intro X sc e C S h;have ee:evE cl (.cmp o a b)=fun ρ=>(do let x <- evE cl a ρ;let y <- evE cl b ρ;let r <- bV o x y;.ok (.bl r)):=rfl
 rw [ee];obtain ⟨x,ops,cs,p,rfl⟩:=yw h;rcases ops with _ | ⟨op,_ | ⟨op2,ops⟩⟩ <;> rcases cs with _ | ⟨y,_ | ⟨y2,cs⟩⟩ <;> try (cases h;done)
 rw [Y0] at h;simp only [Bool.and_eq_true] at h;cases Iu h.1.1.1;exact ⟨aa4 C.un o (ga C S h.1.2).1 (gb C S h.2).1 h.1.1.2,aaM C.un o (ga C S h.1.2).1 (gb C S h.2).1 h.1.1.2⟩
def Pk {o':CO} (ga:Good T cl a) (gb:Good T cl b) (gc:Good T cl c):Good T cl (.chain o o' a b c):=by
 intro X sc e C S h;have ee:evE cl (.chain o o' a b c)=fun ρ=>(do let x <- evE cl a ρ;let y <- evE cl b ρ;let r <- bV o x y;if r then do let z <- evE cl c ρ;let r2 <- bV o' y z;.ok (.bl r2) else .ok (.bl false)):=rfl
 rw [ee];obtain ⟨x,ops,cs,p,rfl⟩:=yw h;rcases ops with _ | ⟨op,_ | ⟨op2,_ | ⟨op3,ops⟩⟩⟩ <;> rcases cs with _ | ⟨y,_ | ⟨y2,_ | ⟨y3,cs⟩⟩⟩ <;> try (cases h;done)
 rw [Rk] at h;simp only [Bool.and_eq_true] at h;obtain ⟨⟨⟨⟨⟨⟨h1,h2⟩,h3⟩,h4⟩,h5⟩,h6⟩,h7⟩:=h;cases Iu h1;cases Iu h2;exact ⟨Wj C.un o o' (ga C S h5).1 (gb C S h6).1 (gc C S h7).1 h4,V2 C.un o o' (ga C S h5).1 (gb C S h6).1 (gc C S h7).1 h4⟩
def Wf (G:∀ m∈ms,Good T cl m):Good T cl (.and ms):=by
 intro X sc e C S h;have ee:evE cl (.and ms)=jj cl ms:=rfl;rw [ee];obtain ⟨op,es,p,rfl⟩:=Ba h;cases op <;> try (cases h;done)
 rw [Zk] at h;simp only [Bool.and_eq_true,Bool.not_eq_true'] at h;obtain ⟨h1,h2⟩:=Mh C S (pos:=p) G h.1 h.2;exact ⟨h1,h2.pt⟩
def Xa (G:∀ m∈ms,Good T cl m):Good T cl (.or ms):=by
 intro X sc e C S h;have ee:evE cl (.or ms)=lq cl ms:=rfl;rw [ee];obtain ⟨op,es,p,rfl⟩:=Ba h;cases op <;> try (cases h;done)
 rw [abl] at h;simp only [Bool.and_eq_true,Bool.not_eq_true'] at h;obtain ⟨h1,h2⟩:=R6 C S (pos:=p) G h.1 h.2;exact ⟨h1,h2.pt⟩
def Wh (ga:Good T cl a):Good T cl (.not a):=by
 intro X sc e C S h;have ee:evE cl (.not a)=fun ρ=>(do let x <- evE cl a ρ;let t <- bO x;.ok (.bl (!t))):=rfl
 rw [ee];obtain ⟨op,x,p,rfl⟩:=rK h;cases op <;> try (cases h;done)
 exact ⟨aac (ga C S h).1,ZD (ga C S h).2⟩
theorem Vj (ga:Good T cl a):Good T cl (.neg a):=by
 intro X sc e C S h;have ee:evE cl (.neg a)=fun ρ=>(do let x <- evE cl a ρ;(match x with | .int i=>.ok (.int (-i)) | _=>.stuck)):=rfl
 rw [ee];obtain ⟨op,x,p,rfl⟩:=rK h;cases op <;> try (cases h;done)
 exact aU (aap (ga C S h).1) rfl
theorem Yo (ga:Good T cl a) (gb:Good T cl b):Good T cl (.ix a b):=by
 intro X sc e C S h;have ee:evE cl (.ix a b)=fun ρ=>(do let x <- evE cl a ρ;let y <- evE cl b ρ;ixD x y):=rfl
 rw [ee];obtain ⟨_,_,_,rfl⟩:=jJ h;rw [aa0] at h;simp only [Bool.and_eq_true] at h;exact aU (ach C.un (ga C S h.1.2).1 (gb C S h.2).1 h.1.1) rfl
def Lj {X:Cx}{l:Option Expr} (C:Cok T cl X) (S:ScRel sc X) (g:Good T cl lo) (h:(match l with | none=>dh lo | some y=>!dh lo && okE T X.N lo sc y)=true) :
  PO X l (tPo X (aC lo) fun ρ=>if dh lo then .ok none else (do let d <- evE cl lo ρ;lU d)):=by
 cases l with
 | none =>
  simp only at h;simp only [h,if_true];exact acv
 | some y =>
  simp only [Bool.and_eq_true,Bool.not_eq_true'] at h;simp only [h.1];exact acB (g C S h.2).1
theorem Vh {hi:M} (ga:Good T cl a) (gl:Good T cl lo) (gh:Good T cl hi):Good T cl (.slc a lo hi):=by
 intro X sc e C S h;have ee:evE cl (.slc a lo hi)=fun ρ=>(do
  let x <- evE cl a ρ
  let l <- (if dh lo then .ok none else (do let d <- evE cl lo ρ;lU d))
  let h <- (if dh hi then .ok none else (do let d <- evE cl hi ρ;lU d))
  slD x l h):=rfl
 rw [ee];obtain ⟨x,sl,p,rfl⟩:=jJ h;obtain ⟨l,u,st,p2,rfl⟩:=Er (show (isK 26 sl && _)=true from h);cases st <;> try (cases h;done)
 rw [Xd] at h;simp only [Bool.and_eq_true] at h;exact aU (Zr (ga C S h.1.1).1 (Lj C S gl h.1.2) (Lj C S gh h.2)) rfl
theorem QZ {f:Nat} (G:∀ m∈ms,Good T cl m):Good T cl (.call f ms):=by
 intro X sc e C S h;have ee:evE cl (.call f ms)=fun ρ=>(do let ds <- cu cl ms ρ;cl f ds):=rfl
 rw [ee];obtain ⟨_,_,es,p,rfl,h9⟩:=cM h;replace h:=h9;clear h9;simp only [Bool.and_eq_true,decide_eq_true_eq] at h;obtain ⟨⟨⟨⟨h1,h2⟩,h3⟩,h4⟩,h5⟩:=h;cases es with
 | nil =>
  have:=yU h4;cases ms with
  | nil =>
   simp only [V8,Hg,qa];exact aU (Wn C (S.glb _ h2) h1 h3) rfl
  | cons _ _=>simp at this
 | cons x xs=>exact aU (YW C (S.glb _ h2) h1 h3 (fV C S G h4 h5) h5) rfl
theorem UG {b:BI} (G:∀ m∈ms,Good T cl m):Good T cl (.blt b ms):=by
 intro X sc e C S h;have ee:evE cl (.blt b ms)=fun ρ=>(do let ds <- cu cl ms ρ;fO b ds):=rfl
 rw [ee];obtain ⟨_,_,es,p,rfl,h9⟩:=cM h;replace h:=h9;clear h9;simp only [Bool.and_eq_true,decide_eq_true_eq,Bool.not_eq_true'] at h;obtain ⟨⟨⟨⟨h1,h2⟩,h3⟩,h4⟩,h5⟩:=h;cases es with
 | nil=>cases h3
 | cons x xs =>
  by_cases hb:b=.listEnum
  .subst hb;cases xs with
   | cons _ _=>simp at h5
   | nil =>
    obtain ⟨_,_,es2,p2,rfl,h10⟩:=cM h5;replace h5:=h10;clear h10;simp only [Bool.and_eq_true,decide_eq_true_eq] at h5;obtain ⟨⟨⟨⟨q1,q2⟩,q3⟩,q4⟩,q5⟩:=h5;subst q1 h1;rcases es2 with _ | ⟨y,_ | ⟨y2,ys⟩⟩
    .simp at q5
    .have q4':=q4;simp only [List.all_cons,List.all_nil,Bool.and_eq_true] at q4';exact aU (JZ C (S.glb _ q2) (S.glb _ h2) (fV C S G q3 q4) q4'.1) rfl
    .simp at q5
  .by_cases hb2:b=.listRev
   .subst hb2;cases xs with
    | cons _ _=>simp at h5
    | nil =>
     obtain ⟨_,_,es2,p2,rfl,h10⟩:=cM h5;replace h5:=h10;clear h10;simp only [Bool.and_eq_true,decide_eq_true_eq] at h5;obtain ⟨⟨⟨⟨q1,q2⟩,q3⟩,q4⟩,q5⟩:=h5;subst q1 h1;rcases es2 with _ | ⟨y,_ | ⟨y2,ys⟩⟩
     .simp at q5
     .have q4':=q4;simp only [List.all_cons,List.all_nil,Bool.and_eq_true] at q4';exact aU (Nq C (S.glb _ q2) (S.glb _ h2) (fV C S G q3 q4) q4'.1) rfl
     .simp at q5
   .have hp:Di b=true:=by
     cases b <;> first | rfl | exact absurd rfl hb | exact absurd rfl hb2 | cases h5
    have h6:bJ T X.N ms sc (x::xs)=true:=by
     cases b <;> first | exact absurd rfl hb | exact absurd rfl hb2 | exact h5 | cases hp
    exact aU (aaL b C h1 (S.glb _ h2) (fV C S G h6 h4) h4 hp) rfl
theorem Qd {k d:M} (gk:Good T cl k) (gd:Good T cl d):Good T cl (.dget a k d):=by
 intro X sc e C S h;have h0:(QL a && Io "get" e _)=true:=h
 rw [Bool.and_eq_true] at h0;cases a <;> try (cases h0.1;done)
 rename_i i;have ee:evE cl (.dget (.var i) k d)=fun ρ=>(do let x <- bF ρ i;let y <- evE cl k ρ;let z <- evE cl d ρ;ud x y z):=rfl
 rw [ee];obtain ⟨x,p,ap,y,z,cp,rfl,hl,h9⟩:=Lq h0.2;simp only [Bool.and_eq_true,decide_eq_true_eq] at h9;obtain ⟨⟨⟨⟨⟨⟨h1,h2⟩,h3⟩,h4⟩,h5⟩,h6⟩,h7⟩:=h9;exact aU (X5 C.un h3 (S.vis _ h1) h2 (gk C S h4).1 (gd C S h5).1 h6 h7 hl) rfl
theorem PL {k:Int} (ga:Good T cl a):Good T cl (.maxd a k):=by
 intro X sc e C S h;obtain ⟨x,p,y,j,q,r,cp,rfl,h9⟩:=Y7 h;simp only [Bool.and_eq_true,decide_eq_true_eq] at h9;obtain ⟨⟨⟨rfl,h2⟩,h3⟩,h4⟩:=h9;exact aU (Xw C (S.glb _ h2) (ga C S h3).1 h4) rfl
theorem Uj {m:M} (gm:Good T cl m):Good T cl (.idx i m):=by
 intro X sc e C S h;obtain ⟨x,p,n,ap,v,cp,rfl,h9⟩:=Jf h;simp only [Bool.and_eq_true,decide_eq_true_eq] at h9;obtain ⟨⟨⟨⟨⟨⟨rfl,h2⟩,h3⟩,h4⟩,h5⟩,h6⟩,h7⟩:=h9;exact aU (Zt h5 (S.vis _ h3) h4 (gm C S h6).1 h7 h2) rfl
theorem Ve (ga:Good T cl a):Good T cl (.rev a):=by
 intro X sc e C S h;obtain ⟨x,j,p1,p2,p3,pos,rfl,h9⟩:=Xf h;exact aU (aau (ga C S h9).1) rfl
theorem Q9 {t:Ty} (ga:Good T cl a):Good T cl (.isin a t):=by
 intro X sc e C S h;have ee:evE cl (.isin a t)=fun ρ=>(do let x <- evE cl a ρ;.ok (.bl (kO x t))):=rfl
 rw [ee];obtain ⟨_,_,es,p,rfl,h9⟩:=cM h;replace h:=h9;clear h9;rcases es with _ | ⟨y,_ | ⟨z,_ | ⟨z2,zs⟩⟩⟩ <;> try (cases h;done)
 obtain ⟨_,_,rfl⟩:=eY (show (isK 23 z && _)=true from h);replace h:(decide (_=("isinstance":Str)) && eV sc _ && okE T X.N a sc y && noStar y && decide (_=t.nm) && eV sc _)=true:=h
 simp only [Bool.and_eq_true,decide_eq_true_eq] at h;obtain ⟨⟨⟨⟨⟨h1,h2⟩,h3⟩,h4⟩,h5⟩,h6⟩:=h;subst h1 h5;exact aU (Ze C t (S.glb _ h2) (S.glb _ h6) (ga C S h3).1 h4) rfl
def rZ {env:Env} (h:fD iter=true):∀ x,foldedSetIterable iter env x=pure x:=by
 intro x;cases iter <;> first | rfl | cases h
theorem pH {tg:Expr} (h:iD sc k tg iter=true):fD iter=true:=by
 cases k
 .exact h
 .obtain ⟨_,_,_,_,rfl,_⟩:=cM h;rfl
 .obtain ⟨_,_,_,_,rfl,_⟩:=cM h;rfl
 .obtain ⟨_,_,_,_,rfl,_⟩:=cM h;rfl
 .obtain ⟨_,_,_,_,rfl,_⟩:=cM h;rfl
theorem Ly :evE cl (.comp elt tg k src hc c cap)=fun ρ=>(do
   let items <- (do let ss <- cu cl src ρ;itemsOf k ss)
   let ys <- gK (fun d=>do
    let ρ' <- dj tg d (bx cap ρ)
    let b <- (if hc then (do let x <- evE cl c ρ';bO x) else .ok true)
    if b then do let y <- evE cl elt ρ';.ok (some y) else .ok none) items
   if ys.length<=lim then .ok (.lst ys) else .stuck):=funext fun ρ=>by
  simp only [qZ];cases cu cl src ρ <;> simp
def QX (ge:Good T cl elt) (gc:Good T cl c) (G:∀ m∈src,Good T cl m):Good T cl (.comp elt tg k src hc c cap):=by
 intro X sc e C S h;rw [Ly];obtain ⟨elt',gens,scope,p,rfl⟩:=oZ h;rcases gens with _ | ⟨⟨tg',iter,ifs,as⟩,_ | ⟨g2,gs⟩⟩ <;> try (cases h;done)
 rw [Ie] at h;simp only [Bool.and_eq_true,decide_eq_true_eq] at h;obtain ⟨⟨⟨⟨⟨⟨⟨h1,h2⟩,h3⟩,h4⟩,h5⟩,h6⟩,h7⟩,h8⟩:=h;subst h1;refine aU ?_ rfl;refine aZ (yt C.calm (sY C S G h4 h5) (Jb h2 S) (g:=gTg X.K tg) (tt:=tHc X hc (aC c) (evE cl c)) (te:=tM X (aC elt) (evE cl elt)) (fun s₃ H₃ fp xe=>?_) (rZ (pH h4))) fun σ H Q hq=>?_
 .have S':ScRel scope (cO X scope s₃ H₃ fp xe):=Ej S;have C':=C.blk scope s₃ H₃ fp xe;refine ⟨ji C' S' h3,?_,(ge C' S' h7).1⟩;cases hc with
  | true =>
   rcases ifs with _ | ⟨i1,_ | ⟨i2,is⟩⟩ <;> try (cases h6;done)
   exact Ma (gc C' S' h6).2
  | false =>
   rcases ifs with _ | ⟨i1,is⟩ <;> try (cases h6;done)
   exact Ms
 .exact Eo h3 h8 (acr hq)
theorem good:∀ m:M,Good T cl m
 | .var i=>VL
 | .con d=>Vw
 | .tup ms=>VF fun m hm=>good m
 | .lst ms=>Uw fun m hm=>good m
 | .dct0=>Tv
 | .bin o a b=>U3 (good a) (good b)
 | .cmp o a b=>Wb (good a) (good b)
 | .chain o o' a b c=>Pk (good a) (good b) (good c)
 | .and ms=>Wf fun m hm=>good m
 | .or ms=>Xa fun m hm=>good m
 | .not a=>Wh (good a)
 | .neg a=>Vj (good a)
 | .ix a b=>Yo (good a) (good b)
 | .slc a l h=>Vh (good a) (good l) (good h)
 | .dget a k d=>Qd (good k) (good d)
 | .maxd a k=>PL (good a)
 | .idx i e=>Uj (good e)
 | .rev a=>Ve (good a)
 | .call f ms=>QZ fun m hm=>good m
 | .blt b ms=>UG fun m hm=>good m
 | .isin a t=>Q9 (good a)
 | .comp elt tg k src hc c cap=>QX (good elt) (good c) fun m hm=>good m
termination_by m=>sizeOf m
decreasing_by
 all_goals simp_wf
 all_goals first | omega | (have:=List.sizeOf_lt_of_mem hm;omega)
end
end Mi
set_option maxHeartbeats 1000000
namespace Mi
open PySem L2
open PyProof.Rows hiding St
noncomputable def fH:Expr->Bool
 | .ListComp ..=>false | .SetComp ..=>false | .DictComp ..=>false | _=>true
noncomputable def sZ:M->Bool
 | .comp ..=>true | _=>false
def Oa (st:Stmt) (f:Str->Str->Expr->Bool->Bool):Bool:=isS 24 st && match st with
 | .Expr e _=>Gx e f
 | _=>false
variable {st:Stmt}
def JG {f:Str->Str->Expr->Bool->Bool} (h:Oa st f=true):∃ x p m ap v cp q,st=.Expr (.Call (.Attribute (.Name x p) m ap) [v] [] cp) q/\f x m v (ap.endLine == cp.line)=true:=by
 obtain ⟨e,q,rfl⟩:=uf h;obtain ⟨x,p,m,ap,v,cp,rfl,h2⟩:=Jf (show Gx e f=true from h);exact ⟨x,p,m,ap,v,cp,q,rfl,h2⟩
def WX (st:Stmt) (f:Str->Expr->Expr->Bool):Bool:=isS 5 st && match st with
 | .Assign ts v _=>(match ts with
  | [tg]=>isK 21 tg && (match tg with | .Subscript o k _=>isK 23 o && (match o with | .Name x _=>f x k v | _=>false) | _=>false)
  | _=>false)
 | _=>false
def Vy {f:Str->Expr->Expr->Bool} (h:WX st f=true):∃ x p k p2 v q,st=.Assign [.Subscript (.Name x p) k p2] v q/\f x k v=true:=by
 obtain ⟨ts,v,q,rfl⟩:=jq h;rcases ts with _ | ⟨tg,_ | ⟨tg2,ts⟩⟩ <;> try (cases h;done)
 obtain ⟨o,k,p2,rfl⟩:=jJ (show (isK 21 tg && _)=true from h);obtain ⟨x,p,rfl⟩:=eY (show (isK 23 o && _)=true from h);exact ⟨x,p,k,p2,v,q,rfl,h⟩
def jH:Tg->Expr->Bool
 | .one _,_=>true
 | _,v=>!JM v
def nilB (e:Expr):Bool:=isK 24 e && match e with | .List [] _=>true | _=>false
def XQ {e:Expr} (h:nilB e=true):∃ p,e=.List [] p:=by
 obtain ⟨es,p,rfl⟩:=uo h;cases es with
 | nil=>exact ⟨p,rfl⟩
 | cons _ _=>cases h
def nmB (N:z0) (sc:Scope) (i:Nat) (e:Expr):Bool:=isK 23 e && match e with | .Name x _=>aJ x && fB sc x && decide (N[i]?=some x) | _=>false
variable {N:z0}{sc:Scope}{i:Nat}
def Cq {e:Expr} (h:nmB N sc i e=true):∃ x p,e=.Name x p/\aJ x=true/\fB sc x=true/\N[i]?=some x:=by
 obtain ⟨x,p,rfl⟩:=eY h;have h2:(aJ x && fB sc x && decide (N[i]?=some x))=true:=h;simp only [Bool.and_eq_true,decide_eq_true_eq] at h2;exact ⟨x,p,rfl,h2.1.1,h2.1.2,h2.2⟩
def sdB (e:Expr) (f:Str->Expr->Expr->Bool):Bool:=isK 16 e && match e with
 | .Call g es ks cp=>isK 20 g && (match g with
  | .Attribute c m ap=>isK 16 c && (match c with
   | .Call g2 es2 ks2 cp2=>isK 20 g2 && (match g2 with
    | .Attribute o m2 ap2=>isK 23 o && (match o,es,ks,es2,ks2 with
     | .Name x _,[v],[],[k,d],[]=>isK 24 d && (match d with
      | .List [] _=>decide (m="append") && decide (m2="setdefault") && (ap.endLine == cp.line) && (ap2.endLine == cp2.line) && f x k v
      | _=>false)
     | _,_,_,_,_=>false)
    | _=>false)
   | _=>false)
  | _=>false)
 | _=>false
def aad {e:Expr}{f:Str -> Expr -> Expr -> Bool} (h:sdB e f=true):∃ x p k lp ap2 cp2 v ap cp,e=.Call (.Attribute (.Call (.Attribute (.Name x p) "setdefault" ap2) [k,.List [] lp] [] cp2) "append" ap) [v] [] cp /\ (ap.endLine == cp.line)=true /\ (ap2.endLine == cp2.line)=true /\ f x k v=true:=by
 obtain ⟨g,es,ks,cp,rfl⟩:=lG h;obtain ⟨c,m,ap,rfl⟩:=jE (show (isK 20 g && _)=true from h);obtain ⟨g2,es2,ks2,cp2,rfl⟩:=lG (show (isK 16 c && _)=true from h);obtain ⟨o,m2,ap2,rfl⟩:=jE (show (isK 20 g2 && _)=true from h);obtain ⟨x,p,rfl⟩:=eY (show (isK 23 o && _)=true from h);rcases es with _ | ⟨v,_ | ⟨v2,es⟩⟩ <;> try (cases h;done)
 rcases ks with _ | ⟨k,ks⟩ <;> try (cases h;done)
 rcases es2 with _ | ⟨k,_ | ⟨d,_ | ⟨d2,es2⟩⟩⟩ <;> try (cases h;done)
 rcases ks2 with _ | ⟨k2,ks2⟩ <;> try (cases h;done)
 obtain ⟨l,lp,rfl⟩:=uo (show (isK 24 d && _)=true from h);rcases l with _ | ⟨a,l⟩ <;> try (cases h;done)
 have h2:(decide (m="append") && decide (m2="setdefault") && (ap.endLine == cp.line) && (ap2.endLine == cp2.line) && f x k v)=true:=h
 simp only [Bool.and_eq_true,decide_eq_true_eq] at h2;obtain ⟨⟨⟨⟨rfl,rfl⟩,h3⟩,h4⟩,h5⟩:=h2;exact ⟨x,p,k,lp,ap2,cp2,v,ap,cp,rfl,h3,h4,h5⟩
def okG (T:Tx) (N:z0) (sc:Scope) (i:Nat):GS->Stmt->Bool
 | .sda k v,st=>isS 24 st && match st with
  | .Expr e _=>sdB e fun x k' v'=>fB sc x && aJ x && decide (N[i]?=some x) && okE T N k sc k' && okE T N v sc v' && noStar k' && noStar v'
  | _=>false
 | .forr t ik src b,st=>isS 9 st && match st with
  | .For tg iter body els _=>els.isEmpty && (tgB N sc t tg && iD sc ik tg iter && bJ T N src sc (jf ik iter) && (match body with | [s]=>okG T N sc i b s | _=>false))
  | _=>false
mutual
noncomputable def okS (T:Tx) (N:z0) (sc:Scope):MS->Stmt->Bool
 | .set t e,st=>isS 5 st && match st with | .Assign [tg] v _=>tgB N sc t tg && okE T N e sc v && (fH v || sZ e) && jH t v | _=>false
 | .app i e,st=>Oa st fun x m v b=>fB sc x && aJ x && decide (N[i]?=some x) && decide (m="append") && okE T N e sc v && noStar v && b
 | .ext i e,st=>Oa st fun x m v b=>fB sc x && aJ x && decide (N[i]?=some x) && decide (m="extend") && okE T N e sc v && noStar v && b
 | .expr e,st=>isS 24 st && match st with | .Expr v _=>okE T N e sc v && fH v | _=>false
 | .ret e,st=>isS 3 st && match st with
  | .Return (some v) _=>okE T N e sc v
  | .Return none _=>dh e
  | _=>false
 | .ifs c a b,st=>isS 12 st && match st with | .If c' a' b' _=>okE T N c sc c' && okB T N sc a a' && okB T N sc b b' | _=>false
 | .forr t k src b,st=>isS 9 st && match st with | .For tg iter body els _=>els.isEmpty && (tgB N sc t tg && iD sc k tg iter && bJ T N src sc (jf k iter) && okB T N sc b body) | _=>false
 | .rai,st=>match st with | .Raise ..=>true | _=>false
 | .chk _ _,_=>false
 | .grp i g,st=>okG T N sc i g st
 | .dpop t i k,st=>isS 5 st && match st with
  | .Assign [tg] v _=>tgB N sc (.one t) tg && Io "pop" v fun x k' l=>fB sc x && aJ x && decide (N[i]?=some x) && okE T N k sc k' && noStar k' && nilB l
  | _=>false
 | .lset i k v,st=>WX st fun x k' v'=>fB sc x && aJ x && decide (N[i]?=some x) && lH k' && okE T N k sc k' && okE T N v sc v' && fH v'
 | .whl c b,st=>isS 11 st && match st with | .While c' b' els _=>els.isEmpty && okE T N c sc c' && okB T N sc b b' | _=>false
 | .call2 i j f e,st=>isS 24 st && match st with
  | .Expr v _=>iW v fun x es=>match es with
   | [y,z,w]=>aJ x && eV sc x && decide (T.F[f]?=some x) && okE T N e sc y && noStar y && nmB N sc i z && nmB N sc j w && decide (i≠j)
   | [y,z]=>aJ x && eV sc x && decide (T.F[f]?=some x) && okE T N e sc y && noStar y && nmB N sc i z && decide (i=j)
   | _=>false
  | _=>false
 | .retO i,st=>isS 3 st && match st with | .Return (some e) _=>nmB N sc i e | _=>false
 | .setF i f es,st=>isS 5 st && match st with
  | .Assign [tg] v _=>tgB N sc (.one i) tg && iW v fun x as=>aJ x && eV sc x && decide (T.F[f]?=some x) && bJ T N es sc as && as.all noStar && !as.isEmpty
  | _=>false
 | .setB t e,st=>isS 5 st && match st with | .Assign [tg] v _=>tgB N sc t tg && okE T N e sc v && fH v && jH t v | _=>false
 | .setC i e,st=>isS 5 st && match st with | .Assign [tg] v _=>tgB N sc (.one i) tg && okE T N e sc v && sZ e | _=>false
noncomputable def okB (T:Tx) (N:z0) (sc:Scope):List MS->vi->Bool
 | [],sts=>sts.isEmpty
 | m::ms,sts=>match sts with | st::sts=>okS T N sc m st && okB T N sc ms sts | []=>false
end
variable {tg w c':Expr}{pos:Pos}
section
variable {T:Tx}{N:z0}{sc:Scope}{st:Stmt}{i:Nat}{e k v c:M}{t:Tg}{a b:List MS}{src:List M}{ik:IK}{sts:vi}{m:MS}
theorem YD :okS T N sc (.set t e) (.Assign [tg] w pos)=(tgB N sc t tg && okE T N e sc w && (fH w || sZ e) && jH t w):=rfl
theorem Vf :okS T N sc (.expr e) (.Expr w pos)=(okE T N e sc w && fH w):=rfl
theorem YK {a' b':vi}:okS T N sc (.ifs c a b) (.If c' a' b' pos)=(okE T N c sc c' && okB T N sc a a' && okB T N sc b b'):=rfl
theorem X3:okB T N sc [] sts=sts.isEmpty:=rfl
theorem V5:okB T N sc (m::a) (st::sts)=(okS T N sc m st && okB T N sc a sts):=rfl
end
section
variable {inv O:zz}{i j:Nat}{e k v c:M}{a b:List MS}{t:Tg}{ik:IK}{src:List M}{m:MS}
theorem Vp:vC inv (.app i e) O=(if (without O (aC e)).contains i then some (some (without O (aC e))) else none):=rfl
theorem VR:vC inv (.ext i e) O=(if (without O (aC e)).contains i then some (some (without O (aC e))) else none):=rfl
theorem U4:vC inv (.ifs c a b) O=(do
  let x <- dg inv a O
  let y <- dg inv b O
  some (jD x y)):=rfl
theorem UW:vC inv (.forr t ik src b) O=(do
  let O1:=without (without O (aV src)) (aK t)
  let x <- dg O1 b O1
  let O2:=(jD (some O1) x).getD []
  let y <- dg O2 b O2
  match y with
  | none=>some (some O2)
  | some O3=>if O2.all (fun i=>O3.contains i) then some (some O2) else none):=rfl
theorem Qq:dg inv (m::a) O=(do
  let x <- vC inv m O
  match x with
  | none=>some none
  | some O1=>dg inv a O1):=rfl
end
def mz (g:G) (E:Ent) (Es Hs:Hp) (O':Ow) (inv:zz) (D:Ends):Out->Prop
 | .nx ρ'=>∀ O1,O'=some O1->∀ σ' H' Hs',FR g E Es O1 ρ' σ' H' Hs'->Same Hs Hs'->D.nx σ' H'
 | .ro d=>∀ v H' Hs',Grow E.hp Es H' Hs'->Rp g Hs' d v->(∀ a,v=.ref a->E.hp a=none)->D.rt v H'
 | .rt d=>∀ v H' Hs',Grow E.hp Es H' Hs'->Rp g Hs' d v->D.rt v H'
variable {g:G}
theorem mz.mono {E:Ent}{Es Hs Hs1:Hp}{O':Ow}{inv:zz}{D:Ends}{o:Out} (h:mz g E Es Hs O' inv D o) (m:Same Hs Hs1):mz g E Es Hs1 O' inv D o:=by
 cases o with
 | nx ρ=>exact fun O1 e σ' H' Hs' F s=>h O1 e σ' H' Hs' F (m.trans s)
 | rt d=>exact h
 | ro d=>exact h
def tMS (X:Cx) (E:Ent) (Es:Hp) (O:zz) (O':Ow) (inv:zz) (run:En->R Out):TS:=fun D σ H=>∃ ρ Hs o,FR (gOf X) E Es O ρ σ H Hs/\run ρ=.ok o/\mz (gOf X) E Es Hs O' inv D o
variable {X:Cx}{t':TS}
theorem bN {t:TS} (h:PS X st t) (i:∀ D σ H,t' D σ H->t D σ H):PS X st t':=fun pins s σ H D I hq=>h pins s σ H D I (i D σ H hq)
theorem Dk {st:vi}{t:TS} (h:PSs X st t) (i:∀ D σ H,t' D σ H->t D σ H):PSs X st t':=fun pins s σ H D I hq=>h pins s σ H D I (i D σ H hq)
section
variable {g:G}{E:Ent}{Es:Hp}{O O':zz}{ρ:En}{σ:St}{H Hs H' Hs':Hp}
theorem FR.vs (F:FR g E Es O ρ σ H Hs) {U:zz} (h:∀ i∈U,i ∉ O):Vs g ρ σ Hs U:=⟨F.len,fun i hi d e=>F.val i d e (h i hi)⟩
theorem FR.pubU (F:FR g E Es O ρ σ H Hs) (U:zz):∃ Hs',FR g E Es (without O U) ρ σ H Hs'/\Same Hs Hs'/\Vs g ρ σ Hs' U:=by
 obtain ⟨Hs',F',m,_⟩:=FR.pubs U F;exact ⟨Hs',F',m,F'.vs fun i hi hm=>(bB.mp hm).2 hi⟩
theorem FR.pubW (F:FR g E Es O ρ σ H Hs) (U:zz):∃ Hs',FR g E Es (without O U) ρ σ H Hs'/\Same Hs Hs'/\Vs g ρ σ Hs' U/\iB Hs Hs':=by
 obtain ⟨Hs',F',m,w⟩:=FR.pubs U F;exact ⟨Hs',F',m,F'.vs fun i hi hm=>(bB.mp hm).2 hi,w⟩
theorem FR.putL:∀ {l:List (Nat × D × V)}{O:zz}{ρ:En}{σ:St},FR g E Es O ρ σ H Hs->(∀ q∈E.pins,q.1 ∉ l.map (·.1))->(∀ p∈l,Rp g Hs p.2.1 p.2.2)->FR g E Es (without O (l.map (·.1))) (putL ρ (l.map fun p=>(p.1,p.2.1))) (putL σ (l.map fun p=>(p.1,p.2.2))) H Hs
 | [],O,ρ,σ,F,hq,h=>F.congrO fun i=>by rw [bB];simp
 | (i,d,v)::l,O,ρ,σ,F,hq,h=>by
  have F1:=F.setS (i:=i) (fun q hm e=>hq q hm (by rw [List.map_cons,e];exact vE)) (h _ vE);have F2:=FR.putL F1 (fun q hm e=>hq q hm (vz _ e)) fun p hp=>h p (vz _ hp)
  simp only [List.map_cons,Mi.putL];refine F2.congrO fun j=>?_
  rw [bB,bB,bB];simp;constructor
  .rintro ⟨a,b,c⟩;exact ⟨⟨a,b⟩,c⟩
  .rintro ⟨⟨a,b⟩,c⟩;exact ⟨a,b,c⟩
end
variable {v:Expr}{l:Nat}{env:Env}
def jP {t:Option Expr} (h:fH v=true):swapsWith v t l env=pure false:=by
 cases v <;> first | rfl | cases h
variable {t:Tg}
theorem gj (h:jH t v=true) (h1:tgB N sc t tg=true):swappedStores [tg] v env=pure none:=by
 cases t with
 | one i =>
  obtain ⟨_,_,rfl,_⟩:=rY h1;cases v <;> rfl
 | two i j =>
  obtain ⟨_,_,_,_,_,_,rfl,_⟩:=sS h1;cases v <;> first | (cases h;done) | rfl
theorem assign1 (h:tgB N sc t tg=true):(assignEach [tg] env).map (·.2)=[assign tg env]:=by
 cases t with
 | one i =>
  obtain ⟨_,_,rfl,_⟩:=rY h;rfl
 | two i j =>
  obtain ⟨_,_,_,_,_,_,rfl,_⟩:=sS h;rfl
variable {e elt c mk:M}{p ap cp p1 p2:Pos}{x n1:Str}{tg':Tg}{k:IK}{src ms:List M}{hc:Bool}{cap:List Bool}{ρ:En}{d:D}{j f:Nat}{y kx:Expr}
section
variable {T:Tx}{cl:Nat->List D->R D}{X:Cx}{sc:Scope}{E:Ent}{Es:Hp}{O:zz}{inv:zz}{pos:Pos}
def SQ (C:Cok T cl X) (S:ScRel sc X) (hq:∀ q∈E.pins,q.1 ∉ aK t) (h1:tgB X.N sc t tg=true) (h2:okE T X.N e sc v=true) (h3:fH v=true) (h4:jH t v=true) :
  PS X (.Assign [tg] v pos) (tMS X E Es O (some (without (without O (aC e)) (aK t))) inv (bA cl (.set t e))):=by
 refine bN (jA (good e C S h2).1 (ji C S h1) (jP (t:=some tg) (l:=pos.line) (env:=X.env) h3) (gj h4 h1) (assign1 h1)) fun D σ H=>?_
 rintro ⟨ρ,Hs,o,F,h,k⟩;simp only [wC,wD,wE,qV,wF,wG,wH,wI] at h;obtain ⟨d,hd,hb⟩:=aj h;obtain ⟨ρ',hρ,hb2⟩:=aj hb;clear h hb;cases hb2;obtain ⟨Hs1,F1,m1,vs⟩:=F.pubU (aC e);refine ⟨ρ,Hs1,d,F1.sub,vs,hd,fun x H1 Hs2 g2 r2=>?_⟩;have F2:=F1.grown g2;refine oG (X:=X) g2.sub hρ r2 fun l hl hrl eρ=>?_
 have F3:=F2.putL (by rw [hl];exact hq) hrl;rw [hl,<- eρ] at F3;exact k _ rfl _ _ _ F3 (m1.trans (g2.same F1.sub))
noncomputable def swB (sc:Scope) (x:Str) (l1 l2:Nat) (scope:Scope):Bool:=(sc.names.lookup x == some .local) && l1 == l2 && !(scope.names.any fun (n,k)=>n == x && (k == .local || k == .cell))
theorem G8 {elt:Expr}{gs:List Comprehension}{scope:Scope}{p':Pos} (hk:env.scope.kind=.function):swapsWith (.ListComp elt gs scope p) (some (.Name x p')) l env=pure (swB env.scope x p'.line p.line scope):=by
 show (pure (env.blockKind == .function && env.kindOf x == some .local && p'.line == p.line && !(scope.names.any fun (n,k)=>n == x && (k == .local || k == .cell))):Sem Bool)=_
 have hb:env.blockKind=.function:=by unfold Env.blockKind;rw [hk];rfl
 rw [hb];rfl
def Ig {TSx:TS} (C:Cok T cl X) (S:ScRel sc X) (h1:tgB X.N sc t tg=true) (h2:okE T X.N (.comp elt tg' k src hc c cap) sc v=true) (h4:jH t v=true)
  (read:∀ D σ H,TSx D σ H->V3 (tMf X (aC (.comp elt tg' k src hc c cap)) (evE cl (.comp elt tg' k src hc c cap))) (gTg X.K t) D σ H):PS X (.Assign [tg] v pos) TSx:=by
 have h2':=h2;obtain ⟨elt',gens,scope,p,rfl⟩:=oZ h2';rcases gens with _ | ⟨⟨tgx,iter,ifs,as⟩,_ | ⟨g2,gs⟩⟩ <;> try (cases h2';done)
 rw [Ie] at h2';simp only [Bool.and_eq_true,decide_eq_true_eq] at h2';obtain ⟨⟨⟨⟨⟨⟨⟨q1,q2⟩,q3⟩,q4⟩,q5⟩,q6⟩,q7⟩,q8⟩:=h2';subst q1;have blk:∀ s₃ H₃ fp xe,PG (cO X scope s₃ H₃ fp xe) tgx (gTg X.K tg')/\PTs (cO X scope s₃ H₃ fp xe) ifs (tHc X hc (aC c) (evE cl c))/\PE (cO X scope s₃ H₃ fp xe) elt' (tM X (aC elt) (evE cl elt)):=fun s₃ H₃ fp xe=>by
  have S':ScRel scope (cO X scope s₃ H₃ fp xe):=Ej S;have C':=C.blk scope s₃ H₃ fp xe;refine ⟨ji C' S' q3,?_,(good elt C' S' q7).1⟩;cases hc with
  | true =>
   rcases ifs with _ | ⟨i1,_ | ⟨i2,is⟩⟩ <;> try (cases q6;done)
   exact Ma (good c C' S' q6).2
  | false =>
   rcases ifs with _ | ⟨i1,is⟩ <;> try (cases q6;done)
   exact Ms
 have rd:∀ σ H (Q:VK),tMf X (aC (.comp elt tg' k src hc c cap)) (evE cl (.comp elt tg' k src hc c cap)) σ H Q->Bh (tI X (aV src) fun ρ=>do let ss <- cu cl src ρ;itemsOf k ss) (gTg X.K tg') (tHc X hc (aC c) (evE cl c)) (tM X (aC elt) (evE cl elt)) (bx (cJ X.N scope)) σ H Q:=fun σ H Q h=>by
  rw [Ly] at h;exact Eo q3 q8 h
 have hE:PE X (.ListComp elt' [⟨tgx,iter,ifs,0⟩] scope p) (tMf X (aC (.comp elt tg' k src hc c cap)) (evE cl (.comp elt tg' k src hc c cap))) :=
  aZ (yt C.calm (sY C S (fun m _=>good m) q4 q5) (Jb q2 S) blk (rZ (pH q4))) rd
 cases t with
 | two i j =>
  have hno:∀ l env,swapsWith (.ListComp elt' [⟨tgx,iter,ifs,0⟩] scope p) (some tg) l env=pure false:=fun l env=>by
   obtain ⟨_,_,_,_,_,_,rfl,_⟩:=sS h1;rfl
  exact bN (jA hE (ji C S h1) (hno pos.line X.env) (gj h4 h1) (assign1 h1)) read
 | one i =>
  have h1':=h1;clear h1;obtain ⟨x,p',rfl,h1⟩:=rY h1';obtain ⟨l1,l2⟩:=S.own _ h1.1;cases hsw:swB X.env.scope x p'.line p.line scope with
  | false =>
   intro pins s σ H D I h;have e0:swapsWithSole [.Name x p'] (.ListComp elt' [⟨tgx,iter,ifs,0⟩] scope p) pos.line X.env=pure (swB X.env.scope x p'.line p.line scope):=G8 (l:=pos.line) I.ok.kind;exact jA hE (ji C S h1') (by rw [e0,hsw]) (gj h4 h1') (assign1 h1') pins s σ H D I (read D σ H h)
  | true =>
   exact bN (O7 C.nd h1.2 l1 l2 (fun hk=>by rw [G8 hk,hsw]) C.calm (sY C S (fun m _=>good m) q4 q5) (Jb q2 S) blk (rZ (pH q4))) fun D σ H h=>rd _ _ _ (read D σ H h)
def Mv (C:Cok T cl X) (S:ScRel sc X) (hq:∀ q∈E.pins,q.1 ∉ aK t) (h1:tgB X.N sc t tg=true) (h2:okE T X.N (.comp elt tg' k src hc c cap) sc v=true) (h4:jH t v=true) :
  PS X (.Assign [tg] v pos) (tMS X E Es O (some (without (without O (aC (.comp elt tg' k src hc c cap))) (aK t))) inv (bA cl (.set t (.comp elt tg' k src hc c cap)))):=by
 refine Ig C S h1 h2 h4 fun D σ H=>?_
 rintro ⟨ρ,Hs,o,F,h,kk⟩;simp only [wC,wD,wE,qV,wF,wG,wH,wI] at h;obtain ⟨d,hd,hb⟩:=aj h;obtain ⟨ρ',hρ,hb2⟩:=aj hb;clear h hb;cases hb2;obtain ⟨Hs1,F1,m1,vs⟩:=F.pubU (aC (.comp elt tg' k src hc c cap));refine ⟨ρ,Hs1,d,F1.sub,vs,hd,fun x H1 Hs2 g2 r2 _=>?_⟩;have F2:=F1.grown g2;refine oG (X:=X) g2.sub hρ r2 fun l hl hrl eρ=>?_
 have F3:=F2.putL (by rw [hl];exact hq) hrl;rw [hl,<- eρ] at F3;exact kk _ rfl _ _ _ F3 (m1.trans (g2.same F1.sub))
def Ys (C:Cok T cl X) (S:ScRel sc X) (hq:∀ q∈E.pins,q.1≠i) (h1:tgB X.N sc (.one i) tg=true) (h2:okE T X.N (.lst ms) sc v=true) (h3:fH v=true) (h4:jH (.one i) v=true) :
  PS X (.Assign [tg] v pos) (tMS X E Es O (some (i::without (without O (aC (.lst ms))) [i])) inv (bA cl (.set (.one i) (.lst ms)))):=by
 obtain ⟨_,_,rfl⟩:=uo h2;rw [Ld] at h2;simp only [Bool.and_eq_true] at h2;refine bN (jA (Bj (fV C S (fun m _=>good m) h2.1 h2.2)) (ji C S h1) (jP (t:=some tg) (l:=pos.line) (env:=X.env) h3) (gj h4 h1) (assign1 h1)) fun D σ H=>?_
 rintro ⟨ρ,Hs,o,F,h,k⟩;simp only [wC,wM,wN,wL] at h;obtain ⟨d,hd,hb⟩:=aj h;obtain ⟨ρ',hρ,hb2⟩:=aj hb;clear h hb;obtain ⟨ds,hds,hd2⟩:=aj hd;clear hd;obtain ⟨hlim,hd3⟩:=bK hd2;clear hd2;cases hd3;cases hρ;cases hb2;obtain ⟨Hs1,F1,m1,vs⟩:=F.pubU (aV ms);refine ⟨ρ,Hs1,ds,F1.sub,vs,hds,fun xs H1 Hs2 g2 r2=>⟨by rw [<- r2.length];exact ye hlim jy,fun p hp=>?_⟩⟩;have F2:=F1.grown g2;have F3:=F2.setO (i:=i) (d:=.lst ds) (o:=.lst xs) hq hp ⟨xs,aB,r2⟩;exact k _ rfl _ _ _ F3 (m1.trans (g2.same F1.sub))
def YZ (C:Cok T cl X) (S:ScRel sc X) (hq:∀ q∈E.pins,q.1≠i) (h1:tgB X.N sc (.one i) tg=true) (h2:okE T X.N .dct0 sc v=true) (h3:fH v=true) (h4:jH (.one i) v=true) :
  PS X (.Assign [tg] v pos) (tMS X E Es O (some (i::without (without O (aC .dct0)) [i])) inv (bA cl (.set (.one i) .dct0))):=by
 obtain ⟨ks,vs,p,rfl⟩:=JT h2;cases ks <;> try (cases h2;done)
 cases vs <;> try (cases h2;done)
 refine bN (jA Lk (ji C S h1) (jP (t:=some tg) (l:=pos.line) (env:=X.env) h3) (gj h4 h1) (assign1 h1)) fun D σ H=>?_
 rintro ⟨ρ,Hs,o,F,h,k⟩;simp only [wC,wM,wN,wL,qT,wX] at h;cases h;obtain ⟨Hs1,F1,m1,vs⟩:=F.pubU [];intro p hp;have F3:=F1.setO (i:=i) (d:=.dct [] []) (o:=.ext (DAt (gOf X) p [] [] 0)) hq hp ⟨[],[],0,aB,rfl,Rps.nil,Rps.nil⟩;exact k _ rfl _ _ _ F3 m1
def dI (h:bF ρ i=.ok d):ρ[i]?=some (some d):=by
 unfold bF at h;split at h
 .cases h;assumption
 .cases h
def ZQ (C:Cok T cl X) (S:ScRel sc X) (hv:fB sc x=true) (ho:aJ x=true) (hN:X.N[i]?=some x) (h2:okE T X.N e sc v=true) (hn:noStar v=true) (hl:(ap.endLine == cp.line)=true)
  (hi:i ∈ without O (aC e)):PS X (.Expr (.Call (.Attribute (.Name x p) "append" ap) [v] [] cp) pos) (tMS X E Es O (some (without O (aC e))) inv (bA cl (.app i e))):=by
 unfold aJ at ho;simp only [Bool.and_eq_true,Bool.not_eq_true'] at ho;refine bN (lB (GC PySem.F.plainAttrs_list PySem.F.slot_list_append PySem.F.type_list_append uX (gJ hN (S.vis _ hv) ho.1.1 ho.1.2) (dD (good e C S h2).1 gH (aA hn)) rfl (by rw [aA hn];rfl) hl (aA hn) rfl) rfl) fun D σ H=>?_
 rintro ⟨ρ,Hs,o,F,h,k⟩;simp only [wC,wD,wE,qV,wF,wG,wH,wI] at h;obtain ⟨l,hl1,hb⟩:=aj h;obtain ⟨d,hd,hb1⟩:=aj hb;obtain ⟨l',hl',hb2⟩:=aj hb1;clear h hb hb1;cases hb2;obtain ⟨Hs1,F1,m1,vs⟩:=F.pubU (aC e);have hρ:=dI hl1;obtain ⟨a,ea,a0,a1,ow⟩:=F1.own i hi l hρ;cases l <;> try (cases hl';done)
 rename_i ds;simp only [yQ] at hl';obtain ⟨hlt,hl2⟩:=bK hl';clear hl';cases hl2;obtain ⟨xs,hxs,rxs⟩:=ow;refine ⟨.ref a,ea,.inl ⟨rfl,xs,SqL.of hxs⟩,ρ,Hs1,d,F1.sub,vs,hd,fun y H1 Hs2 g2 r2=>?_⟩;have F2:=F1.grown g2;have hl:=rxs.length;have hlim:=jy;refine ⟨a,xs,y,rfl,rfl,g2.keep a _ hxs,by omega,?_⟩;have F3:=F2.mut (o:=.lst (xs++[y])) (d':=.lst (ds++[d])) hi hρ ea ⟨_,aB,(rxs.mono (g2.same F1.sub)).append (Rps.one r2)⟩;exact k _ rfl _ _ _ F3 (m1.trans (g2.same F1.sub))
def aa5 (C:Cok T cl X) (S:ScRel sc X) (hv:fB sc x=true) (ho:aJ x=true) (hN:X.N[i]?=some x) (h2:okE T X.N e sc v=true) (hn:noStar v=true) (hl:(ap.endLine == cp.line)=true)
  (hi:i ∈ without O (aC e)):PS X (.Expr (.Call (.Attribute (.Name x p) "extend" ap) [v] [] cp) pos) (tMS X E Es O (some (without O (aC e))) inv (bA cl (.ext i e))):=by
 unfold aJ at ho;simp only [Bool.and_eq_true,Bool.not_eq_true'] at ho;refine bN (lB (GC PySem.F.plainAttrs_list PySem.F.slot_list_extend PySem.F.type_list_extend Yp (gJ hN (S.vis _ hv) ho.1.1 ho.1.2) (dD (good e C S h2).1 gH (aA hn)) rfl (by rw [aA hn];rfl) hl (aA hn) rfl) rfl) fun D σ H=>?_
 rintro ⟨ρ,Hs,o,F,h,k⟩;simp only [wC,wD,wE,qV,wF,wG,wH,wI] at h;obtain ⟨l,hl1,hb⟩:=aj h;obtain ⟨d,hd,hb1⟩:=aj hb;obtain ⟨l',hl',hb2⟩:=aj hb1;clear h hb hb1;cases hb2;obtain ⟨Hs1,F1,m1,vs⟩:=F.pubU (aC e);have hρ:=dI hl1;obtain ⟨a,ea,a0,a1,ow⟩:=F1.own i hi l hρ;cases l <;> try (cases hl';done)
 rename_i ds;obtain ⟨xs,hxs,rxs⟩:=ow;refine ⟨.ref a,ea,.inl ⟨rfl,xs,SqL.of hxs⟩,ρ,Hs1,d,F1.sub,vs,hd,fun y H1 Hs2 g2 r2=>?_⟩;have F2:=F1.grown g2;have hl:=rxs.length;cases d <;> try (cases hl';done)
 .simp only [Ib] at hl';obtain ⟨hlt,hl2⟩:=bK hl';clear hl';cases hl2;obtain ⟨b,zs,rfl,s1,rz⟩:=bI.mp r2;have hz:=rz.length;refine ⟨a,b,xs,zs,rfl,rfl,g2.keep a _ hxs,.inl (aL g2.sub s1),by omega,?_⟩;have F3:=F2.mut (o:=.lst (xs++zs)) (d':=.lst (ds++_)) hi hρ ea ⟨_,aB,(rxs.mono (g2.same F1.sub)).append rz⟩;exact k _ rfl _ _ _ F3 (m1.trans (g2.same F1.sub))
theorem Rps.set {g:G}{H:Hp}{d:D}{v:V} (r:Rp g H d v):∀ {ds:List D}{vs:List V} (k:Nat),Rps g H ds vs->Rps g H (ds.set k d) (vs.set k v)
 | [],vs,k,rs=>by cases rs.nil_inv;exact Rps.nil
 | e::ds,vs,0,rs=>by
  obtain ⟨w,ws,rfl,r0,r1⟩:=rs.cons_inv;exact Rps.cons r r1
 | e::ds,vs,k+1,rs=>by
  obtain ⟨w,ws,rfl,r0,r1⟩:=rs.cons_inv;exact Rps.cons r0 (Rps.set r k r1)
def Zv {ks:List D}{k:D} (hn:ks.Nodup) (h:ks[j]?=some k):ks.findIdx? (fun c=>decide (c=k))=some j:=by
 obtain ⟨hl,e⟩:=vV.mp h;rw [List.findIdx?_eq_some_iff_getElem];refine ⟨hl,by simp [e],fun i hij=>?_⟩;simp only [decide_eq_true_eq];intro z;have:=(List.getElem_inj hn).mp (z.trans e.symm);omega
def set_same (h:ρ[i]?=some (some d)):ρ.set i (some d)=ρ:=by
 apply List.ext_getElem?;intro j;by_cases e:i=j
 .subst e;rw [List.getElem?_set_self (List.getElem?_eq_some_iff.mp h).1,h]
 .rw [List.getElem?_set_ne e]
theorem Rps.erase {g:G}{H:Hp}:∀ {ds:List D}{vs:List V} (k:Nat),Rps g H ds vs->Rps g H (ds.eraseIdx k) (vs.eraseIdx k)
 | [],vs,k,r=>by cases r.nil_inv;exact Rps.nil
 | d::ds,vs,0,r=>by
  obtain ⟨v,ws,rfl,r0,rs⟩:=r.cons_inv;exact rs
 | d::ds,vs,k+1,r=>by
  obtain ⟨v,ws,rfl,r0,rs⟩:=r.cons_inv;exact Rps.cons r0 (Rps.erase k rs)
def Y4 (C:Cok T cl X) (S:ScRel sc X) (h2:okE T X.N e sc v=true) (h3:fH v=true):PS X (.Expr v pos) (tMS X E Es O (some (without O (aC e))) inv (bA cl (.expr e))):=by
 refine bN (lB (good e C S h2).1 (jP h3)) fun D σ H=>?_
 rintro ⟨ρ,Hs,o,F,h,k⟩;simp only [wC,wD,wE,qV,wF,wG,wH,wI] at h;obtain ⟨d,hd,hb⟩:=aj h;clear h;cases hb;obtain ⟨Hs1,F1,m1,vs⟩:=F.pubU (aC e);exact ⟨ρ,Hs1,d,F1.sub,vs,hd,fun y H1 Hs2 g2 r2=>k _ rfl _ _ _ (F1.grown g2) (m1.trans (g2.same F1.sub))⟩
def aaB (C:Cok T cl X) (S:ScRel sc X) (h2:okE T X.N e sc v=true):PS X (.Return (some v) pos) (tMS X E Es O none inv (bA cl (.ret e))):=by
 refine bN (QK (good e C S h2).1) fun D σ H=>?_
 rintro ⟨ρ,Hs,o,F,h,k⟩;simp only [wC,wD,wE,qV,wF,wG,wH,wI] at h;obtain ⟨d,hd,hb⟩:=aj h;clear h;cases hb;obtain ⟨Hs1,F1,m1,vs⟩:=F.pubU (aC e);exact ⟨ρ,Hs1,d,F1.sub,vs,hd,fun y H1 Hs2 g2 r2=>k y H1 Hs2 (F1.grow.trans g2) r2⟩
theorem Yy (h2:dh e=true):PS X (.Return none pos) (tMS X E Es O none inv (bA cl (.ret e))):=by
 refine bN YJ fun D σ H=>?_
 rintro ⟨ρ,Hs,o,F,h,k⟩;cases e <;> try (cases h2;done)
 rename_i d;cases d <;> try (cases h2;done)
 simp only [wC,wD,wE,qV,wF,wG,wH,wI,wM,wN,wK,wL,qT] at h;cases h;exact k .non H Hs F.grow (Ck.mpr rfl)
def Yr (C:Cok T cl X) (S:ScRel sc X) (hq:∀ q∈E.pins,q.1≠i) (h1:tgB X.N sc (.one i) tg=true) (h2:okE T X.N (.comp elt tg' k src hc c cap) sc v=true) :
  PS X (.Assign [tg] v pos) (tMS X E Es O (some (i::without O [i])) inv (bA cl (.setC i (.comp elt tg' k src hc c cap)))):=by
 refine Ig C S h1 h2 rfl fun D σ H=>?_
 rintro ⟨ρ,Hs,o,F,h,kk⟩;rw [wA] at h;obtain ⟨d,hd,hb0⟩:=aj h;obtain ⟨hlf,hb⟩:=bK hb0;clear h hb0;cases hb;obtain ⟨Hs1,F1,m1,vs,w1⟩:=F.pubW (aC (.comp elt tg' k src hc c cap));refine ⟨ρ,Hs1,d,F1.sub,vs,hd,fun x H1 Hs2 g2 r2 ⟨a,xs,ds,e1,e2,ha,hx,rx⟩=>?_⟩;subst e1 e2;obtain ⟨Hs3,g3,u1,u2⟩:=rB F.sub w1 g2;have hx3:Hs3 a=some (.lst xs):=by rw [u2 a ha];exact hx
 have u4:∀ t o,Hs2 t=some o->tE o=false->hole Hs3 a t=some o:=fun t o q hm=>by
  have q3:=u1 t o q hm;rw [eO (fun z=>by rw [z,hx3] at q3;cases q3;cases hm)];exact q3
 have g4:Grow H Hs H1 (hole Hs3 a):=⟨g3.keep,fun c o q=>by rw [eO (ak q ha)];exact g3.old c o q,fun c o q=>by
  by_cases hc:c=a
  .rw [hc,iJ] at q;cases q
  .rw [eO hc] at q;exact g3.sub c o q⟩
 have F3:=F.adopt (i:=i) (d:=.lst ds) hq g4 ha iJ ⟨xs,g3.sub _ _ hx3,vG u4 hlf rx⟩;exact kk _ rfl _ _ _ F3 (g4.same F.sub)
def XF (C:Cok T cl X) (S:ScRel sc X) (hq:∀ q∈E.pins,q.1 ∉ aK t) (h1:tgB X.N sc t tg=true) (h2:okE T X.N e sc v=true) (h3:fH v=true) (h4:jH t v=true) :
  PS X (.Assign [tg] v pos) (tMS X E Es O (some (without O (aK t))) inv (bA cl (.setB t e))):=by
 refine bN (jA (good e C S h2).1 (ji C S h1) (jP (t:=some tg) (l:=pos.line) (env:=X.env) h3) (gj h4 h1) (assign1 h1)) fun D σ H=>?_
 rintro ⟨ρ,Hs,o,F,h,k⟩;rw [qz] at h;obtain ⟨d,hd,hb0⟩:=aj h;obtain ⟨hlf,hb⟩:=bK hb0;obtain ⟨ρ',hρ,hb2⟩:=aj hb;clear h hb hb0;cases hb2;obtain ⟨Hs1,F1,m1,vs,w1⟩:=F.pubW (aC e);refine ⟨ρ,Hs1,d,F1.sub,vs,hd,fun x H1 Hs2 g2 r2=>?_⟩;obtain ⟨Hs3,g3,u1,u2⟩:=rB F.sub w1 g2;have F2:=F.grown g3;refine oG (X:=X) g3.sub hρ (oW u1 hlf r2) fun l hl hrl eρ=>?_
 have F3:=F2.putL (by rw [hl];exact hq) hrl;rw [hl,<- eρ] at F3;exact k _ rfl _ _ _ F3 (g3.same F.sub)
def T7 (C:Cok T cl X) (S:ScRel sc X) (hq:∀ q∈E.pins,q.1≠i) (h1:tgB X.N sc (.one i) tg=true) (h2:okE T X.N (.blt .list ms) sc v=true) (h4:jH (.one i) v=true) :
  PS X (.Assign [tg] v pos) (tMS X E Es O (some (i::without (without O (aC (.blt .list ms))) [i])) inv (bA cl (.set (.one i) (.blt .list ms)))):=by
 obtain ⟨x,p,es,q,rfl,h9⟩:=cM h2;simp only [Bool.and_eq_true,decide_eq_true_eq,Bool.not_eq_true'] at h9;obtain ⟨⟨⟨⟨a1,a2⟩,a3⟩,a4⟩,a5⟩:=h9;subst a1;rcases es with _ | ⟨y,ys⟩
 .cases a3
 have a6:bJ T X.N ms sc (y::ys)=true:=a5;have pa:=fV C S (fun m _=>good m) a6 a4;have a7:=a4;simp only [List.all_cons,Bool.and_eq_true] at a7;refine bN (jA (vI (vW.or (Bq C.calm)) (S.glb _ a2) (C.blt _ (by decide +kernel)) uy pa (by decide +kernel) (by decide +kernel) (aA a7.1) (eU a7.2)) (ji C S h1) rfl (gj h4 h1) (assign1 h1)) fun D σ H=>?_
 rintro ⟨ρ,Hs,o,F,h,k⟩;simp only [wC,wU] at h;obtain ⟨d,hd,hb⟩:=aj h;obtain ⟨ρ',hρ,hb2⟩:=aj hb;clear h hb;obtain ⟨ds,hds,hd2⟩:=aj hd;clear hd;cases hρ;cases hb2;obtain ⟨Hs1,F1,m1,vs⟩:=F.pubU (aV ms);refine ⟨ρ,Hs1,ds,F1.sub,vs,hds,fun xs H1 Hs2 g2 r2=>?_⟩;have F2:=F1.grown g2;rcases ds with _ | ⟨d0,_ | ⟨d1,ds⟩⟩
 .cases hd2
 .obtain ⟨v,ws,rfl,r3,r4⟩:=r2.cons_inv;cases r4.nil_inv;cases d0 <;> try (cases hd2;done)
  .cases hd2;obtain ⟨a,zs,rfl,s1,r4⟩:=cX.mp r3;refine .inl ⟨a,zs,rfl,.inr (aO g2.sub s1),fun p hp=>?_⟩;exact k _ rfl _ _ _ (F2.setO (i:=i) (o:=.lst zs) hq hp ⟨zs,aB,r4⟩) (m1.trans (g2.same F1.sub))
  .cases hd2;obtain ⟨a,zs,rfl,s1,r4⟩:=bI.mp r3;refine .inl ⟨a,zs,rfl,.inl (aL g2.sub s1),fun p hp=>?_⟩;exact k _ rfl _ _ _ (F2.setO (i:=i) (o:=.lst zs) hq hp ⟨zs,aB,r4⟩) (m1.trans (g2.same F1.sub))
  .cases hd2;obtain ⟨a,zs,ys,ep,rfl,ha,e1,r5,r6⟩:=kY.mp r3;refine .inr ⟨a,_,zs,ys,rfl,⟨⟨ep,g2.sub _ _ ha⟩,e1,r5.mono g2.sub⟩,fun p hp=>?_⟩;exact k _ rfl _ _ _ (F2.setO (i:=i) (d:=.lst _) (o:=.lst (zs.map fun x:Mi.D × Addr × Value=>V.ref x.2.1)) hq hp ⟨_,aB,r5⟩) (m1.trans (g2.same F1.sub))
 .cases d0 <;> cases hd2
def XJ (C:Cok T cl X) (S:ScRel sc X) (ho:aJ x=true) (hv:fB sc x=true) (hN:X.N[i]?=some x) (hi:i∈O):PS X (.Return (some (.Name x p)) pos) (tMS X E Es O none inv (bA cl (.retO i))):=by
 unfold aJ at ho;simp only [Bool.and_eq_true,Bool.not_eq_true'] at ho;refine bN (QK (gJ hN (S.vis _ hv) ho.1.1 ho.1.2)) fun D σ H=>?_
 rintro ⟨ρ,Hs,o,F,h,k⟩;rw [qx] at h;obtain ⟨d,hd,hb⟩:=aj h;cases hb;have hρ:=dI hd;obtain ⟨a,ea,a0,_,_⟩:=F.own i hi d hρ;obtain ⟨Hs1,F1,m1,_⟩:=F.pub1 i;obtain ⟨v,ev,rv⟩:=F1.val i d hρ (by rw [List.mem_filter];simp);rw [ea] at ev;cases ev;exact ⟨.ref a,ea,k _ _ Hs1 F1.grow rv fun b e=>by cases e;exact a0⟩
def Xr {as:ve} (C:Cok T cl X) (S:ScRel sc X) (hq:∀ q∈E.pins,q.1≠i) (h1:tgB X.N sc (.one i) tg=true) (ho:aJ x=true) (hg:eV sc x=true) (hF:T.F[f]?=some x) (h2:bJ T X.N ms sc as=true) (hn:as.all noStar=true) (hne:as.isEmpty=false) :
  PS X (.Assign [tg] (.Call (.Name x p) as [] cp) pos) (tMS X E Es O (some (i::without (without O (aV ms)) [i])) inv (bA cl (.setF i f ms))):=by
 unfold aJ at ho;simp only [Bool.and_eq_true,Bool.not_eq_true'] at ho;obtain ⟨k,a,fd,ps,_,hr,hm,hk,hb,_,_,_,FF,hlen⟩:=C.fns f x hF;rcases as with _ | ⟨y,ys⟩
 .cases hne
 have pa:=fV C S (fun m _=>good m) h2 hn;simp only [List.all_cons,Bool.and_eq_true] at hn;refine bN (jA (xO FF hr (S.glb _ hg) hm hk hb .nil BR pa ho.1.1 (aA hn.1) (eU hn.2)) (ji C S h1) rfl (gj rfl h1) (assign1 h1)) fun D σ H=>?_
 rintro ⟨ρ,Hs,o,F,h,kk⟩;rw [qy] at h;obtain ⟨ds,hds,hb1⟩:=aj h;obtain ⟨d,hd,hb2⟩:=aj hb1;clear h hb1;obtain ⟨hlf,hb3⟩:=bK hb2;cases hb3;obtain ⟨Hs1,F1,m1,vs⟩:=F.pubU (aV ms);refine ⟨ρ,Hs1,ds,F1.sub,vs,hds,fun xs H1 Hs2 g2 r2=>?_⟩;have F2:=F1.grown g2;show spF (gOf X) (cl (2000+f)) ps.length (xs++[]) H1 _ E0
 rw [List.append_nil];refine ⟨ds,Hs2,d,by rw [<- r2.length];exact hlen ds d hd,g2.sub,r2,hd,fun v H2 Hs3 g3 r3 hfr=>?_⟩;cases d <;> try (cases hlf;done)
 rename_i ks ws;replace hlf:(iu ks && iu ws)=true:=hlf;rw [Bool.and_eq_true] at hlf;obtain ⟨b,xs',ys',ep,rfl,hb,e1,r4,r5⟩:=kY.mp r3;have hn1:H1 b=none:=hfr b rfl;have g4:Grow H1 Hs2 H2 (hole Hs3 b):=⟨g3.keep,fun c o q=>by rw [eO (ak q hn1)];exact g3.old c o q,fun c o q=>by
  by_cases hc:c=b
  .rw [hc,iJ] at q;cases q
  .rw [eO hc] at q;exact g3.sub c o q⟩
 have F3:=F2.adopt (i:=i) (d:=.dct ks ws) hq g4 hn1 iJ ⟨xs',ys',ep,g3.sub _ _ hb,e1,oH hb hlf.1 r4,oH hb hlf.2 r5⟩;exact kk _ rfl _ _ _ F3 ((m1.trans (g2.same F1.sub)).trans (g4.same F2.sub))
theorem RT {r:D × D} (h:Dm d=.ok r):d=.tup [r.1,r.2]:=by
 cases d <;> try (cases h;done)
 rename_i ds;rcases ds with _ | ⟨a,_ | ⟨b,_ | ⟨c,ds⟩⟩⟩ <;> try (cases h;done)
 cases h;rfl
def VD {n2:Str} (C:Cok T cl X) (S:ScRel sc X) (ho:aJ x=true) (hg:eV sc x=true) (hF:T.F[f]?=some x) (h2:okE T X.N e sc y=true) (hn:noStar y=true) (o1:aJ n1=true) (v1:fB sc n1=true) (N1:X.N[i]?=some n1) (o2:aJ n2=true) (v2:fB sc n2=true) (N2:X.N[j]?=some n2)
  (hi:i∈without O (aC e)) (hj:j∈without O (aC e)) (hij:i≠j):PS X (.Expr (.Call (.Name x p) [y,.Name n1 p1,.Name n2 p2] [] cp) pos) (tMS X E Es O (some (without O (aC e))) inv (bA cl (.call2 i j f e))):=by
 unfold aJ at ho o1 o2;simp only [Bool.and_eq_true,Bool.not_eq_true'] at ho o1 o2;obtain ⟨k,a,fd,ps,_,hr,hm,hk,hb,_,FM,hlen,_,_⟩:=C.fns f x hF;refine bN (lB (xO FM hr (S.glb _ hg) hm hk hb .nil BR (dD (good e C S h2).1 (dD (gJ N1 (S.vis _ v1) o1.1.1 o1.1.2) (dD (gJ N2 (S.vis _ v2) o2.1.1 o2.1.2) gH)) (aA hn)) ho.1.1 (aA hn) rfl) rfl) fun D σ H=>?_
 rintro ⟨ρ,Hs,o,F,h,kk⟩;rw [qQ] at h;obtain ⟨d0,hd0,hb1⟩:=aj h;obtain ⟨l,hl1,hb2⟩:=aj hb1;obtain ⟨m,hm1,hb3⟩:=aj hb2;obtain ⟨r,hr1,hb4⟩:=aj hb3;obtain ⟨⟨l',m'⟩,hr2,hb5⟩:=aj hb4;clear h hb1 hb2 hb3 hb4;cases hb5;cases RT hr2;obtain ⟨Hs1,F1,m1,vs⟩:=F.pubU (aC e);refine ⟨ρ,Hs1,d0,F1.sub,vs,hd0,fun v0 H1 Hs2 g2 r2=>?_⟩;have F2:=F1.grown g2;have hρ:=dI hl1;have hρ2:=dI hm1;obtain ⟨b,eb,b0,b1,ow⟩:=F2.own i hi l hρ;obtain ⟨c,ec,c0,c1,oc⟩:=F2.own j hj m hρ2;have hbc:b≠c:=fun z=>by
  subst z;exact F2.apart i hi j hj hij l m b hρ hρ2 eb ec
 refine ⟨.ref b,eb,.ref c,ec,?_⟩;rw [if_neg hij] at hr1;refine ⟨d0,l,m,l',m',v0,b,c,Hs2,.inl ⟨rfl,hbc,hr1⟩,hlen _ _ hr1,F2.sub,r2,b1,c1,ow,oc,fun H' Hs' w n1 n2 w1 w2=>?_⟩;obtain ⟨F3,s3⟩:=F2.lend2 hi hj hρ hρ2 eb ec w n1 n2 w1 w2;exact kk _ rfl _ _ _ F3 ((m1.trans (g2.same F1.sub)).trans s3)
def V7 (C:Cok T cl X) (S:ScRel sc X) (ho:aJ x=true) (hg:eV sc x=true) (hF:T.F[f]?=some x) (h2:okE T X.N e sc y=true) (hn:noStar y=true) (o1:aJ n1=true) (v1:fB sc n1=true) (N1:X.N[i]?=some n1)
  (hi:i∈without O (aC e)):PS X (.Expr (.Call (.Name x p) [y,.Name n1 p1] [] cp) pos) (tMS X E Es O (some (without O (aC e))) inv (bA cl (.call2 i i f e))):=by
 unfold aJ at ho o1;simp only [Bool.and_eq_true,Bool.not_eq_true'] at ho o1;obtain ⟨k,a,fd,ps,_,hr,hm,hk,hb,_,FM,hlen,_,_⟩:=C.fns f x hF;refine bN (lB (xO FM hr (S.glb _ hg) hm hk hb .nil BR (dD (good e C S h2).1 (dD (gJ N1 (S.vis _ v1) o1.1.1 o1.1.2) gH) (aA hn)) ho.1.1 (aA hn) rfl) rfl) fun D σ H=>?_
 rintro ⟨ρ,Hs,o,F,h,kk⟩;rw [qQ] at h;obtain ⟨d0,hd0,hb1⟩:=aj h;obtain ⟨l,hl1,hb2⟩:=aj hb1;obtain ⟨m,hm1,hb3⟩:=aj hb2;obtain ⟨r,hr1,hb4⟩:=aj hb3;obtain ⟨⟨l',m'⟩,hr2,hb5⟩:=aj hb4;clear h hb1 hb2 hb3 hb4;cases hb5;cases RT hr2;obtain ⟨Hs1,F1,m1,vs⟩:=F.pubU (aC e);refine ⟨ρ,Hs1,d0,F1.sub,vs,hd0,fun v0 H1 Hs2 g2 r2=>?_⟩;have F2:=F1.grown g2;have hρ:=dI hl1;have hρ2:=dI hm1;obtain ⟨b,eb,b0,b1,ow⟩:=F2.own i hi l hρ;obtain ⟨c,ec,c0,c1,oc⟩:=F2.own i hi m hρ2;rw [eb] at ec;cases ec;rw [hρ] at hρ2;cases hρ2;rw [if_pos rfl] at hr1;refine ⟨.ref b,eb,?_⟩;refine ⟨d0,l,l,l',m',v0,b,b,Hs2,.inr ⟨rfl,rfl,rfl,hr1⟩,hlen _ _ hr1,F2.sub,r2,b1,b1,ow,ow,fun H' Hs' w n1 n2 w1 w2=>?_⟩;obtain ⟨F3,s3⟩:=F2.lend2 hi hi hρ hρ eb eb w n1 n2 w1 w2;exact kk _ rfl _ _ _ F3 ((m1.trans (g2.same F1.sub)).trans s3)
theorem aaW (hu:X.A.units+100 < cLine):Pn X (fun o i v H Q=>WR o i v H Q\/WT X o i v H Q):=fun pins s σ H o i v ov iv u Q I ro ri rv h =>
 h.elim (fun h=>set_list pins s σ H o i v ov iv u Q I ro ri rv h) (fun h=>set_dict hu pins s σ H o i v ov iv u Q I ro ri rv h)
def Yw {mv:M} (C:Cok T cl X) (S:ScRel sc X) (hv:fB sc x=true) (ho:aJ x=true) (hN:X.N[i]?=some x) (h2:okE T X.N mk sc kx=true) (h3:okE T X.N mv sc v=true) (h4:fH v=true) (hp:lH kx=true)
  (hi:i∈O):PS X (.Assign [.Subscript (.Name x p) kx p2] v pos) (tMS X E Es O (some O) inv (bA cl (.lset i mk mv))):=by
 unfold aJ at ho;simp only [Bool.and_eq_true,Bool.not_eq_true'] at ho;have hst:swappedStores [.Subscript (.Name x p) kx p2] v X.env=pure none:=by cases v <;> rfl
 refine bN (jA (good mv C S h3).1 (aaZ (gJ hN (S.vis _ hv) ho.1.1 ho.1.2) (good mk C S h2).1 (aaW C.un) (by intro _;cases kx <;> first | rfl | cases hp)) (jP (t:=some (.Subscript (.Name x p) kx p2)) (l:=pos.line) (env:=X.env) h4) hst rfl) fun D σ H=>?_
 rintro ⟨ρ,Hs,o,F,h,k⟩;rw [qw] at h;obtain ⟨dv,hdv,hb⟩:=aj h;obtain ⟨l,hl1,hb0⟩:=aj hb;obtain ⟨dk,hdk,hb1⟩:=aj hb0;obtain ⟨l',hl',hb2⟩:=aj hb1;clear h hb hb0 hb1;cases hb2;have hρ:=dI hl1;obtain ⟨a,ea,-,-,-⟩:=F.own i hi l hρ;cases l <;> try (cases hl';done)
 rotate_left
 .rename_i ks vs0;obtain ⟨hlf,hl1'⟩:=bK hl';clear hl';rw [Bool.and_eq_true] at hlf;simp only [putD] at hl1';obtain ⟨⟨hk,hlt,hlen⟩,hl2⟩:=bK hl1';clear hl1';cases hl2;obtain ⟨Hs1,F1,m1,vs1,w1⟩:=F.pubW (aC mv);refine ⟨ρ,Hs1,dv,F1.sub,vs1,hdv,fun y H1 Hs2 g2 r2=>?_⟩;obtain ⟨Hs3,g3,u1,_⟩:=rB F.sub w1 g2;have F2:=F.grown g3;have ry:=oW u1 hlf.1 r2;obtain ⟨Hs5,F5,m5,vs5,w5⟩:=F2.pubW (aC mk);refine ⟨.ref a,ea,ρ,Hs5,dk,F5.sub,vs5,hdk,fun z H2 Hs6 g6 r6=>?_⟩;obtain ⟨Hs7,g7,u7,_⟩:=rB F2.sub w5 g6;have F3:=F2.grown g7;have rz:=oW u7 hlf.2 r6;obtain ⟨a',ea',a0,a1,ow⟩:=F3.own i hi _ hρ;rw [ea] at ea';cases ea';obtain ⟨xs,ys,ep,hxs,e1,rk,rv⟩:=ow;refine .inr ⟨a,dk,ks,xs,ys,rfl,rz.mono F3.sub,hk,⟨⟨ep,hxs⟩,e1,rk.mono F3.sub⟩,by rw [e1,List.length_map] at hlt;exact hlt,fun b u ep' eb ru=>?_⟩;subst eb;obtain ⟨q1,q3,q4⟩:=R8 (X:=X) (H:=Hs7) (a:=a) (u:=u) e1 rk rv rz (ry.mono (g7.same F2.sub)) hlen;have F4:=F3.mut (o:=.ext (DAt (gOf X) a (lD xs ys dk b u y).1 (lD xs ys dk b u y).2 ep')) (d':=.dct (iY ks vs0 dk dv).1 (iY ks vs0 dk dv).2) hi hρ ea ⟨_,_,_,aB,q1,q3,q4⟩;exact k _ rfl _ _ _ F4 ((g3.trans g7).same F.sub)
 rename_i ds;cases dk <;> try (cases hl';done)
 rename_i kk;replace hl':(match ixN ds.length kk with | some j=>(if lfD dv=true then R.ok (Mi.D.lst (ds.set j dv)) else .stuck) | none=>.stuck)=.ok l':=hl';split at hl' <;> try (cases hl';done)
 rename_i j ej;obtain ⟨hlf,hl2⟩:=bK hl';cases hl2;obtain ⟨Hs1,F1,m1,vs1,w1⟩:=F.pubW (aC mv);refine ⟨ρ,Hs1,dv,F1.sub,vs1,hdv,fun y H1 Hs2 g2 r2=>?_⟩;obtain ⟨Hs3,g3,u1,_⟩:=rB F.sub w1 g2;have F2:=F.grown g3;have ry:=oW u1 hlf r2;obtain ⟨Hs5,F5,m5,vs5,w5⟩:=F2.pubW (aC mk);refine ⟨.ref a,ea,ρ,Hs5,_,F5.sub,vs5,hdk,fun z H2 Hs6 g6 r6=>?_⟩;obtain ⟨Hs7,g7,u7,_⟩:=rB F2.sub w5 g6;have F3:=F2.grown g7;obtain ⟨a',ea',a0,a1,ow⟩:=F3.own i hi _ hρ;rw [ea] at ea';cases ea';obtain ⟨xs,hxs,rxs⟩:=ow;cases aW.mp r6;refine .inl ⟨a,xs,kk,j,rfl,rfl,hxs,by rw [<- rxs.length];exact ej,?_⟩;have F4:=F3.mut (o:=.lst (xs.set j y)) (d':=.lst (ds.set j dv)) hi hρ ea ⟨_,aB,Rps.set (ry.mono (g7.same F2.sub)) j rxs⟩;exact k _ rfl _ _ _ F4 ((g3.trans g7).same F.sub)
def Yb {t:Nat}{lp:Pos} (C:Cok T cl X) (S:ScRel sc X) (hq:∀ q∈E.pins,q.1≠t) (h1:tgB X.N sc (.one t) tg=true) (hv:fB sc x=true) (ho:aJ x=true) (hN:X.N[i]?=some x) (h2:okE T X.N mk sc kx=true) (hn:noStar kx=true) (hl:(ap.endLine == cp.line)=true)
  (hi:i ∈ without O (aC mk)) (hti:t ≠ i):PS X (.Assign [tg] (.Call (.Attribute (.Name x p) "pop" ap) [kx,.List [] lp] [] cp) pos) (tMS X E Es O (some (without (without O (aC mk)) [t])) inv (bA cl (.dpop t i mk))):=by
 unfold aJ at ho;simp only [Bool.and_eq_true,Bool.not_eq_true'] at ho;refine bN (jA (Vo C.un (gJ hN (S.vis _ hv) ho.1.1 ho.1.2) (good mk C S h2).1 (Bj gH) ⟨rfl,by rw [aA hn];rfl,hl,by rw [aA hn];rfl⟩) (ji C S h1) rfl (gj rfl h1) (assign1 h1)) fun DD σ H=>?_
 rintro ⟨ρ,Hs,o,F,h,k⟩;rw [qv] at h;obtain ⟨l,hl1,hb⟩:=aj h;obtain ⟨dk,hdk,hb0⟩:=aj hb;obtain ⟨r,hr,hb1⟩:=aj hb0;clear h hb hb0;cases hb1;obtain ⟨Hs1,F1,m1,vs⟩:=F.pubU (aC mk);have hρ:=dI hl1;obtain ⟨a,ea,a0,a1,ow⟩:=F1.own i hi l hρ;cases l <;> try (cases hr;done)
 rename_i ks vs0;simp only [Gs] at hr;obtain ⟨⟨hk,hlen⟩,hr2⟩:=bK hr;clear hr;obtain ⟨xs,ys,ep,hxs,e1,rk,rv⟩:=ow;refine ⟨.ref a,ea,a,ks,xs,ys,rfl,⟨⟨ep,hxs⟩,e1,rk.mono F1.sub⟩,ρ,Hs1,dk,F1.sub,vs,hdk,fun y H1 Hs2 g2 r2=>⟨yf _,fun p1 hp1=>?_⟩⟩;have F2:=F1.grown g2;have g3:Grow H1 Hs2 (upd H1 p1 (.lst [])) (upd Hs2 p1 (.lst [])):=Grow.new F2.sub hp1;have gA:=g2.trans g3;have F3:=F1.grown gA;have mA:=gA.same F1.sub;refine ⟨dk,ks,xs,ys,(r2.mono (g3.same F2.sub)).mono F3.sub,hk,⟨⟨ep,gA.keep a _ hxs⟩,e1,rk.mono (mA.trans F3.sub)⟩,fun j v hnd hj hjv ep'=>?_,fun hno=>?_⟩
 .rw [<- e1] at hj hnd;have ej:ks.findIdx? (fun c=>decide (c=dk))=some j:=Zv hnd hj;rw [ej] at hr2;obtain ⟨z,ez,rz⟩:∃ z,vs0[j]?=some z/\Rp (gOf X) (upd Hs2 p1 (.lst [])) z v:=by
   have hjl:j < vs0.length:=by
    have:=(vV.mp hj).1;omega
   obtain ⟨v',ev',rz⟩:=(rv.mono mA).getD (List.getElem?_eq_getElem hjl);rw [hjv] at ev';cases ev';exact ⟨_,List.getElem?_eq_getElem hjl,rz⟩
  simp only [ez] at hr2;cases hr2;have F4:=F3.mut (o:=.ext (DAt (gOf X) a (xs.eraseIdx j) (ys.eraseIdx j) ep')) (d':=.dct (ks.eraseIdx j) (vs0.eraseIdx j)) hi hρ ea ⟨_,_,_,aB,by rw [e1,jd],by rw [<- jd];exact (rk.mono mA).erase j,(rv.mono mA).erase j⟩;exact k _ rfl _ _ _ (F4.setS hq rz) (m1.trans mA)
 .have ej:ks.findIdx? (fun c=>decide (c=dk))=none:=by
   rw [List.findIdx?_eq_none_iff];intro c hc;simp only [decide_eq_false_iff_not];intro z;exact hno (by rw [<- e1,<- z];exact hc)
  rw [ej] at hr2;cases hr2;have F4:=F3.setS (i:=t) (d:=.lst []) (v:=.ref p1) hq (bI.mpr ⟨p1,[],rfl,SqL.of aB,Rps.nil⟩);have e4:ρ.set i (some (.dct ks vs0))=ρ:=set_same hρ;simp only [e4] at k;exact k _ rfl _ _ _ F4 (m1.trans mA)
def U9 {b:List MS}{body:vi}{O2:zz}{y:Ow} (C:Cok T cl X) (S:ScRel sc X) (hp:PassesOwn (model X.prog X.w) X.A X.env X.xe) (h1:okE T X.N c sc c'=true) (hsub:∀ i∈O2,i∈O) (hy:∀ O3,y=some O3->∀ i∈O2,i∈O3)
  (hb:PSs X body (tMS X E Es O2 y O2 (bZ cl b))):PS X (.While c' body [] pos) (tMS X E Es O (some O2) inv (bA cl (.whl c b))):=by
 refine bN (T4 hp (good c C S h1).2 hb) fun D σ H=>?_
 rintro ⟨ρ,Hs,o,F,h,kk⟩;rw [Tf] at h;obtain ⟨Hs3,F3,m3⟩:=F.fewer hsub;refine ⟨fun m σ H=>∃ ρ1 Hs',FR (gOf X) E Es O2 ρ1 σ H Hs'/\Same Hs3 Hs'/\tW (fun ρ=>do let x <- evE cl c ρ;bO x) (fun ρ=>bZ cl b ρ) ρ m ρ1=.ok o,⟨wfu,ρ,Hs3,F3,Same.refl _,h⟩,?_⟩;rintro m σ1 H1 ⟨ρ1,Hs',F',s',hgo⟩;cases m with
 | zero=>cases hgo
 | succ m =>
  unfold tW at hgo;obtain ⟨t,ht,hgo2⟩:=aj hgo;clear hgo;obtain ⟨d,hd,ht2⟩:=aj ht;cases dX ht2;obtain ⟨Hs1,F1,m1,vs,w1⟩:=F'.pubW (aC c);refine ⟨ρ1,Hs1,t,F1.sub,vs,hd,fun H2 Hs2 g2=>?_⟩;obtain ⟨Hs4,g4,_,_⟩:=rB F'.sub w1 g2;have F4:=F'.grown g4;have s4:Same Hs3 Hs4:=s'.trans (g4.same F'.sub);cases t with
  | false =>
   rw [if_neg (by decide)];rw [if_neg (by decide)] at hgo2;cases hgo2;exact kk O2 rfl _ _ _ F4 (m3.trans s4)
  | true =>
   rw [if_pos rfl];rw [if_pos rfl] at hgo2;obtain ⟨o1,ho1,hgo3⟩:=aj hgo2;clear hgo2;refine ⟨fun σ' H'=>∃ ρ2 Hs',FR (gOf X) E Es O2 ρ2 σ' H' Hs'/\Same Hs3 Hs'/\tW (fun ρ=>do let x <- evE cl c ρ;bO x) (fun ρ=>bZ cl b ρ) ρ m ρ2=.ok o,fun σ' H' q=>⟨m,jM _,q⟩,ρ1,Hs4,o1,F4,ho1,?_⟩;cases o1 with
   | nx ρ3 =>
    intro O3 e3 σ' H' Hs7 F7 s7;obtain ⟨Hs8,F8,m8⟩:=F7.fewer (hy O3 e3);exact ⟨aN ρ ρ3,Hs8,F8.less (vN _ _) fun j d' q=>vm q,(s4.trans s7).trans m8,hgo3⟩
   | rt d3 =>
    cases hgo3;exact kk
   | ro d3 =>
    cases hgo3;exact kk
end
end Mi
set_option maxHeartbeats 1000000
namespace Mi
open PySem L2
open PyProof.Rows hiding St
theorem gw:∀ (U:zz) (ρ:En),(fM ρ U).length=ρ.length
 | [],ρ=>rfl
 | i::U,ρ=>by rw [fM,gw U,List.length_set]
theorem o8:∀ {U:zz}{ρ:En}{j:Nat}{d:D},(fM ρ U)[j]?=some (some d)->j ∉ U/\ρ[j]?=some (some d)
 | [],ρ,j,d,h=>⟨by simp,h⟩
 | i::U,ρ,j,d,h=>by
  obtain ⟨h1,h2⟩:=o8 (U:=U) (ρ:=ρ.set i none) h;by_cases e:j=i
  .subst e;have hl:j < ρ.length:=by
    have:=(vV.mp h2).1;simpa using this
   rw [List.getElem?_set_self hl] at h2;cases h2
  .rw [List.getElem?_set_ne (Ne.symm e)] at h2;exact ⟨by simp [e,h1],h2⟩
theorem yW:∀ {U:zz}{ρ:En}{j:Nat}{d:D},j ∉ U->ρ[j]?=some (some d)->(fM ρ U)[j]?=some (some d)
 | [],ρ,j,d,_,h=>h
 | i::U,ρ,j,d,hu,h=>by
  have hu':j≠i/\j ∉ U:=by simpa using hu
  show (fM (ρ.set i none) U)[j]?=some (some d)
  exact yW hu'.2 (by rw [List.getElem?_set_ne (Ne.symm hu'.1)];exact h)
theorem CP {α:Type}{j:Nat}:∀ (l:List (Nat × α)) (xs:List (Option α)),j ∉ l.map (·.1)->(putL xs l)[j]?=xs[j]?
 | [],xs,_=>rfl
 | (i,a)::l,xs,h=>by
  have h':j≠i/\j ∉ l.map (·.1):=by
   rw [List.map_cons,List.mem_cons,not_or] at h;exact h
  rw [putL,CP l _ h'.2,List.getElem?_set_ne (Ne.symm h'.1)]
def OLs (g:G) (H Hs:Hp):List D->List Addr->Prop
 | [],bs=>bs=[]
 | v::vs,bs=>∃ b bs' ds zs,bs=b::bs'/\v=.lst ds/\H b=some (.lst zs)/\Rps g Hs ds zs/\OLs g H Hs vs bs'
variable {ks vs:List D}{σ:St}{b:Addr}
section
variable {g:G}{E:Ent}{Es:Hp}{H Hs H' Hs':Hp}{a:Addr}
theorem OLs.mono:∀ {vs:List D}{bs:List Addr},(∀ b∈bs,∀ o,H b=some o->H' b=some o)->Same Hs Hs'->OLs g H Hs vs bs->OLs g H' Hs' vs bs
 | [],bs,_,_,h=>h
 | v::vs,bs,k,m,h=>by
  obtain ⟨b,bs',ds,zs,rfl,e,h1,r,h2⟩:=h;exact ⟨b,bs',ds,zs,rfl,e,k b vE _ h1,r.mono m,OLs.mono (fun c hc=>k c (vz _ hc)) m h2⟩
theorem OLs.here:∀ {vs:List D}{bs:List Addr},OLs g H Hs vs bs->∀ b∈bs,∃ o,H b=some o
 | [],bs,h,b,hb=>by cases h;cases hb
 | v::vs,bs,h,b,hb=>by
  obtain ⟨b0,bs',ds,zs,rfl,e,h1,r,h2⟩:=h;rcases z9.mp hb with z | z
  .exact ⟨_,z ▸ h1⟩
  .exact OLs.here h2 b z
theorem OLs.snoc {p:Addr}:∀ {vs:List D}{bs:List Addr},OLs g H Hs vs bs->H p=some (.lst [])->OLs g H Hs (vs++[.lst []]) (bs++[p])
 | [],bs,h,hp=>by cases h;exact ⟨p,[],[],[],rfl,rfl,hp,Rps.nil,rfl⟩
 | v::vs,bs,h,hp=>by
  obtain ⟨b,bs',ds,zs,rfl,e,h1,r,h2⟩:=h;exact ⟨b,bs'++[p],ds,zs,rfl,e,h1,r,OLs.snoc h2 hp⟩
theorem OLs.pub:∀ {vs:List D}{bs:List Addr},(∀ b∈bs,Hs' b=H b)->Same Hs Hs'->OLs g H Hs vs bs->Rps g Hs' vs (bs.map V.ref)
 | [],bs,_,_,h=>by cases h;exact Rps.nil
 | v::vs,bs,k,m,h=>by
  obtain ⟨b,bs',ds,zs,rfl,rfl,h1,r,h2⟩:=h;rw [List.map_cons];exact Rps.cons (bI.mpr ⟨b,zs,rfl,SqL.of (by rw [k b List.mem_cons_self];exact h1),r.mono m⟩) (OLs.pub (fun c hc=>k c (vz _ hc)) m h2)
theorem vD {k:D}:∀ {xs:List (D × Addr × Value)}{vs:List D}{bs:List Addr},OLs g H Hs vs bs->xs.length=bs.length ->
  (∃ ds zs b,cY (xs.map (·.1)) vs k=some (.lst ds)/\atV xs (bs.map V.ref) k=some (.ref b)/\b∈bs/\H b=some (.lst zs)/\Rps g Hs ds zs/\k∈xs.map (·.1))\/(cY (xs.map (·.1)) vs k=none/\atV xs (bs.map V.ref) k=none/\k ∉ xs.map (·.1))
 | [],vs,bs,h,hl=>.inr ⟨by cases vs <;> rfl,rfl,by simp⟩
 | x::xs,[],bs,h,hl=>by cases h;simp at hl
 | x::xs,v::vs,bs,h,hl=>by
  obtain ⟨b,bs',ds,zs,rfl,rfl,h1,r,h2⟩:=h;by_cases e:x.1=k
  .exact .inl ⟨ds,zs,b,if_pos e,if_pos e,vE,h1,r,by rw [List.map_cons,e];exact vE⟩
  .have e1:cY ((x::xs).map (·.1)) (.lst ds::vs) k=cY (xs.map (·.1)) vs k:=if_neg e;have e2:atV (x::xs) ((b::bs').map V.ref) k=atV xs (bs'.map V.ref) k:=if_neg e;rw [e1,e2];rcases vD (k:=k) h2 (by simpa using hl) with ⟨ds',zs',b',q1,q2,q3,q4,q5,q6⟩ | ⟨q1,q2,q3⟩
   .exact .inl ⟨ds',zs',b',q1,q2,vz _ q3,q4,q5,vz _ q6⟩
   .refine .inr ⟨q1,q2,fun z=>?_⟩;rcases z9.mp z with z | z
    .exact e z.symm
    .exact q3 z
theorem Hv {k nv:D}:∀ {ks vs:List D},ks.length=vs.length->k ∉ ks->((ks.zip vs).map fun p=>if p.1=k then nv else p.2)=vs
 | [],vs,hl,_=>by cases vs with | nil=>rfl | cons _ _=>simp at hl
 | c::ks,[],hl,_=>by simp at hl
 | c::ks,v::vs,hl,hk=>by
  have hk':k≠c/\k ∉ ks:=by simpa using hk
  rw [List.zip_cons_cons,List.map_cons,Hv (by simpa using hl) hk'.2];show (if c=k then nv else v)::vs=_
  rw [if_neg (Ne.symm hk'.1)]
theorem OLs.len:∀ {vs:List D}{bs:List Addr},OLs g H Hs vs bs->vs.length=bs.length
 | [],bs,h=>by cases h;rfl
 | v::vs,bs,h=>by
  obtain ⟨b,bs',ds,zs,rfl,_,_,_,h2⟩:=h;simp [OLs.len h2]
theorem Qp {k v:D}{z:V}{b:Addr}{ds:List D}{zs:List V} (rz:Rp g Hs v z) (hb:H b=some (.lst zs)) (rb:Rps g Hs ds zs):∀ {xs:List (D × Addr × Value)}{vs:List D}{bs:List Addr},OLs g H Hs vs bs->xs.length=bs.length->(xs.map (·.1)).Nodup->bs.Nodup ->
  cY (xs.map (·.1)) vs k=some (.lst ds)->atV xs (bs.map V.ref) k=some (.ref b)->b∈bs->OLs g (upd H b (.lst (zs++[z]))) Hs (((xs.map (·.1)).zip vs).map fun p=>if p.1=k then .lst (ds++[v]) else p.2) bs
 | [],vs,bs,h,hl,n1,n2,h1,h2,h3=>by cases vs <;> cases h1
 | x::xs,[],bs,h,hl,n1,n2,h1,h2,h3=>by cases h1
 | x::xs,v0::vs,bs,h,hl,n1,n2,h1,h2,h3=>by
  obtain ⟨b0,bs',ds0,zs0,rfl,rfl,q1,r,q2⟩:=h;rw [List.map_cons,List.nodup_cons] at n1;rw [List.nodup_cons] at n2;have hlen:(xs.map (·.1)).length=vs.length:=by rw [List.length_map,q2.len];simpa using hl
  rw [List.map_cons,List.zip_cons_cons,List.map_cons];by_cases e:x.1=k
  .have e1:cY ((x::xs).map (·.1)) (.lst ds0::vs) k=some (.lst ds0):=if_pos e;have e2:atV (x::xs) ((b0::bs').map V.ref) k=some (.ref b0):=if_pos e;rw [e1] at h1;cases h1;rw [e2] at h2;cases h2;rw [hb] at q1;cases q1;rw [Hv hlen (by rw [<- e];exact n1.1)];refine ⟨b,bs',ds++[v],zs++[z],rfl,by show (if x.1=k then _ else _)=_;rw [if_pos e],aB,rb.append (Rps.one rz),q2.mono (fun c hc o q=>?_) (Same.refl _)⟩;rw [ao (fun e:c=b=>n2.1 (by rw [<- e];exact hc))];exact q
  .have e1:cY ((x::xs).map (·.1)) (.lst ds0::vs) k=cY (xs.map (·.1)) vs k:=if_neg e;have e2:atV (x::xs) ((b0::bs').map V.ref) k=atV xs (bs'.map V.ref) k:=if_neg e;rw [e1] at h1;rw [e2] at h2;have h3':b∈bs':=by
    rcases vD (k:=k) q2 (xs:=xs) (by simpa using hl) with ⟨_,_,b',_,j2,j3,_⟩ | ⟨_,j2,_⟩
    .rw [h2] at j2;cases j2;exact j3
    .rw [h2] at j2;cases j2
   have hne:b0≠b:=fun z=>n2.1 (by rw [z];exact h3')
   exact ⟨b0,bs',ds0,zs0,rfl,by show (if x.1=k then _ else _)=_;rw [if_neg e],by rw [ao hne];exact q1,r,Qp rz hb rb q2 (by simpa using hl) n1.2 n2.2 h1 h2 h3'⟩
structure DX (g:G) (E:Ent) (H Hs:Hp) (a:Addr) (ks vs:List D) (xs:List (D × Addr × Value)) (bs:List Addr) (ep:Nat):Prop where
 at_:H a=some (.ext (DAt g a xs (bs.map V.ref) ep))
 keys:ks=xs.map (·.1)
 rep:Rps g Hs ks (xs.map fun x=>V.ref x.2.1)
 ol:OLs g H Hs vs bs
 len:xs.length=bs.length
 nk:ks.Nodup
 nb:bs.Nodup
 na:a ∉ bs
 eb:∀ b∈bs,E.hp b=none/\Hs b=none
 ea:E.hp a=none
 sa:Hs a=none
def DO (g:G) (E:Ent) (H Hs:Hp) (a:Addr) (ks vs:List D):Prop:=∃ xs bs ep,DX g E H Hs a ks vs xs bs ep
theorem DX.grown {xs:List (D × Addr × Value)}{bs:List Addr}{ep:Nat} (d:DX g E H Hs a ks vs xs bs ep) (hs:Same Hs H) (w:Grow H Hs H' Hs'):DX g E H' Hs' a ks vs xs bs ep:=by
 have m:=w.same hs;refine ⟨w.keep _ _ d.at_,d.keys,d.rep.mono m,d.ol.mono (fun b _ o q=>w.keep b o q) m,d.len,d.nk,d.nb,d.na,fun b hb=>⟨(d.eb b hb).1,?_⟩,d.ea,by rw [w.old _ _ d.at_];exact d.sa⟩;obtain ⟨o,ho⟩:=d.ol.here b hb;rw [w.old b o ho];exact (d.eb b hb).2
theorem DO.grown (d:DO g E H Hs a ks vs) (hs:Same Hs H) (w:Grow H Hs H' Hs'):DO g E H' Hs' a ks vs:=let ⟨xs,bs,ep,q⟩:=d;⟨xs,bs,ep,q.grown hs w⟩
theorem FR.poke {ρ:En}{o:HO} (F:FR g E Es [] ρ σ H Hs) (h1:E.hp b=none) (h2:Hs b=none):FR g E Es [] ρ σ (upd H b o) Hs:=by
 refine ⟨⟨fun c u q=>?_,F.grow.old,fun c u q=>?_⟩,F.len,F.val,(fun j hj=>by cases hj),(fun j hj=>by cases hj),F.pin⟩
 .rw [ao (ak q h1)];exact F.grow.keep c u q
 .rw [ao (ak q h2)];exact F.grow.sub c u q
end
def La {g:G}{J:It}{Hs0:Hp}{ds:List D}{gt:TG}{tb:TS}{D:Ends}{H:Hp} (src:Src g J Hs0 ds) (Pv:Nat->St->Hp->Prop) (h0:Pv 0 σ H) (hsame:∀ i σ H,Pv i σ H->Same Hs0 H)
  (step:∀ i d x σ H H',ds[i]?=some d->Pv i σ H->J.yld i H x H'->gt x σ H' fun σ2 H2=>tb { D with nx:=Pv (i+1),ct:=Pv (i+1),bk:=D.nx } σ2 H2) (hd:∀ σ H,Pv ds.length σ H->D.nx σ H) :
  ∃ W:Nat->Nat->St->Hp->Prop,(∃ m,W 0 m σ H)/\∀ i m σ H,W i m σ H ->
   (J.stop i H/\D.nx σ H)\/(J.go i H/\∃ N:St->Hp->Prop,(∀ σ' H',N σ' H'->∃ m',m' < m/\W (i+1) m' σ' H')/\∀ x H',J.yld i H x H'->gt x σ H' fun σ2 H2=>tb { D with nx:=N,ct:=N,bk:=D.nx } σ2 H2):=by
 refine ⟨fun i m σ H=>m=ds.length - i/\i<=ds.length/\Pv i σ H,⟨ds.length,by simp,yf _,h0⟩,?_⟩;rintro i m σ H ⟨rfl,hi,p⟩;by_cases hlt:i < ds.length
 .refine .inr ⟨src.go i H (hsame i σ H p) hlt,Pv (i+1),fun σ' H' p'=>⟨ds.length - (i+1),by omega,rfl,hlt,p'⟩,fun x H' y=>?_⟩;exact step i ds[i] x σ H H' (by simp [hlt]) p y
 .have e:i=ds.length:=by omega
  subst e;exact .inl ⟨src.stop H (hsame _ σ H p),hd σ H p⟩
def tG (X:Cx) (E:Ent) (Es:Hp) (i:Nat) (U:zz) (run:En->D->R D):TS:=fun D σ H=>∃ ρ Hs a ks vs d',FR (gOf X) E Es [] ρ σ H Hs/\σ[i]?=some (some (.ref a))/\DO (gOf X) E H Hs a ks vs/\run ρ (.dct ks vs)=.ok d' /\
 ∀ σ' H' Hs' ks' vs',d'=.dct ks' vs'->FR (gOf X) E Es [] (fM ρ U) σ' H' Hs'->Same Hs Hs'->σ'[i]?=some (some (.ref a))->DO (gOf X) E H' Hs' a ks' vs'->D.nx σ' H'
variable {st:Stmt}
section
variable {T:Tx}{cl:Nat->List D->R D}{X:Cx}{sc:Scope}{E:Ent}{Es:Hp}{pos:Pos}{i:Nat}
def aa1 {k v:M}{x:Str}{k' v':Expr}{p lp ap2 cp2 ap cp:Pos} (C:Cok T cl X) (S:ScRel sc X) (hv:fB sc x=true) (ho:aJ x=true) (hN:X.N[i]?=some x) (h1:okE T X.N k sc k'=true) (h2:okE T X.N v sc v'=true) (n1:noStar k'=true) (n2:noStar v'=true) (l1:(ap.endLine == cp.line)=true) (l2:(ap2.endLine == cp2.line)=true) :
  PS X (.Expr (.Call (.Attribute (.Call (.Attribute (.Name x p) "setdefault" ap2) [k',.List [] lp] [] cp2) "append" ap) [v'] [] cp) pos) (tG X E Es i [] (lF cl (.sda k v))):=by
 unfold aJ at ho;simp only [Bool.and_eq_true,Bool.not_eq_true'] at ho;refine bN (lB (GC PySem.F.plainAttrs_list PySem.F.slot_list_append PySem.F.type_list_append uX
  (X6 C.un (gJ hN (S.vis _ hv) ho.1.1 ho.1.2) (good k C S h1).1 (Bj gH) ⟨rfl,by rw [aA n1];rfl,l2,by rw [aA n1];rfl⟩)
  (dD (good v C S h2).1 gH (aA n2)) rfl (by rw [aA n2];rfl) l1 (aA n2) rfl) rfl) fun DD σ H=>?_
 rintro ⟨ρ,Hs,a,ks,vs,d',F,ei,⟨xs,bs,ep,dx⟩,h,kk⟩;rw [wl] at h;obtain ⟨dk,hdk,hb⟩:=aj h;obtain ⟨dv,hdv,hb1⟩:=aj hb;clear h hb;simp only [zm] at hb1;obtain ⟨⟨hk,hlt,hlen⟩,hb2⟩:=bK hb1;clear hb1;have hll:=jy;have fin:∀ (H1 Hs1:Hp) (ks1 vs1:List D) (xs1:List (D × Addr × Value)) (bs1:List Addr) (ep1:Nat) (b:Addr) (l:List D) (zs:List V),FR (gOf X) E Es [] ρ σ H1 Hs1->Same Hs Hs1->DX (gOf X) E H1 Hs1 a ks1 vs1 xs1 bs1 ep1 ->
   cY ks1 vs1 dk=some (.lst l)->atV xs1 (bs1.map V.ref) dk=some (.ref b)->b∈bs1->H1 b=some (.lst zs)->Rps (gOf X) Hs1 l zs->l.length < lim->d'=.dct ks1 ((ks1.zip vs1).map fun p=>if p.1=dk then .lst (l++[dv]) else p.2) ->
   (tyV X.K "list" (.ref b) H1 /\ Oj (tM X (aC v) (evE cl v)) Ox σ H1 fun ys H2=>Mx (.ref b) ys H2 fun _ H3=>DD.nx σ H3):=by
  intro H1 Hs1 ks1 vs1 xs1 bs1 ep1 b l zs F1 s1 dx1 g1 g2 g3 g4 g5 g6 ed;refine ⟨.inl ⟨rfl,zs,SqL.of g4⟩,ρ,Hs1,dv,F1.sub,F1.vs (fun _ _ z=>by cases z),hdv,fun z H2 Hs2 w2 r2=>?_⟩;have F2:=F1.grown w2;have dx2:=dx1.grown F1.sub w2;have hz:=g5.length;refine ⟨b,zs,z,rfl,rfl,w2.keep _ _ g4,by omega,?_⟩;have eb:=dx2.eb b g3;have nab:a≠b:=fun z=>dx2.na (z ▸ g3)
  refine kk σ _ Hs2 _ _ ed (F2.poke eb.1 eb.2) (s1.trans (w2.same F1.sub)) ei ⟨xs1,bs1,ep1,by rw [ao nab];exact dx2.at_,dx2.keys,dx2.rep,?_,dx2.len,dx2.nk,dx2.nb,dx2.na,dx2.eb,dx2.ea,dx2.sa⟩;have hk1:=dx2.keys;subst hk1;exact Qp r2 (w2.keep _ _ g4) (g5.mono (w2.same F1.sub)) dx2.ol dx2.len dx2.nk dx2.nb g1 g2 g3
 refine ⟨.ref a,ei,a,ks,xs,_,rfl,⟨⟨ep,dx.at_⟩,dx.keys,dx.rep.mono F.sub⟩,ρ,Hs,dk,F.sub,F.vs (fun _ _ z=>by cases z),hdk,fun y H1 Hs1 w1 r1=>⟨yf _,fun p hp=>?_⟩⟩;have F1:=F.grown w1;have dx1:=dx.grown F.sub w1;have w2:Grow H1 Hs1 (upd H1 p (.lst [])) Hs1:=Grow.own F1.sub hp;have F2:=F1.grown w2;have dx2:=dx1.grown F1.sub w2;have s2:Same Hs Hs1:=w1.same F.sub;refine ⟨dk,ks,xs,_,r1.mono F2.sub,hk,⟨⟨ep,dx2.at_⟩,dx2.keys,dx2.rep.mono F2.sub⟩,by rw [dx.keys,List.length_map] at hlt;exact hlt,fun v0 hv0=>?_,fun hv0 b u ep' ey ru=>?_⟩
 .rcases vD (k:=dk) dx2.ol dx2.len with ⟨l,zs,b,q1,q2,q3,q4,q5,q6⟩ | ⟨q1,q2,q3⟩
  .rw [hv0] at q2;cases q2;rw [<- dx2.keys] at q1;rw [q1] at hb2;obtain ⟨hl,hb3⟩:=bK hb2;have ed:d'=.dct ks ((ks.zip vs).map fun p=>if p.1=dk then .lst (l++[dv]) else p.2):=by
    have e:=Q5 hb3;rw [<- e];have hm:dk∈ks:=by rw [dx2.keys];exact q6
    unfold iY;rw [if_pos hm]
   exact fin _ Hs1 ks vs xs bs ep b l zs F2 s2 dx2 q1 hv0 q3 q4 q5 hl ed
  .rw [hv0] at q2;cases q2
 .rcases vD (k:=dk) dx2.ol dx2.len with ⟨l,zs,b',q1,q2,q3,q4,q5,q6⟩ | ⟨q1,q2,q3⟩
  .rw [hv0] at q2;cases q2
  .rw [<- dx2.keys] at q1 q3;rw [q1] at hb2;have ed:=Q5 hb2;have hpa:p≠a:=fun z=>by rw [z,dx1.at_] at hp;cases hp
   have hpb:p ∉ bs:=fun z=>by
    obtain ⟨o,ho⟩:=dx1.ol.here p z;rw [ho] at hp;cases hp
   have Ep:E.hp p=none:=by
    cases q:E.hp p with
    | none=>rfl
    | some u=>rw [F1.grow.keep p u q] at hp;cases hp
   have Sp:Hs1 p=none:=by
    cases q:Hs1 p with
    | none=>rfl
    | some u=>rw [F1.sub p u q] at hp;cases hp
   subst ey;have F3:=F2.poke (b:=a) (o:=.ext (DAt (gOf X) a (xs++[(dk,b,u)]) ((bs++[p]).map V.ref) ep')) dx2.ea dx2.sa;have hp3:(upd (upd H1 p (.lst [])) a (.ext (DAt (gOf X) a (xs++[(dk,b,u)]) ((bs++[p]).map V.ref) ep'))) p=some (.lst []):=by rw [ao hpa,aB]
   have ol3:OLs (gOf X) (upd (upd H1 p (.lst [])) a (.ext (DAt (gOf X) a (xs++[(dk,b,u)]) ((bs++[p]).map V.ref) ep'))) Hs1 vs bs:=dx2.ol.mono (fun c hc o q=>by
    rw [ao (fun e:c=a=>dx2.na (by rw [<- e];exact hc))];exact q) (Same.refl _)
   have dx3:DX (gOf X) E (upd (upd H1 p (.lst [])) a (.ext (DAt (gOf X) a (xs++[(dk,b,u)]) ((bs++[p]).map V.ref) ep'))) Hs1 a (ks++[dk]) (vs++[.lst []]) (xs++[(dk,b,u)]) (bs++[p]) ep':=by
    refine ⟨aB,by rw [List.map_append,dx2.keys];rfl,by rw [List.map_append];exact dx2.rep.append (Rps.one r1),ol3.snoc hp3,by simp [dx2.len],?_,?_,?_,?_,dx2.ea,dx2.sa⟩
    .rw [List.nodup_append];refine ⟨dx2.nk,by simp,fun c hc e he=>?_⟩;rw [List.mem_singleton.mp he];exact fun z=>q3 (z ▸ hc)
    .rw [List.nodup_append];refine ⟨dx2.nb,by simp,fun c hc e he=>?_⟩;rw [List.mem_singleton.mp he];exact fun z=>hpb (z ▸ hc)
    .intro z;rcases yc.mp z with z | z
     .exact dx2.na z
     .exact hpa (yv.mp z).symm
    .intro c hc;rcases yc.mp hc with z | z
     .exact dx2.eb c z
     .rw [List.mem_singleton.mp z];exact ⟨Ep,Sp⟩
   have hlv:ks.length=vs.length:=hlen;rcases vD (k:=dk) dx3.ol dx3.len with ⟨l,zs,b',j1,j2,j3,j4,j5,j6⟩ | ⟨_,_,j3⟩
   .rw [<- dx3.keys] at j1;have gk:∀ (as bs:List D),as.length=bs.length->dk ∉ as->cY (as++[dk]) (bs++[.lst []]) dk=some (.lst []):=by
     intro as;induction as with
     | nil=>intro bs hl _;cases bs with | nil=>exact if_pos rfl | cons _ _=>simp at hl
     | cons c as ih =>
      intro bs hl hn;cases bs with
      | nil=>simp at hl
      | cons e bs =>
       have hn':dk≠c/\dk ∉ as:=by simpa using hn
       rw [List.cons_append,List.cons_append];exact (if_neg (Ne.symm hn'.1)).trans (ih bs (by simpa using hl) hn'.2)
    have gv:∀ (as:List (D × Addr × Value)) (cs:List Addr),as.length=cs.length->dk ∉ as.map (·.1)->atV (as++[(dk,b,u)]) ((cs++[p]).map V.ref) dk=some (.ref p):=by
     intro as;induction as with
     | nil=>intro cs hl _;cases cs with | nil=>exact if_pos rfl | cons _ _=>simp at hl
     | cons c as ih =>
      intro cs hl hn;cases cs with
      | nil=>simp at hl
      | cons e cs =>
       have hn':dk≠c.1/\dk ∉ as.map (·.1):=by
        rw [List.map_cons,List.mem_cons,not_or] at hn;exact hn
       rw [List.cons_append,List.cons_append,List.map_cons];exact (if_neg (Ne.symm hn'.1)).trans (ih cs (by simpa using hl) hn'.2)
    have j1':=gk ks vs hlv q3;rw [j1] at j1';cases j1';have j2':=gv xs bs dx2.len (by rw [<- dx2.keys];exact q3);rw [j2] at j2';cases j2';have em:(bs.map V.ref)++[V.ref p]=(bs++[p]).map V.ref:=by rw [List.map_append];rfl
    rw [em];refine fin _ Hs1 _ _ _ _ _ p [] zs F3 s2 dx3 j1 j2 j3 j4 j5 (by decide) ?_;rw [<- ed,List.zip_append hlv,List.map_append,Hv hlv q3];show _=D.dct (ks++[dk]) (vs++[if dk=dk then _ else _])
    rw [if_pos rfl];rfl
   .exact absurd (by rw [List.map_append];exact vS _ (yv.mpr rfl)) j3
def aaE {t:Tg}{k:IK}{src:List M}{b:GS}{tg iter:Expr} (C:Cok T cl X) (S:ScRel sc X) (hp:PassesOwn (model X.prog X.w) X.A X.env X.xe) (hq:∀ q∈E.pins,q.1 ∉ aK t) (hi:i ∉ aK t)
  (h1:tgB X.N sc t tg=true) (h2:iD sc k tg iter=true) (h3:bJ T X.N src sc (jf k iter)=true)
  (hb:PS X st (tG X E Es i (tgG b) (lF cl b))):PS X (.For tg iter [st] [] pos) (tG X E Es i (aK t++tgG b) (lF cl (.forr t k src b))):=by
 refine bN (QS hp C.calm (sY C S (fun m _=>good m) h2 h3) (ji C S h1) (tO hb Dr) (rZ (pH h2))) fun DD σ H=>?_
 rintro ⟨ρ,Hs,a,ks,vs,d',F,ei,dO,h,kk⟩;rw [wm] at h;obtain ⟨ss,hss,hb1⟩:=aj h;obtain ⟨ds,hds,hrun⟩:=aj hb1;clear h hb1;refine ⟨ρ,Hs,ds,F.sub,F.vs (fun _ _ z=>by cases z),by simp only [hss,qT];exact hds,fun J H1 Hs2 g2 sr=>?_⟩;have F2:=F.grown g2;have dO2:=dO.grown F.sub g2;have mm:Same Hs Hs2:=g2.same F.sub;have F3:FR (gOf X) E Es [] (fM ρ (aK t++tgG b)) σ H1 Hs2:=F2.less (gw _ _) fun j d q=>(o8 q).2
 refine La sr (fun n σ H=>∃ Hs' ks1 vs1,FR (gOf X) E Es [] (fM ρ (aK t++tgG b)) σ H Hs'/\Same Hs2 Hs'/\σ[i]?=some (some (.ref a))/\DO (gOf X) E H Hs' a ks1 vs1 /\
  nD (fun x d=>do let ρ1 <- dj t x (fM ρ (aK t++tgG b));lF cl b ρ1 d) (ds.drop n) (.dct ks1 vs1)=.ok d') ⟨Hs2,ks,vs,F3,Same.refl _,ei,dO2,hrun⟩ (fun n σ H ⟨Hs',_,_,F',s',_⟩=>s'.trans F'.sub) ?_ ?_
 .rintro n d x σ1 H1' H2' hdi ⟨Hs',ks1,vs1,F',s',ei',dO',hgo⟩ hy';obtain ⟨hlt,ed⟩:=vV.mp hdi;rw [List.drop_eq_getElem_cons hlt,ed] at hgo;unfold nD at hgo;obtain ⟨d1,hd1,hgo2⟩:=aj hgo;clear hgo;obtain ⟨ρ2,hρ2,hrb⟩:=aj hd1;clear hd1;obtain ⟨Hs4,g4,rx⟩:=sr.yld n H1' x H2' Hs' d s' F'.sub hdi hy';have F4:=F'.grown g4;have dO4:=dO'.grown F'.sub g4;have s4:Same Hs2 Hs4:=s'.trans (g4.same F'.sub);refine oG (X:=X) g4.sub hρ2 rx fun l hl hrl eρ=>?_
  have F5:=F4.putL (by rw [hl];exact hq) hrl;rw [<- eρ] at F5;have F6:FR (gOf X) E Es [] ρ2 _ _ Hs4:=F5.congrO fun j=>by rw [bB];simp
  have hil:i ∉ (l.map fun p=>(p.1,p.2.2)).map (·.1):=by
   rw [List.map_map];show i ∉ l.map (·.1)
   rw [hl];exact hi
  refine ⟨ρ2,Hs4,a,ks1,vs1,d1,F6,by rw [CP _ _ hil];exact ei',dO4,hrb,fun σ' H' Hs5 ks' vs' e1 F7 s7 ei7 dO7=>?_⟩;subst e1;refine ⟨Hs5,ks',vs',F7.less ?_ fun j e q=>?_,s4.trans s7,ei7,dO7,hgo2⟩
  .rw [gw,gw,eρ,oU,gw]
  .have q2:=o8 q;have q3:j ∉ aK t/\j ∉ tgG b:=by simpa using q2.1
   refine yW q3.2 ?_;rw [eρ,CP _ _ (by rw [List.map_map];show j ∉ l.map (·.1);rw [hl];exact q3.1)];exact q
 .rintro σ1 H1' ⟨Hs',ks1,vs1,F',s',ei',dO',hgo⟩;rw [List.drop_length] at hgo;cases hgo;exact kk σ1 H1' Hs' ks1 vs1 rfl F' (mm.trans s') ei' dO'
theorem goodG:∀ (g:GS) {st:Stmt},(∀ q∈E.pins,q.1 ∉ tgG g)->i ∉ tgG g->Cok T cl X->ScRel sc X->PassesOwn (model X.prog X.w) X.A X.env X.xe->okG T X.N sc i g st=true->PS X st (tG X E Es i (tgG g) (lF cl g))
 | .sda k v,st,hq,hi,C,S,hp,h=>by
  obtain ⟨e,q,rfl⟩:=uf h;obtain ⟨x,p,k',lp,ap2,cp2,v',ap,cp,rfl,l1,l2,h9⟩:=aad h;simp only [Bool.and_eq_true,decide_eq_true_eq] at h9;obtain ⟨⟨⟨⟨⟨⟨h1,h2⟩,h3⟩,h4⟩,h5⟩,h6⟩,h7⟩:=h9;exact aa1 C S h1 h2 h3 h4 h5 h6 h7 l1 l2
 | .forr t k src b,st,hq,hi,C,S,hp,h=>by
  obtain ⟨tg,iter,body,els,p,rfl⟩:=K5 h;rcases body with _ | ⟨s,_ | ⟨s2,body⟩⟩
  .have h':(els.isEmpty && (tgB X.N sc t tg && iD sc k tg iter && bJ T X.N src sc (jf k iter) && false))=true:=h;simp at h'
  rotate_left
  .have h':(els.isEmpty && (tgB X.N sc t tg && iD sc k tg iter && bJ T X.N src sc (jf k iter) && false))=true:=h;simp at h'
  replace h:(els.isEmpty && (tgB X.N sc t tg && iD sc k tg iter && bJ T X.N src sc (jf k iter) && okG T X.N sc i b s))=true:=h;simp only [Bool.and_eq_true,List.isEmpty_iff] at h;obtain ⟨rfl,⟨⟨h1,h2⟩,h3⟩,h4⟩:=h;have hi':i ∉ aK t/\i ∉ tgG b:=by
   have:i ∉ aK t++tgG b:=hi;simpa using this
  exact aaE C S hp (fun q hm z=>hq q hm (vF _ z)) hi'.1 h1 h2 h3 (goodG b (fun q hm z=>hq q hm (vS _ z)) hi'.2 C S hp h4)
def aaw {g:GS}{O inv:zz} (C:Cok T cl X) (S:ScRel sc X) (hp:PassesOwn (model X.prog X.w) X.A X.env X.xe) (hq:∀ q∈E.pins,q.1 ∉ tgG g) (h:okG T X.N sc i g st=true) (hi:i∈O) (hn:i ∉ tgG g) :
  PS X st (tMS X E Es O (some [i]) inv (bA cl (.grp i g))):=by
 refine bN (goodG (E:=E) (Es:=Es) g hq hn C S hp h) fun DD σ H=>?_
 rintro ⟨ρ,Hs,o,F,h,kk⟩;rw [wk] at h;obtain ⟨d,hd,hb⟩:=aj h;obtain ⟨_,he,hb1⟩:=aj hb;obtain ⟨d',hrun,hb2⟩:=aj hb1;clear h hb hb1;cases hb2;have hρ:=dI hd;cases d <;> try (cases he;done)
 rename_i ks0 vs0;cases ks0 <;> cases vs0 <;> try (cases he;done)
 obtain ⟨Hs1,F1,m1⟩:=F.fewer (O':=[i]) fun j hj=>by rw [List.mem_singleton.mp hj];exact hi
 obtain ⟨a,ea,a0,a1,xs,ys,ep,hH,e1,rk,rv⟩:=F1.own i (yv.mpr rfl) _ hρ;have ex:xs=[]:=by
  cases xs with
  | nil=>rfl
  | cons _ _=>cases e1
 subst ex;have ey:=rv.nil_inv;subst ey;have hil:i < ρ.length:=(vV.mp hρ).1;have F2:FR (gOf X) E Es [] (fM ρ (i::tgG g)) σ H Hs1:=by
  refine ⟨F1.grow,by rw [gw];exact F1.len,fun j d q _=>?_,(fun j hj=>by cases hj),(fun j hj=>by cases hj),F1.pin⟩;obtain ⟨q1,q2⟩:=o8 q;exact F1.val j d q2 fun z=>q1 (by rw [List.mem_singleton.mp z];exact vE)
 refine ⟨_,Hs1,a,[],[],d',F2,ea,⟨[],[],ep,hH,rfl,Rps.nil,rfl,rfl,List.nodup_nil,List.nodup_nil,by simp,(fun b hb=>by cases hb),a0,a1⟩,hrun,fun σ' H' Hs' ks' vs' ed F' s' ei' dO'=>?_⟩;subst ed;obtain ⟨xs,bs,ep',dx⟩:=dO'
 classical
 have m3:Same Hs' (fun c=>if c∈bs then H' c else Hs' c):=fun c o q=>by
  show (if c∈bs then H' c else Hs' c)=_
  have hc:c ∉ bs:=fun z=>by
   rw [(dx.eb c z).2] at q;cases q
  rw [if_neg hc];exact q
 have F8:FR (gOf X) E Es [] (fM ρ (i::tgG g)) σ' H' Hs':=F'.less (by rw [gw,gw,gw]) fun j d q=>yW (fun z=>(o8 q).1 (vz _ z)) q
 have F9:FR (gOf X) E Es [i] ((fM ρ (i::tgG g)).set i (some (.dct ks' vs'))) σ' H' (fun c=>if c∈bs then H' c else Hs' c):=by
  refine ⟨⟨F8.grow.keep,fun c u q=>?_,fun c u q=>?_⟩,by rw [List.length_set];exact F8.len,fun j d q hj=>?_,fun j hj d q=>?_,fun j hj k hk hjk=>?_,F8.pin⟩
  .show (if c∈bs then H' c else Hs' c)=_
   have hc:c ∉ bs:=fun z=>by
    rw [(dx.eb c z).1] at q;cases q
   rw [if_neg hc];exact F8.grow.old c u q
  .have q':(if c∈bs then H' c else Hs' c)=some u:=q;by_cases hc:c∈bs
   .rw [if_pos hc] at q';exact q'
   .rw [if_neg hc] at q';exact F8.sub c u q'
  .have hji:j≠i:=fun z=>hj (yv.mpr z)
   rw [List.getElem?_set_ne (Ne.symm hji)] at q;obtain ⟨v,ev,rv⟩:=F8.val j d q (by simp);exact ⟨v,ev,rv.mono m3⟩
  .have hji:=yv.mp hj;subst hji;rw [List.getElem?_set_self (by rw [gw];exact hil)] at q;cases q;exact ⟨a,ei',dx.ea,(if_neg dx.na).trans dx.sa,xs,bs.map V.ref,ep',dx.at_,dx.keys,dx.rep.mono m3,dx.ol.pub (fun b hb=>if_pos hb) m3⟩
  .exact absurd ((yv.mp hj).trans (yv.mp hk).symm) hjk
 exact kk [i] rfl σ' H' _ F9 ((m1.trans s').trans m3)
end
end Mi
set_option maxHeartbeats 1000000
namespace Mi
open PySem L2
open PyProof.Rows hiding St
variable {g:G}{Hs:Hp}{x y:Ow}{o:Out}{c:M}{c':Expr}{b:List MS}
section
variable {T:Tx}{cl:Nat->List D->R D}{X:Cx}{sc:Scope}{E:Ent}{Es:Hp}{O:zz}{inv:zz}{pos:Pos}
theorem mz.meetL {D:Ends} (h:mz g E Es Hs (jD x y) inv D o):mz g E Es Hs x inv D o:=by
 cases o with
 | rt d=>exact h
 | ro d=>exact h
 | nx ρ =>
  intro O1 e σ' H' Hs' F s;subst e;cases y with
  | none=>exact h O1 rfl σ' H' Hs' F s
  | some b =>
   obtain ⟨Hs2,F2,m⟩:=F.fewer (O':=O1.filter fun i=>b.contains i) fun i hi=>(yT.mp hi).1
   exact h _ rfl σ' H' Hs2 F2 (s.trans m)
theorem mz.meetR {D:Ends} (h:mz g E Es Hs (jD x y) inv D o):mz g E Es Hs y inv D o:=by
 cases o with
 | rt d=>exact h
 | ro d=>exact h
 | nx ρ =>
  intro O1 e σ' H' Hs' F s;subst e;cases x with
  | none=>exact h O1 rfl σ' H' Hs' F s
  | some b =>
   obtain ⟨Hs2,F2,m⟩:=F.fewer (O':=b.filter fun i=>O1.contains i) fun i hi=>by
    have:=(yT.mp hi).2;simpa using this
   exact h _ rfl σ' H' Hs2 F2 (s.trans m)
def Zg (C:Cok T cl X) (S:ScRel sc X) (h1:okE T X.N c sc c'=true) :
  PT X c' (fun σ H Q=>∃ ρ Hs d b,Same Hs H/\Vs (gOf X) ρ σ Hs (aC c)/\evE cl c ρ=.ok d/\vP c d=.ok b/\∀ H' Hs',Grow H Hs H' Hs'->Q b H'):=by
 intro pins s σ H Q I;rintro ⟨ρ,Hs,d,b,hs,hv,hd,ht,k⟩;cases d <;> try (cases ht;done)
 .cases ht;exact (good c C S h1).2 pins s σ H Q I ⟨ρ,Hs,_,hs,hv,hd,k⟩
 .rename_i ds;cases c <;> try (cases ht;done)
  cases ht;obtain ⟨x,y,z,p,rfl⟩:=oZ h1;refine Vz (good _ C S h1).1 (nq rfl) pins s σ H Q I ⟨ρ,Hs,_,hs,hv,hd,fun v H1 Hs1 g1 r1=>?_⟩;obtain ⟨a,xs,rfl,hx,hr⟩:=bI.mp r1;refine ⟨_,.inl ⟨xs,aL g1.sub hx,rfl⟩,?_⟩;have e:(!xs.isEmpty)=!ds.isEmpty:=by
   have:=hr.length;cases xs <;> cases ds <;> first | rfl | (simp at this)
  rw [e];exact k _ _ g1
def abQ {a:List MS}{a' b':vi} (C:Cok T cl X) (S:ScRel sc X) (h1:okE T X.N c sc c'=true) (ha:PSs X a' (tMS X E Es O x inv (bZ cl a))) (hb:PSs X b' (tMS X E Es O y inv (bZ cl b))) :
  PS X (.If c' a' b' pos) (tMS X E Es O (jD x y) inv (bA cl (.ifs c a b))):=by
 refine bN (WM (Zg C S h1) ha hb) fun D σ H=>?_
 rintro ⟨ρ,Hs,o,F,h,k⟩;simp only [wC,wD,wE,qV,wF,wG,wH,wI] at h;obtain ⟨d,hd,hb⟩:=aj h;obtain ⟨t,ht,hb2⟩:=aj hb;clear h hb;obtain ⟨Hs1,F1,m1,vs,w1⟩:=F.pubW (aC c);refine ⟨ρ,Hs1,d,t,F1.sub,vs,hd,ht,fun H1 Hs2 g2=>?_⟩;obtain ⟨Hs3,g3,_,_⟩:=rB F.sub w1 g2;have m2:=g3.same F.sub;cases t with
 | true=>(try dsimp only);rw [if_pos rfl];rw [if_pos rfl] at hb2;exact ⟨ρ,Hs3,o,F.grown g3,hb2,k.meetL.mono m2⟩
 | false=>(try dsimp only);rw [if_neg (by decide)];rw [if_neg (by decide)] at hb2;exact ⟨ρ,Hs3,o,F.grown g3,hb2,k.meetR.mono m2⟩
def Q7 {t:Tg}{k:IK}{src:List M}{tg iter:Expr}{body:vi}{O2:zz} (C:Cok T cl X) (S:ScRel sc X) (hp:PassesOwn (model X.prog X.w) X.A X.env X.xe) (hq:∀ q∈E.pins,q.1 ∉ aK t)
  (h1:tgB X.N sc t tg=true) (h2:iD sc k tg iter=true) (h3:bJ T X.N src sc (jf k iter)=true) (hsub:∀ i∈O2,i∈without (without O (aV src)) (aK t)) (hy:∀ O3,y=some O3->∀ i∈O2,i∈O3)
  (hb:PSs X body (tMS X E Es O2 y O2 (bZ cl b))):PS X (.For tg iter body [] pos) (tMS X E Es O (some O2) inv (bA cl (.forr t k src b))):=by
 refine bN (QS hp C.calm (sY C S (fun m _=>good m) h2 h3) (ji C S h1) hb (rZ (pH h2))) fun D σ H=>?_
 rintro ⟨ρ,Hs,o,F,h,kk⟩;simp only [wC,wD,wE,qV,wF,wG,wH,wI] at h;obtain ⟨ss,hss,hb1⟩:=aj h;obtain ⟨ds,hds,hrun⟩:=aj hb1;clear h hb1;obtain ⟨Hs1,F1,m1,vs⟩:=F.pubU (aV src);refine ⟨ρ,Hs1,ds,F1.sub,vs,by simp only [hss,qT];exact hds,fun J H1 Hs2 g2 sr=>?_⟩;have F2:=F1.grown g2;obtain ⟨Hs3,F3,m3⟩:=F2.fewer (O':=O2) fun i hi=>(bB.mp (hsub i hi)).1
 have mm:Same Hs Hs3:=(m1.trans (g2.same F1.sub)).trans m3;refine La sr (fun i σ H=>∃ ρ1 Hs',FR (gOf X) E Es O2 ρ1 σ H Hs'/\Same Hs3 Hs'/\jo (fun d ρ=>do let ρ1 <- dj t d ρ;bZ cl b ρ1) ρ (ds.drop i) ρ1=.ok o) ⟨ρ,Hs3,F3,Same.refl _,hrun⟩ (fun i σ H ⟨ρ1,Hs',F',s',_⟩=>(m3.trans s').trans F'.sub) ?_ ?_
 .rintro i d x σ1 H1' H2' hdi ⟨ρ1,Hs',F',s',hgo⟩ hy';obtain ⟨hlt,ed⟩:=vV.mp hdi;rw [List.drop_eq_getElem_cons hlt,ed] at hgo;unfold jo at hgo;obtain ⟨o1,ho1,hgo2⟩:=aj hgo;clear hgo;obtain ⟨ρ2,hρ2,hrb⟩:=aj ho1;clear ho1;obtain ⟨Hs4,g4,rx⟩:=sr.yld i H1' x H2' Hs' d (m3.trans s') F'.sub hdi hy';have F4:=F'.grown g4;have s4:Same Hs3 Hs4:=s'.trans (g4.same F'.sub);refine oG (X:=X) g4.sub hρ2 rx fun l hl hrl eρ=>?_
  have F5:=F4.putL (by rw [hl];exact hq) hrl;rw [hl,<- eρ] at F5;obtain ⟨Hs6,F6,m6⟩:=F5.fewer (O':=O2) fun j hj=>bB.mpr ⟨hj,(bB.mp (hsub j hj)).2⟩
  refine ⟨ρ2,Hs6,o1,F6,hrb,?_⟩;have s6:Same Hs3 Hs6:=s4.trans m6;cases o1 with
  | nx ρ3 =>
   intro O3 e3 σ' H' Hs7 F7 s7;obtain ⟨Hs8,F8,m8⟩:=F7.fewer (hy O3 e3);exact ⟨aN ρ ρ3,Hs8,F8.less (vN _ _) fun j d' q=>vm q,(s6.trans s7).trans m8,hgo2⟩
  | rt d3 =>
   intro v H' Hs7 g7 r7;cases hgo2;exact kk v H' Hs7 g7 r7
  | ro d3 =>
   cases hgo2;exact kk
 .rintro σ1 H1' ⟨ρ1,Hs',F',s',hgo⟩;rw [List.drop_length] at hgo;cases hgo;exact kk O2 rfl _ _ _ F' (mm.trans s')
def WQ (T:Tx) (cl:Nat->List D->R D) (m:MS):Prop:=∀ (X:Cx) (sc:Scope) (st:Stmt) (inv O:zz) (O':Ow) (E:Ent) (Es:Hp),(∀ q∈E.pins,q.1 ∉ Ud m)->Cok T cl X->ScRel sc X->PassesOwn (model X.prog X.w) X.A X.env X.xe->okS T X.N sc m st=true->vC inv m O=some O'->PS X st (tMS X E Es O O' inv (bA cl m))
theorem n6 {T:Tx}{cl:Nat->List D->R D}:∀ {ms:List MS},(∀ m∈ms,WQ T cl m)->∀ {X:Cx}{sc:Scope}{sts:vi}{inv O:zz}{O':Ow}{E:Ent}{Es:Hp},(∀ q∈E.pins,q.1 ∉ mU ms)->Cok T cl X->ScRel sc X->PassesOwn (model X.prog X.w) X.A X.env X.xe->okB T X.N sc ms sts=true->dg inv ms O=some O'->PSs X sts (tMS X E Es O O' inv (bZ cl ms))
 | [],G,X,sc,sts,inv,O,O',E,Es,hq,C,S,hp,h,hc=>by
  rw [X3,List.isEmpty_iff] at h;subst h;cases hc;refine Dk Dr fun D σ H=>?_
  rintro ⟨ρ,Hs,o,F,h,k⟩;simp only [wB,qU] at h;cases h;exact k O rfl σ H Hs F (Same.refl _)
 | m::ms,G,X,sc,[],inv,O,O',E,Es,hq,C,S,hp,h,hc=>by cases h
 | m::ms,G,X,sc,st::sts,inv,O,O',E,Es,hq,C,S,hp,h,hc=>by
  simp only [V5,Bool.and_eq_true] at h;rw [Qq] at hc;cases e1:vC inv m O with
  | none=>rw [e1] at hc;cases hc
  | some x =>
   rw [e1] at hc;have h1:=G m vE X sc st inv O _ E Es (fun q hm z=>hq q hm (vF _ z)) C S hp h.1 e1;cases x with
   | none =>
    have hc':O'=none:=by
     have:some (none:Ow)=some O':=hc;cases this;rfl
    subst hc';refine Dk (tO h1 (Ei (sts:=sts))) fun D σ H=>?_
    rintro ⟨ρ,Hs,o,F,h,k⟩;simp only [wB,qU] at h;obtain ⟨o1,ho1,h2⟩:=aj h;clear h;refine ⟨ρ,Hs,o1,F,ho1,?_⟩;cases o1 with
    | nx ρ'=>intro O1 e;cases e
    | rt d=>cases h2;exact k
    | ro d=>cases h2;exact k
   | some O1 =>
    have h2:=n6 (fun q hq=>G q (vz _ hq)) (E:=E) (Es:=Es) (fun q hm z=>hq q hm (vS _ z)) C S hp h.2 (show dg inv ms O1=some O' from hc);refine Dk (tO h1 h2) fun D σ H=>?_
    rintro ⟨ρ,Hs,o,F,h,k⟩;simp only [wB,qU] at h;obtain ⟨o1,ho1,h2⟩:=aj h;clear h;refine ⟨ρ,Hs,o1,F,ho1,?_⟩;cases o1 with
    | nx ρ' =>
     intro O2 e σ' H' Hs' F' s';cases e;exact ⟨ρ',Hs',o,F',h2,k.mono s'⟩
    | rt d=>cases h2;exact k
    | ro d=>cases h2;exact k
theorem nW {T:Tx}{cl:Nat->List D->R D}:∀ m:MS,WQ T cl m
 | .set t e=>fun X sc st inv O O' E Es hq C S hp h hc=>by
  obtain ⟨tgs,v,p,rfl⟩:=jq h;rcases tgs with _ | ⟨tg,_ | ⟨tg2,tgs⟩⟩ <;> try (cases h;done)
  rw [YD] at h;simp only [Bool.and_eq_true,Bool.not_eq_true'] at h;obtain ⟨⟨⟨h1,h2⟩,h3'⟩,h4⟩:=h;by_cases hcm:sZ e=true
  .cases e <;> try (cases hcm;done)
   cases t with
   | two i j =>
    skip
    cases hc;exact Mv C S hq h1 h2 h4
   | one i =>
    cases hc;exact Mv C S hq h1 h2 h4
  have h3:fH v=true:=by
   simp only [Bool.or_eq_true] at h3';rcases h3' with z | z
   .exact z
   .exact absurd z hcm
  cases t with
  | two i j =>
   skip
   cases hc;exact SQ C S hq h1 h2 h3 h4
  | one i =>
   skip
   cases hc;by_cases hf:Rg e=true
   .rw [if_pos hf];cases e <;> try (cases hf;done)
    .exact Ys C S (fun q hm z=>hq q hm (by rw [z];exact yv.mpr rfl)) h1 h2 h3 h4
    .exact YZ C S (fun q hm z=>hq q hm (by rw [z];exact yv.mpr rfl)) h1 h2 h3 h4
    .rename_i b ms;cases b <;> try (cases hf;done)
     exact T7 C S (fun q hm z=>hq q hm (by rw [z];exact yv.mpr rfl)) h1 h2 h4
   .rw [if_neg hf];exact SQ C S hq h1 h2 h3 h4
 | .app i e=>fun X sc st inv O O' E Es hq C S hp h hc=>by
  .obtain ⟨_,_,_,_,_,_,_,rfl,h9⟩:=JG h;replace h:=h9;clear h9;simp only [Bool.and_eq_true,decide_eq_true_eq] at h;obtain ⟨⟨⟨⟨⟨⟨h1,h2⟩,h3⟩,h4⟩,h5⟩,h6⟩,h7⟩:=h;subst h4;rw [Vp] at hc;split at hc
   .rename_i hi;cases hc;exact ZQ C S h1 h2 h3 h5 h6 h7 (by simpa using hi)
   .cases hc
 | .ext i e=>fun X sc st inv O O' E Es hq C S hp h hc=>by
  .obtain ⟨_,_,_,_,_,_,_,rfl,h9⟩:=JG h;replace h:=h9;clear h9;simp only [Bool.and_eq_true,decide_eq_true_eq] at h;obtain ⟨⟨⟨⟨⟨⟨h1,h2⟩,h3⟩,h4⟩,h5⟩,h6⟩,h7⟩:=h;subst h4;rw [VR] at hc;split at hc
   .rename_i hi;cases hc;exact aa5 C S h1 h2 h3 h5 h6 h7 (by simpa using hi)
   .cases hc
 | .dpop t i k=>fun X sc st inv O O' E Es hq C S hp h hc=>by
  obtain ⟨tgs,v,p,rfl⟩:=jq h;rcases tgs with _ | ⟨tg,_ | ⟨tg2,tgs⟩⟩ <;> try (cases h;done)
  replace h:(tgB X.N sc (.one t) tg && Io "pop" v _)=true:=h
  rw [Bool.and_eq_true] at h;obtain ⟨x,p1,ap,k',l,cp,rfl,hl,h9⟩:=Lq h.2;simp only [Bool.and_eq_true,decide_eq_true_eq] at h9;obtain ⟨⟨⟨⟨⟨h1,h2⟩,h3⟩,h4⟩,h5⟩,h6⟩:=h9;obtain ⟨lp,rfl⟩:=XQ h6;replace hc:(if (without O (aC k)).contains i && !(t == i) then some (some (without (without O (aC k)) [t])) else none)=some O':=hc;split at hc
  .rename_i hi;cases hc;simp only [Bool.and_eq_true,Bool.not_eq_true',beq_eq_false_iff_ne] at hi;exact Yb C S (fun q hm z=>hq q hm (by rw [z];exact yv.mpr rfl)) h.1 h1 h2 h3 h4 h5 hl (by simpa using hi.1) hi.2
  .cases hc
 | .lset i k v=>fun X sc st inv O O' E Es hq C S hp h hc=>by
  obtain ⟨_,_,_,_,_,_,rfl,h9⟩:=Vy h;simp only [Bool.and_eq_true,decide_eq_true_eq] at h9;obtain ⟨⟨⟨⟨⟨⟨h1,h2⟩,h3⟩,h4⟩,h5⟩,h6⟩,h7⟩:=h9;replace hc:(if O.contains i then some (some O) else none)=some O':=hc;split at hc
  .rename_i hi;cases hc;exact Yw C S h1 h2 h3 h5 h6 h7 h4 (by simpa using hi)
  .cases hc
 | .call2 i j f e=>fun X sc st inv O O' E Es hq C S hp h hc=>by
  obtain ⟨v,p,rfl⟩:=uf h;obtain ⟨x,p1,es,q1,rfl,h9⟩:=cM (show iW v _=true from h);replace hc:(if (without O (aC e)).contains i && (without O (aC e)).contains j then some (some (without O (aC e))) else none)=some O':=hc;split at hc
  .rename_i hi;cases hc;rw [Bool.and_eq_true] at hi;rcases es with _ | ⟨y,_ | ⟨z,_ | ⟨w,_ | ⟨w2,es⟩⟩⟩⟩ <;> try (cases h9;done)
   .simp only [Bool.and_eq_true,decide_eq_true_eq] at h9;obtain ⟨⟨⟨⟨⟨⟨h1,h2⟩,h3⟩,h4⟩,h5⟩,h6⟩,rfl⟩:=h9;obtain ⟨n1,q1,rfl,a1,a2,a3⟩:=Cq h6;exact V7 C S h1 h2 h3 h4 h5 a1 a2 a3 (by simpa using hi.1)
   .simp only [Bool.and_eq_true,decide_eq_true_eq] at h9;obtain ⟨⟨⟨⟨⟨⟨⟨h1,h2⟩,h3⟩,h4⟩,h5⟩,h6⟩,h7⟩,h8⟩:=h9;obtain ⟨n1,q1,rfl,a1,a2,a3⟩:=Cq h6;obtain ⟨n2,q2,rfl,b1,b2,b3⟩:=Cq h7;exact VD C S h1 h2 h3 h4 h5 a1 a2 a3 b1 b2 b3 (by simpa using hi.1) (by simpa using hi.2) h8
  .cases hc
 | .retO i=>fun X sc st inv O O' E Es hq C S hp h hc=>by
  obtain ⟨v,p,rfl⟩:=BW h;cases v with
  | none=>cases h
  | some e =>
   obtain ⟨x,p2,rfl,a1,a2,a3⟩:=Cq (show nmB X.N sc i e=true from h);replace hc:(if O.contains i then some none else none)=some O':=hc;split at hc
   .rename_i hi;cases hc;exact XJ C S a1 a2 a3 (by simpa using hi)
   .cases hc
 | .setF i f es=>fun X sc st inv O O' E Es hq C S hp h hc=>by
  obtain ⟨tgs,v,p,rfl⟩:=jq h;rcases tgs with _ | ⟨tg,_ | ⟨tg2,tgs⟩⟩ <;> try (cases h;done)
  replace h:(tgB X.N sc (.one i) tg && iW v _)=true:=h;rw [Bool.and_eq_true] at h;obtain ⟨x,p1,as,q1,rfl,h9⟩:=cM h.2;simp only [Bool.and_eq_true,decide_eq_true_eq,Bool.not_eq_true'] at h9;obtain ⟨⟨⟨⟨⟨h1,h2⟩,h3⟩,h4⟩,h5⟩,h6⟩:=h9;cases hc;exact Xr C S (fun q hm z=>hq q hm (by rw [z];exact yv.mpr rfl)) h.1 h1 h2 h3 h4 h5 h6
 | .setB t e=>fun X sc st inv O O' E Es hq C S hp h hc=>by
  obtain ⟨tgs,v,p,rfl⟩:=jq h;rcases tgs with _ | ⟨tg,_ | ⟨tg2,tgs⟩⟩ <;> try (cases h;done)
  replace h:(tgB X.N sc t tg && okE T X.N e sc v && fH v && jH t v)=true:=h;simp only [Bool.and_eq_true] at h;cases hc;exact XF C S hq h.1.1.1 h.1.1.2 h.1.2 h.2
 | .setC i e=>fun X sc st inv O O' E Es hq C S hp h hc=>by
  obtain ⟨tgs,v,p,rfl⟩:=jq h;rcases tgs with _ | ⟨tg,_ | ⟨tg2,tgs⟩⟩ <;> try (cases h;done)
  replace h:(tgB X.N sc (.one i) tg && okE T X.N e sc v && sZ e)=true:=h;simp only [Bool.and_eq_true] at h;cases hc;cases e <;> try (cases h.2;done)
  exact Yr C S (fun q hm z=>hq q hm (by rw [z];exact yv.mpr rfl)) h.1.1 h.1.2
 | .whl c b=>fun X sc st inv O O' E Es hq C S hp h hc=>by
  obtain ⟨c',body,els,p,rfl⟩:=RJ h;cases els <;> try (cases h;done)
  replace h:(okE T X.N c sc c' && okB T X.N sc b body)=true:=h;rw [Bool.and_eq_true] at h;replace hc:(do
   let x <- dg O b O
   let O2:=(jD (some O) x).getD []
   let y <- dg O2 b O2
   match y with
   | none=>some (some O2)
   | some O3=>if O2.all (fun i=>O3.contains i) then some (some O2) else none)=some O':=hc
  dsimp only at hc;cases e1:dg O b O with
  | none=>rw [e1] at hc;cases hc
  | some x =>
   rw [e1] at hc;simp only [Option.bind_eq_bind,Option.bind_some] at hc;generalize hO2:(jD (some O) x).getD []=O2 at hc;cases e2:dg O2 b O2 with
   | none=>rw [e2] at hc;cases hc
   | some y =>
    rw [e2] at hc;simp only [Option.bind_some] at hc;have hsub:∀ i∈O2,i∈O:=by
     rw [<- hO2];cases x with
     | none=>exact fun i hi=>hi
     | some b'=>exact fun i hi=>(yT.mp hi).1
    have hOy:O'=some O2/\∀ O3,y=some O3->∀ i∈O2,i∈O3:=by
     cases y with
     | none=>simp only at hc;cases hc;exact ⟨rfl,fun O3 e=>by cases e⟩
     | some O3 =>
      simp only at hc;split at hc
      .rename_i ha;cases hc;refine ⟨rfl,fun O4 e i hi=>?_⟩;cases e;have:=yA.mp ha i hi;simpa using this
      .cases hc
    obtain ⟨rfl,hy⟩:=hOy;exact U9 C S hp h.1 hsub hy (n6 (fun m _=>nW m) hq C S hp h.2 e2)
 | .grp i g=>fun X sc st inv O O' E Es hq C S hp h hc=>by
  have hc':(if O.contains i && !(tgG g).contains i then some (some [i]) else none)=some O':=hc;split at hc'
  .rename_i hi;cases hc';simp only [Bool.and_eq_true,Bool.not_eq_true'] at hi;exact aaw C S hp hq h (by simpa using hi.1) (by simpa using hi.2)
  .cases hc'
 | .expr e=>fun X sc st inv O O' E Es hq C S hp h hc=>by
  obtain ⟨_,_,rfl⟩:=uf h;rw [Vf] at h;simp only [Bool.and_eq_true] at h;cases hc;exact Y4 C S h.1 h.2
 | .ret e=>fun X sc st inv O O' E Es hq C S hp h hc=>by
  obtain ⟨v,p,rfl⟩:=BW h;cases hc;cases v with
  | none=>exact Yy h
  | some v=>exact aaB C S h
 | .ifs c a b=>fun X sc st inv O O' E Es hq C S hp h hc=>by
  obtain ⟨_,_,_,_,rfl⟩:=aaV h;rw [YK] at h;simp only [Bool.and_eq_true] at h;obtain ⟨⟨h1,h2⟩,h3⟩:=h;rw [U4] at hc;cases e1:dg inv a O with
  | none=>rw [e1] at hc;cases hc
  | some x =>
   rw [e1] at hc;cases e2:dg inv b O with
   | none=>rw [e2] at hc;cases hc
   | some y =>
    rw [e2] at hc;cases (show some (jD x y)=some O' from hc);exact abQ C S h1 (n6 (fun m _=>nW m) (fun q hm z=>hq q hm (vF _ z)) C S hp h2 e1) (n6 (fun m _=>nW m) (fun q hm z=>hq q hm (vS _ z)) C S hp h3 e2)
 | .forr t k src b=>fun X sc st inv O O' E Es hq C S hp h hc=>by
  .obtain ⟨tg,iter,body,els,p,rfl⟩:=K5 h;cases els <;> try (cases h;done)
   replace h:(tgB X.N sc t tg && iD sc k tg iter && bJ T X.N src sc (jf k iter) && okB T X.N sc b body)=true:=h;simp only [Bool.and_eq_true] at h;obtain ⟨⟨⟨h1,h2⟩,h3⟩,h4⟩:=h;rw [UW] at hc;dsimp only at hc;cases e1:dg (without (without O (aV src)) (aK t)) b (without (without O (aV src)) (aK t)) with
   | none=>rw [e1] at hc;cases hc
   | some x =>
    rw [e1] at hc;simp only [Option.bind_eq_bind,Option.bind_some] at hc;generalize hO2:(jD (some (without (without O (aV src)) (aK t))) x).getD []=O2 at hc;cases e2:dg O2 b O2 with
    | none=>rw [e2] at hc;cases hc
    | some y =>
     rw [e2] at hc;simp only [Option.bind_some] at hc;have hsub:∀ i∈O2,i∈without (without O (aV src)) (aK t):=by
      rw [<- hO2];cases x with
      | none=>exact fun i hi=>hi
      | some b'=>exact fun i hi=>(yT.mp hi).1
     have hOy:O'=some O2/\∀ O3,y=some O3->∀ i∈O2,i∈O3:=by
      cases y with
      | none=>simp only at hc;cases hc;exact ⟨rfl,fun O3 e=>by cases e⟩
      | some O3 =>
       simp only at hc;split at hc
       .rename_i ha;cases hc;refine ⟨rfl,fun O4 e i hi=>?_⟩;cases e;have:=yA.mp ha i hi;simpa using this
       .cases hc
     obtain ⟨rfl,hy⟩:=hOy;exact Q7 C S hp (fun q hm z=>hq q hm (vF _ z)) h1 h2 h3 hsub hy (n6 (fun m _=>nW m) (fun q hm z=>hq q hm (vS _ z)) C S hp h4 e2)
 | .chk j e=>fun X sc st inv O O' E Es hq C S hp h hc=>by cases h
 | .rai=>fun X sc st inv O O' E Es hq C S hp h hc=>by
  refine bN Uz fun D σ H=>?_
  rintro ⟨ρ,Hs,o,F,h,k⟩;simp only [wC,wD,wE,qV,wF,wG,wH,wI] at h;cases h
termination_by m=>sizeOf m
decreasing_by
 all_goals simp_wf
 all_goals (have:=List.sizeOf_lt_of_mem ‹_∈_›;omega)
end
end Mi
set_option maxHeartbeats 1000000
namespace Mi
open PySem L2
open PyProof.Rows hiding St
def JH (N ps:z0) (sc:Scope):Bool :=
 decide (sc.kind=.function) && !sc.isCoroutine && !sc.isGenerator && decide N.Nodup && decide (N.take ps.length=ps) && (ps.all fun x=>jY sc x) && sc.names.all fun y=>decide (y.2≠.free)
def mJ {N ps:z0}{sc:Scope} (h:JH N ps sc=true):FnScope N ps sc:=by
 unfold JH at h;simp only [Bool.and_eq_true,decide_eq_true_eq,Bool.not_eq_true',List.all_eq_true] at h;obtain ⟨⟨⟨⟨⟨⟨h1,h2⟩,h3⟩,h4⟩,h5⟩,h6⟩,h7⟩:=h;exact ⟨h1,h2,h3,h4,h5,fun x hx=>lK (h6 x hx),fun y hy=>h7 y hy⟩
def aY (T:Tx) (d:Def) (N ps:z0) (st:Stmt):Bool :=
 JH N ps (bf st) && decide (d.np=ps.length) && decide (d.nn=N.length) && okB T N (bf st) d.body (dB st) && (!d.nrm || (dg [] d.body []).isSome)
variable {g:G}{H Hs:Hp}{m k:Nat}
def Ip {ds:List D}{vs:List V} (hs:Same Hs H) (r:Rps g Hs ds vs) (e:m=k):FR g ⟨H,[]⟩ Hs [] (ds.map some++List.replicate m none) (vs.map some++List.replicate k none) H Hs:=by
 subst e;refine ⟨Grow.refl hs,by simp [r.length],fun i d h _=>?_,fun i hi=>(by cases hi),fun i hi=>(by cases hi),fun q hq=>by cases hq⟩;by_cases hi:i < ds.length
 .rw [List.getElem?_append_left (by simpa using hi),List.getElem?_map] at h;cases q:ds[i]? with
  | none=>rw [q] at h;cases h
  | some d' =>
   rw [q] at h;cases h;obtain ⟨v,ev,rv⟩:=r.getD q;refine ⟨v,?_,rv⟩;rw [List.getElem?_append_left (by rw [List.length_map,<- r.length];exact hi),List.getElem?_map,ev];rfl
 .rw [List.getElem?_append_right (by simpa using hi),List.getElem?_replicate] at h;split at h <;> cases h
variable {d0 d:D}{v0:V}{a:Addr}
theorem Wl {e:D}{b:Addr} (hs:Same Hs H) (r:Rp g Hs d0 v0) (hab:a≠b) (ha:Hs a=none) (hb:Hs b=none) (oa:cN g H Hs a d) (ob:cN g H Hs b e) (hm:m=k) :
  FR g ⟨hole (hole H a) b,[(1,a),(2,b)]⟩ Hs [1,2] ([d0,d,e].map some++List.replicate m none) ([v0,.ref a,.ref b].map some++List.replicate k none) H Hs:=by
 subst hm;have rest:∀ (i:Nat) (x:D),([d0,d,e].map some++List.replicate m none)[i+3]?≠some (some x):=fun i x h=>by
  rw [List.getElem?_append_right (by simp)] at h;rw [List.getElem?_replicate] at h;split at h <;> cases h
 have hh:∀ {c},hole (hole H a) b c=none\/hole (hole H a) b c=H c:=fun {c}=>by
  by_cases h1:c=b
  .subst h1;exact .inl iJ
  .rw [eO h1];by_cases h2:c=a
   .subst h2;exact .inl iJ
   .exact .inr (eO h2)
 have mem:∀ {i:Nat},i∈[1,2]->i=1\/i=2:=fun {i} h=>by simpa using h
 refine ⟨⟨fun c o q=>?_,fun _ _ _=>rfl,hs⟩,by simp,fun i x h hi=>?_,fun i hi x h=>?_,fun i hi j hj hij d1 e1 c h1 h2 h3 h4=>?_,fun q hq=>?_⟩
 .have q':hole (hole H a) b c=some o:=q;rcases hh (c:=c) with z | z
  .rw [z] at q';cases q'
  .rw [z] at q';exact q'
 .match i,h,hi with
  | 0,h,_=>cases h;exact ⟨v0,rfl,r⟩
  | 1,_,hi=>exact absurd (by simp) hi
  | 2,_,hi=>exact absurd (by simp) hi
  | i+3,h,_=>exact absurd h (rest i x)
 .rcases mem hi with rfl | rfl
  .cases h;exact ⟨a,rfl,by show hole (hole H a) b a=none;rw [eO hab];exact iJ,ha,oa⟩
  .cases h;exact ⟨b,rfl,iJ,hb,ob⟩
 .rcases mem hi with rfl | rfl <;> rcases mem hj with rfl | rfl
  .exact hij rfl
  .cases h3;cases h4;exact hab rfl
  .cases h3;cases h4;exact hab rfl
  .exact hij rfl
 .rcases z9.mp hq with z | z
  .rw [z];rfl
  .rw [List.mem_singleton.mp z];rfl
theorem Td (hs:Same Hs H) (r:Rp g Hs d0 v0) (ha:Hs a=none) (oa:cN g H Hs a d) (hm:m=k) :
  FR g ⟨hole (hole H a) a,[(1,a),(1,a)]⟩ Hs [1,1] ([d0,d].map some++List.replicate m none) ([v0,.ref a].map some++List.replicate k none) H Hs:=by
 subst hm;have rest:∀ (i:Nat) (x:D),([d0,d].map some++List.replicate m none)[i+2]?≠some (some x):=fun i x h=>by
  rw [List.getElem?_append_right (by simp)] at h;rw [List.getElem?_replicate] at h;split at h <;> cases h
 have mem:∀ {i:Nat},i∈[1,1]->i=1:=fun {i} h=>by simpa using h
 refine ⟨⟨fun c o q=>?_,fun _ _ _=>rfl,hs⟩,by simp,fun i x h hi=>?_,fun i hi x h=>?_,fun i hi j hj hij d1 e1 c h1 h2 h3 h4=>?_,fun q hq=>?_⟩
 .have q':hole (hole H a) a c=some o:=q;by_cases h1:c=a
  .rw [h1,iJ] at q';cases q'
  .rw [eO h1,eO h1] at q';exact q'
 .match i,h,hi with
  | 0,h,_=>cases h;exact ⟨v0,rfl,r⟩
  | 1,_,hi=>exact absurd (by simp) hi
  | i+2,h,_=>exact absurd h (rest i x)
 .cases mem hi;cases h;exact ⟨a,rfl,iJ,ha,oa⟩
 .cases mem hi;cases mem hj;exact hij rfl
 .rcases z9.mp hq with z | z
  .rw [z];rfl
  .rw [List.mem_singleton.mp z];rfl
structure FF (K:zt) (x:Str) (st:Stmt):Prop where
 ex:∃ a fd,PySem.W.nsIn K mainGlobals x=some (some (.ref a))/\Fun K x x st a fd
variable {K:zt}{x:Str}
theorem aX {st:Stmt}{f:Addr}{oc:Value}{od an:vn}{osl:vw}{kV doc pm cdv ct:Value} (a:PySem.W.nsIn K mainGlobals x=some (some (.ref f)))
  (l:K.lookup f=some ⟨oc,od,.func (PySem.W.fnOf x x (eG st) (dB st) (bf st) .none kV doc pm an cdv ct),osl⟩) (c:PySem.W.codeIn K cdv x=true) (k:PySem.W.keepIn K (.ref f)=true):FF K x st :=
 ⟨⟨f,_,a,Tq l c k⟩⟩
structure GF (K:zt) (x:Str) (d:D):Prop where
 ex:∃ v,PySem.W.nsIn K mainGlobals x=some (some v)/\GlV d (some v)
theorem Ce {i:Int}{t:Tok} (a:PySem.W.nsIn K mainGlobals x=some (some (.int i t))):GF K x (.int i):=⟨⟨_,a,t,rfl⟩⟩
variable {α:Type}
theorem us1 {p:List α->Prop} (h:∀ a,p [a]):∀ us:List α,us.length=1->p us
 | [_],_=>h _
theorem us2 {p:List α->Prop} (h:∀ a b,p [a,b]):∀ us:List α,us.length=2->p us
 | [_,_],_=>h _ _
theorem us3 {p:List α->Prop} (h:∀ a b c,p [a,b,c]):∀ us:List α,us.length=3->p us
 | [_,_,_],_=>h _ _ _
end Mi
namespace Mi
open PySem L2
theorem bM {α:Type}{f:D->R (Option D)}{enc e:α->D}{p:α->Bool}:∀ (l:List α),(∀ a∈l,f (enc a)=.ok (if p a then some (e a) else none))->gK f (l.map enc)=.ok ((l.filter p).map e)
 | [],_=>rfl
 | a::l,h=>by
  have h1:=h a vE;have h2:=bM l fun b hb=>h b (vz _ hb)
  simp only [List.map_cons,gK,h1,h2,qT,List.filter_cons];cases p a <;> simp
variable {α:Type}
def cT {f:D->R (Option D)}{enc e:α->D} (l:List α) (h:∀ a∈l,f (enc a)=.ok (some (e a))):gK f (l.map enc)=.ok (l.map e):=by
 have:=bM (f:=f) (enc:=enc) (e:=e) (p:=fun _=>true) l (by simpa using h);rw [List.filter_eq_self.mpr (fun _ _=>rfl)] at this;exact this
theorem bL {α β:Type}{f:D->En->R Out}{ρ₀:En} (enc:β->D) (S:α->En) (step:α->β->α) (P:α->List β->Prop)
  (h:∀ a x xs,P a (x::xs)->P (step a x) xs/\∃ ρ',f (enc x) (S a)=.ok (.nx ρ')/\aN ρ₀ ρ'=S (step a x)):∀ (xs:List β) (a:α),P a xs->jo f ρ₀ (xs.map enc) (S a)=.ok (.nx (S (xs.foldl step a)))
 | [],a,_=>rfl
 | x::xs,a,p=>by
  obtain ⟨p2,ρ',h1,h2⟩:=h a x xs p;simp only [List.map_cons,jo,h1,qT,h2,List.foldl_cons];exact bL enc S step P h xs (step a x) p2
theorem Ft {α β:Type} (g:β->List α):∀ (xs:List β) (a:List α),xs.foldl (fun acc x=>acc++g x) a=a++xs.flatMap g
 | [],a=>by simp
 | x::xs,a=>by simp [Ft g xs]
variable {β:Type}{f:D->En->R Out}{ρ₀:En}
def fj (enc:β->D) (S:List α->En) (g:β->List α) (B:Nat) (xs:List β)
  (h:∀ (acc:List α),∀ x∈xs,acc.length+(g x).length<=B->∃ ρ',f (enc x) (S acc)=.ok (.nx ρ')/\aN ρ₀ ρ'=S (acc++g x)) (a:List α) (hB:a.length+(xs.flatMap g).length<=B):jo f ρ₀ (xs.map enc) (S a)=.ok (.nx (S (a++xs.flatMap g))):=by
 rw [<- Ft];refine bL enc S _ (fun acc ys=>acc.length+(ys.flatMap g).length<=B/\∀ y∈ys,y∈xs) (fun acc x ys p=>?_) xs a ⟨hB,fun y hy=>hy⟩;obtain ⟨p,q⟩:=p;simp only [List.flatMap_cons,List.length_append] at p;exact ⟨⟨by simp only [List.length_append];omega,fun y hy=>q y (vz _ hy)⟩,h acc x (q x vE) (by omega)⟩
def Kl (enc:β->D) (S:α->En) (step:α->β->α) (P:α->Prop) (xs:List β)
  (h:∀ a,∀ x∈xs,P a->P (step a x)/\∃ ρ',f (enc x) (S a)=.ok (.nx ρ')/\aN ρ₀ ρ'=S (step a x)) (a:α) (hP:P a):jo f ρ₀ (xs.map enc) (S a)=.ok (.nx (S (xs.foldl step a))):=by
 refine bL enc S step (fun a ys=>P a/\∀ y∈ys,y∈xs) (fun a x ys p=>?_) xs a ⟨hP,fun y hy=>hy⟩;obtain ⟨h1,h2⟩:=h a x (p.2 x vE) p.1;exact ⟨⟨h1,fun y hy=>p.2 y (vz _ hy)⟩,h2⟩
noncomputable abbrev eN (n:Nat):D:=.int n
def au (r:zz):D:=.tup (r.map eN)
def eP (p:Nat × Nat):D:=.tup [eN p.1,eN p.2]
abbrev Meet:=List (Nat × Nat)
def eM (m:Meet):D:=.tup (m.map eP)
def eB (lv:zz) (bs:List Meet):D:=.tup [au lv,.tup (bs.map eM)]
structure Enc {α:Type} (enc:α->D):Prop where
 inj:∀ a b,enc a=enc b->a=b
 key:∀ a,keyOk (enc a)=true
 dp:∀ a,dep (enc a)<=4
theorem iC {α:Type}{enc:α->D} (h:∀ a,keyOk (enc a)=true):∀ l:List α,bH (l.map enc)=true
 | []=>rfl
 | a::l=>by simp [bH,h a,iC h l]
theorem jN {α:Type}{enc:α->D}{n:Nat} (h:∀ a,dep (enc a)<=n):∀ l:List α,deps (l.map enc)<=n
 | []=>yf _
 | a::l=>by
  simp only [List.map_cons,deps];have:=h a;have:=jN h l;omega
theorem xV:Enc eN:=⟨fun a b h=>by injection h with h;exact Int.ofNat.inj h,fun _=>rfl,fun _=>yf _⟩
def Dh:Enc au:=by
 refine ⟨fun a b h=>?_,fun a=>?_,fun a=>?_⟩
 .unfold au at h;injection h with h;exact (List.map_inj_right xV.inj).mp h
 .simp only [au,keyOk];exact iC xV.key a
 .simp only [au,dep];have:=jN (n:=0) (fun a=>v6 (dep (eN a))) a;omega
def xR:Enc eP:=by
 refine ⟨fun a b h=>?_,fun a=>rfl,fun a=>by simp [eP,dep,deps,eN]⟩;unfold eP at h;injection h with h;injection h with h1 h2;injection h2 with h2 _;exact Prod.ext (xV.inj _ _ h1) (xV.inj _ _ h2)
def ab2 (p:Nat × Nat):dep (eP p)=1:=by simp [eP,dep,deps,eN]
def kE:Enc eM:=by
 refine ⟨fun a b h=>?_,fun a=>?_,fun a=>?_⟩
 .unfold eM at h;injection h with h;exact (List.map_inj_right xR.inj).mp h
 .simp only [eM,keyOk];exact iC xR.key a
 .simp only [eM,dep];have:=jN (n:=1) (fun p=>Nat.le_of_eq (ab2 p)) a;omega
section
variable {α:Type}{enc:α->D} [DecidableEq α]
theorem Enc.eq1 (E:Enc enc) (a b:α):aG (enc a) (enc b)=decide (a=b):=by
 rw [oN (E.key a) (E.key b)];by_cases h:a=b
 .subst h;simp
 .rw [decide_eq_false h,decide_eq_false fun z=>h (E.inj _ _ z)]
theorem Enc.eqs (E:Enc enc) (l l':List α):fK (l.map enc) (l'.map enc)=decide (l=l'):=by
 rw [u6 (iC E.key l) (iC E.key l')];by_cases h:l=l'
 .subst h;simp
 .rw [decide_eq_false h,decide_eq_false fun z=>h ((List.map_inj_right E.inj).mp z)]
theorem Enc.flat (E:Enc enc) (l l':List α):bW (.lst (l.map enc)) (.lst (l'.map enc))=true:=by
 have h1:=jN E.dp l;have h2:=jN E.dp l';have e:∀ l:List α,dep (.lst (l.map enc))=deps (l.map enc)+1:=fun l=>by rw [dep]
 unfold bW;rw [e,e,decide_eq_true (show deps (l.map enc)+1<=30 by omega),decide_eq_true (show deps (l'.map enc)+1<=30 by omega)];rfl
theorem Enc.cmpEq (E:Enc enc) (l l':List α):bV .eq (.lst (l.map enc)) (.lst (l'.map enc))=.ok (decide (l=l')):=by
 simp only [bV,E.flat,if_true,aG,E.eqs]
theorem Enc.cmpNe (E:Enc enc) (l l':List α):bV .ne (.lst (l.map enc)) (.lst (l'.map enc))=.ok (!decide (l=l')):=by
 simp only [bV,E.flat,if_true,aG,E.eqs]
theorem Enc.cmpEq0 (E:Enc enc) (l:List α):bV .eq (.lst (l.map enc)) (.lst [])=.ok l.isEmpty:=by
 have:=E.cmpEq l [];rw [List.map_nil] at this;rw [this];cases l <;> simp
end
theorem MK (m:Meet):isKey (eM m)=true:=by
 have h1:=kE.key m;have h2:=kE.dp m;unfold isKey;rw [h1,decide_eq_true (show dep (eM m)<=6 by omega)];rfl
theorem BK (ks:List Meet) (m:Meet):kOk (ks.map eM) (eM m)=true:=by
 have h:(ks.map eM).all isKey=true:=by
  rw [List.all_eq_true];intro a ha;obtain ⟨x,_,rfl⟩:=v8.mp ha;exact MK x
 unfold kOk;rw [MK,h];rfl
def Yv (m:Meet) (ks:List Meet) (vs:List D):inD (eM m) (.dct (ks.map eM) vs)=.ok (decide (m∈ks)):=by
 have h1:=BK ks m;have e:inD (eM m) (.dct (ks.map eM) vs)=.ok (decide (eM m∈ks.map eM)):=if_pos h1;rw [e];congr 1;by_cases h:m∈ks
 .rw [decide_eq_true h,decide_eq_true (List.mem_map.mpr ⟨m,h,rfl⟩)]
 .rw [decide_eq_false h,decide_eq_false];intro z;obtain ⟨a,ha,e⟩:=v8.mp z;rw [kE.inj _ _ e] at ha;exact h ha
noncomputable def cG {α:Type} [DecidableEq α] (ks:List α) (m:α):List α:=if m∈ks then ks else ks++[m]
def eK (ks:List Meet):D:=.dct (ks.map eM) (List.replicate ks.length (.bl true))
variable {vs:List D}
def Te {ks:List D}{k v r:D} (h:putD (.dct ks vs) k v=.ok r) (hv:lfD v=true) (hk:lfD k=true):tQ (.dct ks vs) k v=.ok r:=by
 show (if (lfD v && lfD k)=true then putD (.dct ks vs) k v else .stuck)=_
 rw [hv,hk];exact h
theorem Ut:∀ m:Meet,lfD (eM m)=true
 | []=>rfl
 | _::m=>Ut m
def RW (ks:List Meet) (m:Meet) (h:ks.length < lim):tQ (eK ks) (eM m) (.bl true)=.ok (eK (cG ks m)):=by
 refine Te ?_ rfl (Ut m);have hk:=BK ks m;simp only [eK,putD,List.length_map,List.length_replicate];rw [if_pos ⟨hk,h,trivial⟩];have hm:eM m∈ks.map eM↔m∈ks:=⟨fun z=>by obtain ⟨a,ha,e⟩:=v8.mp z;rw [kE.inj _ _ e] at ha;exact ha,fun z=>v8.mpr ⟨m,z,rfl⟩⟩;unfold cG iY;by_cases hmem:m∈ks
 .rw [if_pos (hm.mpr hmem),if_pos hmem];have:((ks.map eM).zip (List.replicate ks.length (D.bl true))).map (fun p=>if p.1=eM m then D.bl true else p.2)=List.replicate ks.length (D.bl true):=by
   refine List.ext_getElem (by simp) fun i h1 h2=>?_
   simp
  rw [this]
 .rw [if_neg fun z=>hmem (hm.mp z),if_neg hmem];simp [List.replicate_succ']
def Vg [DecidableEq α] {ks:List α}{m x:α}:x∈cG ks m↔x∈ks\/x=m:=by
 unfold cG;split
 .constructor
  .exact .inl
  .rintro (h | rfl) <;> assumption
 .simp
def Nh [DecidableEq α] {ks:List α}{m:α} (h:ks.Nodup):(cG ks m).Nodup:=by
 unfold cG;split
 .exact h
 .rename_i hm;rw [List.nodup_append];refine ⟨h,by simp,fun a ha b hb=>?_⟩;rw [List.mem_singleton.mp hb];rintro rfl;exact hm ha
theorem mQ {α:Type} [DecidableEq α] {x:α}:∀ {ms ks:List α},x∈ms.foldl cG ks↔x∈ks\/x∈ms
 | [],ks=>by simp
 | m::ms,ks=>by
  rw [List.foldl_cons,mQ,Vg,List.mem_cons,or_assoc]
theorem mj {α:Type} [DecidableEq α]:∀ {ms ks:List α},ks.Nodup->(ms.foldl cG ks).Nodup
 | [],ks,h=>h
 | m::ms,ks,h=>by rw [List.foldl_cons];exact mj (Nh h)
def uH [DecidableEq α] (ks:List α) (m:α):(cG ks m).length<=ks.length+1:=by
 unfold cG;split
 .omega
 .simp
theorem mH {α:Type} [DecidableEq α]:∀ (ms ks:List α),(ms.foldl cG ks).length<=ks.length+ms.length
 | [],ks=>by simp
 | m::ms,ks=>by
  have:=mH ms (cG ks m);have:=uH ks m;simp only [List.foldl_cons,List.length_cons];omega
def pLt (p q:Nat × Nat):Prop:=p.1 < q.1\/(p.1=q.1/\p.2 < q.2)
def mLt (a b:Meet):Prop:=∃ c x y s t,a=c++x::s/\b=c++y::t/\pLt x y
variable {p q:Nat × Nat}
def abF (h:pLt p q):ltD (eP p) (eP q)=true:=by
 obtain ⟨a,b⟩:=p;obtain ⟨c,d⟩:=q;simp only [eP,ltD,bD,eN];rcases h with h | ⟨h1,h2⟩
 .have:¬ (D.int (a:Int)=D.int (c:Int)):=fun z=>by injection z with z;simp only at h;omega
  rw [if_neg this];simp only at h;simp;omega
 .simp only at h1 h2;subst h1;rw [if_pos rfl];have:¬ (D.int (b:Int)=D.int (d:Int)):=fun z=>by injection z with z;omega
  rw [if_neg this];simp;omega
def ZW (h:pLt p q):p≠q:=by
 rintro rfl;rcases h with h | ⟨_,h⟩ <;> omega
variable {x y:Nat × Nat}
def Vl (c:Meet) {s t:Meet} (h:pLt x y):bD ((c++x::s).map eP) ((c++y::t).map eP)=true:=by
 induction c with
 | nil =>
  simp only [List.nil_append,List.map_cons,bD];rw [if_neg fun z=>ZW h (xR.inj _ _ z)];exact abF h
 | cons z c ih =>
  simp only [List.cons_append,List.map_cons,bD,if_true];exact ih
variable {a b:Meet}
def WW (h:mLt a b):ltD (eM a) (eM b)=true:=by
 obtain ⟨c,x,y,s,t,rfl,rfl,h⟩:=h;simp only [eM,ltD];exact Vl c h
theorem mLt.app (h:mLt a b) (u v:Meet):mLt (a++u) (b++v):=by
 obtain ⟨c,x,y,s,t,rfl,rfl,h⟩:=h;exact ⟨c,x,y,s++u,t++v,by simp,by simp,h⟩
theorem mLt.last (c:Meet) (h:pLt x y):mLt (c++[x]) (c++[y]):=⟨c,x,y,[],[],rfl,rfl,h⟩
def P0 (h:mLt a b):a≠b:=by
 rintro rfl;have:=WW h;rw [yd] at this;cases this
theorem ab9 (p q:Nat × Nat):bG (eP p) (eP q)=true:=by
 simp only [eP,bG,dY];split
 .split
  .rfl
  .rfl
 .rfl
theorem R5:∀ (a b:Meet),dY (a.map eP) (b.map eP)=true
 | [],b=>by simp [dY]
 | x::a,[]=>by simp [dY]
 | x::a,y::b=>by
  simp only [List.map_cons,dY];split
  .exact R5 a b
  .exact ab9 x y
def abX (a b:Meet):bG (eM a) (eM b)=true:=by simp only [eM,bG];exact R5 a b
variable {ks:List Meet}
def Jj {L:List Meet} (hn:ks.Nodup) (hL:L.Pairwise mLt) (hm:∀ m,m∈ks↔m∈L) (hl:L.length < 64) (h0:∀ m∈L,m≠[]):jh (.dct (ks.map eM) vs)=.ok (.lst (L.map eM)):=by
 have nL:L.Nodup:=hL.imp fun h=>P0 h
 have perm:L.Perm ks:=(List.perm_ext_iff_of_nodup nL hn).mpr fun m=>(hm m).symm
 have hlen:=perm.length_eq;have hc:jU (ks.map eM):=fun a ha b hb=>by
  obtain ⟨x,_,rfl⟩:=v8.mp ha;obtain ⟨y,_,rfl⟩:=v8.mp hb;exact abX x y
 have hsort:iT (ks.map eM)=L.map eM:=yP hc (perm.map eM) (List.pairwise_map.mpr (hL.imp fun h=>by
  unfold leD;exact Ik (WW h)))
 have ok:mR (ks.map eM)=true:=by
  unfold mR;simp only [Bool.and_eq_true,Bool.or_eq_true,decide_eq_true_eq,List.length_map,List.all_eq_true];refine ⟨⟨⟨⟨by omega,?_⟩,fun a ha b hb=>hc a ha b hb⟩,iC kE.key ks⟩,.inr ?_⟩
  .have:=jN kE.dp ks;omega
  .intro d hd;obtain ⟨m,hmk,rfl⟩:=v8.mp hd;have:=h0 m ((hm m).mp hmk);cases m with
   | nil=>exact absurd rfl this
   | cons p m=>rfl
 simp only [jh,Gz,qT,ok,if_true,hsort]
noncomputable def bY (rs:zv) (l:Nat):zv:=rs.flatMap fun r=>(List.range l).map fun s=>r++[s]
def rows (lv:zz):zv:=lv.foldl bY [[]]
def gC:zz->zz->Prop
 | [],[]=>True
 | l::ls,x::xs=>x < l/\gC ls xs
 | _,_=>False
theorem Fl:∀ {lv:zz}{rs:zv}{r:zz},r∈lv.foldl bY rs↔∃ a∈rs,∃ t,r=a++t/\gC lv t
 | [],rs,r=>by
  simp only [List.foldl_nil];constructor
  .intro h;exact ⟨r,h,[],by simp,trivial⟩
  .rintro ⟨a,ha,t,rfl,ht⟩;cases t with
   | nil=>simpa using ha
   | cons _ _=>exact ht.elim
 | l::lv,rs,r=>by
  rw [List.foldl_cons,Fl];constructor
  .rintro ⟨a,ha,t,rfl,ht⟩;unfold bY at ha;rw [List.mem_flatMap] at ha;obtain ⟨b,hb,ha⟩:=ha;obtain ⟨s,hs,rfl⟩:=v8.mp ha;exact ⟨b,hb,s::t,by simp,yY.mp hs,ht⟩
  .rintro ⟨a,ha,t,rfl,ht⟩;cases t with
   | nil=>exact ht.elim
   | cons s t =>
    refine ⟨a++[s],?_,t,by simp,ht.2⟩;unfold bY;rw [List.mem_flatMap];exact ⟨a,ha,v8.mpr ⟨s,yY.mpr ht.1,rfl⟩⟩
variable {lv r:zz}
def pq :r∈rows lv↔gC lv r:=by
 unfold rows;rw [Fl];constructor
 .rintro ⟨a,ha,t,rfl,ht⟩;rw [List.mem_singleton.mp ha];exact ht
 .intro h;exact ⟨[],by simp,r,by simp,h⟩
theorem gC.len:∀ {lv r:zz},gC lv r->r.length=lv.length
 | [],[],_=>rfl
 | _::_,_::_,h=>by simp [gC.len h.2]
 | [],_::_,h=>h.elim
 | _::_,[],h=>h.elim
theorem gC.get':∀ {lv r:zz}{i:Nat},gC lv r->∀ {x:Nat},r[i]?=some x->∃ l,lv[i]?=some l/\x < l
 | _,[],i,_,l,e=>by simp at e
 | [],x::r,i,h,_,e=>h.elim
 | l::lv,x::r,0,h,l',e=>by simp at e;subst e;exact ⟨l,rfl,h.1⟩
 | l::lv,x::r,i+1,h,l',e=>by simpa using gC.get' h.2 (i:=i) (by simpa using e)
noncomputable def prod (lv:zz):Nat:=lv.foldl (· * ·) 1
theorem El {α:Type} (k:Nat):∀ (l:List α),(l.map fun _=>k).sum=l.length * k
 | []=>by simp
 | a::l=>by simp [El k l,Nat.succ_mul,Nat.add_comm]
def vq (rs:zv) (l:Nat):(bY rs l).length=rs.length * l:=by
 unfold bY;rw [List.length_flatMap];simp only [List.length_map,List.length_range];exact El l rs
theorem DN:∀ (lv:zz) (rs:zv) (k:Nat),rs.length=k->(lv.foldl bY rs).length=lv.foldl (· * ·) k
 | [],rs,k,h=>h
 | l::lv,rs,k,h=>by
  rw [List.foldl_cons,List.foldl_cons];exact DN lv _ _ (by rw [vq,h])
theorem uc (lv:zz):(rows lv).length=prod lv:=DN lv [[]] 1 rfl
noncomputable def dZ:Nat->zz->List (Nat × Nat)
 | _,[]=>[]
 | n,l::ls=>(List.range l).map (fun s=>(n,s))++dZ (n+1) ls
theorem jW:∀ {n:Nat}{lv:zz}{p:Nat × Nat},p∈dZ n lv↔n<=p.1/\∃ l,lv[p.1 - n]?=some l/\p.2 < l
 | n,[],p=>by simp [dZ]
 | n,l::ls,p=>by
  obtain ⟨t,s⟩:=p;simp only [dZ,List.mem_append,jW,List.mem_map,List.mem_range,Prod.mk.injEq];constructor
  .rintro (⟨a,ha,rfl,rfl⟩ | ⟨h1,l',h2,h3⟩)
   .exact ⟨v6 _,l,by simp,ha⟩
   .refine ⟨by omega,l',?_,h3⟩;rw [show t - n=(t - (n+1))+1 by omega];simpa using h2
  .rintro ⟨h1,l',h2,h3⟩;by_cases e:t=n
   .subst e;simp at h2;subst h2;exact .inl ⟨s,h3,rfl,rfl⟩
   .right;refine ⟨by omega,l',?_,h3⟩;rw [show t - n=(t - (n+1))+1 by omega] at h2;simpa using h2
theorem pN:∀ (n:Nat) (lv:zz),(dZ n lv).Pairwise pLt
 | n,[]=>List.Pairwise.nil
 | n,l::ls=>by
  simp only [dZ];rw [List.pairwise_append];refine ⟨List.pairwise_map.mpr (List.pairwise_lt_range.imp fun h=>.inr ⟨rfl,h⟩),pN (n+1) ls,fun a ha b hb=>?_⟩;obtain ⟨s,_,rfl⟩:=v8.mp ha;have:=(jW.mp hb).1;exact .inl (Nat.lt_of_succ_le this)
noncomputable def behind (m:Meet) (p:Nat × Nat):Bool:=match m.getLast? with | none=>true | some q=>decide (q.1 < p.1)
def among (ps:List (Nat × Nat)):Nat->List Meet
 | 0=>[[]]
 | k+1=>(among ps k).flatMap fun m=>(ps.filter (behind m)).map fun p=>m++[p]
abbrev dG (m:Meet):Prop:=m.Pairwise fun p q=>p.1 < q.1
variable {m:Meet}
def Cg (h:dG m):behind m p=true↔∀ q∈m,q.1 < p.1:=by
 unfold behind;cases e:m.getLast? with
 | none =>
  rw [List.getLast?_eq_none_iff] at e;subst e;simp
 | some q =>
  obtain ⟨m',rfl⟩:=List.getLast?_eq_some_iff.mp e;simp only [decide_eq_true_eq];constructor
  .intro hq x hx;rcases yc.mp hx with hx | hx
   .have:=(List.pairwise_append.mp h).2.2 x hx q (by simp);omega
   .rw [List.mem_singleton.mp hx];exact hq
  .intro hx;exact hx q (by simp)
theorem jc {ps:List (Nat × Nat)}:∀ {k:Nat}{m:Meet},m∈among ps k↔m.length=k/\dG m/\∀ p∈m,p∈ps
 | 0,m=>by
  simp only [among,List.mem_singleton];constructor
  .rintro rfl;simp
  .rintro ⟨h,_⟩;exact List.length_eq_zero_iff.mp h
 | k+1,m=>by
  simp only [among,List.mem_flatMap,List.mem_map,List.mem_filter];constructor
  .rintro ⟨a,ha,p,⟨hp,hb⟩,rfl⟩;obtain ⟨h1,h2,h3⟩:=jc.mp ha;refine ⟨by simp [h1],?_,fun q hq=>?_⟩
   .unfold dG;rw [List.pairwise_append];exact ⟨h2,by simp,fun x hx y hy=>by rw [List.mem_singleton.mp hy];exact (Cg h2).mp hb x hx⟩
   .rcases yc.mp hq with hq | hq
    .exact h3 q hq
    .rw [List.mem_singleton.mp hq];exact hp
  .rintro ⟨h1,h2,h3⟩;have hne:m≠[]:=fun z=>by subst z;simp at h1
   obtain ⟨a,p,rfl⟩:∃ a p,m=a++[p]:=⟨m.dropLast,m.getLast hne,(List.dropLast_concat_getLast hne).symm⟩;obtain ⟨q1,q2,q3⟩:=List.pairwise_append.mp h2;refine ⟨a,jc.mpr ⟨by simpa using h1,q1,fun x hx=>h3 x (by simp [hx])⟩,p,⟨h3 p (by simp),(Cg q1).mpr fun x hx=>q3 x hx p (by simp)⟩,rfl⟩
theorem pB {ps:List (Nat × Nat)} (h:ps.Pairwise pLt):∀ k,(among ps k).Pairwise mLt
 | 0=>by simp [among]
 | k+1=>by
  simp only [among];rw [List.pairwise_flatMap];refine ⟨fun m _=>List.pairwise_map.mpr ((h.filter _).imp fun q=>mLt.last m q),(pB h k).imp fun q x hx y hy=>?_⟩;obtain ⟨p,_,rfl⟩:=v8.mp hx;obtain ⟨p',_,rfl⟩:=v8.mp hy;exact q.app _ _
noncomputable def aM:Nat->zz->List (Nat × Nat)
 | _,[]=>[]
 | n,x::xs=>(n,x)::aM (n+1) xs
theorem jQ:∀ {n:Nat}{r:zz}{p:Nat × Nat},p∈aM n r↔n<=p.1/\r[p.1 - n]?=some p.2
 | n,[],p=>by simp [aM]
 | n,x::xs,p=>by
  obtain ⟨t,s⟩:=p;simp only [aM,List.mem_cons,jQ,Prod.mk.injEq];constructor
  .rintro (⟨rfl,rfl⟩ | ⟨h1,h2⟩)
   .simp
   .refine ⟨by omega,?_⟩;rw [show t - n=(t - (n+1))+1 by omega];simpa using h2
  .rintro ⟨h1,h2⟩;by_cases e:t=n
   .subst e;simp at h2;exact .inl ⟨rfl,h2.symm⟩
   .right;refine ⟨by omega,?_⟩;rw [show t - n=(t - (n+1))+1 by omega] at h2;simpa using h2
theorem jk:∀ (n:Nat) (r:zz),dG (aM n r)
 | n,[]=>List.Pairwise.nil
 | n,x::xs=>by
  unfold dG aM;rw [List.pairwise_cons];exact ⟨fun p hp=>by have:=(jQ.mp hp).1;simp only;omega,jk (n+1) xs⟩
noncomputable def bQ (r:zz) (m:Meet):Bool:=m.all fun p=>decide (r[p.1]?=some p.2)
def lg :bQ r m=true↔∀ p∈m,r[p.1]?=some p.2:=by
 unfold bQ;simp [List.all_eq_true]
variable {k:Nat}
def aR :m∈among (aM 0 r) k↔m.length=k/\dG m/\bQ r m=true:=by
 rw [jc,lg];refine and_congr_right fun _=>and_congr_right fun _=>?_
 constructor
 .intro h p hp;simpa using (jQ.mp (h p hp)).2
 .intro h p hp;exact jQ.mpr ⟨yf _,by simpa using h p hp⟩
noncomputable def fG (acc:List Meet) (p:Nat × Nat):List Meet:=acc++acc.map fun m=>m++[p]
def subs (l:Meet):List Meet:=l.foldl fG [[]]
theorem DG:∀ {l:Meet}{acc:List Meet}{m:Meet},m∈l.foldl fG acc↔∃ a∈acc,∃ t,t.Sublist l/\m=a++t
 | [],acc,m=>by
  simp only [List.foldl_nil,List.sublist_nil];constructor
  .intro h;exact ⟨m,h,[],rfl,by simp⟩
  .rintro ⟨a,ha,t,rfl,rfl⟩;simpa using ha
 | p::l,acc,m=>by
  rw [List.foldl_cons,DG];constructor
  .rintro ⟨a,ha,t,ht,rfl⟩;unfold fG at ha;rcases yc.mp ha with ha | ha
   .exact ⟨a,ha,t,ht.cons p,rfl⟩
   .obtain ⟨b,hb,rfl⟩:=v8.mp ha;exact ⟨b,hb,p::t,ht.cons_cons p,by simp⟩
  .rintro ⟨a,ha,t,ht,rfl⟩;cases ht with
   | cons _ h=>exact ⟨a,by unfold fG;simp [ha],t,h,rfl⟩
   | cons_cons _ h =>
    rename_i t';exact ⟨a++[p],by unfold fG;simp [ha],t',h,by simp⟩
theorem rR:∀ {l m:Meet},dG l->dG m->(∀ p∈m,p∈l)->m.Sublist l
 | [],m,_,_,h=>by
  cases m with
  | nil=>exact List.Sublist.refl _
  | cons p m=>exact absurd (h p vE) (by simp)
 | q::l,[],_,_,_=>List.nil_sublist _
 | q::l,p::m,hl,hm,h=>by
  unfold dG at hl hm;rw [List.pairwise_cons] at hl hm;rcases z9.mp (h p vE) with rfl | hp
  .refine List.Sublist.cons_cons p (rR hl.2 hm.2 fun x hx=>?_);rcases z9.mp (h x (vz _ hx)) with rfl | h'
   .have:=hm.1 x hx;omega
   .exact h'
  .refine List.Sublist.cons q (rR hl.2 (List.pairwise_cons.mpr hm) fun x hx=>?_);rcases z9.mp (h x hx) with rfl | h'
   .exfalso;have h1:=hl.1 p hp;rcases z9.mp hx with rfl | hx
    .omega
    .have:=hm.1 x hx;omega
   .exact h'
def FN :m∈subs (aM 0 r)↔dG m/\bQ r m=true:=by
 unfold subs;rw [DG,lg];constructor
 .rintro ⟨a,ha,t,ht,rfl⟩;rw [List.mem_singleton.mp ha,List.nil_append];refine ⟨(jk 0 r).sublist ht,fun p hp=>?_⟩;simpa using (jQ.mp (ht.subset hp)).2
 .rintro ⟨h1,h2⟩;exact ⟨[],by simp,m,rR (jk 0 r) h1 fun p hp=>jQ.mpr ⟨yf _,by simpa using h2 p hp⟩,by simp⟩
theorem Ea:∀ (l:Meet) (acc:List Meet),(l.foldl fG acc).length=acc.length * 2 ^ l.length
 | [],acc=>by simp
 | p::l,acc=>by
  rw [List.foldl_cons,Ea];unfold fG;rw [List.length_append,List.length_map,List.length_cons,Nat.pow_succ,<- Nat.two_mul,Nat.mul_comm 2 acc.length,Nat.mul_assoc,Nat.mul_comm 2]
theorem cP:∀ (n:Nat) (r:zz),(aM n r).length=r.length
 | _,[]=>rfl
 | n,x::xs=>by simp [aM,cP (n+1) xs]
def sI (lv:zz) (m:Meet):Prop:=dG m/\∀ p∈m,∃ l,lv[p.1]?=some l/\p.2 < l
structure WB (lv:zz) (bs:List Meet):Prop where
 one:1<=lv.length
 four:lv.length<=4
 lv1:∀ (i l:Nat),lv[i]?=some l->1<=l/\l<=3
 lv2:∀ (i l:Nat),lv[i]?=some l->2<=i->l<=2
 nb:bs.length<=3
 ban:∀ b∈bs,sI lv b/\1<=b.length/\b.length<=3
def Bx (bs:List Meet) (r:zz):Bool:=!(bs.any fun b=>bQ r b)
def tests (lv:zz) (bs:List Meet):zv:=(rows lv).filter (Bx bs)
def allM (lv:zz) (k:Nat):List Meet:=among (dZ 0 lv) k
def oY :m∈allM lv k↔m.length=k/\sI lv m:=by
 unfold allM sI;rw [jc];refine and_congr_right fun _=>and_congr_right fun _=>?_
 constructor
 .intro h p hp;simpa using (jW.mp (h p hp)).2
 .intro h p hp;exact jW.mpr ⟨yf _,by simpa using h p hp⟩
theorem yN (lv:zz) (k:Nat):(allM lv k).Pairwise mLt:=pB (pN 0 lv) k
theorem Le:∀ {lv:zz}{n:Nat}{m:Meet},(∀ (i l:Nat),lv[i]?=some l->1<=l)->dG m->(∀ p∈m,n<=p.1/\∃ l,lv[p.1 - n]?=some l/\p.2 < l)->∃ r,gC lv r/\∀ p∈m,r[p.1 - n]?=some p.2
 | [],n,m,_,_,h=>⟨[],trivial,fun p hp=>by obtain ⟨_,l,e,_⟩:=h p hp;simp at e⟩
 | l::lv,n,m,h1,hr,h=>by
  have h1':∀ (i l:Nat),lv[i]?=some l->1<=l:=fun i l' e=>h1 (i+1) l' (by simpa using e)
  have go:∀ (m':Meet),dG m'->(∀ p∈m',p∈m/\n+1<=p.1)->∃ r,gC lv r/\∀ p∈m',r[p.1 - (n+1)]?=some p.2:=fun m' hr' hm'=>Le h1' hr' fun p hp=>by
   obtain ⟨hpm,hn⟩:=hm' p hp;obtain ⟨_,l',e,hl⟩:=h p hpm;rw [show p.1 - n=(p.1 - (n+1))+1 by omega] at e;exact ⟨hn,l',by simpa using e,hl⟩
  have up:∀ {r:zz}{x:Nat}{p:Nat × Nat},n+1<=p.1->r[p.1 - (n+1)]?=some p.2->(x::r)[p.1 - n]?=some p.2:=fun {r x p} hn e=>by
   rw [show p.1 - n=(p.1 - (n+1))+1 by omega];simpa using e
  cases m with
  | nil =>
   obtain ⟨r,q1,q2⟩:=go [] List.Pairwise.nil (by simp);exact ⟨0::r,⟨h1 0 l rfl,q1⟩,by simp⟩
  | cons p m =>
   unfold dG at hr;rw [List.pairwise_cons] at hr;by_cases e:p.1=n
   .obtain ⟨r,q1,q2⟩:=go m hr.2 fun q hq=>⟨vz _ hq,by have:=hr.1 q hq;omega⟩
    obtain ⟨_,l',e',hl⟩:=h p vE;rw [e,Nat.sub_self] at e';simp at e';subst e';refine ⟨p.2::r,⟨hl,q1⟩,fun q hq=>?_⟩;rcases z9.mp hq with rfl | hq
    .rw [e,Nat.sub_self];rfl
    .exact up (by have:=hr.1 q hq;omega) (q2 q hq)
   .have hall:∀ q∈p::m,n+1<=q.1:=fun q hq=>by
     have h0:=(h p vE).1;rcases z9.mp hq with rfl | hq
     .omega
     .have:=hr.1 q hq;omega
    obtain ⟨r,q1,q2⟩:=go (p::m) (List.pairwise_cons.mpr hr) fun q hq=>⟨hq,hall q hq⟩
    exact ⟨0::r,⟨h1 0 l rfl,q1⟩,fun q hq=>up (hall q hq) (q2 q hq)⟩
def TJ (h1:∀ (i l:Nat),lv[i]?=some l->1<=l) (h:sI lv m):∃ r∈rows lv,bQ r m=true:=by
 obtain ⟨r,q1,q2⟩:=Le (n:=0) h1 h.1 fun p hp=>⟨yf _,by simpa using h.2 p hp⟩
 exact ⟨r,pq.mpr q1,lg.mpr fun p hp=>by simpa using q2 p hp⟩
theorem Jo (hr:gC lv r) (h:dG m) (hm:bQ r m=true):sI lv m :=
 ⟨h,fun p hp=>hr.get' (lg.mp hm p hp)⟩
def aP (lv:zz) (bs:List Meet) (k:Nat):List Meet:=(allM lv k).filter fun m=>(tests lv bs).any fun t=>bQ t m
theorem bind_eq {α β:Type}{r:R α}{a:α} (h:r=.ok a) {f:α->R β}:(r >>= f)=f a:=by rw [h];rfl
def eBs (bs:List Meet):D:=.tup (bs.map eM)
theorem qD (r:zz):itemsOf .seq [au r]=.ok (r.map eN):=rfl
theorem qq (m:Meet):itemsOf .seq [eM m]=.ok (m.map eP):=rfl
theorem qP (bs:List Meet):itemsOf .seq [eBs bs]=.ok (bs.map eM):=rfl
theorem zq:∀ (n:Nat) (r:zz),aQ n (r.map eN)=(aM n r).map eP
 | _,[]=>rfl
 | n,x::xs=>by simp [aQ,aM,zq (n+1) xs,eP]
def qA (r:zz):itemsOf .enum [au r]=.ok ((aM 0 r).map eP):=by
 show R.ok (aQ 0 (r.map eN))=_
 rw [zq]
def qB (r:zz):fO .listEnum [au r]=.ok (.lst ((aM 0 r).map eP)):=by
 show R.ok (D.lst (aQ 0 (r.map eN)))=_
 rw [zq]
def jg (k:Nat) (h:k<=lim):itemsOf .rng [.int k]=.ok ((List.range k).map eN):=by
 show (if _ then _ else _)=_
 rw [if_pos ⟨by omega,by omega⟩];simp
theorem qr (r:zz):uY (au r)=.ok (.int r.length):=congrArg (fun n:Nat=>R.ok (D.int n)) (List.length_map eN)
def zL (r:Meet):uY (eM r)=.ok (.int r.length):=by simp [uY,eM]
def zM (enc:α->D) (l:List α):uY (.lst (l.map enc))=.ok (.int l.length):=by simp [uY]
def GR {s:Nat} (h:r.length < lim):mY (au r) (.tup [eN s])=.ok (au (r++[s])):=by
 simp only [mY,au,List.length_map,List.length_singleton];rw [if_pos (by omega)];simp
def PJ (h:m.length < lim):mY (eM m) (.tup [eP p])=.ok (eM (m++[p])):=by
 simp only [mY,eM,List.length_map,List.length_singleton];rw [if_pos (by omega)];simp
def Gw {α:Type}{enc:α->D}{l l':List α} (h:l.length+l'.length<=lim):mY (.lst (l.map enc)) (.lst (l'.map enc))=.ok (.lst ((l++l').map enc)):=by
 simp only [mY,List.length_map];rw [if_pos h];simp
def Ww {α:Type}{enc:α->D}{l l':List α} (h:l.length+l'.length<=lim):Ib (.lst (l.map enc)) (.lst (l'.map enc))=.ok (.lst ((l++l').map enc)):=by
 simp only [Ib,List.length_map];rw [if_pos h];simp
def xJ {α:Type}{enc:α->D}{l:List α}{a:α} (h:l.length < lim):yQ (.lst (l.map enc)) (enc a)=.ok (.lst ((l++[a]).map enc)):=by
 simp only [yQ,List.length_map];rw [if_pos h];simp
theorem zN (p:Nat × Nat):ixD (eP p) (.int 0)=.ok (eN p.1):=rfl
theorem zO (p:Nat × Nat):ixD (eP p) (.int 1)=.ok (eN p.2):=rfl
theorem zP (lv:zz) (bs:List Meet):ixD (eB lv bs) (.int 0)=.ok (au lv):=rfl
theorem zQ (lv:zz) (bs:List Meet):ixD (eB lv bs) (.int 1)=.ok (eBs bs):=rfl
variable {i:Nat}
def RN {x:Nat} (h:r[i]?=some x):ixD (au r) (.int (i:Int))=.ok (eN x):=by
 have hl:i < r.length:=(vV.mp h).1;simp only [au,ixD,ixN,List.length_map];rw [if_pos (by omega),if_pos (by omega)];simp [h]
def GQ {α:Type}{enc:α->D}{l:List α}{x:α} (h:l[i]?=some x):ixD (.lst (l.map enc)) (.int (i:Int))=.ok (enc x):=by
 have hl:i < l.length:=(vV.mp h).1;simp only [ixD,ixN,List.length_map];rw [if_pos (by omega),if_pos (by omega)];simp [h]
def Yz (h:m.getLast?=some q):ixD (eM m) (.int (-1))=.ok (eP q):=by
 obtain ⟨m',rfl⟩:=List.getLast?_eq_some_iff.mp h;simp only [eM,ixD,ixN,List.length_map,List.length_append,List.length_singleton];rw [if_neg (by omega),if_pos (by omega)];simp [show (-1+((m'.length:Int)+1)).toNat=m'.length by omega]
def zZ (a b:Int):bV .eq (.int a) (.int b)=.ok (decide (a=b)):=by
 have e:bV .eq (.int a) (.int b)=(if bW (.int a) (.int b)=true then R.ok (aG (.int a) (.int b)) else .stuck):=rfl;rw [e,if_pos (by simp [bW,dep,like])];congr 1
def tR (a b:Nat):decide ((a:Int)=(b:Int))=decide (a=b):=by
 by_cases h:a=b
 .subst h;simp
 .rw [decide_eq_false h,decide_eq_false (by omega)]
theorem vf {α:Type} (p:α->Bool):∀ l:List α,boolsOf (l.map fun a=>D.bl (p a))=some (l.map p)
 | []=>rfl
 | a::l=>by simp [boolsOf,vf p l]
def Gn (p:α->Bool) (l:List α):fO .all [.lst (l.map fun a=>D.bl (p a))]=.ok (.bl (l.all p)):=by
 rw [G9 (vf p l)];simp [List.all_map]
def abw (p:α->Bool) (l:List α):fO .any [.lst (l.map fun a=>D.bl (p a))]=.ok (.bl (l.any p)):=by
 rw [Jg (vf p l)];simp [List.any_map]
theorem jm {α β:Type}{f:α->List β}{k:Nat}:∀ (l:List α),(∀ a∈l,(f a).length<=k)->(l.flatMap f).length<=l.length * k
 | [],_=>by simp
 | a::l,h=>by
  have h1:=h a vE;have h2:=jm l fun b hb=>h b (vz _ hb)
  simp only [List.flatMap_cons,List.length_append,List.length_cons,Nat.succ_mul];omega
theorem mF (ps:List (Nat × Nat)):∀ k,(among ps k).length<=ps.length ^ k
 | 0=>by simp [among]
 | k+1=>by
  have h:=jm (f:=fun m=>(ps.filter (behind m)).map fun p=>m++[p]) (k:=ps.length) (among ps k) fun m _=>by rw [List.length_map];exact yo _ _
  have h2:=Nat.mul_le_mul_right ps.length (mF ps k);rw [Nat.pow_succ];exact ye h h2
noncomputable def M7:zv:=[1,2,3].flatMap fun a=>[a]::[1,2,3].flatMap fun b=>[a,b]::[1,2].flatMap fun c=>[a,b,c]::[1,2].map fun d=>[a,b,c,d]
theorem WB.mem {bs:List Meet} (h:WB lv bs):lv∈M7:=by
 have h1:=h.lv1;have h2:=h.lv2;have h3:=h.four;have h4:=h.one;have in3:∀ {x:Nat},1<=x/\x<=3->x∈[1,2,3]:=fun {x} hx=>by simp;omega
 have in2:∀ {x:Nat},1<=x->x<=2->x∈[1,2]:=fun {x} hx hy=>by simp;omega
 unfold M7;rcases lv with _ | ⟨a,_ | ⟨b,_ | ⟨c,_ | ⟨d,_ | ⟨e,es⟩⟩⟩⟩⟩
 .simp at h4
 .exact yB.mpr ⟨a,in3 (h1 0 a rfl),vE⟩
 .exact yB.mpr ⟨a,in3 (h1 0 a rfl),vz _ (yB.mpr ⟨b,in3 (h1 1 b rfl),vE⟩)⟩
 .exact yB.mpr ⟨a,in3 (h1 0 a rfl),vz _ (yB.mpr ⟨b,in3 (h1 1 b rfl),vz _ (yB.mpr ⟨c,in2 (h1 2 c rfl).1 (h2 2 c rfl (by omega)),vE⟩)⟩)⟩
 .exact yB.mpr ⟨a,in3 (h1 0 a rfl),vz _ (yB.mpr ⟨b,in3 (h1 1 b rfl),vz _ (yB.mpr ⟨c,in2 (h1 2 c rfl).1 (h2 2 c rfl (by omega)),vz _ (v8.mpr ⟨d,in2 (h1 3 d rfl).1 (h2 3 d rfl (by omega)),rfl⟩)⟩)⟩)⟩
 .simp at h3
def oV:∀ lv∈M7,prod lv<=36/\(dZ 0 lv).length<=10/\(allM lv 1).length < 64/\(allM lv 2).length < 64/\(allM lv 3).length < 64:=by decide +kernel
theorem qS {γ:Type} (x:R α) (f:α->R β) (g:β->R γ):((x >>= f) >>= g)=(x >>= fun a=>f a >>= g):=by cases x <;> rfl
theorem zV (a b:Int):bV .lt (.int a) (.int b)=.ok (decide (a < b)):=rfl
theorem zW (a b:Int):bV .le (.int a) (.int b)=.ok (decide (a<=b)):=rfl
theorem zX (a b:Int):bV .gt (.int a) (.int b)=.ok (decide (b < a)):=rfl
theorem zY (a b:Int):bV .ge (.int a) (.int b)=.ok (decide (b<=a)):=rfl
theorem qM (c:M) (b:Bool):vP c (.bl b)=.ok b:=rfl
theorem qN (e:M) (t:Tg) (k:IK) (s:List M) (h:Bool) (c:M) (p:List Bool) (ds:List D):vP (.comp e t k s h c p) (.lst ds)=.ok (!ds.isEmpty):=rfl
theorem qg (a b:D):jO .add a b=mY a b:=rfl
theorem we (a b:Int):mY (.int a) (.int b)=.ok (.int (a+b)):=rfl
theorem zB (a b:Int):jO .sub (.int a) (.int b)=.ok (.int (a - b)):=rfl
def Gm {a b:Int} (h:j9 a=true\/j9 b=true):jO .mul (.int a) (.int b)=.ok (.int (a * b)):=by
 show (if (j9 a || j9 b)=true then _ else _)=_
 rw [if_pos (by simpa using h)]
def Gy {a b:Int} (h:0 < b):jO .mod (.int a) (.int b)=.ok (.int (a % b)):=by
 show (if 0 < b then _ else _)=_
 rw [if_pos h]
theorem qh (d:D):fO .len [d]=uY d:=rfl
theorem qi (a b:Int):fO .min2 [.int a,.int b]=.ok (.int (if b < a then b else a)):=rfl
theorem qC (d:D):fO .sorted [d]=jh d:=rfl
theorem qO (l:List D):fO .tuple [.lst l]=.ok (.tup l):=rfl
theorem qj (x:Int):kO (.int x) .int=true:=rfl
theorem qk (x:Int):kO (.int x) .bool=false:=rfl
theorem qm (x:List D):kO (.tup x) .tuple=true:=rfl
theorem qp (x:List D):kO (.lst x) .list=true:=rfl
theorem qE (ds:List D):itemsOf .seq [.lst ds]=.ok ds:=rfl
theorem iH {α β:Type} (f:α->β):∀ l:List α,l.flatMap (fun k=>[f k])=l.map f
 | []=>rfl
 | a::l=>by simp [iH f l]
structure CEnc {α:Type} (enc:α->D):Prop where
 inj:∀ a b,enc a=enc b->a=b
 kok:∀ (ks:List α) a,kOk (ks.map enc) (enc a)=true
 lf:∀ a,lfD (enc a)=true
theorem zx {α:Type}{enc:α->D} (h:∀ a,lfD (enc a)=true):∀ l:List α,yZ (l.map enc)=true
 | []=>rfl
 | a::l=>by simp only [List.map_cons,yZ,h a,zx h l,Bool.and_self]
theorem uZ:CEnc eM:=⟨kE.inj,BK,Ut⟩
section
variable {α:Type} [DecidableEq α] {enc:α->D}
noncomputable def eC (enc:α->D) (ks:List α) (c:α->Int):D:=.dct (ks.map enc) (ks.map fun m=>.int (c m))
theorem CK (E:CEnc enc) (c:α->Int) (m:α):∀ ks:List α,cY (ks.map enc) (ks.map fun m=>.int (c m)) (enc m)=if m∈ks then some (.int (c m)) else none
 | []=>rfl
 | x::ks=>by
  simp only [List.map_cons,cY];by_cases h:x=m
  .subst h;simp
  .rw [if_neg fun z=>h (E.inj _ _ z),CK E c m ks];have:m≠x:=fun z=>h z.symm
   simp [this]
theorem aaT (E:CEnc enc) (ks:List α) (c:α->Int) (m:α):ud (eC enc ks c) (enc m) (.int 0)=.ok (.int (if m∈ks then c m else 0)):=by
 have e:ud (eC enc ks c) (enc m) (.int 0)=.ok ((cY (ks.map enc) (ks.map fun m=>.int (c m)) (enc m)).getD (.int 0)):=if_pos (E.kok ks m);rw [e,CK E];split <;> rfl
def aaK (E:CEnc enc) {ks:List α}{c:α->Int}{m:α} (h:m∈ks):ixD (eC enc ks c) (enc m)=.ok (.int (c m)):=by
 have e:ixD (eC enc ks c) (enc m)=(match cY (ks.map enc) (ks.map fun m=>.int (c m)) (enc m) with | some d=>.ok d | none=>.stuck):=if_pos (E.kok ks m);rw [e,CK E,if_pos h]
noncomputable def rM (c:α->Int) (m:α) (v:Int):α->Int:=fun x=>if x=m then v else c x
def W0 (E:CEnc enc) {ks:List α} (c:α->Int) (m:α) (v:Int) (h:ks.length < lim):tQ (eC enc ks c) (enc m) (.int v)=.ok (eC enc (cG ks m) (rM c m v)):=by
 refine Te ?_ rfl (E.lf m);have hk:=E.kok ks m;simp only [eC,putD,List.length_map];rw [if_pos ⟨hk,h,trivial⟩];have hm:enc m∈ks.map enc↔m∈ks:=⟨fun z=>by obtain ⟨a,ha,e⟩:=v8.mp z;rw [E.inj _ _ e] at ha;exact ha,fun z=>v8.mpr ⟨m,z,rfl⟩⟩;unfold cG iY;by_cases hmem:m∈ks
 .rw [if_pos (hm.mpr hmem),if_pos hmem];have:((ks.map enc).zip (ks.map fun m=>D.int (c m))).map (fun p=>if p.1=enc m then D.int v else p.2)=ks.map fun x=>D.int (rM c m v x):=by
   refine List.ext_getElem (by simp) fun i h1 h2=>?_
   simp only [List.getElem_map,List.getElem_zip,rM];by_cases e:ks[i]'(by simpa using h2)=m
   .rw [if_pos (by rw [e]),if_pos e]
   .rw [if_neg fun z=>e (E.inj _ _ z),if_neg e]
  rw [this]
 .rw [if_neg fun z=>hmem (hm.mp z),if_neg hmem];have:ks.map (fun x=>D.int (c x))=ks.map fun x=>D.int (rM c m v x):=by
   refine List.map_congr_left fun x hx=>?_
   have:x≠m:=fun z=>hmem (z ▸ hx)
   simp [rM,this]
  simp [this,rM]
def eT (enc:α->D) (l:List α):D:=eC enc (l.foldl cG []) fun m=>(l.count m:Int)
def vo {l:List α}{m:α}:m∈l.foldl cG []↔m∈l:=by rw [mQ];simp
theorem aaC (E:CEnc enc) (l:List α) (m:α):ud (eT enc l) (enc m) (.int 0)=.ok (.int (l.count m:Int)):=by
 unfold eT;rw [aaT E];congr 2;split
 .rfl
 .rename_i h;rw [vo] at h;rw [List.count_eq_zero_of_not_mem h];rfl
def ab4 (E:CEnc enc) {l:List α}{m:α} (h:l.length < lim):tQ (eT enc l) (enc m) (.int ((l.count m:Int)+1))=.ok (eT enc (l++[m])):=by
 have hl:=mH l [];simp only [List.length_nil] at hl;unfold eT;rw [W0 E _ _ _ (by omega),List.foldl_append];congr 2;funext x;unfold rM;by_cases e:x=m
 .subst e;simp
 .have e':m≠x:=fun z=>e z.symm
  simp [e,e',List.count_append,List.count_singleton]
def acL (h:∀ a,ndD (enc a)=true) (ks:List α) (c:α->Int):ndC (eC enc ks c)=true:=by
 show (iu (ks.map enc) && iu (ks.map fun m=>.int (c m)))=true
 induction ks with
 | nil=>rfl
 | cons a ks ih=>rw [List.map_cons,List.map_cons,iu,iu,h a];simpa [ndD] using ih
end
theorem zip_map:∀ (a b:zz),rT (a.map eN) (b.map eN)=(a.zip b).map eP
 | [],b=>by cases b <;> rfl
 | x::a,[]=>rfl
 | x::a,y::b=>by simp only [List.map_cons,rT,List.zip_cons_cons,zip_map a b];rfl
theorem Qo (a b:zz):itemsOf .zip [au a,au b]=.ok ((a.zip b).map eP):=by
 rw [<- zip_map];rfl
def eAt (ts:zv) (i:Nat):D:=.tup [.int (i:Int),au (ts.getD i [])]
theorem Wx:∀ (n:Nat) (ts:zv),aQ n (ts.map au)=(List.range ts.length).map fun i=>.tup [.int ((n+i:Nat):Int),au (ts.getD i [])]
 | n,[]=>rfl
 | n,t::ts=>by
  rw [List.map_cons,aQ,Wx (n+1) ts,List.length_cons,List.range_succ_eq_map,List.map_cons,List.map_map];congr 1;refine List.map_congr_left fun i _=>?_
  simp only [Function.comp,List.getD_cons_succ];congr 4;omega
theorem KR (ts:zv):itemsOf .enum [.lst (ts.map au)]=.ok ((List.range ts.length).map (eAt ts)):=by
 have:=Wx 0 ts;simp only [Nat.zero_add] at this;show R.ok _=_
 rw [this];rfl
theorem Ov (ts:zv):itemsOf .rev [.lst (ts.map au)]=.ok (ts.reverse.map au):=by rw [List.map_reverse];rfl
theorem RZ (enc:α->D) (ts:List α):fO .listRev [.lst (ts.map enc)]=.ok (.lst (ts.reverse.map enc)):=by rw [List.map_reverse];rfl
abbrev mOf (k:Nat) (t:zz):List Meet:=among (aM 0 t) k
def pU (k:Nat) (t:zz):(mOf k t).Nodup:=by
 have h:(aM 0 t).Pairwise pLt:=(jk 0 t).imp fun h=>.inl h
 exact (pB h k).imp fun h=>P0 h
def gG (k:Nat) (ts:zv) (m:Meet):Nat:=(ts.flatMap (mOf k)).count m
def HY (k:Nat) (a b:zv) (t:zz) (m:Meet):gG k (a++t::b) m=gG k (a++b) m+(if m∈mOf k t then 1 else 0):=by
 unfold gG;simp only [List.flatMap_append,List.flatMap_cons,List.count_append];have:(mOf k t).count m=if m∈mOf k t then 1 else 0:=by
  split
  .rename_i h;have h1:=List.count_pos_iff.mpr h;have h2:=List.nodup_iff_count.mp (pU k t) m;omega
  .rename_i h;exact List.count_eq_zero_of_not_mem h
 omega
variable {ts:zv}
def Wm :0 < gG k ts m↔∃ u∈ts,m∈mOf k u:=by
 unfold gG;rw [List.count_pos_iff,List.mem_flatMap]
def cV (k:Nat) (t:zz) (os:zv):Bool:=(mOf k t).all fun m=>os.any fun u=>bQ u m
def GJ (k:Nat) (a b:zv) (t:zz):((mOf k t).all fun m=>decide ((1:Int) < (gG k (a++t::b) m:Int)))=cV k t (a++b):=by
 unfold cV;rw [Bool.eq_iff_iff,List.all_eq_true,List.all_eq_true];refine forall_congr' fun m=>forall_congr' fun hm=>?_
 rw [HY,if_pos hm,decide_eq_true_eq,List.any_eq_true];have h0:=aR.mp hm;have:(1:Int) < ((gG k (a++b) m+1:Nat):Int)↔0 < gG k (a++b) m:=by omega
 rw [this,Wm];refine exists_congr fun u=>and_congr_right fun _=>?_
 rw [aR];exact ⟨fun h=>h.2.2,fun h=>⟨h0.1,h0.2.1,h⟩⟩
def uJ (ps:List Meet) (ts:zv):List Meet:=ps.filter fun m=>!(ts.any fun t=>bQ t m)
def cW (k:Nat):zv->zv->zv
 | kept,[]=>kept
 | kept,t::rest=>if cV k t (kept++rest) then cW k kept rest else cW k (kept++[t]) rest
def nM (k:Nat) (ts:zv) (i:Nat):Bool:=cV k (ts.getD i []) (ts.take i++ts.drop (i+1))
def Ht (h:i < ts.length):ts=ts.take i++ts.getD i []::ts.drop (i+1):=by
 have e:ts.getD i []=ts[i]:=by simp [List.getD,h]
 rw [e,List.getElem_cons_drop,List.take_append_drop]
def Ur (h:i < ts.length):((mOf k (ts.getD i [])).all fun m=>decide ((1:Int) < (gG k ts m:Int)))=nM k ts i:=by
 have:=GJ k (ts.take i) (ts.drop (i+1)) (ts.getD i []);rw [<- Ht h] at this;exact this
def GK (k:Nat) (t:zz) (a b:zv):cV k t (b.reverse++a.reverse)=cV k t (a++b):=by
 unfold cV;simp only [List.any_append,List.any_reverse,Bool.or_comm]
noncomputable def eGr {α:Type} (enc:α->D) (ks:List α) (f:α->List D):D:=.dct (ks.map enc) (ks.map fun a=>.lst (f a))
structure KEnc {α:Type} (enc:α->D):Prop where
 inj:∀ a b,enc a=enc b->a=b
 kok:∀ (ks:List α) a,kOk (ks.map enc) (enc a)=true
theorem aaX:KEnc eM:=⟨kE.inj,BK⟩
section
variable {α:Type} [DecidableEq α] {enc:α->D}
theorem JD (K:KEnc enc) (f:α->List D) (a:α):∀ ks:List α,cY (ks.map enc) (ks.map fun a=>.lst (f a)) (enc a)=if a∈ks then some (.lst (f a)) else none
 | []=>rfl
 | x::ks=>by
  simp only [List.map_cons,cY];by_cases h:x=a
  .subst h;simp
  .rw [if_neg fun z=>h (K.inj _ _ z),JD K f a ks];have:a≠x:=fun z=>h z.symm
   simp [this]
noncomputable def vR (f:α->List D) (a:α) (d:D):α->List D:=fun x=>if x=a then f a++[d] else f x
def aaz (K:KEnc enc) {ks:List α}{f:α->List D}{a:α}{d:D} (h:ks.length < lim) (hf:a ∉ ks->f a=[]) (hl:(f a).length < lim):zm (eGr enc ks f) (enc a) d=.ok (eGr enc (cG ks a) (vR f a d)):=by
 have hm:enc a∈ks.map enc↔a∈ks:=⟨fun z=>by obtain ⟨b,hb,e⟩:=v8.mp z;rw [K.inj _ _ e] at hb;exact hb,fun z=>v8.mpr ⟨a,z,rfl⟩⟩;simp only [eGr,zm,List.length_map];rw [if_pos ⟨K.kok ks a,h,trivial⟩,JD K];unfold cG;by_cases hmem:a∈ks
 .rw [if_pos hmem,if_pos hmem];show (if (f a).length < lim then R.ok _ else .stuck)=_
  rw [if_pos hl];unfold iY;rw [if_pos (hm.mpr hmem)];congr 2;refine List.ext_getElem (by simp) fun i h1 h2=>?_
  simp only [List.getElem_map,List.getElem_zip,vR];by_cases e:ks[i]'(by simpa using h2)=a
  .rw [if_pos (by rw [e]),if_pos e]
  .rw [if_neg fun z=>e (K.inj _ _ z),if_neg e]
 .rw [if_neg hmem,if_neg hmem];have e1:ks.map (fun x=>D.lst (f x))=ks.map fun x=>D.lst (vR f a d x):=by
   refine List.map_congr_left fun x hx=>?_
   have:x≠a:=fun z=>hmem (z ▸ hx)
   simp [vR,this]
  rw [List.map_append,List.map_append,e1];simp [vR,hf hmem]
end
structure GrOk {α β:Type} [DecidableEq α] (κ:β->α) (w:β->D) (ds:List β) (s:List α × (α->List D)):Prop where
 ks:s.1=(ds.map κ).foldl cG []
 fn:∀ a,s.2 a=(ds.filter fun x=>decide (κ x=a)).map w
section
variable {α β:Type} [DecidableEq α] {κ:β->α}{w:β->D}
def mC (κ:β->α) (w:β->D) (s:List α × (α->List D)) (x:β):List α × (α->List D):=(cG s.1 (κ x),vR s.2 (κ x) (w x))
theorem GrOk.nil:GrOk κ w [] ([],fun _=>[]):=⟨rfl,fun _=>rfl⟩
theorem GrOk.step {ds:List β}{s:List α × (α->List D)} (h:GrOk κ w ds s) (x:β):GrOk κ w (ds++[x]) (mC κ w s x):=by
 refine ⟨?_,fun a=>?_⟩
 .rw [List.map_append,List.foldl_append,<- h.ks];rfl
 .show vR s.2 (κ x) (w x) a=_
  unfold vR;rw [List.filter_append,List.map_append,h.fn,h.fn];by_cases e:a=κ x
  .subst e;rw [if_pos rfl];simp
  .rw [if_neg e];have:¬ κ x=a:=fun z=>e z.symm
   simp [this]
theorem GrOk.mem {ds:List β}{s:List α × (α->List D)} (h:GrOk κ w ds s) {a:α}:a∈s.1↔∃ x∈ds,κ x=a:=by
 rw [h.ks,mQ];simp
theorem GrOk.out {ds:List β}{s:List α × (α->List D)} (h:GrOk κ w ds s) {a:α} (hn:a ∉ s.1):s.2 a=[]:=by
 rw [h.fn];have:(ds.filter fun x=>decide (κ x=a))=[]:=by
  rw [List.filter_eq_nil_iff];intro x hx e;exact hn (h.mem.mpr ⟨x,hx,by simpa using e⟩)
 rw [this];rfl
theorem IV:∀ (ks acc:List α),(ks.foldl cG acc).length<=acc.length+ks.length
 | [],acc=>by simp
 | k::ks,acc=>by
  have h1:=IV ks (cG acc k);have h2:=uH acc k;simp only [List.foldl_cons,List.length_cons];omega
theorem GrOk.len {ds:List β}{s:List α × (α->List D)} (h:GrOk κ w ds s):s.1.length<=ds.length:=by
 have:=IV (ds.map κ) [];rw [h.ks];simpa using this
theorem GrOk.flen {ds:List β}{s:List α × (α->List D)} (h:GrOk κ w ds s) (a:α):(s.2 a).length<=ds.length:=by
 rw [h.fn,List.length_map];exact yo _ _
theorem GrOk.sda {enc:α->D} (K:KEnc enc) {ds:List β}{s:List α × (α->List D)} (h:GrOk κ w ds s) (x:β) (hl:ds.length < lim):zm (eGr enc s.1 s.2) (enc (κ x)) (w x)=.ok (eGr enc (mC κ w s x).1 (mC κ w s x).2):=by
 have h1:=h.len;have h2:=h.flen (κ x);exact aaz K (by omega) h.out (by omega)
theorem Cp {enc:α->D} (K:KEnc enc) {e:β->D}{f:D->D->R D}:∀ (ds done:List β) (s:List α × (α->List D)),GrOk κ w done s->done.length+ds.length < lim->(∀ x∈ds,∀ ks g,f (e x) (eGr enc ks g)=zm (eGr enc ks g) (enc (κ x)) (w x))->GrOk κ w (done++ds) (ds.foldl (mC κ w) s)/\nD f (ds.map e) (eGr enc s.1 s.2)=.ok (eGr enc (ds.foldl (mC κ w) s).1 (ds.foldl (mC κ w) s).2)
 | [],done,s,hs,_,_=>⟨by rw [List.append_nil];exact hs,rfl⟩
 | x::ds,done,s,hs,hl,h=>by
  simp only [List.length_cons] at hl;obtain ⟨h1,h2⟩:=Cp K ds (done++[x]) _ (hs.step x) (by simp only [List.length_append,List.length_singleton];omega) fun y hy=>h y (vz _ hy)
  rw [List.append_assoc] at h1;refine ⟨h1,?_⟩;rw [List.map_cons,nD,h x List.mem_cons_self,hs.sda K x (by omega),qT];exact h2
end
def plc (m:Meet):Nat->zv->zz
 | _,[]=>[]
 | n,t::ts=>if bQ t m then n::plc m (n+1) ts else plc m (n+1) ts
theorem Vc (t:zz) (k:Nat):(among (aM 0 t) k).Nodup:=pU k t
theorem KZ (ds:List D):itemsOf .enum [.lst ds]=.ok (aQ 0 ds):=rfl
def mxL:List Int->Int
 | []=>0
 | a::l=>mxI a l
theorem aay:∀ (l:List Int) (b:Int),b<=mxI b l/\∀ a∈l,a<=mxI b l
 | [],b=>⟨Int.le_refl _,fun a h=>by cases h⟩
 | c::l,b=>by
  have ih:=aay l (if b < c then c else b);rw [mxI];by_cases hb:b < c
  .rw [if_pos hb] at ih ⊢;refine ⟨by omega,fun a ha=>?_⟩;rcases z9.mp ha with rfl | ha
   .exact ih.1
   .exact ih.2 a ha
  .rw [if_neg hb] at ih ⊢;refine ⟨ih.1,fun a ha=>?_⟩;rcases z9.mp ha with rfl | ha
   .omega
   .exact ih.2 a ha
theorem LR:∀ (l:List Int) (b:Int),mxI b l=b\/mxI b l∈l
 | [],b=>.inl rfl
 | c::l,b=>by
  have ih:=LR l (if b < c then c else b);rw [mxI];by_cases hb:b < c
  .rw [if_pos hb] at ih ⊢;rcases ih with h | h
   .exact .inr (by rw [h];exact vE)
   .exact .inr (vz _ h)
  .rw [if_neg hb] at ih ⊢;rcases ih with h | h
   .exact .inl h
   .exact .inr (vz _ h)
variable {l:List Int}
def Yg (h:l≠[]):mxL l∈l:=by
 cases l with
 | nil=>exact absurd rfl h
 | cons b l =>
  rcases LR l b with e | e
  .show mxI b l∈b::l
   rw [e];exact vE
  .exact vz _ e
theorem ints_map:∀ l:List Int,intsOf (l.map D.int)=some l
 | []=>rfl
 | i::l=>by rw [List.map_cons,intsOf,ints_map l];rfl
theorem RD (h:l≠[]):xq (.lst (l.map D.int))=.ok (.int (mxL l)):=by
 show (match intsOf (l.map D.int) with | some (i::is)=>R.ok (D.int (mxI i is)) | _=>.stuck)=_
 rw [ints_map];cases l with
 | nil=>exact absurd rfl h
 | cons b l=>rfl
def Rv (l:List Int):GD 0 (.lst (l.map D.int))=.ok (.int (mxL l)):=by
 cases l with
 | nil=>rfl
 | cons b l=>exact RD (by simp)
def acf {k:Int}{j:Nat} (h:l.findIdx? (fun a=>decide (a=k))=some j):O9 (.lst (l.map D.int)) (.int k)=.ok (.int j):=by
 show (match intsOf (l.map D.int) with | some is=>(match is.findIdx? (fun a=>decide (a=k)) with | some j=>R.ok (D.int j) | none=>.stuck) | none=>.stuck)=_
 rw [ints_map];show (match l.findIdx? (fun a=>decide (a=k)) with | some j=>R.ok (D.int j) | none=>.stuck)=_
 rw [h]
theorem yH {α:Type} [DecidableEq α] {P:α->Bool}:∀ {R:List α}{j:Nat},R.findIdx? P=some j->∃ p,R[j]?=some p/\R.find? P=some p/\(R.Nodup->R.eraseIdx j=R.filter fun i=>decide (i≠p))
 | [],j,h=>by simp at h
 | r::R,j,h=>by
  rw [List.findIdx?_cons] at h;by_cases hr:P r=true
  .rw [if_pos hr] at h;cases h;refine ⟨r,rfl,by rw [List.find?_cons_of_pos hr],fun hn=>?_⟩;rw [List.nodup_cons] at hn;show R=_
   rw [List.filter_cons,if_neg (by simp)];refine (List.filter_eq_self.mpr fun i hi=>?_).symm;simp only [decide_eq_true_eq];rintro rfl;exact hn.1 hi
  .rw [if_neg hr] at h;cases e:R.findIdx? P with
   | none=>rw [e] at h;cases h
   | some i =>
    rw [e] at h;cases h;obtain ⟨p,h1,h2,h3⟩:=yH e;refine ⟨p,by simpa using h1,by rw [List.find?_cons_of_neg hr];exact h2,fun hn=>?_⟩;rw [List.nodup_cons] at hn;rw [List.eraseIdx_cons_succ,h3 hn.2,List.filter_cons,if_pos ?_];simp only [decide_eq_true_eq];rintro rfl;exact hn.1 (List.mem_of_getElem? h1)
def c7 (us:zv) (m:Meet):Bool:=!(us.any fun u=>bQ u m)
def gA (k:Nat) (A:Meet->Bool) (t:zz):Int:=(((mOf k t).filter A).length:Nat)
abbrev gN (k:Nat) (us:zv) (t:zz):Int:=gA k (c7 us) t
def uI (us:zv) (t:zz) (m:Meet):c7 (us++[t]) m=(c7 us m && !bQ t m):=by
 unfold c7;rw [List.any_append,Bool.not_or];simp
def Zb (k:Nat) (us:zv) (t x:zz):gN k (us++[t]) x<=gN k us x:=by
 have e:((mOf k x).filter (c7 (us++[t])))=((mOf k x).filter (c7 us)).filter fun m=>!bQ t m:=by
  rw [List.filter_filter];exact List.filter_congr fun m _=>by rw [uI,Bool.and_comm]
 have:=yo (fun m=>!bQ t m) ((mOf k x).filter (c7 us));unfold gN gA;rw [e];omega
theorem Xk (k:Nat) (us:zv) (t:zz):gN k (us++[t]) t=0:=by
 have e:(mOf k t).filter (c7 (us++[t]))=[]:=by
  rw [List.filter_eq_nil_iff];intro m hm;rw [uI,(aR.mp hm).2.2];simp
 unfold gN gA;rw [e];rfl
def abB (k:Nat) (us:zv) (t:zz):0<=gN k us t:=by unfold gN gA;omega
variable {n:Nat}
def O6 {taken:zz}{p:Nat}:(((List.range n).filter fun i=>!decide (i∈taken)).filter fun i=>decide (i≠p))=(List.range n).filter fun i=>!decide (i∈taken++[p]):=by
 rw [List.filter_filter];refine List.filter_congr fun i _=>?_
 rw [Bool.eq_iff_iff];simp;constructor
 .rintro ⟨a,b⟩;exact ⟨b,a⟩
 .rintro ⟨a,b⟩;exact ⟨b,a⟩
def map_getD (ts:zv)  (f:zz->β):(List.range ts.length).map (fun i=>f (ts.getD i []))=ts.map f:=by
 apply List.ext_getElem
 .simp
 .intro i h1 h2;simp only [List.length_map] at h2;simp [h2]
noncomputable def fu (A:Meet->Bool) (m:Meet):Meet->Bool:=fun x=>A x && decide (x≠m)
def Tj {A:Meet->Bool} (t:zz):gA k (fu A m) t=if A m && decide (m∈mOf k t) then gA k A t - 1 else gA k A t:=by
 have key:∀ l:List Meet,l.Nodup->(((l.filter (fu A m)).length:Nat):Int)=if A m && decide (m∈l) then (((l.filter A).length:Nat):Int) - 1 else (((l.filter A).length:Nat):Int):=by
  intro l;induction l with
  | nil=>intro _;simp
  | cons x l ih =>
   intro hn;rw [List.nodup_cons] at hn;have ih:=ih hn.2;by_cases e:x=m
   .subst e;have h0:decide (x∈l)=false:=by simpa using hn.1
    rw [h0,Bool.and_false,if_neg (by decide)] at ih;have h1:(x::l).filter (fu A x)=l.filter (fu A x):=by
     rw [List.filter_cons,if_neg (by simp [fu])]
    rw [h1,ih,List.filter_cons];cases hA:A x
    .simp
    .simp
   .have h1:decide (m∈x::l)=decide (m∈l):=by
     rw [Bool.eq_iff_iff];simp [Ne.symm e]
    have h2:fu A m x=A x:=by simp [fu,e]
    rw [h1,List.filter_cons,List.filter_cons,h2];cases hA:A x
    .simp only [Bool.false_eq_true,if_false];exact ih
    .simp only [if_true,List.length_cons];split at ih <;> rename_i hc
     .rw [if_pos hc];omega
     .rw [if_neg hc];omega
 exact key (mOf k t) (pU k t)
noncomputable def vJ (g:List Int) (p:Nat):List Int:=g.set p (g.getD p 0 - 1)
theorem Lp (m:Meet) (h:zz->Int):∀ (ts:zv) (pre:List Int),(plc m pre.length ts).foldl vJ (pre++ts.map h)=pre++ts.map (fun t=>if bQ t m then h t - 1 else h t)
 | [],pre=>by rw [plc];rfl
 | t::ts,pre=>by
  have ih:=fun x:Int=>Lp m h ts (pre++[x])
  simp only [List.length_append,List.length_singleton,List.append_assoc,List.singleton_append] at ih;rw [plc,List.map_cons,List.map_cons];by_cases e:bQ t m=true
  .rw [if_pos e,if_pos e,List.foldl_cons];have:vJ (pre++h t::ts.map h) pre.length=pre++(h t - 1)::ts.map h:=by
    unfold vJ;rw [List.set_append_right _ _ (Nat.le_refl _)];simp
   rw [this];exact ih _
  .rw [if_neg e,if_neg e];exact ih _
theorem Qx (m:Meet):∀ (ts:zv) (n:Nat),∀ p∈plc m n ts,p < n+ts.length
 | [],n,p,h=>by cases h
 | t::ts,n,p,h=>by
  rw [plc] at h;have ih:=Qx m ts (n+1);rw [List.length_cons];split at h
  .rcases z9.mp h with rfl | h
   .omega
   .have:=ih p h;omega
  .have:=ih p h;omega
def U7 (g:List Int) (p:Nat):(vJ g p).length=g.length:=by unfold vJ;rw [List.length_set]
def Lr (h:i < n):ixN n (i:Int)=some i:=by
 unfold ixN;rw [if_pos (by omega),if_pos (by omega)];simp
variable {g:List Int}
def acn (h:i < g.length):ixD (.lst (g.map D.int)) (.int (i:Int))=.ok (.int (g.getD i 0)):=by
 show (match ixN (g.map D.int).length (i:Int) with | some k=>(match (g.map D.int)[k]? with | some d=>R.ok d | none=>.stuck) | none=>.stuck)=_
 rw [List.length_map,Lr h];show (match (g.map D.int)[i]? with | some d=>R.ok d | none=>.stuck)=_
 rw [List.getElem?_map,List.getElem?_eq_getElem h];simp [h]
def aa8 {v:Int} (h:i < g.length):tQ (.lst (g.map D.int)) (.int (i:Int)) (.int v)=.ok (.lst ((g.set i v).map D.int)):=by
 show (match ixN (g.map D.int).length (i:Int) with | some j=>(if lfD (.int v)=true then R.ok (D.lst ((g.map D.int).set j (.int v))) else .stuck) | none=>.stuck)=_
 rw [List.length_map,Lr h];show (if lfD (.int v)=true then R.ok (D.lst ((g.map D.int).set i (.int v))) else .stuck)=_
 rw [if_pos (show lfD (.int v)=true from rfl),List.map_set]
theorem Xl {f:Meet->List D} (hn:ks.Nodup) (m:Meet):Gs (eGr eM ks f) (eM m)=.ok (.lst (if m∈ks then f m else []),eGr eM (ks.filter fun x=>decide (x≠m)) f):=by
 show (if kOk (ks.map eM) (eM m)=true/\(ks.map eM).length=(ks.map fun a=>D.lst (f a)).length then (match (ks.map eM).findIdx? (fun c=>decide (c=eM m)) with
   | some j=>(match (ks.map fun a=>D.lst (f a))[j]? with | some v=>R.ok (v,D.dct ((ks.map eM).eraseIdx j) ((ks.map fun a=>D.lst (f a)).eraseIdx j)) | none=>.stuck)
   | none=>R.ok (D.lst [],D.dct (ks.map eM) (ks.map fun a=>D.lst (f a)))) else .stuck)=_
 rw [if_pos ⟨BK ks m,by simp⟩];have e:(ks.map eM).findIdx? (fun c=>decide (c=eM m))=ks.findIdx? (fun x=>decide (x=m)):=by
  rw [List.findIdx?_map];congr 1;funext x;show decide (eM x=eM m)=decide (x=m)
  rw [Bool.eq_iff_iff];simp only [decide_eq_true_eq];exact ⟨kE.inj _ _,fun h=>by rw [h]⟩
 rw [e];cases hj:ks.findIdx? (fun x=>decide (x=m)) with
 | none =>
  have hno:m ∉ ks:=fun h=>by
   have:=List.findIdx?_eq_none_iff.mp hj m h;simp at this
  rw [if_neg hno];have ef:ks.filter (fun x=>decide (x≠m))=ks:=List.filter_eq_self.mpr fun x hx=>by
   simp only [decide_eq_true_eq];rintro rfl;exact hno hx
  rw [ef];rfl
 | some j =>
  obtain ⟨p,h1,h2,h3⟩:=yH hj;have ep:p=m:=by have:=List.find?_some h2;simpa using this
  subst ep;rw [if_pos (List.mem_of_getElem? h1)];show (match (ks.map fun a=>D.lst (f a))[j]? with | some v=>R.ok (v,D.dct ((ks.map eM).eraseIdx j) ((ks.map fun a=>D.lst (f a)).eraseIdx j)) | none=>.stuck)=_
  rw [List.getElem?_map,h1];show R.ok (D.lst (f p),D.dct ((ks.map eM).eraseIdx j) ((ks.map fun a=>D.lst (f a)).eraseIdx j))=_
  rw [jd,jd,h3 hn];rfl
theorem zT (a b:D):bV .notin a b=(inD a b >>= fun r=>R.ok (!r)):=rfl
theorem qR (d:D):fO .maxl [d]=xq d:=rfl
theorem qF (ks vs:List D):fO .list [.dct ks vs]=.ok (.lst ks):=rfl
theorem abT {enc:α->D} (l:List α):Og (.lst (l.map enc))=.ok (.lst (l.reverse.map enc)):=by rw [List.map_reverse];rfl
theorem zU (a b:D):Dm (.tup [a,b])=.ok (a,b):=rfl
end Mi
set_option maxHeartbeats 1000000
namespace L2
open PySem PySem.Spec PyProof.Rows
noncomputable def drop (H:Hp) (c:Addr):Hp:=fun b=>if b=c then none else H b
variable {H:Hp}{c:Addr}
theorem iZ :drop H c c=none:=if_pos rfl
theorem cD {b:Addr} (h:b≠c):drop H c b=H b:=if_neg h
noncomputable abbrev bU:HO:=.ext fun _=>True
section
variable {P:Program}{w:World}{H H1:Hp}{h h1:Heap}{c:Addr}{o:Obj}{u:HO}{fs:List Addr}
theorem xP (e:h.get? c=some o):cA P w H h c (.frz o bU):=⟨e,trivial,⟨o,e⟩,fun _ _ _ _=>trivial⟩
theorem HOk.lend (ok:HOk P w H h) (hn:H c=none) (e:h.get? c=some o):HOk P w (upd H c (.frz o bU)) h:=fun b u q=>by
 by_cases hb:b=c
 .subst hb;rw [aB] at q;cases q;exact xP e
 .rw [ao hb] at q;exact (ok b u q).stay (fun _ _ _ z=>z) (fun d z=>by rw [ao (ak z hn)];exact z) (fun d xs z=>by rw [ao (ak z hn)];exact z) (fun d _ z _=>by rw [ao (ak z hn)];exact z)
theorem HOk.drop (ok:HOk P w H h) (hf:H c=some (.frz o u)) (hl:¬ lamO o):HOk P w (drop H c) h:=fun b v q=>by
 have hb:b≠c:=fun z=>by subst z;rw [iZ] at q;cases q
 rw [cD hb] at q;have ne:∀ d y,H d=some y->y≠.frz o u->d≠c:=fun d y z n y'=>by subst y';rw [hf] at z;cases z;exact n rfl
 exact (ok b v q).stay (fun _ _ _ z=>z) (fun d z=>by rw [cD (ne d _ z fun y=>nomatch y)];exact z) (fun d xs z=>by rw [cD (ne d _ z fun y=>nomatch y)];exact z) (fun d od z g=>by
  rw [cD (ne d _ z fun y=>by cases y;exact hl g)];exact z)
def YS (hn:H c=none) (e:h.get? c=some o) (hl:¬ lamO o) (hfs:c ∉ fs) (x:Un fs [] (upd H c (.frz o bU)) H1 h h1) (ok:HOk P w H1 h1):Un fs [] H (drop H1 c) h h1/\HOk P w (drop H1 c) h1:=by
 have f1:H1 c=some (.frz o bU):=x.frzs c o bU aB;have e1:h1.get? c=some o:=(ok c _ f1).1;have st:∀ b u,H b=some u->b≠c:=fun b u q z=>by subst z;rw [hn] at q;cases q
 refine ⟨⟨fun b ob q n hb hx=>?_,fun b ob q n hb hx=>?_,fun b ob q n hx=>?_,fun b ob q hx=>x.there b ob q hx,fun b xs q=>?_,fun b ob xs q=>?_,fun b ps q=>?_⟩,ok.drop f1 hl⟩
 .by_cases hbc:b=c
  .subst hbc;rw [e] at q;cases q;exact e1
  .exact x.keep b ob q (by rw [ao hbc];exact n) hb hx
 .have hbc:b≠c:=fun z=>hfs (z ▸ hb)
  exact x.slot b ob q (by rw [ao hbc];exact n) hb hx
 .by_cases hbc:b=c
  .subst hbc;exact iZ
  .rw [cD hbc];exact x.free b ob q (by rw [ao hbc];exact n) hx
 .rw [cD (st b _ q)];exact x.tups b xs (by rw [ao (st b _ q)];exact q)
 .rw [cD (st b _ q)];exact x.frzs b ob xs (by rw [ao (st b _ q)];exact q)
 .rw [cD (st b _ q)];exact x.tbls b ps (by rw [ao (st b _ q)];exact q)
def Ux (hf:H c=some (.frz o bU)) (e:h.get? c=some o) (hfs:c ∉ fs) (x:Un fs [] (drop H c) H1 h h1) (ok:HOk P w H1 h1):Un fs [] H (upd H1 c (.frz o bU)) h h1/\HOk P w (upd H1 c (.frz o bU)) h1:=by
 have n1:H1 c=none:=x.free c o e iZ (by simp);have e1:h1.get? c=some o:=x.keep c o e iZ hfs (by simp);refine ⟨⟨fun b ob q n hb hx=>?_,fun b ob q n hb hx=>?_,fun b ob q n hx=>?_,fun b ob q hx=>x.there b ob q hx,fun b xs q=>?_,fun b ob xs q=>?_,fun b ps q=>?_⟩,ok.lend n1 e1⟩
 .have hbc:b≠c:=fun z=>by subst z;rw [hf] at n;cases n
  exact x.keep b ob q (by rw [cD hbc];exact n) hb hx
 .have hbc:b≠c:=fun z=>hfs (z ▸ hb)
  exact x.slot b ob q (by rw [cD hbc];exact n) hb hx
 .have hbc:b≠c:=fun z=>by subst z;rw [hf] at n;cases n
  rw [ao hbc];exact x.free b ob q (by rw [cD hbc];exact n) hx
 .have hbc:b≠c:=fun z=>by subst z;rw [hf] at q;cases q
  rw [ao hbc];exact x.tups b xs (by rw [cD hbc];exact q)
 .by_cases hbc:b=c
  .subst hbc;rw [aB];rw [hf] at q;exact q
  .rw [ao hbc];exact x.frzs b ob xs (by rw [cD hbc];exact q)
 .have hbc:b≠c:=fun z=>by subst z;rw [hf] at q;cases q
  obtain ⟨m,z⟩:=x.tbls b ps (by rw [cD hbc];exact q);exact ⟨m,by rw [ao hbc];exact z⟩
end
variable {p:Pos}
def FJ {p0:Pos}{c v:Value}{l:zw} (h:TriplesOk l) (e:codeAmong p0 (l++[rawInt p.line,rawInt p.col,c])=some v):codeAmong p0 l=some v\/v=c:=by
 fun_induction TriplesOk l with
 | case1 =>
  right;simp only [List.nil_append,rawInt,codeAmong] at e;split at e
  .cases e;rfl
  .cases e
 | case2 a t b u x rest ih =>
  simp only [List.cons_append,codeAmong] at e ⊢;split at e
  .rename_i hc;rw [if_pos hc];exact .inl e
  .rename_i hc;rw [if_neg hc];exact ih h e
 | case3=>exact h.elim
variable {Pt cc:Addr}{q:vj}{params:Arguments}{body:Expr}{scope:Scope}{pos:Pos}
section
variable {X:Cx}{pins:w4}{σ:St}{H H':Hp}{s:Shared}
theorem Inv.grew {h2:Heap}{tk:Nat} (I:Inv X pins σ H s) (hP:H Pt=some (.tbl q)) (hx:Heap.ExtBut Pt s.heap h2) (mono:∀ b o,H b=some o->H' b=some o) (new:∀ b,H' b≠none->H b=none->s.heap.objs.size<=b) (ok:HOk X.prog X.w H' h2) :
  Inv X pins σ H' { s with heap:=h2,toks:=tk }:=by
 have neP:∀ b,H b=none->b≠Pt:=fun b n z=>by subst z;rw [n] at hP;cases hP
 refine I.step (g':=s.gens) (d':=s.drawn) (ch:=[]) (fun _ z=>nomatch z) (fun b o _ _ _ e n=>hx b o (neP b n) e) (fun b o _ _ _ e n=>⟨o.slots,hx b o (neP b n) e⟩) (fun b o _ e n=>?_) (fun b o _ e=>?_) (fun b xs e=>mono _ _ e) (fun b o u e=>mono _ _ e) (fun b ps e=>⟨#[],by rw [mono _ _ e];simp⟩) (fun m hm=>hm.extBut hx (neP _ I.free)) ok I.bare
 .cases z:H' b with
  | none=>rfl
  | some u=>exact absurd (yi (v4 e) (new b (by rw [z];simp) n)) (yy _)
 .by_cases hb:b=Pt
  .subst hb;obtain ⟨ps,e2,_⟩:=ok b _ (mono _ _ hP);exact ⟨_,e2⟩
  .exact ⟨o,hx b o hb e⟩
def Vu {E:zn}{Q:zn}{clos:List (Str × Addr)}
  (I:Inv X pins σ H s) (hcl:closureFor scope X.env=pure clos) (hcode:X.env.code=.ref cc) (C:PySem.W.CodeHd s.heap cc Pt) (hP:H Pt=some (.tbl q)) (hdef:defaultsOf params X.env=([],[])) (hqn:X.env.qual ++ "<lambda>"=eF)
  (h:∀ f c' oc pm ctv h' tk H',Inv X pins σ H' { s with heap:=h',toks:=tk } -> (∀ b o,H b=some o -> H' b=some o) -> (∀ b,H' b ≠ none -> H b=none -> s.heap.objs.size <= b) -> H f=none -> H' f=some (.frz (PySem.W.kla_obj "<lambda>" eF params body scope clos pm c' ctv) bU) ->
   H' c'=some (.frz oc bU)->lamO oc->(∀ b o,b≠Pt->s.heap.get? b=some o->h'.get? b=some o)->Q (.ref f) { s with heap:=h',toks:=tk }) :
  wpAny (model X.prog X.w) X.A (eval (.Lambda params body scope pos) X.env) Q E s:=by
 obtain ⟨ps,hPs,tr,good⟩:=I.hok Pt _ hP;obtain ⟨bm,ob,b1,b2,b3,b4,b5,b6,b7⟩:=I.mod.bm;have hg:s.heap.Ns mainGlobals X.mg:=I.mod.glob.keeps I.bk;have hgP:mainGlobals≠Pt:=fun z=>by
  obtain ⟨o,es,ep,e,_⟩:=I.mod.glob;have:=(I.bs _ _ e).2;rw [z,hP] at this;cases this
 have hbP:bm≠Pt:=fun z=>by
  have:=(I.bs _ _ b4).2;rw [z,hP] at this;cases this
 have hB:s.heap.BuiltinsAt X.mg Pt:=⟨bm,ob,b1,b2,b3,hbP,I.bk _ _ b4,b5,b6,b7⟩;refine PySem.W.kla_eval hdef ?_;rw [hqn];cases hca:codeAmong pos ps.toList with
 | none =>
  refine PySem.W.kla_makeFunction (mg:=X.mg) (ps:=ps) hcl I.ok.glob hg hcode C hPs tr hca hgP hB fun c' ctv h' tk hx hge hlt hrec htb=>?_
  obtain ⟨c₂,oc,vs,t,e2,hoc,hd,hv⟩:=hrec;cases e2;have nc:H c'=none:=I.hok.fresh hge;have szle:s.heap.objs.size<=h'.objs.size:=ye hge (Nat.le_of_lt hlt);have nf:H h'.objs.size=none:=I.hok.fresh szle;have hfc:h'.objs.size≠c':=yb hlt;have hx2:Heap.ExtBut Pt s.heap (h'.push (PySem.W.kla_obj "<lambda>" eF params body scope clos ((X.mg "__name__").getD .none) c' ctv)):=fun b o hb e=>vT _ (hx b o hb e)
  have mono:∀ b o,H b=some o -> upd (upd H c' (.frz oc bU)) h'.objs.size (.frz (PySem.W.kla_obj "<lambda>" eF params body scope clos ((X.mg "__name__").getD .none) c' ctv) bU) b=some o:=fun b o e=>by
   rw [ao (ak e nf),ao (ak e nc)];exact e
  have newb:∀ b,upd (upd H c' (.frz oc bU)) h'.objs.size (.frz (PySem.W.kla_obj "<lambda>" eF params body scope clos ((X.mg "__name__").getD .none) c' ctv) bU) b ≠ none -> H b=none -> s.heap.objs.size <= b:=fun b n1 n2=>by
   by_cases z:b=h'.objs.size
   .rw [z];exact szle
   .rw [ao z] at n1;by_cases z2:b=c'
    .rw [z2];exact hge
    .rw [ao z2] at n1;exact absurd n2 n1
  have cH:upd (upd H c' (.frz oc bU)) h'.objs.size (.frz (PySem.W.kla_obj "<lambda>" eF params body scope clos ((X.mg "__name__").getD .none) c' ctv) bU) c'=some (.frz oc bU):=by rw [ao (Ne.symm hfc),aB]
  have okk:HOk X.prog X.w (upd (upd H c' (.frz oc bU)) h'.objs.size (.frz (PySem.W.kla_obj "<lambda>" eF params body scope clos ((X.mg "__name__").getD .none) c' ctv) bU)) (h'.push (PySem.W.kla_obj "<lambda>" eF params body scope clos ((X.mg "__name__").getD .none) c' ctv)):=fun b u e=>by
   by_cases z:b=h'.objs.size
   .subst z;rw [aB] at e;cases e;exact xP (v3 _ rfl)
   .by_cases z2:b=c'
    .subst z2;rw [cH] at e;cases e;exact xP (vT _ hoc)
    .have e':=e;rw [ao z,ao z2] at e';by_cases z3:b=Pt
     .subst z3;rw [hP] at e';cases e';refine ⟨_,vT _ htb,?_,fun p0 v hv0=>?_⟩
      .rw [Array.toList_append];exact TriplesOk_snoc _ _ _ _ tr
      .rw [Array.toList_append] at hv0;rcases FJ tr hv0 with q1 | q1
       .obtain ⟨d,od,e1,g1,g2⟩:=good p0 v q1;exact ⟨d,od,e1,mono _ _ g1,g2⟩
       .exact ⟨c',oc,q1,cH,vs,t,hd,hv⟩
     .refine (I.hok b u e').stay (fun b2 o2 hb2 q2=>hx2 b2 o2 ?_ q2) (fun d z=>mono _ _ z) (fun d xs z=>mono _ _ z) (fun d od z _=>mono _ _ z);rcases hb2 with rfl | hb2
      .exact z3
      .rintro rfl;rw [hP] at hb2;cases hb2
  exact h h'.objs.size c' oc _ ctv _ tk _ (I.grew hP hx2 mono newb okk) mono newb nf aB cH ⟨vs,t,hd,hv⟩ (fun b o hb e=>hx2 b o hb e)
 | some v =>
  obtain ⟨c',oc,rfl,g1,g2⟩:=good pos v hca;refine PySem.W.kla_makeFunctionHit (mg:=X.mg) (ps:=ps) hcl I.ok.glob hg hcode C hPs tr hca hB fun ctv h' tk hk hsz=>?_
  have nf:H h'.objs.size=none:=I.hok.fresh hsz;have hk2:∀ b o,s.heap.get? b=some o -> (h'.push (PySem.W.kla_obj "<lambda>" eF params body scope clos ((X.mg "__name__").getD .none) c' ctv)).get? b=some o:=fun b o e=>vT _ (hk b o e)
  have mono:∀ b o,H b=some o -> upd H h'.objs.size (.frz (PySem.W.kla_obj "<lambda>" eF params body scope clos ((X.mg "__name__").getD .none) c' ctv) bU) b=some o:=fun b o e=>by rw [ao (ak e nf)]; exact e
  have newb:∀ b,upd H h'.objs.size (.frz (PySem.W.kla_obj "<lambda>" eF params body scope clos ((X.mg "__name__").getD .none) c' ctv) bU) b ≠ none -> H b=none -> s.heap.objs.size <= b:=fun b n1 n2=>by
   by_cases z:b=h'.objs.size
   .rw [z];exact hsz
   .rw [ao z] at n1;exact absurd n2 n1
  exact h h'.objs.size c' oc _ ctv _ tk _ (I.laid hk2 hsz (xP (v3 _ rfl))) mono newb nf aB (mono _ _ g1) g2 (fun b o _ e=>hk2 b o e)
end
structure LamScope (scope:Scope) (xb xt:Str):Prop where
 kind:scope.kind=.function
 co:scope.isCoroutine=false
 gen:scope.isGenerator=false
 nocell:∀ x∈scope.names,x.2≠.cell
 par:scope.names.lookup xt=some .local
 cap:scope.names.lookup xb=some .free
 only:∀ y,scope.names.lookup y=some .free->y=xb
 ne:xb≠xt
def pY (P:Program) (w:World) (K:zt) (mg:w8) (base:Heap) (xb xt:Str) (scope:Scope) (f c:Addr) (cdv:Value) (A:Around) (outer:List Env) (s:Shared) (H:Hp):Cx where
 prog:=P
 w:=w
 K:=K
 mg:=mg
 base:=base
 A:=A.deeper (PySem.W.envX eF scope s.heap.objs.size f cdv [(xb,c)])
 N:=[xb,xt]
 s₀:=s
 H₀:=drop H c
 env:=PySem.W.envX eF scope s.heap.objs.size f cdv [(xb,c)]
 outer:=outer
 stack:=PySem.W.envX eF scope s.heap.objs.size f cdv [(xb,c)]::outer
 ex:=[]
 calm:=true
 fn:=fun _=>false
 pn:=[]
 xe:=fun _ _=>False
variable {Q:VK}
section
variable {P:Program}{w:World}{K:zt}{mg:w8}{base:Heap}{A:Around}{outer:List Env}{s:Shared}{H:Hp}{f c c':Addr}{params:Arguments}{body:Expr}{scope:Scope}{pm ctv:Value}{oc ocell:Obj}{xb xt:Str}{ub u:Value}{vb vt:V}
def YF {E:XK}{t:TE} (e0:Env0 P w K mg base A outer s H) (hdp:A.depth < recursionLimit) (hh:A.handled=none) (L:LamScope scope xb xt) (hf:H f=some (.frz (PySem.W.kla_obj "<lambda>" eF params body scope [(xb,c)] pm c' ctv) bU)) (hc':H c'=some (.frz oc bU)) (hlo:lamO oc)
  (hc:H c=some (.frz ocell bU)) (hcell:ocell.data=.cell (some ub)) (hbind:bindArgs (PySem.W.kla_fn "<lambda>" eF params body scope [(xb,c)] pm (.ref c') ctv) ⟨[u],[]⟩=pure [(xt,u)]) (rb:RelV vb ub) (rt:RelV vt u)
  (hbody:PE (pY P w K mg base xb xt scope f c (.ref c') A outer s H) body t) (ht:t [some vb,some vt] (drop H c) fun v H1=>H1 c=none->Q v (upd H1 c (.frz ocell bU))) :
  codeAny (model P w) A (.call (.ref f) ⟨[u],[]⟩) (CR CX0 outer P w H s Q E) s:=by
 have ef:=(e0.hok f _ hf).1;have ec':=(e0.hok c' _ hc').1;have ec:=(e0.hok c _ hc).1;have hnl:¬ lamO ocell:=fun ⟨vs,t,z,_⟩=>by rw [hcell] at z;cases z
 have cfr:c ∉ frs outer:=fun z=>by rw [e0.frf c z] at hc;cases hc
 have hcd:s.heap.CodeRec (.ref c') eF:=by
  obtain ⟨vs,t,h1,h2⟩:=hlo;exact ⟨c',oc,vs,t,rfl,ec',h1,h2⟩
 have lim:s.heap.NoLimit:=e0.mod.nolimit.keeps fun b o e=>(e0.bs b o e).1
 refine PySem.W.kla_callFunE hdp ef rfl L.co L.gen rfl hcd ?_;rw [hbind];refine vy (wpAny_newFunctionEnv L.nocell (fun y hy=>by cases yv.mp hy;exact L.par) (fun h₁ hns hsb=>⟨lim.fresh _ hsb,?_⟩) L.kind);show codeAny _ _ (.expr body (PySem.W.envX eF scope s.heap.objs.size f (.ref c') [(xb,c)])) _ _
 have hk₁:∀ b o,s.heap.get? b=some o->h₁.get? b=some o:=fun b o e=>hsb.extBut b o (ya (v4 e)) (vT _ e)
 have I:Inv (pY P w K mg base xb xt scope f c (.ref c') A outer s H) [] [some vb,some vt] (drop H c) { s with heap:=h₁,toks:=s.toks+1 }:=by
  have noA:∀ b:Addr,b ∉ (pY P w K mg base xb xt scope f c (.ref c') A outer s H).ex:=fun b z=>absurd (show b∈([]:List Addr) from z) (by simp)
  have look:∀ y d,(pY P w K mg base xb xt scope f c (.ref c') A outer s H).env.cells.lookup y=some d->y=xb/\d=c:=fun y d h=>by
   have h':(match y == xb with | true=>some c | false=>none)=some d:=h;split at h'
   .rename_i e;cases h';exact ⟨beq_iff_eq.mp e,rfl⟩
   .cases h'
  have lookc:(pY P w K mg base xb xt scope f c (.ref c') A outer s H).env.cells.lookup xb=some c:=by
   show (match xb == xb with | true=>some c | false=>none)=some c
   rw [beq_self_eq_true]
  have dn:∀ b,H b=none->drop H c b=none:=fun b n=>by
   by_cases z:b=c
   .rw [z];exact iZ
   .rw [cD z];exact n
  refine ⟨⟨e0.mod,L.kind,rfl,rfl,v6 _,fun y z d h1 h2=>(look y d h1).1.trans (look z d h2).1.symm,fun y hy=>?_,fun y d z _=>(by cases z),fun _=>hh,Around.frames_deeper e0.frames,.inr ⟨rfl,rfl⟩,fun b z=>absurd z (noA b),fun b o e=>⟨(e0.bs b o e).1,dn b (e0.bs b o e).2⟩,e0.bsz,fun b _ _=>noA b,fun b z=>absurd z (noA b),e0.funs,fun b hb=>dn b (e0.frf b hb),?_⟩,
   rfl,e0.bare,Un.kept hk₁,⟨_,hns,fun i y v h1 h2 h3=>?_⟩,fun y d h=>?_,(e0.hok.drop hc hnl).fresh (v6 _),fun y d h=>?_,fun p hp=>absurd (show p∈([]:w4) from hp) (by simp),(e0.hok.drop hc hnl).kept hk₁,rfl⟩
  .have hy:scope.names.lookup y=some .cell\/scope.names.lookup y=some .free:=hy;rcases hy with hy | hy
   .exact absurd rfl (L.nocell _ (jn hy))
   .exact ⟨c,by rw [L.only y hy];exact lookc⟩
  .intro a o fd d oc2 vs p e1 e2 e3 e4 e5 e6 e7;obtain ⟨q,e⟩:=e0.tab a o fd d oc2 vs p e1 e2 e3 e4 e5 e6 e7;refine ⟨q,?_⟩;show drop H c p=_
   rw [cD (fun z=>by rw [z,hc] at e;cases e)];exact e
  .match i,h1,h2 with
   | 0,h1,h2 =>
    cases h1;cases h2;exact ⟨ub,rb,.inr ⟨.inr L.cap,c,lookc,ocell,hk₁ _ _ ec,hcell⟩⟩
   | 1,h1,h2 =>
    cases h1;cases h2;refine ⟨u,rt,.inl ⟨L.par,?_⟩⟩;show (match xt == xt with | true=>some u | false=>none)=some u
    rw [beq_self_eq_true]
   | i+2,h1,h2=>cases h1
  .obtain ⟨_,rfl⟩:=look y d h;exact ⟨some ub,ocell,hk₁ _ _ ec,hcell⟩
  .obtain ⟨_,rfl⟩:=look y d h;exact iZ
 refine PySem.W.kla_codeExpr (wpAny_mono (hbody [] _ _ _ _ I ht) (fun v s' hq=>?_) fun _ _ z=>jb z);obtain ⟨v',H1,J,rv,q⟩:=hq;obtain ⟨un,ok⟩:=Ux hc ec cfr J.base J.hok;exact ⟨v',_,J.os,J.bare,un,ok,rv,q (J.base.free c ocell ec iZ (show c ∉ ([]:List Addr) by simp))⟩
end
structure RunAt (P:Program) (w:World) (K:zt) (mg:w8) (base:Heap) (A:Around) (outer:List Env) (f:Addr) (fd:FuncData) (ps:z0) (sp:Sp):Prop where
 len:∀ vs H Q E,sp vs H Q E->vs.length=ps.length
 run:∀ (s:Shared) (H:Hp) (args:Args) (us:zw) (vs:List V) (Q:VK) (E:XK),Env0 P w K mg base A outer s H->BindsTo s fd args (ps.zip us)->Vals vs us->sp vs H Q E->codeAny (model P w) A (.call (.ref f) args) (CR CX0 outer P w H s Q E) s
def RL {P:Program}{w:World}{K:zt}{mg:w8}{base:Heap}{A:Around}{outer:List Env}{f:Addr}{name qual:Str}{body:vi}{dV kV doc pm cdv ct oc:Value}{an od:vn}
  {osl:vw}{N ps:z0}{sp:Sp} (lk:K.lookup f=some ⟨oc,od,.func (PySem.W.fnOf name qual params body scope dV kV doc pm an cdv ct),osl⟩) (hcd:PySem.W.codeIn K cdv qual=true) (S:FnScope N ps scope) (hdp:A.depth < recursionLimit) (hh:A.handled=none)
  (len:∀ vs H Q E,sp vs H Q E->vs.length=ps.length)
  (hbody:∀ (s:Shared) (H:Hp) (vs:List V) (Q:VK) (E:XK),sp vs H Q E ->
   ∃ t,PSs (iM CX0 P w K mg base N qual scope f cdv A outer s H E) body t/\t { nx:=fun _ H'=>Q .non H',rt:=Q } (start N vs) H) :
  RunAt P w K mg base A outer f (PySem.W.fnOf name qual params body scope dV kV doc pm an cdv ct) ps sp:=by
 refine ⟨len,fun s H args us vs Q E e0 hb r hsp=>?_⟩;have hl:=len _ _ _ _ hsp;have KX:K.In s.heap:=e0.mod.kin.keeps fun b o e=>(e0.bs b o e).1
 have lim:s.heap.NoLimit:=e0.mod.nolimit.keeps fun b o e=>(e0.bs b o e).1
 have hkind:∀ y∈ps.zip us,scope.names.lookup y.1=some .local\/(scope.names.lookup y.1=some .cell/\((cellsFrom (s.heap.objs.size+1) scope.names []).lookup y.1).isSome=true):=fun ⟨n,v⟩ hy=>by
  rcases S.par n (List.of_mem_zip hy).1 with q | q
  .exact .inl q
  .exact .inr ⟨q,PySem.W.cellsFrom_some _ _ _ (.inl q)⟩
 refine codeAny_call_function hdp (KX _ _ lk) rfl S.co S.gen rfl (PySem.W.codeRec_of KX hcd) (hb _ _ _ _ ?_);refine wpAny_newFunctionEnv_cells S.kind hkind fun env he s1 x=>?_
 subst he;refine ⟨lim.keeps x.toInCall.keep,codeAny_func ?_⟩;obtain ⟨t,ht,hq⟩:=hbody s H vs Q E hsp;have I:Inv (iM CX0 P w K mg base N qual scope f cdv A outer s H E) [] (start N vs) H s1:=Ez S hh e0 hl r x;refine wpAny_mono (ht [] s1 (start N vs) H _ I hq) (fun fl s' hs=>?_) fun e s' hs=>hs
 have fin:∀ {σ':St}{H':Hp}{v:V}{u:Value},Inv (iM CX0 P w K mg base N qual scope f cdv A outer s H E) [] σ' H' s'->RelV v u->Q v H'->CE outer P w H s Q u s' :=
  fun {σ' H' v u} J rv q=>⟨v,H',J.os,J.bare,J.base,J.hok,rv,q⟩
 cases fl with
 | ret u =>
  obtain ⟨v,σ',H',J,rv,q⟩:=hs;exact fin J rv q
 | next =>
  obtain ⟨σ',H',J,q⟩:=hs;exact fin (v:=V.non) (u:=Value.none) J rfl q
 | brk =>
  obtain ⟨_,_,_,q⟩:=hs;exact jb q
 | cont =>
  obtain ⟨_,_,_,q⟩:=hs;exact jb q
section
variable {X:Cx}{pins:w4}{σ:St}{H:Hp}{s:Shared}{k:Nat}{fa c:Addr}{fd:FuncData}{ps:z0}{sp:Sp}{xb:Str}{ocell:Obj}{ub:Value}
def U0 {vs:List V}{us:zw} (F:RunAt X.prog X.w X.K X.mg X.base X.A X.stack fa fd ps sp) (hb:Binds X.K fd ps []) (I:Inv X pins σ H s) (hcl:X.env.cells.lookup xb=some c) (hfn:X.fn xb=true)
  (ec:s.heap.get? c=some ocell) (hcell:ocell.data=.cell (some ub)) (r:Vals vs us) (h:sp vs (upd H c (.frz ocell bU)) (fun v H1=>Q v (drop H1 c)) E0):wpAny (model X.prog X.w) X.A (call (.ref fa) us) (EP X pins σ Q) X.xe s:=by
 have hn:H c=none:=I.freeC xb c hcl;have hnl:¬ lamO ocell:=fun ⟨vs,t,z,_⟩=>by rw [hcell] at z;cases z
 have c0:X.s₀.heap.objs.size<=c:=I.ok.cab xb c hfn hcl;have old:∀ b o,X.s₀.heap.get? b=some o->b≠c:=fun b o e z=>absurd (yi (v4 e) (z ▸ c0)) (yy _)
 have cfr:c ∉ frs X.stack:=fun z=>by
  rcases z9.mp (I.stkSub c z) with e | e
  .exact I.cne xb c hcl e
  .obtain ⟨_,o,ho,_⟩:=I.ok.funs.mem e;exact old c o ho rfl
 have e0:=I.env0;have e1:Env0 X.prog X.w X.K X.mg X.base X.A X.stack s (upd H c (.frz ocell bU)):=⟨e0.frames,e0.mod,fun b o e=>⟨(e0.bs b o e).1,by rw [ao (old b o (I.ok.bs b o e).1)];exact (e0.bs b o e).2⟩,e0.bsz,e0.funs,fun b hb=>by rw [ao (fun z:b=c=>cfr (by rw [<- z];exact hb))];exact e0.frf b hb,e0.hok.lend hn ec,e0.bare,fun a o fd d oc vs p e1 e2 e3 e4 e5 e6 e7=>by
  obtain ⟨q,e⟩:=e0.tab a o fd d oc vs p e1 e2 e3 e4 e5 e6 e7;exact ⟨q,by rw [ao (ak e hn)];exact e⟩⟩
 have hl:(us++[]).length=ps.length:=by rw [List.append_nil,<- r.length];exact F.len _ _ _ _ h
 have hb':=hb s us I.kIn hl;rw [List.append_nil] at hb';refine wpAny_call (codeAny_mono (F.run s _ ⟨us,[]⟩ us vs _ E0 e1 hb' r h) fun r s' hq=>?_);cases r with
 | error e=>exact jb hq
 | ok fl =>
  cases fl with
  | ret u =>
   obtain ⟨v,H',os,bare,un,ok,rv,q⟩:=hq;obtain ⟨un2,ok2⟩:=YS hn ec hnl cfr un ok;exact I.after ⟨v,drop H' c,os,bare,un2,ok2,rv,q⟩
  | next=>exact jb hq
  | brk=>exact jb hq
  | cont=>exact jb hq
def acQ (X:Cx) (xb:Str) (params:Arguments) (body:Expr) (scope:Scope):TE:=fun σ H Q=>∀ f c' oc pm ctv c H',X.env.cells.lookup xb=some c -> (∀ b o,H b=some o -> H' b=some o) -> H f=none -> H c=none -> H' c=none -> H' f=some (.frz (PySem.W.kla_obj "<lambda>" eF params body scope [(xb,c)] pm c' ctv) bU) ->
 H' c'=some (.frz oc bU)->lamO oc->Q (.ref f) H'
def aaI (hsc:X.env.scope.names.lookup xb=some .cell) (hclo:∀ c,X.env.cells.lookup xb=some c->closureFor scope X.env=pure [(xb,c)]) (hcode:X.env.code=.ref cc)
  (C:∀ h:Heap,X.K.In h -> PySem.W.CodeHd h cc Pt) (hPt:∀ H,pL X.K X.mg H -> ∃ q,H Pt=some (.tbl q)) (hdef:defaultsOf params X.env=([],[])) (hqn:X.env.qual ++ "<lambda>"=eF) :
  PE X (.Lambda params body scope pos) (acQ X xb params body scope):=by
 intro pins s σ H Q I h;obtain ⟨c,hc⟩:=I.ok.has xb (.inl hsc);obtain ⟨q,hP⟩:=hPt H I.env0.tab;have hn:H c=none:=I.freeC xb c hc;refine Vu I (hclo c hc) hcode (C _ I.kIn) hP hdef hqn fun f c' oc pm ctv h' tk H' J mono newb nf hf hc' hlo _=>?_
 exact ⟨.ref f,H',J,rfl,h f c' oc pm ctv c H' hc mono nf hn (J.freeC xb c hc) hf hc' hlo⟩
def Zf {lpos p2:Pos}{xc y:Str}{i0 i1:Nat} (F:RunAt X.prog X.w X.K X.mg X.base X.A X.stack fa fd ps sp) (hb:Binds X.K fd ps []) (hg:Gl X xc) (hm:X.mg xc=some (.ref fa)) (hk:PySem.W.keepIn X.K (.ref fa)=true)
  (h0:X.N[i0]?=some xb) (hsc:X.env.scope.names.lookup xb=some .cell) (hfn:X.fn xb=true) (h1:X.N[i1]?=some y) (hv1:Vis X.env.scope y) (hd1:(y == ("__debug__":Str))=false) (hd2:(y == ("__classdict__":Str))=false) (hdb:(xc == ("__debug__":Str))=false)
  (hclo:∀ c,X.env.cells.lookup xb=some c -> closureFor scope X.env=pure [(xb,c)]) (hcode:X.env.code=.ref cc) (C:∀ h:Heap,X.K.In h -> PySem.W.CodeHd h cc Pt) (hPt:∀ H,pL X.K X.mg H -> ∃ q,H Pt=some (.tbl q)) (hdef:defaultsOf params X.env=([],[])) (hqn:X.env.qual ++ "<lambda>"=eF) :
  PE X (.Call (.Name xc p) [.Name y p2,.Lambda params body scope lpos] [] pos) (fun σ H Q=>∃ vb vt,σ[i0]?=some (some vb)/\σ[i1]?=some (some vt)/\∀ f c' oc pm ctv c ocell ub H',(∀ b o,H b=some o->H' b=some o)->H c=none->H' c=none ->
   H' f=some (.frz (PySem.W.kla_obj "<lambda>" eF params body scope [(xb,c)] pm c' ctv) bU) -> H' c'=some (.frz oc bU) -> lamO oc -> ocell.data=.cell (some ub) -> RelV vb ub -> sp [vt,.ref f] (upd H' c (.frz ocell bU)) (fun v H1=>Q v (drop H1 c)) E0):=by
 intro pins s σ H Q I h;obtain ⟨vb,vt,e0,e1,h⟩:=h;refine wpAny_Call_Name_kw (xG I hg hm ?_ hdb);have pa:=dD (gJ (pos:=p2) h1 hv1 hd1 hd2) (dD (aaI (X:=X) (pos:=lpos) (params:=params) (body:=body) hsc hclo hcode C hPt hdef hqn) gH);refine PySem.W.callWith_K (h₀:=X.base) I.ok.mod.kin hk (thn (pa pos pins s σ H (fun vs H1=>∃ f c' oc pm ctv c,vs=[vt,.ref f] /\ X.env.cells.lookup xb=some c /\ (∀ b o,H b=some o -> H1 b=some o) /\ H c=none /\ H1 f=some (.frz (PySem.W.kla_obj "<lambda>" eF params body scope [(xb,c)] pm c' ctv) bU) /\ H1 c'=some (.frz oc bU) /\ lamO oc) I ?_) fun us s1 ⟨vs,H1,I1,r,f,c',oc,pm,ctv,c,ev,hc,mono,hn,hf,hc',hlo⟩=>⟨I1.kIn,?_⟩)
 .exact ⟨vt,e1,fun f c' oc pm ctv c H' hc mono nf hn hn' hf hc' hlo=>⟨f,c',oc,pm,ctv,c,rfl,hc,mono,hn,hf,hc',hlo⟩⟩
 .subst ev;obtain ⟨m,hns,hl⟩:=I1.loc;obtain ⟨ub,rb,lk⟩:=hl i0 xb vb h0 e0 (.inr (.inl hsc));rcases lk with ⟨hk',_⟩ | ⟨_,c2,hc2,ocell,hoc,hcell⟩
  .have:X.env.scope.names.lookup xb=some .local:=hk';rw [hsc] at this;cases this
  .rw [hc] at hc2;cases hc2;exact U0 F hb I1 hc hfn hoc hcell r (h f c' oc pm ctv c ocell ub H1 mono hn (I1.freeC xb c hc) hf hc' hlo hcell rb)
def Vv {x:Str}{j:Nat}{e:Expr}{ta:TE}{W:Addr -> V -> Hp -> VK -> Prop} (hN:X.N[j]?=some x) (hv:Vis X.env.scope x) (hd1:(x == ("__debug__":Str))=false) (hd2:(x == ("__classdict__":Str))=false) (ha:PE X e ta) (hs:starEach [e] X.env=(false,eval e X.env)::starEach [] X.env)
  (hW:∀ f pins s σ H v u Q,Inv X pins σ H s->RelV v u->W f v H Q->PySem.W.FnAt f s.heap/\wpAny (model X.prog X.w) X.A (call (.ref f) [u]) (EP X pins σ Q) X.xe s) (hF:∀ f s H,HOk X.prog X.w H s->(∃ ob,H f=some (.frz ob bU)/\∃ oc od fd sl,ob=⟨oc,od,.func fd,sl⟩)->PySem.W.FnAt f s) :
  PE X (.Call (.Name x p) [e] [] pos) (fun σ H Q=>∃ f,σ[j]?=some (some (.ref f))/\(∃ ob,H f=some (.frz ob bU)/\∃ oc od fd sl,ob=⟨oc,od,.func fd,sl⟩)/\ta σ H fun v H1=>W f v H1 Q):=by
 intro pins s σ H Q I h;obtain ⟨f,ef,hf,ht⟩:=h;refine wpAny_Call_Name_kw (thn (gJ (pos:=p) hN hv hd1 hd2 pins s σ H (fun v H1=>v=.ref f/\H1=H) I ⟨.ref f,ef,rfl,rfl⟩) fun fv s0 ⟨v0,H0,I0,r0,e0,eH⟩=>?_);subst e0 eH;obtain rfl:fv=Value.ref f:=r0;refine PySem.W.callWith_F (hF f _ _ I0.hok hf) (thn ((dD ha gH hs) pos pins s0 σ H0 (fun vs H1=>match vs with | [v]=>W f v H1 Q | _=>False) I0 ht) fun us s1 ⟨vs,H1,I1,r,hw⟩=>?_) hs rfl;rcases vs with _ | ⟨v,_ | ⟨v2,vs⟩⟩
 .exact hw.elim
 .obtain ⟨u,rfl,ru⟩:=vals1 r;exact hW f pins s1 σ H1 v u Q I1 ru hw
 .exact hw.elim
end
end L2
set_option maxHeartbeats 1000000
namespace Mi
open PySem L2
open PyProof.Rows hiding St
noncomputable def Dd (p:Pos):Arguments:={ posonlyargs:=[],args:=[{ arg:="test",annotation:=none,pos:=p }],vararg:=none,kwonlyargs:=[],kw_defaults:=[],kwarg:=none,defaults:=[] }
noncomputable def xU (p1 p2 p3 p4:Pos):Expr:=.Call (.Name "is_test" p1) [.Name "book" p2,.Name "test" p3] [] p4
noncomputable def dw:Scope:={ kind:=.function,names:=[(Str.ofString "test",.local),(Str.ofString "book",.free),(Str.ofString "is_test",.globalImplicit)],isGenerator:=false,isCoroutine:=false,more:=[] }
def Eb:LamScope dw "book" "test":=by
 refine ⟨rfl,rfl,rfl,by decide +kernel,by decide +kernel,by decide +kernel,fun y h=>?_,by decide +kernel⟩;have h2:=jn h;simp only [dw,List.mem_cons,List.not_mem_nil,or_false] at h2;rcases h2 with h2 | h2 | h2
 .cases h2
 .cases h2;rfl
 .cases h2
abbrev abS (p0 p1 p2 p3 p4:Pos) (c:Addr) (pm:Value) (c':Addr) (ctv:Value):Obj:=PySem.W.kla_obj "<lambda>" eF (Dd p0) (xU p1 p2 p3 p4) dw [("book",c)] pm c' ctv
def xX (p:D->R D):List D->Prop
 | []=>True
 | d::ds=>p d=.ok (.bl true)/\xX p ds
structure CloAt (g:G) (H Hs:Hp) (f:Addr) (b:D):Prop where
 ex:∃ p0 p1 p2 p3 p4 c c' oc ocell ub vb pm ctv,H f=some (.frz (abS p0 p1 p2 p3 p4 c pm c' ctv) bU)/\H c'=some (.frz oc bU)/\lamO oc/\H c=some (.frz ocell bU)/\ocell.data=.cell (some ub)/\RelV vb ub/\Hs c=none/\Rp g Hs b vb
variable {Hs:Hp}{f:Addr}{b:D}
theorem CloAt.grow {g:G}{H H' Hs':Hp} (x:CloAt g H Hs f b) (hs:Same Hs H) (w:Grow H Hs H' Hs'):CloAt g H' Hs' f b:=by
 obtain ⟨p0,p1,p2,p3,p4,c,c',oc,ocell,ub,vb,pm,ctv,h1,h2,h3,h4,h5,h6,h7,h8⟩:=x.ex;exact ⟨p0,p1,p2,p3,p4,c,c',oc,ocell,ub,vb,pm,ctv,w.keep _ _ h1,w.keep _ _ h2,h3,w.keep _ _ h4,h5,h6,(w.old _ _ h4).trans h7,h8.mono (w.same hs)⟩
structure FnsP (T:Tx) (cl:Nat->List D->R D) (P:Program) (w:World) (K:zt) (mg:w8) (base:Heap) (n:Nat):Prop where
 blt:∀ f∈lJ,mg f=none
 gl:∀ x d,T.gl.lookup x=some d->GlV d (mg x)
 fns:∀ f x,T.F[f]?=some x->∃ a fd ps,FnOk P w K mg base CX0 n a fd ps (spD ⟨P,w,K⟩ (cl f) ps.length)/\mg x=some (.ref a)/\PySem.W.keepIn K (.ref a)=true/\Binds K fd ps []/\(∀ ds d,cl f ds=.ok d->ds.length=ps.length)/\FnOk P w K mg base CX0 n a fd ps (O5 ⟨P,w,K⟩ (cl (1000+f)) ps.length)/\(∀ ds d,cl (1000+f) ds=.ok d->ds.length=ps.length)/\FnOk P w K mg base CX0 n a fd ps (spF ⟨P,w,K⟩ (cl (2000+f)) ps.length)/\∀ ds d,cl (2000+f) ds=.ok d->ds.length=ps.length
variable {X:Cx}{c:Addr}{cdv dV doc pm ct oc:Value}{p1 p2 p3 p4 p5 p6:Pos}{q:Nat}{params:Arguments}{an od:vn}{osl:vw}
section
variable {T:Tx}{cl:Nat->List D->R D}{P:Program}{w:World}{K:zt}{mg:w8}{base:Heap}{n:Nat}
theorem FnsP.cok (F:FnsP T cl X.prog X.w X.K X.mg X.base n) (hc:X.calm=true) (hnd:X.N.Nodup) (hr:Room n X.A):Cok T cl X:=by
 refine ⟨hc,hnd,by have:=hr.un;omega,F.blt,F.gl,fun f x hF=>?_⟩;obtain ⟨a,fd,ps,q1,q3,q4,q5,q6⟩:=F.fns f x hF;exact ⟨n,a,fd,ps,q1,hr,q3,q4,q5,q6⟩
variable {A:Around}{outer:List Env}{s:Shared}{H:Hp}
theorem Rw :ScRel dw (pY P w K mg base "book" "test" dw f c cdv A outer s H) :=
 ⟨fun y h=>tZ h,fun y h=>uq h,fun y h=>h,fun y h=>by
  have h1:=lK h;refine ⟨h1,?_⟩;rcases h1 with e | e
  .exact .inr e
  .exact absurd rfl (Eb.nocell _ (jn e))⟩
def VJ {g:Nat}{Q:VK}{fa:Addr}{pins:w4}{σ:St}{v:V}{u:Value}{d z:D} (F:FnsP T cl X.prog X.w X.K X.mg X.base n) (hT:T.F[g]?=some (Str.ofString "is_test")) (hr:∀ env,Room n (X.A.deeper env)) (hdp:X.A.depth < recursionLimit) (hh:X.A.handled=none)
  (I:Inv X pins σ H s) (ru:RelV v u) (hs:Same Hs H) (hc:CloAt (gOf X) H Hs fa b) (rd:Rp (gOf X) Hs d v) (hz:cl g [b,d]=.ok z) (k:XD X H Hs Q z) :
  PySem.W.FnAt fa s.heap/\wpAny (model X.prog X.w) X.A (call (.ref fa) [u]) (EP X pins σ Q) X.xe s:=by
 obtain ⟨p0,p1,p2,p3,p4,c,c',oc,ocell,ub,vb,pm,ctv,h1,h2,h3,h4,h5,h6,h7,h8⟩:=hc.ex;have ef:=(I.hok fa _ h1).1;refine ⟨⟨_,_,_,_,ef⟩,?_⟩;have ok:okE T ["book","test"] (.call g [.var 0,.var 1]) dw (xU p1 p2 p3 p4)=true:=by
  show (aJ "is_test" && eV dw "is_test" && decide (T.F[g]?=some (Str.ofString "is_test")) && bJ T ["book","test"] [.var 0,.var 1] dw [.Name "book" p2,.Name "test" p3] && [Expr.Name "book" p2,.Name "test" p3].all noStar)=true
  rw [decide_eq_true hT];rfl
 have C:Cok T cl (pY X.prog X.w X.K X.mg X.base "book" "test" dw fa c (.ref c') X.A X.stack s H):=FnsP.cok (X:=pY X.prog X.w X.K X.mg X.base "book" "test" dw fa c (.ref c') X.A X.stack s H) F rfl (show ([("book":Str),"test"]:z0).Nodup by decide +kernel) (hr _)
 have hb:=(good (T:=T) (cl:=cl) (.call g [.var 0,.var 1]) C Rw ok).1;have dropS:Same Hs (drop H c):=fun b o e=>by
  rw [cD (fun z=>by rw [z,h7] at e;cases e)];exact hs b o e
 refine wpAny_call (codeAny_mono (YF (E:=E0) (vb:=vb) (vt:=v) (Q:=Q) I.env0 hdp hh Eb h1 h2 h3 h4 h5 ?_ h6 ru hb ?_) fun r s' hq=>?_)
 .rfl
 .refine ⟨[some b,some d],Hs,z,dropS,⟨rfl,fun i hi e he=>?_⟩,?_,fun v' H' Hs' g' r' n'=>?_⟩
  .match i,he with
   | 0,he=>cases he;exact ⟨vb,rfl,h8⟩
   | 1,he=>cases he;exact ⟨v,rfl,rd⟩
   | i+2,he=>cases he
  .show (do let ds <- cu cl [.var 0,.var 1] [some b,some d];cl g ds)=_
   exact hz
  .have hs'c:Hs' c=none:=g'.sub.free n';refine k v' _ Hs' ⟨fun a o e=>?_,fun a o e=>?_,fun a o e=>?_⟩ r'
   .by_cases za:a=c
    .subst za;rw [aB];rw [h4] at e;exact e
    .rw [ao za];exact g'.keep a o (by rw [cD za];exact e)
   .by_cases za:a=c
    .subst za;rw [hs'c,h7]
    .exact g'.old a o (by rw [cD za];exact e)
   .rw [ao (fun za=>by rw [za,hs'c] at e;cases e)];exact g'.sub a o e
 .cases r with
  | error e=>exact jb hq
  | ok fl =>
   cases fl with
   | ret u=>exact I.after hq
   | next=>exact jb hq
   | brk=>exact jb hq
   | cont=>exact jb hq
noncomputable def clN:z0:=["things","is_right","place","thing"]
noncomputable def cR:Scope:={ kind:=.function,names:=[(Str.ofString "things",.local),(Str.ofString "is_right",.local),(Str.ofString "place",.local),(Str.ofString "thing",.local),(Str.ofString "isinstance",.globalImplicit),(Str.ofString "list",.globalImplicit),(Str.ofString "BadTests",.globalImplicit),(Str.ofString "enumerate",.globalImplicit)],isGenerator:=false,isCoroutine:=false,more:=[] }
noncomputable def G4 (p1 p2 p3 p4 p5:Pos) (r:vi):Stmt:=.If (.UnaryOp .Not (.Call (.Name "is_right" p1) [.Name "thing" p2] [] p3) p4) r [] p5
def vA (p1 p2 p3 p4 p5 p6:Pos) (e1 c1:Option Expr) (q1 q2 q3 q4 q5 q6 q7 q8 q9 q10 q11 q12 q13:Pos) (j:Nat) (r2:vi):vi :=
 [.If (.UnaryOp .Not (.Call (.Name "isinstance" p1) [.Name "things" p2,.Name "list" p3] [] p4) p5) [.Raise e1 c1 q13] [] p6,
  .For (.Tuple [.Name "place" q1,.Name "thing" q2] j q3) (.Call (.Name "enumerate" q4) [.Name "things" q5] [] q6) [G4 q7 q8 q9 q10 q11 r2] [] q12]
noncomputable def clB (cl:Nat->List D->R D) (g:Nat) (b:D):Nat->List D->R D:=fun k ds=>if k=5000 then (match ds with | [t]=>cl g [b,t] | _=>.stuck) else cl k ds
section
variable {cl:Nat->List D->R D}{X:Cx}{n g:Nat}{T:Tx}{b:D}{E:Ent}{Es:Hp}{fa:Addr}{O inv:zz}
def Z4 {r:vi} (F:FnsP T cl X.prog X.w X.K X.mg X.base n) (hT:T.F[g]?=some (Str.ofString "is_test")) (hr:∀ env,Room n (X.A.deeper env)) (hdp:X.A.depth < recursionLimit) (hh:X.A.handled=none) (hN:X.N=clN) (hsc:X.env.scope=cR)
  (hp:E.pins=[(1,fa)]) (hs:Same Es E.hp) (hc:CloAt (gOf X) E.hp Es fa b):PS X (G4 p1 p2 p3 p4 p5 r) (tMS X E Es O (some (without O [3])) inv (bA (clB cl g b) (.chk 1 (.var 3)))):=by
 have vis:∀ x∈clN,Vis X.env.scope x:=fun x hx=>by
  rw [hsc];refine .inl ?_;have:∀ x∈clN,cR.names.lookup x=some .local:=by decide +kernel
  exact this x hx
 have hpe:PE X (.Name "thing" p2) (Zx 3):=gJ (by rw [hN]; rfl) (vis _ (by decide +kernel)) (by decide +kernel) (by decide +kernel)
 have hcall:=Vv (X:=X) (p:=p1) (pos:=p3) (W:=fun f v H Q=>∃ Hs d z,Same Hs H /\ CloAt (gOf X) H Hs f b /\ Rp (gOf X) Hs d v /\ cl g [b,d]=.ok z /\ XD X H Hs Q z) (j:=1) (x:="is_right") (by rw [hN]; rfl) (vis _ (by decide +kernel)) (by decide +kernel) (by decide +kernel) hpe rfl
  (fun f pins s σ H v u Q I ru ⟨Hs,d,z,h1,h2,h3,h4,h5⟩=>VJ F hT hr hdp hh I ru h1 h2 h3 h4 h5)
  (fun f s H ok ⟨ob,h1,oc,od,fd,sl,h2⟩=>by subst h2;exact ⟨oc,od,fd,sl,(ok f _ h1).1⟩)
 have hpt:=SX (pos:=p4) (Rt hcall (nq rfl));refine bN (WM hpt Ei Dr) fun D σ H=>?_
 rintro ⟨ρ,Hs,o,Fr,h,k⟩;rw [Rm] at h;obtain ⟨d,hd,h⟩:=aj h;obtain ⟨z,hz,h⟩:=aj h;have hz':cl g [b,d]=.ok z:=hz;cases z <;> try (cases h;done)
 rename_i bb;cases bb <;> try (cases h;done)
 cases h;obtain ⟨Hs1,F1,m1,vs⟩:=Fr.pubU [3];have hd3:ρ[3]?=some (some d):=dI hd;obtain ⟨v,ev,rv⟩:=vs.2 3 (yv.mpr rfl) d hd3;have ep:=F1.pin (1,fa) (by rw [hp];exact yv.mpr rfl);have cg:=hc.grow hs F1.grow;refine ⟨fa,ep,?_,v,ev,Hs1,d,.bl true,F1.sub,cg,rv,hz',fun v' H' Hs' g' r'=>⟨true,nQ.mp r',?_⟩⟩
 .obtain ⟨p0,p1,p2,p3,p4,c,c',oc,ocell,ub,vb,pm,ctv,h1,_⟩:=cg.ex;exact ⟨_,h1,_,_,_,_,rfl⟩
 .show (if (!true)=true then JF D σ H' else _)
  exact k _ rfl σ H' Hs' (F1.grown g') (m1.trans (g'.same F1.sub))
theorem Hr {ts0:D}:∀ (ts:List D) (k:Nat),xX (fun t=>cl g [b,t]) ts->jo (fun d ρ=>do let ρ1 <- dj (.two 2 3) d ρ;bZ (clB cl g b) [.chk 1 (.var 3)] ρ1) [some ts0,none,none,none] (aQ k ts) [some ts0,none,none,none]=.ok (.nx [some ts0,none,none,none])
 | [],_,_=>rfl
 | t::ts,k,h=>by
  have h1:(clB cl g b) 5000 [t]=.ok (.bl true):=h.1;show jo _ _ (.tup [.int k,t]::aQ (k+1) ts) _=_
  unfold jo;have h2:(dj (.two 2 3) (.tup [.int k,t]) [some ts0,none,none,none] >>= fun ρ1=>bZ (clB cl g b) [.chk 1 (.var 3)] ρ1)=.ok (.nx [some ts0,none,some (.int k),some t]):=by
   show (bA (clB cl g b) (.chk 1 (.var 3)) [some ts0,none,some (.int k),some t] >>= tV _ [])=_
   rw [Rm];show (((clB cl g b) 5000 [t] >>= fun r=>T6 [some ts0,none,some (.int k),some t] r) >>= tV _ [])=_
   rw [h1];rfl
  show ((dj (.two 2 3) (.tup [.int k,t]) [some ts0,none,none,none] >>= fun ρ1=>bZ (clB cl g b) [.chk 1 (.var 3)] ρ1) >>= _)=_
  rw [h2];exact Hr ts (k+1) h.2
end
def acs (g:G) (cl:Nat->List D->R D) (q:Nat):Sp:=fun vs H Q _=>∃ vt fa b ts Hs,vs=[vt,.ref fa]/\Same Hs H/\CloAt g H Hs fa b/\Rp g Hs (.lst ts) vt/\xX (fun t=>cl q [b,t]) ts/\∀ H' Hs',Grow H Hs H' Hs'->Q .non H'
theorem acD {cl':Nat->List D->R D} (F:FnsP T cl P w K mg base n):FnsP ⟨[],[]⟩ cl' P w K mg base n:=⟨F.blt,fun x d h=>(by cases h),fun f x h=>(by simp at h)⟩
theorem abz (r:Room (n+1) A) (e1 e2 e3:Env):Room n (((A.deeper e1).deeper e2).deeper e3) :=
 ⟨r.hd,by have:=r.dp;show A.depth+1+1+1+3 * n+5 < _;omega,by have:=r.un;show A.units+3+3+3+16 * n+200 < _;omega⟩
theorem abI (r:Room (n+1) A) (e1 e2:Env):Room n ((A.deeper e1).deeper e2) :=
 ⟨r.hd,by have:=r.dp;show A.depth+1+1+3 * n+5 < _;omega,by have:=r.un;show A.units+3+3+16 * n+200 < _;omega⟩
def aa9 {kV:Value}{x1 c1:Option Expr}{q1 q2 q3 q4 q5 q6 q7 q8 q9 q10 q11 q12 q13:Pos}{j:Nat}{r2:vi}{e1:Env}
  (F:FnsP T cl P w K mg base n) (hT:T.F[q]?=some (Str.ofString "is_test")) (hr:Room (n+1) A)
  (lk:K.lookup f=some ⟨oc,od,.func (PySem.W.fnOf "check_list" "check_list" params (vA p1 p2 p3 p4 p5 p6 x1 c1 q1 q2 q3 q4 q5 q6 q7 q8 q9 q10 q11 q12 q13 j r2) cR dV kV doc pm an cdv ct),osl⟩) (hcd:PySem.W.codeIn K cdv "check_list"=true) :
  RunAt P w K mg base (A.deeper e1) outer f (PySem.W.fnOf "check_list" "check_list" params (vA p1 p2 p3 p4 p5 p6 x1 c1 q1 q2 q3 q4 q5 q6 q7 q8 q9 q10 q11 q12 q13 j r2) cR dV kV doc pm an cdv ct) ["things","is_right"] (acs ⟨P,w,K⟩ cl q):=by
 have S:FnScope clN ["things","is_right"] cR:=mJ (by decide +kernel)
 refine RL lk hcd S (by have:=hr.dp;show A.depth+1 < _;omega) hr.hd (fun vs H Q E h=>?_) fun s H vs Q E h=>?_
 .obtain ⟨vt,fa,b,ts,Hs,rfl,_⟩:=h;rfl
 .obtain ⟨vt,fa,b,ts,Hs,rfl,hs,hc,rt,hall,k⟩:=h;have hr2:=abI hr e1 (envOfC "check_list" cR s.heap.objs.size f cdv)
  have C:Cok ⟨[],[]⟩ (clB cl q b) (iM CX0 P w K mg base clN "check_list" cR f cdv (A.deeper e1) outer s H E):=FnsP.cok (X:=iM CX0 P w K mg base clN "check_list" cR f cdv (A.deeper e1) outer s H E) (acD F) rfl S.nd hr2
  have SR:ScRel cR (iM CX0 P w K mg base clN "check_list" cR f cdv (A.deeper e1) outer s H E):=⟨fun y h=>tZ h,fun y h=>uq h,fun y h=>h,fun y h=>⟨lK h,.inl rfl⟩⟩
  have h1:=nW (T:=⟨[],[]⟩) (cl:=clB cl q b) (.ifs (.not (.isin (.var 0) .list)) [.rai] []) (iM CX0 P w K mg base clN "check_list" cR f cdv (A.deeper e1) outer s H E) cR (.If (.UnaryOp .Not (.Call (.Name "isinstance" p1) [.Name "things" p2,.Name "list" p3] [] p4) p5) [.Raise x1 c1 q13] [] p6) [] [] (some []) ⟨H,[(1,fa)]⟩ Hs (fun z hz=>by simp [Ud,mU]) C SR PassesOwn.leaving rfl rfl
  have h2:=Z4 (cl:=cl) (g:=q) (X:=iM CX0 P w K mg base clN "check_list" cR f cdv (A.deeper e1) outer s H E) (T:=T) (b:=b) (E:=⟨H,[(1,fa)]⟩) (Es:=Hs) (fa:=fa) (O:=[]) (inv:=[]) (p1:=q7) (p2:=q8) (p3:=q9) (p4:=q10) (p5:=q11) (r:=r2) F hT (fun env=>abz hr e1 _ env) (by have:=hr.dp; show A.depth+1+1 < _; omega) hr.hd rfl rfl rfl hs hc
  have h3:=Q7 (T:=⟨[],[]⟩) (cl:=clB cl q b) (X:=iM CX0 P w K mg base clN "check_list" cR f cdv (A.deeper e1) outer s H E) (sc:=cR) (E:=⟨H,[(1,fa)]⟩) (Es:=Hs) (O:=[]) (inv:=[]) (pos:=q12) (t:=.two 2 3) (k:=.enum) (src:=[.var 0]) (b:=[.chk 1 (.var 3)]) (tg:=.Tuple [.Name "place" q1,.Name "thing" q2] j q3) (iter:=.Call (.Name "enumerate" q4) [.Name "things" q5] [] q6) (body:=[G4 q7 q8 q9 q10 q11 r2]) (O2:=[]) (y:=some []) C SR PassesOwn.leaving (fun z hz=>by rw [List.mem_singleton.mp hz]; show (1:Nat) ∉ [2,3]; decide) rfl rfl rfl (fun i hi=>by cases hi) (fun O3 _ i hi=>by cases hi) (CT ?_)
  .refine ⟨_,tO h1 (CT h3),?_⟩;have FR0:FR ⟨P,w,K⟩ ⟨H,[(1,fa)]⟩ Hs [] [some (.lst ts),none,none,none] [some vt,some (.ref fa),none,none] H Hs:=by
    refine ⟨Grow.refl hs,rfl,fun i d h _=>?_,fun i hi=>(by cases hi),fun i hi=>(by cases hi),fun z hz=>by rw [List.mem_singleton.mp hz];rfl⟩
    match i,h with
    | 0,h=>cases h;exact ⟨vt,rfl,rt⟩
    | 1,h=>cases h
    | 2,h=>cases h
    | 3,h=>cases h
    | i+4,h=>cases h
   refine ⟨[some (.lst ts),none,none,none],Hs,.nx [some (.lst ts),none,none,none],FR0,rfl,fun O1 e σ' H' Hs' F' s'=>?_⟩;cases e;refine ⟨[some (.lst ts),none,none,none],Hs',.nx [some (.lst ts),none,none,none],F',Hr ts 0 hall,fun O1 e σ2 H2 Hs2 F2 s2=>?_⟩;exact k H2 Hs2 F2.grow
  .refine bN h2 fun D σ H=>?_
   rintro ⟨ρ,Hs,o,Fr,h,kk⟩;refine ⟨ρ,Hs,o,Fr,?_,kk⟩;obtain ⟨o1,ho1,h4⟩:=aj (show (bA (clB cl q b) (.chk 1 (.var 3)) ρ >>= tV (clB cl q b) [])=.ok o from h);cases o1 <;> cases h4 <;> exact ho1
noncomputable def ctN:z0:=["book","tests"]
noncomputable def gM:Scope:={ kind:=.function,names:=[(Str.ofString "book",.cell),(Str.ofString "tests",.local),(Str.ofString "check_list",.globalImplicit)],isGenerator:=false,isCoroutine:=false,more:=[] }
def Cd (p1 p2 p3 p4 p5 p6 p7 p8 p9 p10:Pos):vi:=[.Expr (.Call (.Name "check_list" p1) [.Name "tests" p2,.Lambda (Dd p3) (xU p4 p5 p6 p7) dw p8] [] p9) p10]
def Xu {env:Env} (h:env.cells.lookup (Str.ofString "book")=some c):closureFor dw env=pure [(Str.ofString "book",c)]:=by
 unfold closureFor;simp [dw,cellOf,h]
structure LamK (K:zt) (mg:w8) (act:Addr) (cdv:Value):Prop where
 cl:∃ f params dV kV doc pm cv ct oc an od osl p1 p2 p3 p4 p5 p6 x1 c1 q1 q2 q3 q4 q5 q6 q7 q8 q9 q10 q11 q12 q13 j r2,K.lookup f=some ⟨oc,od,.func (PySem.W.fnOf "check_list" "check_list" params (vA p1 p2 p3 p4 p5 p6 x1 c1 q1 q2 q3 q4 q5 q6 q7 q8 q9 q10 q11 q12 q13 j r2) cR dV kV doc pm an cv ct),osl⟩ /\ PySem.W.codeIn K cv "check_list"=true /\
  mg (Str.ofString "check_list")=some (.ref f) /\ PySem.W.keepIn K (.ref f)=true /\ Binds K (PySem.W.fnOf "check_list" "check_list" params (vA p1 p2 p3 p4 p5 p6 x1 c1 q1 q2 q3 q4 q5 q6 q7 q8 q9 q10 q11 q12 q13 j r2) cR dV kV doc pm an cv ct) ["things","is_right"] []
 code:∃ cc Pt oc vs file tf flags tg inF text tt,cdv=.ref cc /\ K.lookup cc=some oc /\ oc.cls=.type "code" /\ oc.data=.fields vs /\ vs[11]?=some (.ref Pt) /\ vs.getD 11 .none=.ref Pt /\ vs.getD 18 .none=.str file tf /\ vs.getD 7 .none=.int flags tg /\ vs.getD 9 .none=.bool inF /\ vs.getD 10 .none=.int text tt /\ cc ≠ Pt
 me:mg "check_tests"=some (.ref act)
def Wu {act:Addr}{kV:Value}{p7 p8 p9 p10:Pos}{c:List D->R D}
  (F:FnsP T cl P w K mg base n) (hT:T.F[q]?=some (Str.ofString "is_test")) (hc:∀ ds z,c ds=.ok z -> ∃ b ts,ds=[b,.lst ts] /\ z=.non /\ xX (fun t=>cl q [b,t]) ts)
  (lk:K.lookup act=some ⟨oc,od,.func (PySem.W.fnOf "check_tests" "check_tests" params (Cd p1 p2 p3 p4 p5 p6 p7 p8 p9 p10) gM dV kV doc pm an cdv ct),osl⟩) (hcd:PySem.W.codeIn K cdv "check_tests"=true) (L:LamK K mg act cdv) :
  FnOk P w K mg base CX0 (n+1) act (PySem.W.fnOf "check_tests" "check_tests" params (Cd p1 p2 p3 p4 p5 p6 p7 p8 p9 p10) gM dV kV doc pm an cdv ct) ["book","tests"] (spD ⟨P,w,K⟩ c 2):=by
 have S:FnScope ctN ["book","tests"] gM:=mJ (by decide +kernel)
 have len:∀ (vs:List V) (H:Hp) (Q:VK) (E:XK),spD ⟨P,w,K⟩ c 2 vs H Q E -> vs.length=([("book":Str),"tests"]:z0).length:=fun vs H Q E h=>by
  obtain ⟨ds,Hs,z,h,_⟩:=h;exact h
 refine ⟨len,fun A outer s H args us vs Q E hr e0 hb r hsp=>(RL (N:=ctN) lk hcd S (by have:=hr.dp;omega) hr.hd len fun s H vs Q E h=>?_).run s H args us vs Q E e0 hb r hsp⟩;obtain ⟨ds,Hs,z,hlen,hs,rs,hcz,k⟩:=h;obtain ⟨b,ts,rfl,rfl,hall⟩:=hc _ _ hcz;obtain ⟨vb,ws,rfl,rb,rs2⟩:=rs.cons_inv;obtain ⟨vt,ws,rfl,rt,rs3⟩:=rs2.cons_inv;cases rs3.nil_inv;obtain ⟨fc,params',dV',kV',doc',pm',cv',ct',oc',an',od',osl',a1,a2,a3,a4,a5,a6,x1,c1,b1,b2,b3,b4,b5,b6,b7,b8,b9,b10,b11,b12,b13,j,r2,g1,g2,g3,g4,g5⟩:=L.cl;obtain ⟨cc,Pt,ocd,vsd,file,tf,flags,tg,inF,text,tt,d1,d2,d3,d4,d5,d6,d7,d8,d9,d10,d11⟩:=L.code;have RA:=aa9 (e1:=envOfC "check_tests" gM s.heap.objs.size act cdv) (outer:=envOfC "check_tests" gM s.heap.objs.size act cdv::outer) F hT hr g1 g2
 have hpe:=Zf (X:=iM CX0 P w K mg base ctN "check_tests" gM act cdv A outer s H E) (xb:="book") (y:="tests") (xc:="check_list") (i0:=0) (i1:=1) (params:=Dd p3) (body:=xU p4 p5 p6 p7) (scope:=dw) (lpos:=p8) (p:=p1) (p2:=p2) (pos:=p9) (cc:=cc) (Pt:=Pt)
  RA g5 (show gM.names.lookup (Str.ofString "check_list")=some .globalImplicit by decide +kernel) g3 g4 rfl (show gM.names.lookup (Str.ofString "book")=some .cell by decide +kernel) rfl rfl (.inl (show gM.names.lookup (Str.ofString "tests")=some .local by decide +kernel)) (by decide +kernel) (by decide +kernel) (by decide +kernel)
  (fun c h=>Xu h) d1 (fun h X=>⟨ocd,vsd,file,tf,flags,tg,inF,text,tt,X _ _ d2,d3,d4,d5,d6,d7,d8,d9,d10,d11⟩) (fun H' tab=>tab act _ _ cc ocd vsd Pt L.me lk rfl d1 d2 d4 d5) rfl (show ("check_tests":Str) ++ ".<locals>." ++ "<lambda>"=eF by decide +kernel)
 refine ⟨_,CT (lB hpe (jP rfl)),?_⟩;refine ⟨vb,vt,rfl,rfl,fun f c' oc pm ctv cx ocell ub H' mono hn hn' hf hc' hlo hcell rub=>?_⟩;have nf:f≠cx:=fun z=>by rw [z,hn'] at hf;cases hf
 have nc:c'≠cx:=fun z=>by rw [z,hn'] at hc';cases hc'
 have hsc:Hs cx=none:=hs.free hn;refine ⟨vt,f,b,ts,Hs,rfl,fun a o e=>?_,⟨p3,p4,p5,p6,p7,cx,c',oc,ocell,ub,vb,pm,ctv,by rw [ao nf];exact hf,by rw [ao nc];exact hc',hlo,aB,hcell,rub,hsc,rb⟩,rt,hall,fun H1 Hs1 w1=>?_⟩
 .rw [ao (fun z=>by rw [z,hsc] at e;cases e)];exact mono _ _ (hs a o e)
 .have o1:Hs1 cx=none:=(w1.old cx _ aB).trans hsc;refine k .non (drop H1 cx) Hs1 ⟨fun a o e=>?_,fun a o e=>?_,fun a o e=>?_⟩ (Ck.mpr rfl)
  .have na:a≠cx:=fun z=>by rw [z,hn] at e;cases e
   rw [cD na];exact w1.keep a o (by rw [ao na];exact mono _ _ e)
  .have na:a≠cx:=fun z=>by rw [z,hn] at e;cases e
   exact w1.old a o (by rw [ao na];exact mono _ _ e)
  .rw [cD (fun z=>by rw [z,o1] at e;cases e)];exact w1.sub a o e
end
end Mi
set_option maxHeartbeats 1000000
namespace Mi
open PySem L2
open PyProof.Rows hiding St
inductive XS where
 | lam (g:Nat)
noncomputable def lC (p:D->R D):List D->R Unit
 | []=>.ok ()
 | d::ds=>(match p d with
   | .ok (.bl true)=>lC p ds
   | _=>.stuck)
def Nm (cl:Nat->List D->R D) (g:Nat) (ρ:En):R Out:=match bF ρ 0,bF ρ 1 with
 | .ok b,.ok (.lst ts)=>(match lC (fun t=>cl g [b,t]) ts with
   | .ok _=>.ok (.nx ρ)
   | _=>.stuck)
 | _,_=>.stuck
def Bf (cl:Nat->List D->R D):List XS->En->R Out
 | [.lam g],ρ=>Nm cl g ρ
 | _,_=>.stuck
noncomputable def vp:R Out->R D
 | .ok (.rt d)=>.ok d
 | .ok (.nx _)=>.ok .non
 | .ok (.ro d)=>.ok d
 | _=>.stuck
noncomputable def Nu:R Out->R D
 | .ok (.ro d)=>.ok d
 | _=>.stuck
def Gk (n:Nat):R Out->R D
 | .ok (.nx ρ)=>(do let a <- bF ρ 1;let b <- bF ρ (n - 1);.ok (.tup [a,b]))
 | _=>.stuck
noncomputable def rW:R Out->R D
 | .ok (.rt d)=>.ok d
 | .ok (.nx _)=>.ok .non
 | .exc x=>.exc x
 | _=>.stuck
noncomputable def st0 (d:Def) (args:List D):En:=args.map some++List.replicate (d.nn - d.np) none
def jt (cl:Nat->List D->R D) (tab:List Def) (f:Nat) (args:List D):R D:=match tab[f]? with
 | some d=>if args.length=d.np/\d.nrm=true then vp (bZ cl d.body (st0 d args)) else .stuck
 | none=>if 2000<=f then (match tab[f - 2000]? with
   | none=>.stuck
   | some d=>if args.length=d.np/\d.nrm=true then Nu (bZ cl d.body (st0 d args)) else .stuck)
  else (match tab[f - 1000]? with
   | none=>.stuck
   | some d=>if args.length=d.np/\Ar d=true then Gk d.np (bZ cl d.body (st0 d args)) else .stuck)
def xZ (cl:Nat->List D->R D) (b:List XS) (args:List D):Option Def->R D
 | none=>.stuck
 | some d=>if args.length=d.np then rW (Bf cl b (st0 d args)) else .stuck
abbrev rJ:=List (Nat × List XS)
def aq (tab:List Def) (xt:rJ):Nat->Nat->List D->R D
 | 0,_,_=>.stuck
 | n+1,f,args=>match xt.lookup f with
  | some b=>xZ (aq tab xt n) b args tab[f]?
  | none=>jt (aq tab xt n) tab f args
section
variable {tab:List Def}{xt:rJ}{n f:Nat}{d:Def}{args:List D}{z:D}{b:List XS}
def Uv (hx:xt.lookup f=none) (ht:tab[f]?=some d) (hl:args.length=d.np) (hn:d.nrm=true):aq tab xt (n+1) f args=vp (bZ (aq tab xt n) d.body (st0 d args)):=by
 show (match xt.lookup f with | some b=>_ | none=>_)=_
 rw [hx];show jt _ _ _ _=_
 unfold jt;rw [ht];exact if_pos ⟨hl,hn⟩
def Rz (hx:xt.lookup f=some b) (ht:tab[f]?=some d) (hl:args.length=d.np):aq tab xt (n+1) f args=rW (Bf (aq tab xt n) b (st0 d args)):=by
 show (match xt.lookup f with | some b=>_ | none=>_)=_
 rw [hx];show xZ _ _ _ _=_
 rw [ht];exact if_pos hl
theorem bR (d:D):vp (.ok (.rt d))=.ok d:=rfl
theorem bT (d:D):vp (.ok (.ro d))=.ok d:=rfl
theorem cF (ρ:En):vp (.ok (.nx ρ))=.ok .non:=rfl
theorem cC (d:D):rW (.ok (.rt d))=.ok d:=rfl
theorem cB (ρ:En):rW (.ok (.nx ρ))=.ok .non:=rfl
def Jy (hx:xt.lookup f=none) (ht:tab[f]?=some d) (h:aq tab xt (n+1) f args=.ok z):∃ o,args.length=d.np/\d.nrm=true/\bZ (aq tab xt n) d.body (st0 d args)=.ok o/\(o=.rt z\/o=.ro z\/(z=.non/\∃ ρ,o=.nx ρ)):=by
 replace h:(match xt.lookup f with | some b=>xZ (aq tab xt n) b args tab[f]? | none=>jt (aq tab xt n) tab f args)=.ok z:=h;rw [hx] at h;unfold jt at h;rw [ht] at h;obtain ⟨hl,h1⟩:=bK h;cases hr:bZ (aq tab xt n) d.body (st0 d args) with
 | exc x=>rw [hr] at h1;cases h1
 | stuck=>rw [hr] at h1;cases h1
 | ok o =>
  rw [hr] at h1;refine ⟨o,hl.1,hl.2,rfl,?_⟩;cases o with
  | rt d'=>cases h1;exact .inl rfl
  | ro d'=>cases h1;exact .inr (.inl rfl)
  | nx ρ=>cases h1;exact .inr (.inr ⟨rfl,ρ,rfl⟩)
def u9 (hf:f < 1000) (hx:xt.lookup (1000+f)=none) (hn:tab[1000+f]?=none) (ht:tab[f]?=some d) (h:aq tab xt (n+1) (1000+f) args=.ok z):∃ ρ x y,args.length=d.np/\Ar d=true/\bZ (aq tab xt n) d.body (st0 d args)=.ok (.nx ρ)/\bF ρ 1=.ok x/\bF ρ (d.np - 1)=.ok y/\z=.tup [x,y]:=by
 replace h:(match xt.lookup (1000+f) with | some b=>xZ (aq tab xt n) b args tab[1000+f]? | none=>jt (aq tab xt n) tab (1000+f) args)=.ok z:=h;rw [hx] at h;unfold jt at h;rw [hn,show 1000+f - 1000=f by omega] at h;simp only [ht,if_neg (show ¬ 2000<=1000+f by omega)] at h;obtain ⟨hl,h1⟩:=bK h;cases hr:bZ (aq tab xt n) d.body (st0 d args) with
 | exc x=>rw [hr] at h1;cases h1
 | stuck=>rw [hr] at h1;cases h1
 | ok o =>
  rw [hr] at h1;cases o with
  | rt d'=>cases h1
  | ro d'=>cases h1
  | nx ρ =>
   obtain ⟨x,hx1,h2⟩:=aj (show (bF ρ 1 >>= fun a=>bF ρ (d.np - 1) >>= fun b=>R.ok (D.tup [a,b]))=.ok z from h1);obtain ⟨y,hy1,h3⟩:=aj h2;cases h3;exact ⟨ρ,x,y,hl.1,hl.2,rfl,hx1,hy1,rfl⟩
def vH (hx:xt.lookup (2000+f)=none) (hn:tab[2000+f]?=none) (ht:tab[f]?=some d) (h:aq tab xt (n+1) (2000+f) args=.ok z):args.length=d.np/\d.nrm=true/\bZ (aq tab xt n) d.body (st0 d args)=.ok (.ro z):=by
 replace h:(match xt.lookup (2000+f) with | some b=>xZ (aq tab xt n) b args tab[2000+f]? | none=>jt (aq tab xt n) tab (2000+f) args)=.ok z:=h;rw [hx] at h;unfold jt at h;rw [hn,show 2000+f - 2000=f by omega] at h;simp only [ht,if_pos (show 2000<=2000+f by omega)] at h;obtain ⟨hl,h1⟩:=bK h;cases hr:bZ (aq tab xt n) d.body (st0 d args) with
 | exc x=>rw [hr] at h1;cases h1
 | stuck=>rw [hr] at h1;cases h1
 | ok o =>
  rw [hr] at h1;cases o with
  | rt d'=>cases h1
  | ro d'=>cases h1;exact ⟨hl.1,hl.2,rfl⟩
  | nx ρ=>cases h1
end
structure LamD (T:Tx) (K:zt) (mg:w8) (x:Str) (b:List XS) (d:Def) (ps:z0) (st:Stmt) (a:Addr) (fd:FuncData):Prop where
 ex:∃ q p1 p2 p3 p4 p5 p6 p7 p8 p9 p10,b=[.lam q] /\ T.F[q]?=some (Str.ofString "is_test") /\ dB st=Cd p1 p2 p3 p4 p5 p6 p7 p8 p9 p10
 sc:bf st=gM
 nm:x=Str.ofString "check_tests"
 par:ps=[("book":Str),"tests"]
 np:d.np=2
 nn:d.nn=2
 nomut:Ar d=false
 nonrm:d.nrm=false
 lam:LamK K mg a fd.code
structure PrX (T:Tx) (tab:List Def) (xt:rJ) (K:zt) (mg:w8):Prop where
 len:tab.length<=1000
 xlen:∀ f b,xt.lookup f=some b->f < 1000
 blt:∀ f∈lJ,mg f=none
 gl:∀ x d,T.gl.lookup x=some d->GlV d (mg x)
 fn:∀ (f:Nat) (x:Str),T.F[f]?=some x->∃ d N ps st a fd,tab[f]?=some d/\Fun K x x st a fd/\mg x=some (.ref a)/\Binds K fd ps []/\(match xt.lookup f with | none=>aY T d N ps st=true | some b=>LamD T K mg x b d ps st a fd)
def Dp (T:Tx) (tab:List Def) (xt:rJ) (P:Program) (w:World) (K:zt) (mg:w8) (base:Heap) (n:Nat):Prop:=∀ (f:Nat) (x:Str),T.F[f]?=some x ->
  ∃ a fd ps,FnOk P w K mg base CX0 n a fd ps (spD ⟨P,w,K⟩ (aq tab xt n f) ps.length)/\mg x=some (.ref a)/\PySem.W.keepIn K (.ref a)=true/\Binds K fd ps []/\(∀ ds d,aq tab xt n f ds=.ok d->ds.length=ps.length)/\FnOk P w K mg base CX0 n a fd ps (O5 ⟨P,w,K⟩ (aq tab xt n (1000+f)) ps.length)/\(∀ ds d,aq tab xt n (1000+f) ds=.ok d->ds.length=ps.length)/\FnOk P w K mg base CX0 n a fd ps (spF ⟨P,w,K⟩ (aq tab xt n (2000+f)) ps.length)/\∀ ds d,aq tab xt n (2000+f) ds=.ok d->ds.length=ps.length
variable {CX:CXT}{cdv:Value}{A:Around}{outer:List Env}{s:Shared}{H:Hp}{E:XK}{q:Str}{xe:zn}
section
variable {T:Tx}{tab:List Def}{xt:rJ}{P:Program}{w:World}{K:zt}{mg:w8}{base:Heap}{n:Nat}{f:Nat}{x:Str}{d:Def}{N ps:z0}{st:Stmt}{a:Addr}{fd:FuncData}{b:List XS}
theorem PrX.no1 (Pr:PrX T tab xt K mg):xt.lookup (1000+f)=none:=by
 cases q:xt.lookup (1000+f) with
 | none=>rfl
 | some b=>have:=Pr.xlen _ b q;omega
theorem PrX.no2 (Pr:PrX T tab xt K mg):xt.lookup (2000+f)=none:=by
 cases q:xt.lookup (2000+f) with
 | none=>rfl
 | some b=>have:=Pr.xlen _ b q;omega
def xK (Pr:PrX T tab xt K mg) (IH:Dp T tab xt P w K mg base n)  (S:FnScope N ps (bf st)) (hr:Room n (A.deeper (envOfC q (bf st) s.heap.objs.size a cdv)))  :
  Cok T (aq tab xt n) ((iM CX P w K mg base N q (bf st) a cdv A outer s H E).wish xe):=by
 refine ⟨rfl,S.nd,?_,Pr.blt,Pr.gl,fun f' x' hF'=>?_⟩
 .have:=hr.un;show (A.deeper _).units+100 < cLine
  omega
 .obtain ⟨a',fd',ps',q1,q2⟩:=IH f' x' hF';exact ⟨n,a',fd',ps',q1,hr,q2⟩
theorem pX :ScRel (bf st) ((iM CX P w K mg base N q (bf st) a cdv A outer s H E).wish xe) :=
 ⟨fun y h=>tZ h,fun y h=>uq h,fun y h=>h,fun y h=>⟨lK h,.inl rfl⟩⟩
def G6 (Pr:PrX T tab xt K mg) (IH:Dp T tab xt P w K mg base n) (hx:xt.lookup f=none) (ht:tab[f]?=some d) (F:Fun K x x st a fd) (hd:aY T d N ps st=true) :
  FnOk P w K mg base CX0 (n+1) a fd ps (spD ⟨P,w,K⟩ (aq tab xt (n+1) f) ps.length)/\∀ ds z,aq tab xt (n+1) f ds=.ok z->ds.length=ps.length:=by
 unfold aY at hd;simp only [Bool.and_eq_true,decide_eq_true_eq] at hd;obtain ⟨⟨⟨⟨h1,h2⟩,h3⟩,h4⟩,h5⟩:=hd;have S:=mJ h1;refine ⟨F.ok S (fun vs H Q E h=>?_) (fun cdv A outer s H vs Q E hr h=>?_),fun ds z h=>?_⟩
 .obtain ⟨ds,Hs,z,h,_⟩:=h;exact h
 .obtain ⟨ds,Hs,z,hlen,hs,r,hc,k⟩:=h;obtain ⟨o,hnp,hnr,hrun,ho⟩:=Jy hx ht hc;rw [hnr] at h5;obtain ⟨O',hO⟩:=yz.mp (show (dg [] d.body []).isSome=true from h5);have C:=xK (CX:=CX0) (outer:=outer) (H:=H) (E:=E) (xe:=fun _ _=>False) Pr IH S hr;have SR:=pX (CX:=CX0) (P:=P) (w:=w) (K:=K) (mg:=mg) (base:=base) (N:=N) (st:=st) (a:=a) (cdv:=cdv) (A:=A) (outer:=outer) (s:=s) (H:=H) (E:=E) (q:=x) (xe:=fun _ _=>False);refine ⟨_,n6 (E:=⟨H,[]⟩) (Es:=Hs) (fun m _=>nW m) (fun q hm=>by cases hm) C SR PassesOwn.never h4 hO,?_⟩;refine ⟨_,Hs,o,?_,hrun,?_⟩
  .have hl:=r.length;exact Ip hs r (by rw [h3,h2];omega)
  .rcases ho with rfl | rfl | ⟨rfl,ρ',rfl⟩
   .exact fun v H' Hs' g' r'=>k v H' Hs' g' r'
   .exact fun v H' Hs' g' r' _=>k v H' Hs' g' r'
   .exact fun O1 _ σ' H' Hs' F' _=>k .non H' Hs' F'.grow (Ck.mpr rfl)
 .obtain ⟨o,hnp,_⟩:=Jy hx ht h;rw [hnp,h2]
def Xh (Pr:PrX T tab xt K mg) (IH:Dp T tab xt P w K mg base n) (ht:tab[f]?=some d) (F:Fun K x x st a fd) (hd:aY T d N ps st=true) :
  FnOk P w K mg base CX0 (n+1) a fd ps (O5 ⟨P,w,K⟩ (aq tab xt (n+1) (1000+f)) ps.length)/\∀ ds z,aq tab xt (n+1) (1000+f) ds=.ok z->ds.length=ps.length:=by
 unfold aY at hd;simp only [Bool.and_eq_true,decide_eq_true_eq] at hd;obtain ⟨⟨⟨⟨h1,h2⟩,h3⟩,h4⟩,h5⟩:=hd;have S:=mJ h1;have hn:tab[1000+f]?=none:=List.getElem?_eq_none (by have:=Pr.len;omega);have hf:f < 1000:=by
  have:=Pr.len;have:=(vV.mp ht).1;omega
 refine ⟨F.ok S (fun vs H Q E h=>?_) (fun cdv A outer s H vs Q E hr h=>?_),fun ds z h=>?_⟩
 .obtain ⟨d0,d1,e1,d',e',v0,b,c,Hs,_,h,_⟩:=h;exact h
 .obtain ⟨d0,d1,e1,d',e',v0,b,c,Hs,hvs,hlen,hs,r0,hb,hc',ow,oc,k⟩:=h;rcases hvs with ⟨rfl,hbc,hc⟩ | ⟨rfl,rfl,rfl,hc⟩
  all_goals
   obtain ⟨ρ,x1,y1,hl2,hm,hrun,hg,hg2,ez⟩:=u9 hf Pr.no1 hn ht hc;cases ez;unfold Ar at hm;rw [<- hl2] at hm hg2;simp only [Bool.and_eq_true,Bool.not_eq_true'] at hm;obtain ⟨⟨m2,m4⟩,m3⟩:=hm
  .cases hO:dg [] d.body [1,2] with
   | none=>simp only [List.length_cons,List.length_nil,Nat.reduceAdd,Nat.reduceSub,hO] at m3;cases m3
   | some O' =>
    cases O' with
    | none=>simp only [List.length_cons,List.length_nil,Nat.reduceAdd,Nat.reduceSub,hO] at m3;cases m3
    | some O1 =>
     simp only [List.length_cons,List.length_nil,Nat.reduceAdd,Nat.reduceSub,hO] at m3;replace m3:1∈O1/\2∈O1:=by simpa using m3
     have m2':(1:Nat) ∉ mU d.body:=by simpa using m2
     have m4':(2:Nat) ∉ mU d.body:=by simpa using m4
     have C:=xK (CX:=CX0) (outer:=outer) (H:=H) (E:=E) (xe:=fun _ _=>False) Pr IH S hr;have SR:=pX (CX:=CX0) (P:=P) (w:=w) (K:=K) (mg:=mg) (base:=base) (N:=N) (st:=st) (a:=a) (cdv:=cdv) (A:=A) (outer:=outer) (s:=s) (H:=H) (E:=E) (q:=x) (xe:=fun _ _=>False);refine ⟨_,n6 (E:=⟨hole (hole H b) c,[(1,b),(2,c)]⟩) (Es:=Hs) (fun m _=>nW m) (fun q hm=>?_) C SR PassesOwn.never h4 hO,?_⟩
     .rcases z9.mp hm with z | z
      .rw [z];exact m2'
      .rw [List.mem_singleton.mp z];exact m4'
     refine ⟨_,Hs,.nx ρ,Wl hs r0 hbc hb hc' ow oc (by rw [h3,h2,hlen]),hrun,?_⟩;intro O2 e2 σ' H' Hs' F' _;cases e2;obtain ⟨b',eb,_,b1,ob⟩:=F'.own 1 m3.1 _ (dI hg);have ep:=F'.pin (1,b) vE;rw [eb] at ep;cases ep;obtain ⟨c',ec,_,c1,oc'⟩:=F'.own 2 m3.2 _ (dI hg2);have ep2:=F'.pin (2,c) (vz _ vE);rw [ec] at ep2;cases ep2;exact k H' Hs' F'.grow b1 c1 ob oc'
  .cases hO:dg [] d.body [1,1] with
   | none=>simp only [List.length_cons,List.length_nil,Nat.reduceAdd,Nat.reduceSub,hO] at m3;cases m3
   | some O' =>
    cases O' with
    | none=>simp only [List.length_cons,List.length_nil,Nat.reduceAdd,Nat.reduceSub,hO] at m3;cases m3
    | some O1 =>
     simp only [List.length_cons,List.length_nil,Nat.reduceAdd,Nat.reduceSub,hO] at m3;replace m3:1∈O1:=by simpa using m3
     have m2':(1:Nat) ∉ mU d.body:=by simpa using m2
     have C:=xK (CX:=CX0) (outer:=outer) (H:=H) (E:=E) (xe:=fun _ _=>False) Pr IH S hr;have SR:=pX (CX:=CX0) (P:=P) (w:=w) (K:=K) (mg:=mg) (base:=base) (N:=N) (st:=st) (a:=a) (cdv:=cdv) (A:=A) (outer:=outer) (s:=s) (H:=H) (E:=E) (q:=x) (xe:=fun _ _=>False);refine ⟨_,n6 (E:=⟨hole (hole H b) b,[(1,b),(1,b)]⟩) (Es:=Hs) (fun m _=>nW m) (fun q hm=>?_) C SR PassesOwn.never h4 hO,?_⟩
     .rcases z9.mp hm with z | z
      .rw [z];exact m2'
      .rw [List.mem_singleton.mp z];exact m2'
     refine ⟨_,Hs,.nx ρ,Td hs r0 hb ow (by rw [h3,h2,hlen]),hrun,?_⟩;intro O2 e2 σ' H' Hs' F' _;cases e2;obtain ⟨b',eb,_,b1,ob⟩:=F'.own 1 m3 _ (dI hg);obtain ⟨c',ec,_,c1,oc'⟩:=F'.own 1 m3 _ (dI hg2);have ep:=F'.pin (1,b) vE;rw [ep] at eb ec;cases eb;cases ec;exact k H' Hs' F'.grow b1 b1 ob oc'
 .obtain ⟨ρ,_,_,hl2,hm,_⟩:=u9 hf Pr.no1 hn ht h;rw [hl2,h2]
def Yu (Pr:PrX T tab xt K mg) (IH:Dp T tab xt P w K mg base n) (ht:tab[f]?=some d) (F:Fun K x x st a fd) (hd:aY T d N ps st=true) :
  FnOk P w K mg base CX0 (n+1) a fd ps (spF ⟨P,w,K⟩ (aq tab xt (n+1) (2000+f)) ps.length)/\∀ ds z,aq tab xt (n+1) (2000+f) ds=.ok z->ds.length=ps.length:=by
 unfold aY at hd;simp only [Bool.and_eq_true,decide_eq_true_eq] at hd;obtain ⟨⟨⟨⟨h1,h2⟩,h3⟩,h4⟩,h5⟩:=hd;have S:=mJ h1;have hn:tab[2000+f]?=none:=List.getElem?_eq_none (by have:=Pr.len;omega);refine ⟨F.ok S (fun vs H Q E h=>?_) (fun cdv A outer s H vs Q E hr h=>?_),fun ds z h=>?_⟩
 .obtain ⟨ds,Hs,z,h,_⟩:=h;exact h
 .obtain ⟨ds,Hs,z,hlen,hs,r,hc,k⟩:=h;obtain ⟨hnp,hnr,hrun⟩:=vH Pr.no2 hn ht hc;rw [hnr] at h5;obtain ⟨O',hO⟩:=yz.mp (show (dg [] d.body []).isSome=true from h5);have C:=xK (CX:=CX0) (outer:=outer) (H:=H) (E:=E) (xe:=fun _ _=>False) Pr IH S hr;have SR:=pX (CX:=CX0) (P:=P) (w:=w) (K:=K) (mg:=mg) (base:=base) (N:=N) (st:=st) (a:=a) (cdv:=cdv) (A:=A) (outer:=outer) (s:=s) (H:=H) (E:=E) (q:=x) (xe:=fun _ _=>False);refine ⟨_,n6 (E:=⟨H,[]⟩) (Es:=Hs) (fun m _=>nW m) (fun q hm=>by cases hm) C SR PassesOwn.never h4 hO,?_⟩;refine ⟨_,Hs,.ro z,?_,hrun,fun v H' Hs' g' r' f'=>k v H' Hs' g' r' f'⟩;have hl:=r.length;exact Ip hs r (by rw [h3,h2];omega)
 .obtain ⟨hnp,_⟩:=vH Pr.no2 hn ht h;rw [hnp,h2]
theorem LK {p:D->R D}:∀ {ts:List D}{u:Unit},lC p ts=.ok u->xX p ts
 | [],_,_=>trivial
 | t::ts,u,h=>by
  replace h:(match p t with | .ok (.bl true)=>lC p ts | _=>.stuck)=.ok u:=h;split at h
  .rename_i e;exact ⟨e,LK h⟩
  .cases h
def Yi (Pr:PrX T tab xt K mg) (IH:Dp T tab xt P w K mg base n) (hx:xt.lookup f=some b) (ht:tab[f]?=some d) (F:Fun K x x st a fd) (hd:LamD T K mg x b d ps st a fd) :
  FnOk P w K mg base CX0 (n+1) a fd ps (spD ⟨P,w,K⟩ (aq tab xt (n+1) f) ps.length)/\(∀ ds z,aq tab xt (n+1) f ds=.ok z->ds.length=ps.length)/\∀ ds y,aq tab xt (n+1) f ds=.exc y->False:=by
 obtain ⟨q,p1,p2,p3,p4,p5,p6,p7,p8,p9,p10,rfl,hT,hbd⟩:=hd.ex;have ce:∀ ds,aq tab xt (n+1) f ds=if ds.length=d.np then rW (Bf (aq tab xt n) [.lam q] (st0 d ds)) else .stuck:=fun ds=>by
  show (match xt.lookup f with | some b=>_ | none=>_)=_
  rw [hx];show xZ _ _ _ _=_
  rw [ht];rfl
 have two:∀ ds:List D,ds.length=d.np->∃ u v,ds=[u,v]/\st0 d ds=[some u,some v]:=fun ds hl=>by
  rw [hd.np] at hl
  match ds,hl with
  | [u,v],_ =>
   refine ⟨u,v,rfl,?_⟩;unfold st0;rw [hd.nn,hd.np];rfl
 have lam:∀ u v,rW (Bf (aq tab xt n) [.lam q] [some u,some v])=(match v with | .lst ts=>(match lC (fun t=>aq tab xt n q [u,t]) ts with | .ok _=>.ok .non | _=>.stuck) | _=>.stuck):=fun u v=>by
  show rW (Nm (aq tab xt n) q [some u,some v])=_
  cases v <;> try rfl
  rename_i ts;show rW ((match lC (fun t=>aq tab xt n q [u,t]) ts with | .ok _=>.ok (.nx [some u,some (.lst ts)]) | _=>.stuck))=(match lC (fun t=>aq tab xt n q [u,t]) ts with | .ok _=>.ok .non | _=>.stuck)
  cases lC (fun t=>aq tab xt n q [u,t]) ts <;> rfl
 have hc:∀ ds z,aq tab xt (n+1) f ds=.ok z->∃ u ts,ds=[u,.lst ts]/\z=.non/\xX (fun t=>aq tab xt n q [u,t]) ts:=fun ds z h=>by
  rw [ce] at h;obtain ⟨hl,h1⟩:=bK h;obtain ⟨u,v,rfl,e⟩:=two ds hl;rw [e,lam] at h1;cases v <;> try (cases h1;done)
  rename_i ts;replace h1:(match lC (fun t=>aq tab xt n q [u,t]) ts with | .ok _=>R.ok D.non | _=>.stuck)=.ok z:=h1;split at h1
  .rename_i e2;cases h1;exact ⟨u,ts,rfl,rfl,LK e2⟩
  .cases h1
 refine ⟨?_,fun ds z h=>?_,fun ds y h=>?_⟩
 .have FP:FnsP T (aq tab xt n) P w K mg base n:=⟨Pr.blt,Pr.gl,fun f' x' hF'=>by
   obtain ⟨a',fd',ps',q⟩:=IH f' x' hF';exact ⟨a',fd',ps',q⟩⟩
  have hlam:=hd.lam;have hnm:=hd.nm;have hpar:=hd.par;subst hnm hpar;obtain ⟨oc,od,kV,doc,pm,an,cdv,ct,osl,rfl,lk,hcd⟩:=F.ex;rw [hbd,hd.sc] at lk ⊢;exact Wu FP hT hc lk hcd hlam
 .obtain ⟨u,ts,rfl,_⟩:=hc ds z h;rw [hd.par];rfl
 .rw [ce] at h;by_cases hl:ds.length=d.np
  .rw [if_pos hl] at h;obtain ⟨u,v,rfl,e⟩:=two ds hl;rw [e,lam] at h;cases v <;> try (cases h;done)
   rename_i ts;replace h:(match lC (fun t=>aq tab xt n q [u,t]) ts with | .ok _=>R.ok D.non | _=>.stuck)=.exc y:=h;split at h <;> cases h
  .rw [if_neg hl] at h;cases h
end
theorem sH {T:Tx}{tab:List Def}{xt:rJ}{P:Program}{w:World}{K:zt}{mg:w8} (Pr:PrX T tab xt K mg) (base:Heap):∀ (n:Nat),Dp T tab xt P w K mg base n
 | 0,f,x,hF=>by
  obtain ⟨d,N,ps,st,a,fd,ht,F,hm,hb,hd⟩:=Pr.fn f x hF;refine ⟨a,fd,ps,⟨fun vs H Q E h=>?_,fun A outer s H args us vs Q E hr he hbt hv h=>?_⟩,hm,F.kp,hb,fun ds d h=>?_,⟨fun vs H Q E h=>?_,fun A outer s H args us vs Q E hr he hbt hv h=>?_⟩,fun ds d h=>?_,⟨fun vs H Q E h=>?_,fun A outer s H args us vs Q E hr he hbt hv h=>?_⟩,fun ds d h=>?_⟩
  .obtain ⟨ds,Hs,d,_,_,_,h,_⟩:=h;cases h
  .obtain ⟨ds,Hs,d,_,_,_,h,_⟩:=h;cases h
  .cases h
  .obtain ⟨_,_,_,_,_,_,_,_,_,⟨_,_,h⟩ | ⟨_,_,_,h⟩,_⟩:=h <;> cases h
  .obtain ⟨_,_,_,_,_,_,_,_,_,⟨_,_,h⟩ | ⟨_,_,_,h⟩,_⟩:=h <;> cases h
  .cases h
  .obtain ⟨ds,Hs,d,_,_,_,h,_⟩:=h;cases h
  .obtain ⟨ds,Hs,d,_,_,_,h,_⟩:=h;cases h
  .cases h
 | n+1,f,x,hF=>by
  obtain ⟨d,N,ps,st,a,fd,ht,F,hm,hb,hd⟩:=Pr.fn f x hF;cases hx:xt.lookup f with
  | none =>
   rw [hx] at hd;obtain ⟨q1,q2⟩:=G6 Pr (sH Pr base n) hx ht F hd;obtain ⟨q3,q4⟩:=Xh Pr (sH Pr base n) ht F hd;obtain ⟨q5,q6⟩:=Yu Pr (sH Pr base n) ht F hd;exact ⟨a,fd,ps,q1,hm,F.kp,hb,q2,q3,q4,q5,q6⟩
  | some b =>
   rw [hx] at hd;have hm6:Ar d=false:=hd.nomut;have hn7:d.nrm=false:=hd.nonrm;have hn1:tab[1000+f]?=none:=List.getElem?_eq_none (by have:=Pr.len;omega);have hn2:tab[2000+f]?=none:=List.getElem?_eq_none (by have:=Pr.len;omega);have hf:f < 1000:=Pr.xlen f b hx;have no1:∀ ds z,aq tab xt (n+1) (1000+f) ds=.ok z->False:=fun ds z h=>by
    obtain ⟨_,_,_,_,hmm,_⟩:=u9 hf Pr.no1 hn1 ht h;rw [hm6] at hmm;cases hmm
   have no2:∀ ds z,aq tab xt (n+1) (2000+f) ds=.ok z->False:=fun ds z h=>by
    obtain ⟨_,hmm,_⟩:=vH Pr.no2 hn2 ht h;rw [hn7] at hmm;cases hmm
   obtain ⟨q1,q2,q3⟩:=Yi Pr (sH Pr base n) hx ht F hd;refine ⟨a,fd,ps,q1,hm,F.kp,hb,q2,⟨fun vs H Q E h=>?_,fun A outer s H args us vs Q E hr he hbt hv h=>?_⟩,fun ds z h=>(no1 ds z h).elim,⟨fun vs H Q E h=>?_,fun A outer s H args us vs Q E hr he hbt hv h=>?_⟩,fun ds z h=>(no2 ds z h).elim⟩
   .obtain ⟨_,_,_,_,_,_,_,_,_,⟨_,_,h⟩ | ⟨_,_,_,h⟩,_⟩:=h <;> exact (no1 _ _ h).elim
   .obtain ⟨_,_,_,_,_,_,_,_,_,⟨_,_,h⟩ | ⟨_,_,_,h⟩,_⟩:=h <;> exact (no1 _ _ h).elim
   .obtain ⟨ds,Hs,d,_,_,_,h,_⟩:=h;exact (no2 _ _ h).elim
   .obtain ⟨ds,Hs,d,_,_,_,h,_⟩:=h;exact (no2 _ _ h).elim
variable {xt:rJ}
def abx {l:PySem.W.OpenLaw}{q:Program}{loose:z0}{XP:(w8)->Heap->Prop}{YP:World->Heap->Prop}{dr:DefRec}{K:Params->zt}{T:Tx}{tab:List Def}{n fl:Nat}{par:Str}{N:z0}{st:Stmt}{d:Def}
  (hn:l.most=some 63) (hdf:dr.params.defaults=[]) (hr:Room (n+1) callerA) (ht:tab[fl]?=some d) (hx:xt.lookup fl=none) (hd:aY T d N [par] st=true)
  (hY:∀ (w:World) (h:Heap),YP w h->(K w.params).In h) (hKc:∀ (p:Params) (b:Addr) (o:Obj),(K p).lookup b=some o->NZ o) (hT:∀ (w:World) (s₀:Shared) (mg mb:w8) (h:Heap),PySem.W.Ground q loose [] XP w s₀ mg mb h->YP w h->∃ tP,Ay mg h tP)
  (F:∀ (w:World) (mg:w8) (h:Heap),(K w.params).In h->h.Ns mainGlobals mg->PrX T tab xt (K w.params) mg)
  (FL:∀ (w:World),FF (K w.params) dr.name st)
  (hb:∀ (kV doc pm:Value) (an:vn) (cdv ct u:Value),bindArgs (PySem.W.fnOf dr.name dr.name (eG st) (dB st) (bf st) .none kV doc pm an cdv ct) ⟨[u],[]⟩=pure [(par,u)])
  (law:∀ ns:List Int,ns.length<=63->aq tab xt (n+1) fl [.lst (ns.map D.int)]=.ok (.bl true)) :
  PySem.W.WalkO q loose XP YP l.row.toRowW dr [] (fun f vs=>PySem.call f vs):=by
 refine L2.YH (n:=63) (k:=n+1) (x:=par) (CX:=fun _=>CX0) (sp:=fun w=>spD ⟨l.prog,w,K w.params⟩ (aq tab xt (n+1) fl) 1) hn (by decide) hdf hr hY hKc hT (fun w mg fa h KX G hmg=>?_) (fun w H a ns hl hO hS=>?_) (fun _ _ _ _ _ z=>z)
 .obtain ⟨a,fd,ha,FF⟩:=(FL w).ex;have e:=hmg.symm.trans (PySem.W.mg_of KX G ha);cases e;refine ⟨fd,fun s u=>?_,fun base kb nb=>(G6 (F w mg h KX G) (sH (F w mg h KX G) base n) hx ht FF hd).1⟩;obtain ⟨oc,od,kV,doc,pm,an,cdv,ct,osl,rfl,lk,hcd⟩:=FF.ex;exact .of_eq (hb kV doc pm an cdv ct u)
 .exact ⟨[.lst (ns.map D.int)],H,.bl true,rfl,Same.refl _,Rps.one (bI.mpr ⟨a,_,rfl,hS,Fi ns⟩),law ns hl,fun v H' Hs' g' r=>nQ.mp r⟩
end Mi
set_option maxHeartbeats 1000000
namespace Mi
open PySem L2
open PyProof.Rows hiding St
noncomputable def xH (K:zt):Value->Bool
 | .ref cc=>(match K.lookup cc with
  | some ⟨.type t,_,.fields vs,_⟩=>decide (t="code") && (match (vs[11]?:Option Value) with
   | some (.ref p)=>(match vs.getD 18 .none with
    | .str _ _=>(match vs.getD 7 .none with
     | .int _ _=>(match vs.getD 9 .none with
      | .bool _=>(match vs.getD 10 .none with
       | .int _ _=>decide (cc≠p)
       | _=>false)
      | _=>false)
     | _=>false)
    | _=>false)
   | _=>false)
  | _=>false)
 | _=>false
variable {K:zt}
def Pu {v:Value} (h:xH K v=true):∃ cc Pt oc vs file tf flags tg inF text tt,v=.ref cc /\ K.lookup cc=some oc /\ oc.cls=.type "code" /\ oc.data=.fields vs /\ vs[11]?=some (.ref Pt) /\ vs.getD 11 .none=.ref Pt /\ vs.getD 18 .none=.str file tf /\ vs.getD 7 .none=.int flags tg /\ vs.getD 9 .none=.bool inF /\ vs.getD 10 .none=.int text tt /\ cc ≠ Pt:=by
 unfold xH at h;split at h <;> try (cases h;done)
 rename_i cc;split at h <;> try (cases h;done)
 rename_i t dd vs sl e;rw [Bool.and_eq_true] at h;obtain ⟨h0,h⟩:=h;cases of_decide_eq_true h0;split at h <;> try (cases h;done)
 rename_i p e11;split at h <;> try (cases h;done)
 rename_i f18 t18 e18;split at h <;> try (cases h;done)
 rename_i f7 t7 e7;split at h <;> try (cases h;done)
 rename_i f9 e9;split at h <;> try (cases h;done)
 rename_i f10 t10 e10;refine ⟨cc,p,_,vs,f18,t18,f7,t7,f9,f10,t10,rfl,e,rfl,rfl,e11,?_,e18,e7,e9,e10,of_decide_eq_true h⟩;simp [Array.getD_eq_getD_getElem?,e11]
structure FL (K:zt) (x:Str) (st:Stmt):Prop where
 ex:∃ a fd,PySem.W.nsIn K mainGlobals x=some (some (.ref a))/\Fun K x x st a fd/\xH K fd.code=true
variable {st:Stmt}
theorem ab1 {x:Str}{f:Addr}{oc:Value}{od an:vn}{osl:vw}{kV doc pm cdv ct:Value} (a:PySem.W.nsIn K mainGlobals x=some (some (.ref f)))
  (l:K.lookup f=some ⟨oc,od,.func (PySem.W.fnOf x x (eG st) (dB st) (bf st) .none kV doc pm an cdv ct),osl⟩) (c:PySem.W.codeIn K cdv x=true) (k:PySem.W.keepIn K (.ref f)=true) (h:xH K cdv=true):FL K x st :=
 ⟨⟨f,_,a,Tq l c k,h⟩⟩
variable {h:Heap}
def ZS {T:Tx}{tab:List Def}{xt:rJ}{mg:w8}{stc:Stmt}{d:Def}{i q:Nat}{p1 p2 p3 p4 p5 p6 p7 p8 p9 p10:Pos}{a1 a2 a3 a4 a5 a6:Pos}{x1 c1:Option Expr}{b1 b2 b3 b4 b5 b6 b7 b8 b9 b10 b11 b12 b13:Pos}{j:Nat}{r2:vi}
  (X:K.In h) (G:h.Ns mainGlobals mg) (fl:FL K (Str.ofString "check_tests") st) (fc:FF K (Str.ofString "check_list") stc) (hx:xt.lookup i=some [.lam q]) (ht:tab[i]?=some d) (hq:T.F[q]?=some (Str.ofString "is_test"))
  (hb:dB st=Cd p1 p2 p3 p4 p5 p6 p7 p8 p9 p10) (hs:bf st=gM) (hbc:dB stc=vA a1 a2 a3 a4 a5 a6 x1 c1 b1 b2 b3 b4 b5 b6 b7 b8 b9 b10 b11 b12 b13 j r2) (hsc:bf stc=cR) (hnp:d.np=2) (hnn:d.nn=2) (hmu:Ar d=false) (hnr:d.nrm=false)
  (hb1:∀ (kV doc pm:Value) (an:vn) (cdv ct:Value) (us:zw),us.length=([("book":Str),"tests"]:z0).length -> bindArgs (PySem.W.fnOf (Str.ofString "check_tests") (Str.ofString "check_tests") (eG st) (dB st) (bf st) .none kV doc pm an cdv ct) ⟨us,[]⟩=pure (([("book":Str),"tests"]:z0).zip us))
  (hb2:∀ (kV doc pm:Value) (an:vn) (cdv ct:Value) (us:zw),us.length=([("things":Str),"is_right"]:z0).length -> bindArgs (PySem.W.fnOf (Str.ofString "check_list") (Str.ofString "check_list") (eG stc) (dB stc) (bf stc) .none kV doc pm an cdv ct) ⟨us,[]⟩=pure (([("things":Str),"is_right"]:z0).zip us)) :
  ∃ d N ps st a fd,tab[i]?=some d /\ Fun K (Str.ofString "check_tests") (Str.ofString "check_tests") st a fd /\ mg (Str.ofString "check_tests")=some (.ref a) /\ L2.Binds K fd ps [] /\ (match xt.lookup i with | none=>aY T d N ps st=true | some b=>LamD T K mg (Str.ofString "check_tests") b d ps st a fd):=by
 obtain ⟨a,fd,e,F,hco⟩:=fl.ex;obtain ⟨ac,fdc,ec,FC⟩:=fc.ex;have me:=PySem.W.mg_of X G e;refine ⟨d,[],[("book":Str),"tests"],st,a,fd,ht,F,me,F.binds hb1,?_⟩
 rw [hx];refine ⟨⟨q,p1,p2,p3,p4,p5,p6,p7,p8,p9,p10,rfl,hq,hb⟩,hs,rfl,rfl,hnp,hnn,hmu,hnr,?_,Pu hco,me⟩;have bc:=FC.binds hb2;have kp:=FC.kp;obtain ⟨oc,od,kV,doc,pm,an,cdv,ct,osl,rfl,lk,hcd⟩:=FC.ex;rw [hbc,hsc] at lk bc;exact ⟨ac,eG stc,.none,kV,doc,pm,cdv,ct,oc,an,od,osl,a1,a2,a3,a4,a5,a6,x1,c1,b1,b2,b3,b4,b5,b6,b7,b8,b9,b10,b11,b12,b13,j,r2,lk,hcd,PySem.W.mg_of X G ec,kp,bc⟩
theorem S5:∀ {l:rJ}{f:Nat}{b:List XS},l.lookup f=some b->(f,b)∈l
 | [],_,_,h=>by cases h
 | (k,v)::l,f,b,h=>by
  rw [List.lookup_cons] at h;split at h
  .rename_i e;cases h;rw [beq_iff_eq.mp e];exact vE
  .exact vz _ (S5 h)
theorem Mq:∀ {l:w4}{f:Addr}{b:Obj},l.lookup f=some b->(f,b)∈l
 | [],_,_,h=>by cases h
 | (k,v)::l,f,b,h=>by
  rw [List.lookup_cons] at h;split at h
  .rename_i e;cases h;rw [beq_iff_eq.mp e];exact vE
  .exact vz _ (Mq h)
noncomputable def V4 (o:Obj):Bool:=match o.data,o.cls with
 | .fields _,.none=>false
 | _,_=>true
theorem abA (h:(K.all fun p=>V4 p.2)=true) (b:Addr) (o:Obj) (e:K.lookup b=some o):NZ o:=fun vs z1 z2=>by
 have:=yA.mp h (b,o) (Mq e);unfold V4 at this;rw [z1,z2] at this;cases this
def tab_of {q:Program}{loose:z0}{XP:(Str -> Option Value) -> Heap -> Prop}{w:World}{s₀:Shared}{mg mb:Str -> Option Value} (hr:((recsOf q).any fun d=>decide (d.name=Str.ofString "check_tests"))=true) (G:PySem.W.Ground q loose [] XP w s₀ mg mb h):∃ tP,Ay mg h tP:=by
 obtain ⟨d,hd,e⟩:=List.any_eq_true.mp hr;obtain ⟨a,o,fd,c,P,t1,t2,t3,t4,_,t6⟩:=G.T.tab d hd;rw [of_decide_eq_true e] at t1;exact ⟨some P,a,o,fd,c,t1,t2,t3,t4,t6⟩
end Mi
namespace E08
open PySem L2 Mi
noncomputable def T:Tx:=⟨[("is_whole":Str),("is_tuple":Str),("are_levels":Str),("is_setting":Str),("is_meeting":Str),("is_book":Str),("checked":Str),("meets":Str),("meets_any":Str),("all_rows":Str),("all_tests":Str),("is_row":Str),("is_test":Str),("check_tests":Str),("most_strength":Str),("check_book_and_strength":Str),("is_behind":Str),("meetings_among":Str),("meetings_of":Str),("met_by":Str),("possible":Str),("check_all":Str),("missing":Str),("is_cover":Str),("times_met":Str),("meet_without":Str),("needless":Str),("count_less":Str),("trimmed":Str),("places_by_meeting":Str),("take_out":Str),("in_order_behind":Str),("in_order":Str),("built":Str),("_law_cell":Str),("_law_mix":Str),("_law_book":Str),("_law_rows":Str),("_law_meetings":Str),("law":Str)],[("MOST_THINGS",.int 6),("MOST_SETTINGS",.int 4),("MOST_ROWS",.int 400),("MOST_BANS",.int 12),("MOST_IN_MEETING",.int 3)]⟩
noncomputable def nO:Def:=⟨3,3,[.ret (.and [.isin (.var 0) .int,.not (.isin (.var 0) .bool),.chain .le .le (.var 1) (.var 0) (.var 2)])],true⟩
noncomputable def nU:Def:=⟨3,3,[.ret (.and [.isin (.var 0) .tuple,.chain .le .le (.var 1) (.blt .len [.var 0]) (.var 2)])],true⟩
noncomputable def j8:Def:=⟨1,3,[.ifs (.not (.call 1 [.var 0,.con (.int 1),.con (.int 6)])) [.ret (.con (.bl false))] [],.set (.one 1) (.con (.int 1)),.forr (.one 2) .seq [.var 0] [.ifs (.not (.call 0 [.var 2,.con (.int 1),.con (.int 4)])) [.ret (.con (.bl false))] [],.set (.one 1) (.bin .mul (.var 1) (.var 2))],.ret (.cmp .le (.var 1) (.con (.int 400)))],true⟩
noncomputable def jT:Def:=⟨2,2,[.ifs (.or [.not (.call 1 [.var 1,.con (.int 2),.con (.int 2)]),.not (.call 0 [.ix (.var 1) (.con (.int 0)),.con (.int 0),.bin .sub (.blt .len [.var 0]) (.con (.int 1))])]) [.ret (.con (.bl false))] [],.ret (.call 0 [.ix (.var 1) (.con (.int 1)),.con (.int 0),.bin .sub (.ix (.var 0) (.ix (.var 1) (.con (.int 0)))) (.con (.int 1))])],true⟩
noncomputable def kI:Def:=⟨2,4,[.ifs (.not (.call 1 [.var 1,.con (.int 1),.con (.int 3)])) [.ret (.con (.bl false))] [],.set (.one 2) (.con (.int 0)),.forr (.one 3) .seq [.var 1] [.ifs (.or [.not (.call 3 [.var 0,.var 3]),.cmp .lt (.ix (.var 3) (.con (.int 0))) (.var 2)]) [.ret (.con (.bl false))] [],.set (.one 2) (.bin .add (.ix (.var 3) (.con (.int 0))) (.con (.int 1)))],.ret (.con (.bl true))],true⟩
noncomputable def pW:Def:=⟨1,2,[.ifs (.or [.not (.call 1 [.var 0,.con (.int 2),.con (.int 2)]),.not (.call 2 [.ix (.var 0) (.con (.int 0))]),.not (.call 1 [.ix (.var 0) (.con (.int 1)),.con (.int 0),.con (.int 12)])]) [.ret (.con (.bl false))] [],.ret (.blt .all [.comp (.call 4 [.ix (.var 0) (.con (.int 0)),.var 1]) (.one 1) .seq [.ix (.var 0) (.con (.int 1))] false (.con (.bl true)) [true,false]])],true⟩
noncomputable def pR:Def:=⟨1,1,[.ifs (.not (.call 5 [.var 0])) [.rai] [],.ret (.var 0)],true⟩
noncomputable def xW:Def:=⟨2,3,[.ret (.blt .all [.comp (.cmp .eq (.ix (.var 0) (.ix (.var 2) (.con (.int 0)))) (.ix (.var 2) (.con (.int 1)))) (.one 2) .seq [.var 1] false (.con (.bl true)) [true,false,false]])],true⟩
noncomputable def lV:Def:=⟨2,3,[.ret (.blt .any [.comp (.call 7 [.var 0,.var 2]) (.one 2) .seq [.var 1] false (.con (.bl true)) [true,false,false]])],true⟩
noncomputable def ou:Def:=⟨1,6,[.set (.one 1) (.lst [.tup []]),.forr (.one 2) .seq [.var 0] [.set (.one 3) (.lst []),.forr (.one 4) .seq [.var 1] [.ext 3 (.comp (.bin .add (.var 4) (.tup [.var 5])) (.one 5) .rng [.var 2] false (.con (.bl true)) [false,false,false,false,true,false])],.set (.one 1) (.var 3)],.ret (.var 1)],true⟩
noncomputable def lO:Def:=⟨1,2,[.expr (.call 6 [.var 0]),.ret (.comp (.var 1) (.one 1) .seq [.call 9 [.ix (.var 0) (.con (.int 0))]] true (.not (.call 8 [.var 1,.ix (.var 0) (.con (.int 1))])) [true,false])],true⟩
noncomputable def uD:Def:=⟨2,4,[.ifs (.not (.call 1 [.var 1,.blt .len [.var 0],.blt .len [.var 0]])) [.ret (.con (.bl false))] [],.ret (.blt .all [.comp (.call 0 [.var 2,.con (.int 0),.bin .sub (.var 3) (.con (.int 1))]) (.two 2 3) .zip [.var 1,.var 0] false (.con (.bl true)) [false,false,false,false]])],true⟩
noncomputable def rF:Def:=⟨2,2,[.ret (.and [.call 11 [.ix (.var 0) (.con (.int 0)),.var 1],.not (.call 8 [.var 1,.ix (.var 0) (.con (.int 1))])])],true⟩
noncomputable def mZ:Def:=⟨2,2,[.rai],false⟩
noncomputable def uO:List XS:=[.lam 12]
noncomputable def iU:Def:=⟨1,1,[.ret (.blt .min2 [.con (.int 3),.blt .len [.ix (.var 0) (.con (.int 0))]])],true⟩
noncomputable def cZ:Def:=⟨2,2,[.expr (.call 6 [.var 0]),.ifs (.not (.call 0 [.var 1,.con (.int 1),.call 14 [.var 0]])) [.rai] []],true⟩
noncomputable def lX:Def:=⟨2,2,[.ret (.or [.cmp .eq (.blt .len [.var 1]) (.con (.int 0)),.cmp .lt (.ix (.ix (.var 1) (.neg (.con (.int 1)))) (.con (.int 0))) (.ix (.var 0) (.con (.int 0)))])],true⟩
noncomputable def iy:Def:=⟨2,7,[.set (.one 2) (.lst [.tup []]),.forr (.one 3) .rng [.var 1] [.set (.one 4) (.lst []),.forr (.one 5) .seq [.var 2] [.ext 4 (.comp (.bin .add (.var 5) (.tup [.var 6])) (.one 6) .seq [.var 0] true (.call 16 [.var 6,.var 5]) [false,false,false,false,false,true,false])],.set (.one 2) (.var 4)],.ret (.var 2)],true⟩
noncomputable def jG:Def:=⟨2,2,[.ret (.call 17 [.blt .listEnum [.var 0],.var 1])],true⟩
noncomputable def tL:Def:=⟨2,5,[.set (.one 2) .dct0,.forr (.one 3) .seq [.var 0] [.forr (.one 4) .seq [.call 18 [.var 3,.var 1]] [.lset 2 (.var 4) (.con (.bl true))]],.ret (.var 2)],true⟩
noncomputable def nP:Def:=⟨2,2,[.expr (.call 15 [.var 0,.var 1]),.ret (.blt .sorted [.call 19 [.call 10 [.var 0],.var 1]])],true⟩
noncomputable def lM:Def:=⟨3,3,[.expr (.call 15 [.var 0,.var 1]),.expr (.call 13 [.var 0,.var 2])],true⟩
noncomputable def rE:Def:=⟨3,5,[.expr (.call 21 [.var 0,.var 1,.var 2]),.set (.one 3) (.call 19 [.var 2,.var 1]),.ret (.comp (.var 4) (.one 4) .seq [.call 20 [.var 0,.var 1]] true (.cmp .notin (.var 4) (.var 3)) [false,false,false,true,false])],true⟩
noncomputable def nG:Def:=⟨3,3,[.ret (.cmp .eq (.blt .len [.call 22 [.var 0,.var 1,.var 2]]) (.con (.int 0)))],true⟩
noncomputable def gq:Def:=⟨2,5,[.set (.one 2) .dct0,.forr (.one 3) .seq [.var 0] [.forr (.one 4) .seq [.call 18 [.var 3,.var 1]] [.lset 2 (.var 4) (.bin .add (.dget (.var 2) (.var 4) (.con (.int 0))) (.con (.int 1)))]],.retO 2],true⟩
noncomputable def jr:Def:=⟨2,3,[.ret (.blt .all [.comp (.cmp .gt (.ix (.var 1) (.var 2)) (.con (.int 1))) (.one 2) .seq [.var 0] false (.con (.bl true)) [false,true,false]])],true⟩
noncomputable def nF:Def:=⟨3,6,[.expr (.call 21 [.var 0,.var 1,.var 2]),.set (.one 3) (.call 24 [.var 2,.var 1]),.ret (.comp (.var 4) (.two 4 5) .enum [.var 2] true (.call 25 [.call 18 [.var 5,.var 1],.var 3]) [false,true,false,true,false,false])],true⟩
noncomputable def j7:Def:=⟨2,3,[.forr (.one 2) .seq [.var 0] [.lset 1 (.var 2) (.bin .sub (.ix (.var 1) (.var 2)) (.con (.int 1)))]],false⟩
noncomputable def rC:Def:=⟨3,7,[.expr (.call 21 [.var 0,.var 1,.var 2]),.setF 3 24 [.var 2,.var 1],.set (.one 4) (.lst []),.forr (.one 5) .rev [.var 2] [.set (.one 6) (.call 18 [.var 5,.var 1]),.ifs (.call 25 [.var 6,.var 3]) [.call2 3 3 27 (.var 6)] [.app 4 (.var 5)]],.ret (.blt .listRev [.var 4])],true⟩
noncomputable def fL:Def:=⟨2,6,[.set (.one 2) .dct0,.grp 2 (.forr (.two 3 4) .enum [.var 0] (.forr (.one 5) .seq [.call 18 [.var 4,.var 1]] (.sda (.var 5) (.var 3)))),.retO 2],true⟩
noncomputable def nR:Def:=⟨3,6,[.forr (.one 3) .seq [.var 0] [.dpop 4 1 (.var 3),.forr (.one 5) .seq [.var 4] [.lset 2 (.var 5) (.bin .sub (.ix (.var 2) (.var 5)) (.con (.int 1)))]]],false⟩
noncomputable def gB:Def:=⟨3,9,[.setF 3 29 [.var 1,.var 2],.setC 4 (.comp (.blt .len [.call 18 [.var 8,.var 2]]) (.one 8) .seq [.var 1] false (.con (.bl true)) [false,false,true,false,false,false,false,false,false]),.call2 3 4 30 (.blt .list [.call 19 [.var 0,.var 2]]),.set (.one 5) (.lst []),.whl (.cmp .gt (.maxd (.var 4) 0) (.con (.int 0))) [.setB (.one 7) (.idx 4 (.blt .maxl [.var 4])),.app 5 (.var 7),.call2 3 4 30 (.call 18 [.ix (.var 1) (.var 7),.var 2])],.setC 6 (.comp (.var 7) (.one 7) .rng [.blt .len [.var 1]] true (.cmp .notin (.var 7) (.var 5)) [false,false,false,false,false,true,false,false,false]),.ret (.comp (.ix (.var 1) (.var 7)) (.one 7) .seq [.bin .add (.var 5) (.var 6)] false (.con (.bl true)) [false,true,false,false,false,false,false,false,false])],true⟩
noncomputable def nA:Def:=⟨3,3,[.expr (.call 21 [.var 0,.var 1,.var 2]),.ret (.call 31 [.lst [],.var 2,.var 1])],true⟩
noncomputable def xM:Def:=⟨2,2,[.expr (.call 15 [.var 0,.var 1]),.ret (.call 28 [.var 0,.var 1,.call 32 [.var 0,.var 1,.call 10 [.var 0]]])],true⟩
noncomputable def lW:Def:=⟨2,2,[.ifs (.cmp .lt (.var 1) (.blt .len [.var 0])) [.ret (.ix (.var 0) (.var 1))] [],.ret (.con (.int 0))],true⟩
noncomputable def nH:Def:=⟨3,3,[.ret (.bin .mod (.bin .mod (.bin .mul (.var 0) (.con (.int 48271))) (.var 1)) (.var 2))],true⟩
noncomputable def lR:Def:=⟨2,11,[.set (.one 2) (.call 34 [.var 0,.var 1]),.set (.one 3) (.bin .add (.con (.int 1)) (.call 35 [.var 2,.con (.int 9973),.con (.int 4)])),.set (.one 4) (.lst []),.forr (.one 5) .rng [.var 3] [.set (.one 7) (.con (.int 2)),.ifs (.or [.cmp .lt (.var 5) (.con (.int 2)),.cmp .gt (.blt .len [.var 0]) (.con (.int 63))]) [.set (.one 7) (.con (.int 3))] [],.app 4 (.bin .add (.con (.int 1)) (.call 35 [.bin .add (.bin .add (.call 34 [.var 0,.bin .add (.var 1) (.con (.int 1))]) (.bin .mul (.bin .mul (.con (.int 31)) (.var 5)) (.var 5))) (.var 5),.con (.int 9967),.var 7]))],.set (.one 6) (.lst []),.forr (.one 5) .rng [.call 35 [.var 2,.con (.int 9949),.con (.int 4)]] [.set (.one 8) (.bin .add (.bin .add (.call 34 [.var 0,.bin .add (.var 1) (.con (.int 2))]) (.bin .mul (.bin .mul (.con (.int 53)) (.var 5)) (.var 5))) (.bin .mul (.con (.int 7)) (.var 5))),.set (.one 9) (.slc (.comp (.var 10) (.one 10) .rng [.var 3] true (.cmp .eq (.call 35 [.bin .add (.var 8) (.bin .mul (.con (.int 17)) (.var 10)),.con (.int 9941),.con (.int 2)]) (.con (.int 1))) [false,false,false,false,false,false,false,false,true,false,false]) (.con .non) (.con (.int 3))),.ifs (.cmp .eq (.var 9) (.lst [])) [.set (.one 9) (.lst [.call 35 [.var 8,.con (.int 9931),.var 3]])] [],.app 6 (.blt .tuple [.comp (.tup [.var 10,.call 35 [.bin .add (.var 8) (.bin .mul (.con (.int 5)) (.var 10)),.con (.int 9929),.ix (.var 4) (.var 10)]]) (.one 10) .seq [.var 9] false (.con (.bl true)) [false,false,false,false,true,false,false,false,true,false,false]])],.ret (.tup [.blt .tuple [.var 4],.blt .tuple [.var 6]])],true⟩
noncomputable def lQ:Def:=⟨1,6,[.set (.one 1) (.lst [.tup []]),.forr (.one 2) .seq [.var 0] [.set (.one 3) (.lst []),.forr (.one 4) .seq [.var 1] [.set (.one 3) (.bin .add (.var 3) (.comp (.bin .add (.var 4) (.tup [.var 5])) (.one 5) .rng [.var 2] false (.con (.bl true)) [false,false,false,false,true,false]))],.set (.one 1) (.var 3)],.ret (.var 1)],true⟩
noncomputable def iR:Def:=⟨2,8,[.set (.one 2) .dct0,.forr (.one 3) .seq [.call 37 [.ix (.var 0) (.con (.int 0))]] [.set (.one 4) (.lst [.tup []]),.forr (.two 5 6) .enum [.var 3] [.set (.one 4) (.bin .add (.var 4) (.comp (.bin .add (.var 7) (.tup [.tup [.var 5,.var 6]])) (.one 7) .seq [.var 4] false (.con (.bl true)) [false,false,false,false,false,true,true,false]))],.forr (.one 7) .seq [.var 4] [.ifs (.cmp .eq (.blt .len [.var 7]) (.var 1)) [.lset 2 (.var 7) (.con (.bl true))] []]],.ret (.blt .sorted [.var 2])],true⟩
noncomputable def Gv:Def:=⟨1,12,[.set (.one 1) (.call 36 [.var 0,.con (.int 2)]),.set (.one 2) (.blt .min2 [.con (.int 3),.blt .len [.ix (.var 1) (.con (.int 0))]]),.set (.one 3) (.bin .add (.con (.int 1)) (.bin .mod (.call 34 [.var 0,.con (.int 0)]) (.var 2))),.set (.one 4) (.bin .add (.con (.int 1)) (.bin .mod (.call 34 [.var 0,.con (.int 1)]) (.var 3))),.set (.one 5) (.call 33 [.var 1,.var 3]),.ifs (.or [.not (.call 23 [.var 1,.var 4,.var 5]),.not (.call 23 [.var 1,.var 3,.bin .add (.rev (.var 5)) (.var 5)])]) [.ret (.con (.bl false))] [],.ifs (.or [.cmp .ne (.call 28 [.var 1,.var 3,.var 5]) (.var 5),.cmp .ne (.call 26 [.var 1,.var 3,.var 5]) (.lst [])]) [.ret (.con (.bl false))] [],.ifs (.cmp .ne (.blt .sorted [.call 32 [.var 1,.var 3,.var 5]]) (.blt .sorted [.var 5])) [.ret (.con (.bl false))] [],.ifs (.not (.call 23 [.var 1,.var 4,.call 32 [.var 1,.var 4,.var 5]])) [.ret (.con (.bl false))] [],.set (.one 6) (.call 20 [.var 1,.var 3]),.set (.one 7) (.call 20 [.var 1,.var 4]),.forr (.one 8) .seq [.var 7] [.ifs (.cmp .eq (.comp (.var 9) (.one 9) .seq [.var 6] true (.cmp .eq (.comp (.var 11) (.one 11) .seq [.var 8] true (.cmp .notin (.var 11) (.var 9)) [false,false,false,false,false,false,false,false,false,true,false,false]) (.lst [])) [false,false,false,false,false,false,false,false,true,false,false,false]) (.lst [])) [.ret (.con (.bl false))] []],.forr (.one 9) .seq [.var 6] [.set (.one 10) (.comp (.var 8) (.one 8) .seq [.call 38 [.var 1,.var 4]] true (.cmp .eq (.comp (.var 11) (.one 11) .seq [.var 8] true (.cmp .notin (.var 11) (.var 9)) [false,false,false,false,false,false,false,false,false,true,false,false]) (.lst [])) [false,false,false,false,false,false,false,false,false,true,false,false]),.ifs (.comp (.var 8) (.one 8) .seq [.var 10] true (.cmp .notin (.var 8) (.var 7)) [false,false,false,false,false,false,false,true,false,false,false,false]) [.ret (.con (.bl false))] []],.ret (.con (.bl true))],true⟩
def tab:List Def:=[nO,nU,j8,jT,kI,pW,pR,xW,lV,ou,lO,uD,rF,mZ,iU,cZ,lX,iy,jG,tL,nP,lM,rE,nG,gq,jr,nF,j7,rC,fL,nR,gB,nA,xM,lW,nH,lR,lQ,iR,Gv]
def aD:rJ:=[(13,uO)]
variable {n f:Nat}{d:Def}{args:List D}
def bC (ht:tab[f]?=some d) (hl:args.length=d.np) (hn:d.nrm=true:=by rfl) (hx:aD.lookup f=none:=by rfl):aq tab aD (n+1) f args=vp (bZ (aq tab aD n) d.body (args.map some++List.replicate (d.nn - d.np) none)):=Uv hx ht hl hn
theorem abt {b:List XS} (ht:tab[f]?=some d) (hx:aD.lookup f=some b) (hl:args.length=d.np):aq tab aD (n+1) f args=rW (Bf (aq tab aD n) b (args.map some++List.replicate (d.nn - d.np) none)):=Rz hx ht hl
theorem Nj:tab[0]?=some nO:=rfl
def J8:aY T nO ["thing","least","most"] ["thing","least","most"] (top 11)=true:=by decide +kernel
theorem Oc:tab[1]?=some nU:=rfl
def Km:aY T nU ["thing","least","most"] ["thing","least","most"] (top 12)=true:=by decide +kernel
theorem HW:tab[2]?=some j8:=rfl
def Gf:aY T j8 ["thing","rows","level"] ["thing"] (top 13)=true:=by decide +kernel
theorem Hi:tab[3]?=some jT:=rfl
def Gd:aY T jT ["levels","thing"] ["levels","thing"] (top 14)=true:=by decide +kernel
theorem Iv:tab[4]?=some kI:=rfl
def Fw:aY T kI ["levels","thing","behind","pair"] ["levels","thing"] (top 15)=true:=by decide +kernel
theorem Qn:tab[5]?=some pW:=rfl
def N5:aY T pW ["thing","ban"] ["thing"] (top 16)=true:=by decide +kernel
theorem Qg:tab[6]?=some pR:=rfl
def NQ:aY T pR ["book"] ["book"] (top 17)=true:=by decide +kernel
theorem W7:tab[7]?=some xW:=rfl
def VP:aY T xW ["row","meeting","pair"] ["row","meeting"] (top 18)=true:=by decide +kernel
theorem KN:tab[8]?=some lV:=rfl
def Jc:aY T lV ["row","meetings","meeting"] ["row","meetings"] (top 19)=true:=by decide +kernel
theorem N6:tab[9]?=some ou:=rfl
def J5:aY T ou ["levels","rows","level","longer","row","setting"] ["levels"] (top 20)=true:=by decide +kernel
theorem KJ:tab[10]?=some lO:=rfl
def Jt:aY T lO ["book","row"] ["book"] (top 21)=true:=by decide +kernel
theorem U8:tab[11]?=some uD:=rfl
def Q0:aY T uD ["levels","thing","setting","level"] ["levels","thing"] (top 22)=true:=by decide +kernel
theorem Q8:tab[12]?=some rF:=rfl
def Ol:aY T rF ["book","thing"] ["book","thing"] (top 23)=true:=by decide +kernel
theorem uT:tab[13]?=some mZ:=rfl
theorem uV:aD.lookup 13=some uO:=rfl
theorem Cm:tab[14]?=some iU:=rfl
def Ad:aY T iU ["book"] ["book"] (top 27)=true:=by decide +kernel
theorem oA:tab[15]?=some cZ:=rfl
def mX:aY T cZ ["book","strength"] ["book","strength"] (top 28)=true:=by decide +kernel
theorem KC:tab[16]?=some lX:=rfl
def Jq:aY T lX ["pair","meeting"] ["pair","meeting"] (top 29)=true:=by decide +kernel
theorem Af:tab[17]?=some iy:=rfl
def yj:aY T iy ["pairs","many","meetings","step","longer","meeting","pair"] ["pairs","many"] (top 30)=true:=by decide +kernel
theorem Gh:tab[18]?=some jG:=rfl
def Cz:aY T jG ["test","strength"] ["test","strength"] (top 31)=true:=by decide +kernel
theorem Vi:tab[19]?=some tL:=rfl
def Sg:aY T tL ["tests","strength","met","test","meeting"] ["tests","strength"] (top 32)=true:=by decide +kernel
theorem Ng:tab[20]?=some nP:=rfl
def J1:aY T nP ["book","strength"] ["book","strength"] (top 33)=true:=by decide +kernel
theorem J3:tab[21]?=some lM:=rfl
def Iz:aY T lM ["book","strength","tests"] ["book","strength","tests"] (top 35)=true:=by decide +kernel
theorem RP:tab[22]?=some rE:=rfl
def Oo:aY T rE ["book","strength","tests","met","meeting"] ["book","strength","tests"] (top 36)=true:=by decide +kernel
theorem Nb:tab[23]?=some nG:=rfl
def Kf:aY T nG ["book","strength","tests"] ["book","strength","tests"] (top 37)=true:=by decide +kernel
theorem yM:tab[24]?=some gq:=rfl
def Hj:aY T gq ["tests","strength","times","test","meeting"] ["tests","strength"] (top 38)=true:=by decide +kernel
theorem Dl:tab[25]?=some jr:=rfl
def Bt:aY T jr ["meetings","times","meeting"] ["meetings","times"] (top 39)=true:=by decide +kernel
theorem N7:tab[26]?=some nF:=rfl
def J2:aY T nF ["book","strength","tests","times","place","test"] ["book","strength","tests"] (top 40)=true:=by decide +kernel
theorem Ij:tab[27]?=some j7:=rfl
def Gj:aY T j7 ["meetings","times","meeting"] ["meetings","times"] (top 41)=true:=by decide +kernel
theorem Rn:tab[28]?=some rC:=rfl
def Ob:aY T rC ["book","strength","tests","times","left","test","meetings"] ["book","strength","tests"] (top 42)=true:=by decide +kernel
theorem uW:tab[29]?=some fL:=rfl
def ur:aY T fL ["tests","strength","places","place","test","meeting"] ["tests","strength"] (top 43)=true:=by decide +kernel
theorem MP:tab[30]?=some nR:=rfl
def Kc:aY T nR ["meetings","places","gains","meeting","meeting_places","place"] ["meetings","places","gains"] (top 44)=true:=by decide +kernel
theorem yp:tab[31]?=some gB:=rfl
def v7:aY T gB ["ahead","tests","strength","places","gains","taken","rest","place","test"] ["ahead","tests","strength"] (top 45)=true:=by decide +kernel
theorem Oq:tab[32]?=some nA:=rfl
def K4:aY T nA ["book","strength","tests"] ["book","strength","tests"] (top 46)=true:=by decide +kernel
theorem XH:tab[33]?=some xM:=rfl
def V9:aY T xM ["book","strength"] ["book","strength"] (top 48)=true:=by decide +kernel
theorem Kh:tab[34]?=some lW:=rfl
def Hy:aY T lW ["_law_script","_law_k"] ["_law_script","_law_k"] (top 50)=true:=by decide +kernel
theorem Nz:tab[35]?=some nH:=rfl
def J0:aY T nH ["_law_cell_here","_law_prime","_law_many"] ["_law_cell_here","_law_prime","_law_many"] (top 51)=true:=by decide +kernel
theorem K3:tab[36]?=some lR:=rfl
def G7:aY T lR ["_law_script","_law_at","_law_cell_here","_law_many","_law_levels","_law_k","_law_bans","_law_most","_law_seed","_law_things","_law_thing"] ["_law_script","_law_at"] (top 52)=true:=by decide +kernel
theorem KY:tab[37]?=some lQ:=rfl
def HD:aY T lQ ["_law_levels","_law_found","_law_level","_law_more","_law_row","_law_setting"] ["_law_levels"] (top 53)=true:=by decide +kernel
theorem Bu:tab[38]?=some iR:=rfl
def Aq:aY T iR ["_law_book_here","_law_strength","_law_found","_law_row","_law_some","_law_thing","_law_setting","_law_one"] ["_law_book_here","_law_strength"] (top 54)=true:=by decide +kernel
theorem abD:tab[39]?=some Gv:=rfl
def Sd:aY T Gv ["_law_script","_law_book_here","_law_most","_law_strength","_law_less","_law_tests","_law_great","_law_small","_law_one","_law_other","_law_inner","_law_pair"] ["_law_script"] (top 55)=true:=by decide +kernel
variable {i:Nat}
section
variable {K:zt}{h:Heap}{mg:w8}
def aH {x:Str}{st:Stmt}{N ps:z0} (X:K.In h) (G:h.Ns mainGlobals mg) (f:FF K x st) (ht:tab[i]?=some d) (ok:aY T d N ps st=true)
  (hb:∀ (kV doc pm:Value) (an:vn) (cdv ct:Value) (us:zw),us.length=ps.length->bindArgs (PySem.W.fnOf x x (eG st) (dB st) (bf st) .none kV doc pm an cdv ct) ⟨us,[]⟩=pure (ps.zip us)) (hx:aD.lookup i=none:=by rfl) :
  ∃ d N ps st a fd,tab[i]?=some d/\Fun K x x st a fd/\mg x=some (.ref a)/\L2.Binds K fd ps []/\(match aD.lookup i with | none=>aY T d N ps st=true | some b=>LamD T K mg x b d ps st a fd):=by
 obtain ⟨a,fd,e,F⟩:=f.ex;refine ⟨d,N,ps,st,a,fd,ht,F,PySem.W.mg_of X G e,F.binds hb,?_⟩;rw [hx];exact ok
theorem pr (X:K.In h) (G:h.Ns mainGlobals mg) (f0:FF K "is_whole" (top 11)) (f1:FF K "is_tuple" (top 12)) (f2:FF K "are_levels" (top 13)) (f3:FF K "is_setting" (top 14)) (f4:FF K "is_meeting" (top 15)) (f5:FF K "is_book" (top 16)) (f6:FF K "checked" (top 17)) (f7:FF K "meets" (top 18)) (f8:FF K "meets_any" (top 19)) (f9:FF K "all_rows" (top 20)) (f10:FF K "all_tests" (top 21)) (f11:FF K "is_row" (top 22)) (f12:FF K "is_test" (top 23)) (f13:FL K "check_tests" (top 25)) (f14:FF K "most_strength" (top 27)) (f15:FF K "check_book_and_strength" (top 28)) (f16:FF K "is_behind" (top 29)) (f17:FF K "meetings_among" (top 30)) (f18:FF K "meetings_of" (top 31)) (f19:FF K "met_by" (top 32)) (f20:FF K "possible" (top 33)) (f21:FF K "check_all" (top 35)) (f22:FF K "missing" (top 36)) (f23:FF K "is_cover" (top 37)) (f24:FF K "times_met" (top 38)) (f25:FF K "meet_without" (top 39)) (f26:FF K "needless" (top 40)) (f27:FF K "count_less" (top 41)) (f28:FF K "trimmed" (top 42)) (f29:FF K "places_by_meeting" (top 43)) (f30:FF K "take_out" (top 44)) (f31:FF K "in_order_behind" (top 45)) (f32:FF K "in_order" (top 46)) (f33:FF K "built" (top 48)) (f34:FF K "_law_cell" (top 50)) (f35:FF K "_law_mix" (top 51)) (f36:FF K "_law_book" (top 52)) (f37:FF K "_law_rows" (top 53)) (f38:FF K "_law_meetings" (top 54)) (f39:FF K "law" (top 55)) (fcl:FF K "check_list" (top 24)) (g0:GF K "MOST_THINGS" (.int 6)) (g1:GF K "MOST_SETTINGS" (.int 4)) (g2:GF K "MOST_ROWS" (.int 400)) (g3:GF K "MOST_BANS" (.int 12)) (g4:GF K "MOST_IN_MEETING" (.int 3)) (hb:∀ f ∈ lJ,PySem.W.nsIn K mainGlobals f=some none):PrX T tab aD K mg:=by
 refine ⟨by decide,fun f b hf=>?_,fun f hf=>PySem.W.mg_none_of X G (hb f hf),fun x i e=>?_,fun f x e=>?_⟩
 .have hm:∀ p∈aD,p.1 < 1000:=by decide
  exact hm (f,b) (S5 hf)
 .have key:∀ (l:List (Str × D)),l.lookup x=some i->(∀ p∈l,GF K p.1 p.2)->GlV i (mg x):=by
   intro l;induction l with
   | nil=>intro e;cases e
   | cons q l ih =>
    intro e H;rw [List.lookup_cons] at e;split at e
    .rename_i hx;obtain ⟨v,e2,g⟩:=(H q vE).ex;cases e;rw [PySem.W.mg_of X G (by rw [beq_iff_eq.mp hx];exact e2)];exact g
    .exact ih e fun p hp=>H p (vz _ hp)
  refine key T.gl e fun p hp=>?_
  simp only [T,List.mem_cons,List.not_mem_nil,or_false] at hp;rcases hp with rfl | rfl | rfl | rfl | rfl
  .exact g0
  .exact g1
  .exact g2
  .exact g3
  .exact g4
 .have hlt:f < 40:=(vV.mp e).1
  match f,hlt,e with
  | 0,_,e=>cases e;exact aH X G f0 rfl J8 fun _ _ _ _ _ _=>us3 fun _ _ _=>rfl
  | 1,_,e=>cases e;exact aH X G f1 rfl Km fun _ _ _ _ _ _=>us3 fun _ _ _=>rfl
  | 2,_,e=>cases e;exact aH X G f2 rfl Gf fun _ _ _ _ _ _=>us1 fun _=>rfl
  | 3,_,e=>cases e;exact aH X G f3 rfl Gd fun _ _ _ _ _ _=>us2 fun _ _=>rfl
  | 4,_,e=>cases e;exact aH X G f4 rfl Fw fun _ _ _ _ _ _=>us2 fun _ _=>rfl
  | 5,_,e=>cases e;exact aH X G f5 rfl N5 fun _ _ _ _ _ _=>us1 fun _=>rfl
  | 6,_,e=>cases e;exact aH X G f6 rfl NQ fun _ _ _ _ _ _=>us1 fun _=>rfl
  | 7,_,e=>cases e;exact aH X G f7 rfl VP fun _ _ _ _ _ _=>us2 fun _ _=>rfl
  | 8,_,e=>cases e;exact aH X G f8 rfl Jc fun _ _ _ _ _ _=>us2 fun _ _=>rfl
  | 9,_,e=>cases e;exact aH X G f9 rfl J5 fun _ _ _ _ _ _=>us1 fun _=>rfl
  | 10,_,e=>cases e;exact aH X G f10 rfl Jt fun _ _ _ _ _ _=>us1 fun _=>rfl
  | 11,_,e=>cases e;exact aH X G f11 rfl Q0 fun _ _ _ _ _ _=>us2 fun _ _=>rfl
  | 12,_,e=>cases e;exact aH X G f12 rfl Ol fun _ _ _ _ _ _=>us2 fun _ _=>rfl
  | 13,_,e=>cases e;exact ZS (d:=mZ) (q:=12) X G f13 fcl uV uT rfl rfl rfl rfl rfl rfl rfl rfl rfl (fun _ _ _ _ _ _=>us2 fun _ _=>rfl) (fun _ _ _ _ _ _=>us2 fun _ _=>rfl)
  | 14,_,e=>cases e;exact aH X G f14 rfl Ad fun _ _ _ _ _ _=>us1 fun _=>rfl
  | 15,_,e=>cases e;exact aH X G f15 rfl mX fun _ _ _ _ _ _=>us2 fun _ _=>rfl
  | 16,_,e=>cases e;exact aH X G f16 rfl Jq fun _ _ _ _ _ _=>us2 fun _ _=>rfl
  | 17,_,e=>cases e;exact aH X G f17 rfl yj fun _ _ _ _ _ _=>us2 fun _ _=>rfl
  | 18,_,e=>cases e;exact aH X G f18 rfl Cz fun _ _ _ _ _ _=>us2 fun _ _=>rfl
  | 19,_,e=>cases e;exact aH X G f19 rfl Sg fun _ _ _ _ _ _=>us2 fun _ _=>rfl
  | 20,_,e=>cases e;exact aH X G f20 rfl J1 fun _ _ _ _ _ _=>us2 fun _ _=>rfl
  | 21,_,e=>cases e;exact aH X G f21 rfl Iz fun _ _ _ _ _ _=>us3 fun _ _ _=>rfl
  | 22,_,e=>cases e;exact aH X G f22 rfl Oo fun _ _ _ _ _ _=>us3 fun _ _ _=>rfl
  | 23,_,e=>cases e;exact aH X G f23 rfl Kf fun _ _ _ _ _ _=>us3 fun _ _ _=>rfl
  | 24,_,e=>cases e;exact aH X G f24 rfl Hj fun _ _ _ _ _ _=>us2 fun _ _=>rfl
  | 25,_,e=>cases e;exact aH X G f25 rfl Bt fun _ _ _ _ _ _=>us2 fun _ _=>rfl
  | 26,_,e=>cases e;exact aH X G f26 rfl J2 fun _ _ _ _ _ _=>us3 fun _ _ _=>rfl
  | 27,_,e=>cases e;exact aH X G f27 rfl Gj fun _ _ _ _ _ _=>us2 fun _ _=>rfl
  | 28,_,e=>cases e;exact aH X G f28 rfl Ob fun _ _ _ _ _ _=>us3 fun _ _ _=>rfl
  | 29,_,e=>cases e;exact aH X G f29 rfl ur fun _ _ _ _ _ _=>us2 fun _ _=>rfl
  | 30,_,e=>cases e;exact aH X G f30 rfl Kc fun _ _ _ _ _ _=>us3 fun _ _ _=>rfl
  | 31,_,e=>cases e;exact aH X G f31 rfl v7 fun _ _ _ _ _ _=>us3 fun _ _ _=>rfl
  | 32,_,e=>cases e;exact aH X G f32 rfl K4 fun _ _ _ _ _ _=>us3 fun _ _ _=>rfl
  | 33,_,e=>cases e;exact aH X G f33 rfl V9 fun _ _ _ _ _ _=>us2 fun _ _=>rfl
  | 34,_,e=>cases e;exact aH X G f34 rfl Hy fun _ _ _ _ _ _=>us2 fun _ _=>rfl
  | 35,_,e=>cases e;exact aH X G f35 rfl J0 fun _ _ _ _ _ _=>us3 fun _ _ _=>rfl
  | 36,_,e=>cases e;exact aH X G f36 rfl G7 fun _ _ _ _ _ _=>us2 fun _ _=>rfl
  | 37,_,e=>cases e;exact aH X G f37 rfl HD fun _ _ _ _ _ _=>us1 fun _=>rfl
  | 38,_,e=>cases e;exact aH X G f38 rfl Aq fun _ _ _ _ _ _=>us2 fun _ _=>rfl
  | 39,_,e=>cases e;exact aH X G f39 rfl Sd fun _ _ _ _ _ _=>us1 fun _=>rfl
end
def ev9:Lean.MacroM (Array (Lean.TSyntax `Lean.Parser.Tactic.simpLemma)):=("qS qT wB qU qG qH qI wC wD wE qV wF wG wH wI wJ wK wL wM wN wO wP qJ wQ wt wR wS wu wT qW qX wU qY qZ qa qK qb qL wV qd wv ww qf qM qN wW wX wY wZ wa wb wx wy wz zA ^wc ^wd zV zW zX zY zZ qg we zB qh qi qC qO qj qk qm qp bR cF zC zD zE zF zG zH zI zb zd ze zf zg zi wf wg wj if_true zJ zK zl if_false qD qq qP qE qA qB qr zL zM zN zO zP zQ wk wl wm wn wo zj zk zR zS qu wq wr qv qw qQ qx qy qz wA zT qR qF zU cC cB bT".splitOn " ").toArray.mapM fun s=>if s.startsWith "^" then `(Lean.Parser.Tactic.simpLemma| ↓$(Lean.mkIdent (.mkSimple (s.drop 1).toString)):ident) else `(Lean.Parser.Tactic.simpLemma| $(Lean.mkIdent s.toName):ident)
local macro_rules | `(tactic| simpa only [$xs,*])=>do let ys<-ev9;`(tactic| simp only [$ys:simpLemma,*,$xs,*])
local macro_rules | `(tactic| simpa [$xs,*])=>do let ys<-ev9;`(tactic| simp [$ys:simpLemma,*,$xs,*])
local macro_rules | `(tactic| simpa only [] using $h:ident)=>do let ys<-ev9;`(tactic| simp only [$ys:simpLemma,*] at $h:ident)
def nJ (x a b:Int):aq tab aD (n+1) 0 [.int x,.int a,.int b]=.ok (.bl (decide (a<=x) && decide (x<=b))):=by
 rw [bC Nj rfl];delta nO;simpa only [];by_cases h:a<=x <;> by_cases h2:x<=b <;> simpa only [h,h2,decide_true,decide_false,Bool.and_true,Bool.and_false,Bool.and_self,qf]
def jV (ds:List D) (a b:Int):aq tab aD (n+1) 1 [.tup ds,.int a,.int b]=.ok (.bl (decide (a<=ds.length) && decide ((ds.length:Int)<=b))):=by
 rw [bC Oc rfl];delta nU;simpa only [uY];by_cases h:a<=ds.length <;> by_cases h2:(ds.length:Int)<=b <;> simpa only [h,h2,decide_true,decide_false,Bool.and_true,Bool.and_false,Bool.and_self,qf]
def sW (r:zz) (a b:Int):aq tab aD (n+1) 1 [au r,.int a,.int b]=.ok (.bl (decide (a<=r.length) && decide ((r.length:Int)<=b))):=by
 have:=jV (n:=n) (r.map eN) a b;rw [List.length_map] at this;exact this
def JL (r:Meet) (a b:Int):aq tab aD (n+1) 1 [eM r,.int a,.int b]=.ok (.bl (decide (a<=r.length) && decide ((r.length:Int)<=b))):=by
 have:=jV (n:=n) (r.map eP) a b;rw [List.length_map] at this;exact this
def Gi (r:List Meet) (a b:Int):aq tab aD (n+1) 1 [eBs r,.int a,.int b]=.ok (.bl (decide (a<=r.length) && decide ((r.length:Int)<=b))):=by
 have:=jV (n:=n) (r.map eM) a b;rw [List.length_map] at this;exact this
theorem Jp (p:Nat × Nat):aq tab aD (n+1) 1 [eP p,.int 2,.int 2]=.ok (.bl true):=jV (n:=n) [eN p.1,eN p.2] 2 2
theorem Ia (lv:zz) (bs:List Meet):aq tab aD (n+1) 1 [eB lv bs,.int 2,.int 2]=.ok (.bl true):=jV (n:=n) [au lv,eBs bs] 2 2
theorem Rf {x:Nat} (h:x<=1000000):j9 (x:Int)=true:=Nat.ble_eq_true_of_le (by omega)
def Im (lv:zz) (h1:1<=lv.length) (h6:lv.length<=6) (hl:∀ l∈lv,1<=l/\l<=4):aq tab aD (n+2) 2 [au lv]=.ok (.bl (decide (prod lv<=400))):=by
 rw [bC HW rfl];delta j8;simpa only [sW,decide_eq_true (show (1:Int)<=lv.length by omega),decide_eq_true (show (lv.length:Int)<=6 by omega),Bool.and_self];rw [bind_eq (a:=.nx [some (au lv),some (.int (prod lv:Nat)),none])]
 .simpa only [];congr 2;by_cases h:prod lv<=400
  .rw [decide_eq_true h,decide_eq_true (by omega)]
  .rw [decide_eq_false h,decide_eq_false (by omega)]
 .refine Kl eN (fun a:Nat=>[some (au lv),some (.int (a:Int)),none]) (fun a l=>a * l) (fun _=>True) lv (fun a l hlm _=>⟨trivial,?_⟩) 1 trivial;have:=hl l hlm;have hmul:jO .mul (.int (a:Int)) (.int (l:Int))=.ok (.int ((a:Int) * (l:Int))):=Gm (.inr (Rf (by omega)));simpa only [nJ,decide_eq_true (show (1:Int)<=l by omega),decide_eq_true (show (l:Int)<=4 by omega),Bool.and_self,hmul];exact ⟨_,rfl,by simp [aN]⟩
variable {lv:zz}{l:Nat}
def Ii {p:Nat × Nat} (h1:lv[p.1]?=some l) (h2:p.2 < l):aq tab aD (n+2) 3 [au lv,eP p]=.ok (.bl true):=by
 have hlt:p.1 < lv.length:=(vV.mp h1).1;rw [bC Hi rfl];delta jT;simpa only [Jp,nJ,RN h1,decide_eq_true (show (0:Int)<=p.1 by omega),decide_eq_true (show (p.1:Int)<=lv.length - 1 by omega),decide_eq_true (show (0:Int)<=p.2 by omega),decide_eq_true (show (p.2:Int)<=l - 1 by omega),Bool.and_self]
variable {m:Meet}
def Je (h:sI lv m) (h1:1<=m.length) (h3:m.length<=3):aq tab aD (n+3) 4 [au lv,eM m]=.ok (.bl true):=by
 rw [bC Iv rfl];delta kI;simpa only [JL,decide_eq_true (show (1:Int)<=m.length by omega),decide_eq_true (show (m.length:Int)<=3 by omega),Bool.and_self];rw [bind_eq (a:=.nx [some (au lv),some (eM m),some (.int (m.foldl (fun _ p=>p.1+1) 0:Nat)),none])]
 .simpa only []
 .refine bL eP (fun a:Nat=>[some (au lv),some (eM m),some (.int (a:Int)),none]) (fun _ p=>p.1+1) (fun b rest=>dG rest/\∀ q∈rest,b<=q.1/\∃ l,lv[q.1]?=some l/\q.2 < l) (fun b p rest hp=>?_) m 0 ⟨h.1,fun q hq=>⟨yf _,h.2 q hq⟩⟩;obtain ⟨hr,hq⟩:=hp;unfold dG at hr;rw [List.pairwise_cons] at hr;obtain ⟨hb,l,hl,hlt⟩:=hq p vE;refine ⟨⟨hr.2,fun q hq'=>⟨by have:=hr.1 q hq';omega,(hq q (vz _ hq')).2⟩⟩,?_⟩;simpa only [Ii hl hlt,decide_eq_false (show ¬ ((p.1:Int) < b) by omega)];exact ⟨_,rfl,by simp [aN]⟩
variable {bs:List Meet}
theorem WB.lvAll (h:WB lv bs):∀ l∈lv,1<=l/\l<=4:=fun l hl=>by
 obtain ⟨i,hi⟩:=List.mem_iff_getElem?.mp hl;have:=h.lv1 i l hi;omega
def Ro (h:WB lv bs):aq tab aD (n+4) 5 [eB lv bs]=.ok (.bl true):=by
 have f:=oV lv h.mem;have h1:=h.one;have h4:=h.four;have hb:=h.nb;rw [bC Qn rfl];delta pW;simpa only [Ia,Gi,Im lv h.one (by omega) (WB.lvAll h),decide_eq_true (show prod lv<=400 by omega),decide_eq_true (show (0:Int)<=bs.length by omega),decide_eq_true (show (bs.length:Int)<=12 by omega),Bool.and_self];rw [bind_eq (a:=bs.map fun _=>D.bl true)]
 .simpa only [List.length_map,if_pos (show bs.length<=lim by unfold lim;omega)];rw [bind_eq (Gn (fun _=>true) bs)];simp [vp]
 .refine cT bs fun b hbm=>?_
  obtain ⟨q1,q2,q3⟩:=h.ban b hbm;simpa only [Je q1 q2 q3]
def Ed (h:WB lv bs):aq tab aD (n+5) 6 [eB lv bs]=.ok (eB lv bs):=by
 rw [bC Qg rfl];delta pR;simpa only [Ro h]
variable {r:zz}
def Yk (h:∀ p∈m,p.1 < r.length) (hl:m.length<=lim):aq tab aD (n+1) 7 [au r,eM m]=.ok (.bl (bQ r m)):=by
 rw [bC W7 rfl];delta xW;simpa only [];rw [bind_eq (a:=m.map fun p=>D.bl (decide (r[p.1]?=some p.2)))]
 .simpa only [List.length_map,if_pos hl];rw [bind_eq (Gn (fun p:Nat × Nat=>decide (r[p.1]?=some p.2)) m)];rfl
 .refine cT m fun p hp=>?_
  obtain ⟨x,hx⟩:∃ x,r[p.1]?=some x:=⟨_,List.getElem?_eq_getElem (h p hp)⟩;simpa only [RN hx,tR,hx,Option.some.injEq]
def yr (h:∀ b∈bs,(∀ p∈b,p.1 < r.length)/\b.length<=lim) (hl:bs.length<=lim):aq tab aD (n+2) 8 [au r,eBs bs]=.ok (.bl (bs.any fun b=>bQ r b)):=by
 rw [bC KN rfl];delta lV;simpa only [];rw [bind_eq (a:=bs.map fun b=>D.bl (bQ r b))]
 .simpa only [List.length_map,if_pos hl];rw [bind_eq (abw (fun b=>bQ r b) bs)];rfl
 .refine cT bs fun b hb=>?_
  simpa only [Yk (h b hb).1 (h b hb).2]
theorem yF (rs:zv) (l:Nat):rs.flatMap (fun r=>(List.range l).map fun s=>r++[s])=bY rs l:=rfl
variable {rs:zv}
def yq (h:1<=l):rs.length<=(bY rs l).length:=by
 rw [vq];exact Nat.le_mul_of_pos_right _ h
def sG (lv0:zz) (rs:zv) (rest:zz):Prop:=rest.foldl bY rs=rows lv0/\(∀ r∈rs,r.length+rest.length=lv0.length)/\∀ l∈rest,1<=l
theorem tD:∀ (rest:zz) (rs:zv),(∀ l∈rest,1<=l)->rs.length<=(rest.foldl bY rs).length
 | [],rs,_=>v6 _
 | l::rest,rs,h=>ye (yq (h l vE)) (tD rest _ fun x hx=>h x (vz _ hx))
theorem sG.step {lv0 rest:zz} (h:sG lv0 rs (l::rest)):sG lv0 (bY rs l) rest/\(bY rs l).length<=prod lv0:=by
 obtain ⟨h1,h2,h3⟩:=h;have h4:∀ x∈rest,1<=x:=fun x hx=>h3 x (vz _ hx)
 refine ⟨⟨h1,fun r hr=>?_,h4⟩,?_⟩
 .unfold bY at hr;obtain ⟨a,ha,hr⟩:=yB.mp hr;obtain ⟨s,_,rfl⟩:=v8.mp hr;have:=h2 a ha;simp only [List.length_cons,List.length_append,List.length_nil] at this ⊢;omega
 .have:=tD rest (bY rs l) h4;rw [<- uc,<- h1];exact this
theorem NK (h1:∀ l∈lv,1<=l) (hp:prod lv<=lim) (hlen:lv.length<=lim) (hl:∀ l∈lv,l<=lim):aq tab aD (n+1) 9 [au lv]=.ok (.lst ((rows lv).map au)):=by
 rw [bC N6 rfl];delta ou;simpa only [if_pos (show 0<=lim from Nat.zero_le _),if_pos (show 1<=lim by decide)];rw [bind_eq (a:=.nx [some (au lv),some (.lst ((rows lv).map au)),none,none,none,none])]
 .simpa only []
 .refine bL eN (fun rs:zv=>[some (au lv),some (.lst (rs.map au)),none,none,none,none]) bY (fun rs rest=>sG lv rs rest/\∀ l∈rest,l<=lim) (fun rs l rest hi=>?_) lv [[]] ⟨⟨rfl,by simp,h1⟩,hl⟩;obtain ⟨hi,hll⟩:=hi;obtain ⟨hs,hsz⟩:=hi.step;have hrl:∀ r∈rs,r.length < lim:=fun r hr=>by
   have:=hi.2.1 r hr;simp only [List.length_cons] at this;omega
  refine ⟨⟨hs,fun x hx=>hll x (vz _ hx)⟩,?_⟩;simpa only [if_pos (show 0<=lim from Nat.zero_le _)];rw [bind_eq (a:=.nx [some (au lv),some (.lst (rs.map au)),some (eN l),some (.lst ((bY rs l).map au)),none,none])]
  .simpa only [];exact ⟨_,rfl,by simp [aN]⟩
  .refine fj au (fun acc:zv=>[some (au lv),some (.lst (rs.map au)),some (eN l),some (.lst (acc.map au)),none,none]) (fun r=>(List.range l).map fun s=>r++[s]) lim rs (fun acc r hr hB=>?_) [] (by rw [yF,List.length_nil];omega);simpa only [jg l (hll l List.mem_cons_self)];rw [bind_eq (a:=((List.range l).map fun s=>r++[s]).map au)]
   .have hll':=hll l vE;simpa only [List.length_map,List.length_range,if_pos hll'];rw [bind_eq (Ww (enc:=au) hB)];exact ⟨_,rfl,by simp [aN]⟩
   .rw [List.map_map];refine cT (List.range l) fun s hs=>?_
    simpa only [GR (hrl r hr),if_pos (show 1<=lim by decide)];rfl
def yL (h:WB lv bs):aq tab aD (n+6) 10 [eB lv bs]=.ok (.lst ((tests lv bs).map au)):=by
 have f:=oV lv h.mem;have h4:=h.four;have hb:=h.nb;have hlim:lim=100000:=rfl;rw [bC KJ rfl];delta lO;simpa only [Ed h,NK (fun l hl=>(WB.lvAll h l hl).1) (show prod lv<=lim by omega) (show lv.length<=lim by omega) (fun l hl=>by have:=WB.lvAll h l hl;omega)];rw [bind_eq (a:=(tests lv bs).map au)]
 .have:(tests lv bs).length<=lim:=by
   have h1:=yo (Bx bs) (rows lv);rw [uc] at h1;unfold tests;omega
  simpa only [List.length_map,if_pos this]
 .refine bM (rows lv) fun r hr=>?_
  have hok:=pq.mp hr;simpa only [yr (r:=r) (bs:=bs) (fun b hbm=>⟨fun p hp=>by
   obtain ⟨l,e,_⟩:=(h.ban b hbm).1.2 p hp;rw [hok.len];exact (vV.mp e).1,by have:=(h.ban b hbm).2.2;omega⟩) (by omega)]
  unfold Bx;cases (bs.any fun b=>bQ r b) <;> simpa []
def BX (lv:zz) (bs:List Meet):aq tab aD (n+1) 14 [eB lv bs]=.ok (.int (min 3 lv.length:Nat)):=by
 rw [bC Cm rfl];delta iU;simpa only [];congr 2;split <;> omega
variable {k:Nat}
def Dq (h:WB lv bs)  (h1:1<=k) (h3:k<=3) (hk:k<=lv.length):aq tab aD (n+6) 15 [eB lv bs,.int k]=.ok .non:=by
 rw [bC oA rfl];delta cZ;simpa only [Ed h,BX,nJ,decide_eq_true (show (1:Int)<=k by omega),decide_eq_true (show (k:Int)<=(min 3 lv.length:Nat) by omega),Bool.and_self]
def KQ (p:Nat × Nat) (m:Meet):aq tab aD (n+1) 16 [eP p,eM m]=.ok (.bl (behind m p)):=by
 rw [bC KC rfl];delta lX;simpa only [];cases e:m.getLast? with
 | none =>
  rw [List.getLast?_eq_none_iff] at e;subst e;simp [behind,vp]
 | some q =>
  have hm:m≠[]:=fun z=>by subst z;simp at e
  have hl:¬ ((m.length:Int)=0):=fun z=>hm (List.length_eq_zero_iff.mp (by omega))
  simpa only [decide_eq_false hl,show (-(1:Int))=-1 from rfl,Yz e];unfold behind;rw [e];simp only [bR];congr 2;by_cases h:q.1 < p.1
  .rw [decide_eq_true h,decide_eq_true (by omega)]
  .rw [decide_eq_false h,decide_eq_false (by omega)]
def Al {ps:List (Nat × Nat)} (hk:k<=3) (hps:ps.length<=16):aq tab aD (n+2) 17 [.lst (ps.map eP),.int k]=.ok (.lst ((among ps k).map eM)):=by
 have hlim:lim=100000:=rfl;have hpow:∀ j,j<=3->ps.length ^ j<=4096:=fun j hj=>by
  have h1:ps.length ^ j<=16 ^ j:=Nat.pow_le_pow_left hps j;have h2:16 ^ j<=16 ^ 3:=Nat.pow_le_pow_right (by omega) hj;have h3:(16:Nat) ^ 3=4096:=by decide
  omega
 rw [bC Af rfl];delta iy;simpa only [if_pos (show 0<=lim from Nat.zero_le _),if_pos (show 0+1<=lim by decide),jg k (show k<=lim by omega)];rw [bind_eq (a:=.nx [some (.lst (ps.map eP)),some (.int (k:Int)),some (.lst ((among ps k).map eM)),none,none,none,none])]
 .simpa only []
 .refine (bL eN (fun j:Nat=>[some (.lst (ps.map eP)),some (.int (k:Int)),some (.lst ((among ps j).map eM)),none,none,none,none]) (fun j _=>j+1) (fun j rest=>j+rest.length=k) (fun j s rest hj=>?_) (List.range k) 0 (by simp)).trans ?_
  .simp only [List.length_cons] at hj;refine ⟨by omega,?_⟩;simpa only [if_pos (show 0<=lim from Nat.zero_le _)];have hla:=mF ps (j+1);have hp1:=hpow (j+1) (by omega);have hp0:=hpow j (by omega);have hla0:=mF ps j;rw [bind_eq (a:=.nx [some (.lst (ps.map eP)),some (.int (k:Int)),some (.lst ((among ps j).map eM)),some (.int (s:Int)),some (.lst ((among ps (j+1)).map eM)),none,none])]
   .simpa only [];exact ⟨_,rfl,by simp [aN]⟩
   .refine fj eM (fun acc:List Meet=>[some (.lst (ps.map eP)),some (.int (k:Int)),some (.lst ((among ps j).map eM)),some (.int (s:Int)),some (.lst (acc.map eM)),none,none]) (fun m=>(ps.filter (behind m)).map fun p=>m++[p]) lim (among ps j) (fun acc m hm hB=>?_) [] (by
      show 0+(among ps (j+1)).length<=lim
      omega)
    simpa only [];rw [bind_eq (a:=((ps.filter (behind m)).map fun p=>m++[p]).map eM)]
    .have:(ps.filter (behind m)).length<=lim:=by
      have:=yo (behind m) ps;omega
     simpa only [List.length_map,if_pos this];rw [bind_eq (Ww (enc:=eM) hB)];exact ⟨_,rfl,by simp [aN]⟩
    .rw [List.map_map];refine bM ps fun p hp=>?_
     have hml:m.length < lim:=by
      have:=(jc.mp hm).1;omega
     simpa only [KQ,PJ hml,if_pos (show 0+1<=lim by decide)];cases behind m p <;> simpa []
  .have e:∀ (l:zz) (a:Nat),l.foldl (fun j _=>j+1) a=a+l.length:=by
    intro l;induction l with
    | nil=>simp
    | cons x l ih=>intro a;simp [ih];omega
   rw [e,List.length_range,Nat.zero_add]
def rH (ts:zv) (k:Nat):List Meet:=(ts.flatMap fun t=>among (aM 0 t) k).foldl cG []
variable {ts:zv}
def Et :m∈rH ts k↔m.length=k/\dG m/\∃ t∈ts,bQ t m=true:=by
 unfold rH;rw [mQ];simp only [List.not_mem_nil,false_or,List.mem_flatMap,aR];constructor
 .rintro ⟨t,ht,h1,h2,h3⟩;exact ⟨h1,h2,t,ht,h3⟩
 .rintro ⟨h1,h2,t,ht,h3⟩;exact ⟨t,ht,h1,h2,h3⟩
theorem Kg (ts:zv) (k:Nat):(rH ts k).Nodup:=mj List.nodup_nil
variable {t:zz}
def eZ (hk:k<=3) (hle:(aM 0 t).length<=16):aq tab aD (n+3) 18 [au t,.int k]=.ok (.lst ((among (aM 0 t) k).map eM)):=by
 rw [bC Gh rfl];delta jG;simpa only [Al hk hle]
def zp (hk:k<=3) (ht:∀ t∈ts,t.length<=6) (hts:ts.length<=400):aq tab aD (n+4) 19 [.lst (ts.map au),.int k]=.ok (eK (rH ts k)):=by
 have hlim:lim=100000:=rfl;have ham:∀ t∈ts,(among (aM 0 t) k).length<=216:=fun t h=>by
  have h1:=mF (aM 0 t) k;rw [cP] at h1;have h2:t.length ^ k<=6 ^ k:=Nat.pow_le_pow_left (ht t h) k;have h3:6 ^ k<=6 ^ 3:=Nat.pow_le_pow_right (by omega) hk;have h4:(6:Nat) ^ 3=216:=by decide
  omega
 rw [bC Vi rfl];delta tL;simpa only [];rw [bind_eq (a:=.nx [some (.lst (ts.map au)),some (.int (k:Int)),some (eK (rH ts k)),none,none])]
 .simpa only []
 .refine (bL au (fun ks:List Meet=>[some (.lst (ts.map au)),some (.int (k:Int)),some (eK ks),none,none]) (fun ks t=>(among (aM 0 t) k).foldl cG ks) (fun ks rest=>(∀ t∈rest,t∈ts)/\ks.length+rest.length * 216<=86400) (fun ks t rest hp=>?_) ts [] ⟨fun _ h=>h,by simp only [List.length_nil];omega⟩).trans ?_
  .obtain ⟨hin,hsz⟩:=hp;have htm:=hin t vE;have hat:=ham t htm;have hfl:=mH (among (aM 0 t) k) ks;simp only [List.length_cons,Nat.succ_mul] at hsz;refine ⟨⟨fun x hx=>hin x (vz _ hx),by omega⟩,?_⟩;have hle:(aM 0 t).length<=16:=by rw [cP];have:=ht t htm;omega
   simpa only [eZ hk hle];rw [bind_eq (a:=.nx [some (.lst (ts.map au)),some (.int (k:Int)),some (eK ((among (aM 0 t) k).foldl cG ks)),some (au t),none])]
   .exact ⟨_,rfl,by simp [aN]⟩
   .refine bL eM (fun ks:List Meet=>[some (.lst (ts.map au)),some (.int (k:Int)),some (eK ks),some (au t),none]) cG (fun ks rest=>ks.length+rest.length<=90000) (fun ks m rest hp=>?_) (among (aM 0 t) k) ks (by omega);simp only [List.length_cons] at hp;have:=uH ks m;refine ⟨by omega,?_⟩;simpa only [];rw [bind_eq (RW ks m (by omega))];exact ⟨_,rfl,by simp [aN]⟩
  .unfold rH;rw [List.foldl_flatMap]
def DK (h:WB lv bs):(tests lv bs).length<=36:=by
 have f:=oV lv h.mem;have h1:=yo (Bx bs) (rows lv);rw [uc] at h1;unfold tests;omega
theorem mK (ht:t∈tests lv bs):gC lv t:=pq.mp (yT.mp ht).1
theorem jC (h:WB lv bs):∀ t∈tests lv bs,t.length<=6:=fun t ht=>by
 rw [(mK ht).len];have:=h.four;omega
def gP :m∈aP lv bs k↔m.length=k/\dG m/\∃ t∈tests lv bs,bQ t m=true:=by
 unfold aP;rw [List.mem_filter,oY,List.any_eq_true];constructor
 .rintro ⟨⟨h1,h2⟩,h3⟩;exact ⟨h1,h2.1,h3⟩
 .rintro ⟨h1,h2,t,ht,h3⟩;exact ⟨⟨h1,Jo (mK ht) h2 h3⟩,t,ht,h3⟩
def tX (h:WB lv bs)  (h1:1<=k) (h3:k<=3):(allM lv k).length < 64:=by
 have f:=oV lv h.mem;have:k=1\/k=2\/k=3:=by omega
 rcases this with rfl | rfl | rfl
 .exact f.2.2.1
 .exact f.2.2.2.1
 .exact f.2.2.2.2
theorem Lg (h1:1<=k):∀ m∈allM lv k,m≠[]:=fun m hm z=>by
 have:=(oY.mp hm).1;subst z;simp at this;omega
def uE (h:WB lv bs)  (h1:1<=k) (h3:k<=3) (hk:k<=lv.length):aq tab aD (n+7) 20 [eB lv bs,.int k]=.ok (.lst ((aP lv bs k).map eM)):=by
 have hl:=DK h;have ha:=tX h h1 h3;rw [bC Ng rfl];have hsort:jh (eK (rH (tests lv bs) k))=.ok (.lst ((aP lv bs k).map eM)):=by
  refine Jj (Kg _ _) ((yN lv k).filter _) (fun m=>?_) ?_ fun m hm=>Lg h1 m (yT.mp hm).1
  .rw [Et,gP]
  .have:=yo (fun m=>(tests lv bs).any fun t=>bQ t m) (allM lv k);unfold aP;omega
 delta nP;simpa only [Dq h h1 h3 hk,yL h,zp h3 (jC h) (show (tests lv bs).length<=400 by omega),hsort]
noncomputable def cU (ns:List Int) (k:Nat):Int:=ns.getD k 0
def sJ (ns:List Int) (k:Nat):aq tab aD (n+1) 34 [.lst (ns.map D.int),.int k]=.ok (.int (cU ns k)):=by
 rw [bC Kh rfl];delta lW;simpa only [];unfold cU;by_cases h:k < ns.length
 .have e:ns[k]?=some ns[k]:=List.getElem?_eq_getElem h;simpa only [decide_eq_true (show (k:Int) < ns.length by omega),GQ (enc:=D.int) e,List.getD,e,Option.getD]
 .simpa only [decide_eq_false (show ¬ ((k:Int) < ns.length) by omega),List.getD,List.getElem?_eq_none (Nat.le_of_not_lt h),Option.getD]
noncomputable def dU (c p m:Int):Nat:=(c * 48271 % p % m).toNat
variable {c p:Int}
theorem Fd {m:Int} (hm:0 < m):((dU c p m:Nat):Int)=c * 48271 % p % m:=Int.toNat_of_nonneg (Int.emod_nonneg _ (by omega))
def oF {m:Int} (hm:0 < m):((dU c p m:Nat):Int) < m:=by rw [Fd hm];exact Int.emod_lt_of_pos _ hm
def pP {m:Int} (hp:0 < p) (hm:0 < m):aq tab aD (n+1) 35 [.int c,.int p,.int m]=.ok (.int (dU c p m:Nat)):=by
 rw [bC Nz rfl];have e:jO .mul (.int c) (.int 48271)=.ok (.int (c * 48271)):=Gm (.inr rfl);delta nH;simpa only [e,Gy hp,Gy hm,Fd hm]
def bw (ns:List Int) (a:Nat):Nat:=1+dU (cU ns a) 9973 4
noncomputable def jB (k:Nat):Nat:=if k < 2 then 3 else 2
def cQ (ns:List Int) (a k:Nat):Nat:=1+dU (cU ns (a+1)+31 * (k:Int) * (k:Int)+(k:Int)) 9967 (jB k:Nat)
def iw (ns:List Int) (a:Nat):zz:=(List.range (bw ns a)).map (cQ ns a)
def dW (ns:List Int) (a k:Nat):Int:=cU ns (a+2)+53 * (k:Int) * (k:Int)+7 * (k:Int)
def drawn (ns:List Int) (a k:Nat):zz:=((List.range (bw ns a)).filter fun (x:Nat)=>decide (dU (dW ns a k+17 * (x:Int)) 9941 2=1)).take 3
def dM (ns:List Int) (a k:Nat):zz:=if (drawn ns a k).isEmpty then [dU (dW ns a k) 9931 (bw ns a:Nat)] else drawn ns a k
def fJ (ns:List Int) (a k:Nat):Meet:=(dM ns a k).map fun (x:Nat)=>(x,dU (dW ns a k+5 * (x:Int)) 9929 ((iw ns a).getD x 1:Nat))
def o9 (ns:List Int) (a:Nat):List Meet:=(List.range (dU (cU ns a) 9949 4)).map (fJ ns a)
def Av (ns:List Int) (a:Nat):1<=bw ns a/\bw ns a<=4:=by
 have:=oF (c:=cU ns a) (p:=9973) (m:=4) (by decide);unfold bw;omega
def Wo (k:Nat):0 < ((jB k:Nat):Int):=by unfold jB;split <;> decide
def pG (ns:List Int) (a k:Nat):1<=cQ ns a k/\cQ ns a k<=jB k:=by
 have:=oF (c:=cU ns (a+1)+31 * (k:Int) * (k:Int)+(k:Int)) (p:=9967) (Wo k);unfold cQ;omega
def Rq (ns:List Int) (a:Nat):(iw ns a).length=bw ns a:=by simp [iw]
variable {ns:List Int}{a:Nat}
def Qf (h:(iw ns a)[i]?=some l):l=cQ ns a i/\i < bw ns a:=by
 unfold iw at h;rw [List.getElem?_map] at h;cases e:(List.range (bw ns a))[i]? with
 | none=>rw [e] at h;cases h
 | some j =>
  rw [e] at h;obtain ⟨h1,h2⟩:=vV.mp e;simp at h1 h2;subst h2;cases h;exact ⟨rfl,h1⟩
theorem xY (h:i < bw ns a):(iw ns a)[i]?=some (cQ ns a i):=by
 unfold iw;rw [List.getElem?_map,List.getElem?_range h];rfl
theorem QC :∀ x∈drawn ns a k,x < bw ns a:=fun x hx=>by
 unfold drawn at hx;have:=List.mem_of_mem_take hx;exact yY.mp (yT.mp this).1
def mL (ns:List Int) (a k:Nat):(dM ns a k).Pairwise (· < ·)/\(∀ x∈dM ns a k,x < bw ns a)/\1<=(dM ns a k).length/\(dM ns a k).length<=3:=by
 have hm:=Av ns a;unfold dM;split
 .have:=oF (c:=dW ns a k) (p:=9931) (m:=(bw ns a:Nat)) (by omega);refine ⟨by simp,fun x hx=>?_,by simp,by simp⟩;rw [List.mem_singleton.mp hx];omega
 .rename_i h;refine ⟨?_,QC,?_,?_⟩
  .unfold drawn;exact ((List.pairwise_lt_range.filter _).sublist (List.take_sublist _ _))
  .cases e:drawn ns a k with
   | nil=>rw [e] at h;simp at h
   | cons _ _=>simp
  .unfold drawn;rw [List.length_take];omega
def Xp (ns:List Int) (a:Nat):WB (iw ns a) (o9 ns a):=by
 have hm:=Av ns a;refine ⟨by rw [Rq];omega,by rw [Rq];omega,fun i l h=>?_,fun i l h h2=>?_,?_,fun b hb=>?_⟩
 .obtain ⟨rfl,_⟩:=Qf h;have:=pG ns a i;have h3:jB i<=3:=by unfold jB;split <;> decide
  omega
 .obtain ⟨rfl,_⟩:=Qf h;have:=pG ns a i;have h3:jB i=2:=by unfold jB;rw [if_neg (by omega)]
  omega
 .have:=oF (c:=cU ns a) (p:=9949) (m:=4) (by decide);unfold o9;rw [List.length_map,List.length_range];omega
 .unfold o9 at hb;obtain ⟨k,_,rfl⟩:=v8.mp hb;obtain ⟨t1,t2,t3,t4⟩:=mL ns a k;refine ⟨⟨?_,fun p hp=>?_⟩,?_,?_⟩
  .unfold fJ dG;exact List.pairwise_map.mpr t1
  .unfold fJ at hp;obtain ⟨x,hx,rfl⟩:=v8.mp hp;have hx':=t2 x hx;refine ⟨cQ ns a x,xY hx',?_⟩;have e:(iw ns a).getD x 1=cQ ns a x:=by simp [List.getD,xY hx']
   simp only [e];have hl:=pG ns a x;have:=oF (c:=dW ns a k+5 * (x:Int)) (p:=9929) (m:=(cQ ns a x:Nat)) (by omega);omega
  .unfold fJ;rw [List.length_map];exact t3
  .unfold fJ;rw [List.length_map];exact t4
def one_add (x:Nat):(1:Int)+(x:Int)=((1+x:Nat):Int):=by omega
def acy (ds:List D):cutD ds none (some 3)=ds.take 3:=by
 unfold cutD;rw [HT.T9];have e:HT.sIx ds.length ds.length (some 3)=min 3 ds.length:=HT.Y9 ds.length ds.length 3;rw [e,Nat.sub_zero,List.drop_zero];by_cases h:3<=ds.length
 .rw [Nat.min_eq_left h]
 .rw [Nat.min_eq_right (by omega),List.take_of_length_le (by omega),List.take_of_length_le (by omega)]
theorem HJ (x:Nat) (h:x<=1000):j9 (x:Int)=true:=Nat.ble_eq_true_of_le (by omega)
theorem yg {c:Nat} (h:c<=1000) (x:Int):jO .mul (.int (c:Int)) (.int x)=.ok (.int ((c:Int) * x)):=Gm (.inl (HJ c h))
theorem mul_k (h:k<=1000) (x:Int):jO .mul (.int x) (.int (k:Int))=.ok (.int (x * (k:Int))):=Gm (.inr (HJ k h))
theorem aaQ (hns:ns.length<=63) (a:Nat):aq tab aD (n+2) 36 [.lst (ns.map D.int),.int a]=.ok (eB (iw ns a) (o9 ns a)):=by
 have hm:=Av ns a;have hlim:lim=100000:=rfl;have hbn:=oF (c:=cU ns a) (p:=9949) (m:=4) (by decide);rw [bC K3 rfl];have ea:∀ j:Nat,(a:Int)+(j:Int)=((a+j:Nat):Int):=fun j=>by omega
 have ea1:(a:Int)+1=((a+1:Nat):Int):=by omega
 have ea2:(a:Int)+2=((a+2:Nat):Int):=by omega
 have em:(1:Int)+(dU (cU ns a) 9973 4:Nat)=((bw ns a:Nat):Int):=by unfold bw;omega
 delta lR;simpa only [sJ,pP (show (0:Int) < 9973 by decide) (show (0:Int) < 4 by decide),em,if_pos (show 0<=lim from Nat.zero_le _),jg (bw ns a) (show bw ns a<=lim by omega)];rw [bind_eq (a:=.nx [some (.lst (ns.map D.int)),some (.int (a:Int)),some (.int (cU ns a)),some (.int (bw ns a:Nat)),some (.lst ((iw ns a).map eN)),none,none,none,none,none,none])]
 .simpa only [pP (show (0:Int) < 9949 by decide) (show (0:Int) < 4 by decide),if_pos (show 0<=lim from Nat.zero_le _),jg (dU (cU ns a) 9949 4) (show dU (cU ns a) 9949 4<=lim by omega)];rw [bind_eq (a:=.nx [some (.lst (ns.map D.int)),some (.int (a:Int)),some (.int (cU ns a)),some (.int (bw ns a:Nat)),some (.lst ((iw ns a).map eN)),none,some (.lst ((o9 ns a).map eM)),none,none,none,none])]
  .simpa only [if_pos (show 0+1+1<=lim by decide)];rfl
  .refine (fj eN (fun acc:List Meet=>[some (.lst (ns.map D.int)),some (.int (a:Int)),some (.int (cU ns a)),some (.int (bw ns a:Nat)),some (.lst ((iw ns a).map eN)),none,some (.lst (acc.map eM)),none,none,none,none]) (fun k=>[fJ ns a k]) lim (List.range (dU (cU ns a) 9949 4)) (fun acc k hk hB=>?_) [] ?_).trans ?_
   .have hk':=yY.mp hk;have m53:=yg (show 53<=1000 by decide) (k:Int);have m53k:=mul_k (show k<=1000 by omega) (((53:Nat):Int) * (k:Int));have m7:=yg (show 7<=1000 by decide) (k:Int);have es:cU ns (a+2)+((53:Nat):Int) * (k:Int) * (k:Int)+((7:Nat):Int) * (k:Int)=dW ns a k:=rfl;simp only [show ((53:Nat):Int)=53 from rfl,show ((7:Nat):Int)=7 from rfl] at m53 m53k m7 es;simpa only [ea2,sJ,m53,m53k,m7,es,if_pos (show 0<=lim from Nat.zero_le _),jg (bw ns a) (show bw ns a<=lim by omega)];rw [bind_eq (a:=((List.range (bw ns a)).filter fun (x:Nat)=>decide (dU (dW ns a k+17 * (x:Int)) 9941 2=1)).map eN)]
    .have hfl:=yo (fun x:Nat=>decide (dU (dW ns a k+17 * (x:Int)) 9941 2=1)) (List.range (bw ns a));rw [List.length_range] at hfl;have hfl2:((List.range (bw ns a)).filter fun (x:Nat)=>decide (dU (dW ns a k+17 * (x:Int)) 9941 2=1)).length<=lim:=by omega
     have ed:(((List.range (bw ns a)).filter fun (x:Nat)=>decide (dU (dW ns a k+17 * (x:Int)) 9941 2=1)).map eN).take 3=(drawn ns a k).map eN:=by unfold drawn;rw [List.map_take]
     simpa only [List.length_map,if_pos hfl2,slD,acy,ed,xV.cmpEq0];have hal:acc.length < lim:=by simp only [List.length_singleton] at hB;omega
     by_cases hd:(drawn ns a k).isEmpty=true
     .have et:dM ns a k=[dU (dW ns a k) 9931 (bw ns a:Nat)]:=if_pos hd;simpa only [hd,pP (show (0:Int) < 9931 by decide) (show (0:Int) < (bw ns a:Nat) by omega),if_pos (show 0+1<=lim by decide)];rw [show ([D.int ((dU (dW ns a k) 9931 (bw ns a:Nat):Nat):Int)]:List D)=(dM ns a k).map eN by rw [et];rfl];rw [bind_eq (a:=(fJ ns a k).map eP)]
      .have hbl:(fJ ns a k).length<=lim:=by
        have:=(mL ns a k).2.2.2;unfold fJ;rw [List.length_map];omega
       simpa only [List.length_map,if_pos hbl];rw [bind_eq (show yQ (.lst (acc.map eM)) (.tup ((fJ ns a k).map eP))=_ from xJ (enc:=eM) (a:=fJ ns a k) hal)];exact ⟨_,rfl,by simp [aN]⟩
      .rw [show fJ ns a k=(dM ns a k).map fun (x:Nat)=>(x,dU (dW ns a k+5 * (x:Int)) 9929 ((iw ns a).getD x 1:Nat)) from rfl,List.map_map];refine cT (dM ns a k) fun x hx=>?_
       have hx':=(mL ns a k).2.1 x hx;have m5:=yg (show 5<=1000 by decide) (x:Int);simp only [show ((5:Nat):Int)=5 from rfl] at m5;have eg:(iw ns a).getD x 1=cQ ns a x:=by simp [List.getD,xY hx']
       have hlp:=pG ns a x;simpa only [m5,GQ (enc:=eN) (xY hx'),pP (show (0:Int) < 9929 by decide) (show (0:Int) < (cQ ns a x:Nat) by omega),if_pos (show 0+1+1<=lim by decide)];simp only [Function.comp,eg,eP]
     .have et:dM ns a k=drawn ns a k:=if_neg hd;simpa only [eq_false_of_ne_true hd];rw [<- et];rw [bind_eq (a:=(fJ ns a k).map eP)]
      .have hbl:(fJ ns a k).length<=lim:=by
        have:=(mL ns a k).2.2.2;unfold fJ;rw [List.length_map];omega
       simpa only [List.length_map,if_pos hbl];rw [bind_eq (show yQ (.lst (acc.map eM)) (.tup ((fJ ns a k).map eP))=_ from xJ (enc:=eM) (a:=fJ ns a k) hal)];exact ⟨_,rfl,by simp [aN]⟩
      .rw [show fJ ns a k=(dM ns a k).map fun (x:Nat)=>(x,dU (dW ns a k+5 * (x:Int)) 9929 ((iw ns a).getD x 1:Nat)) from rfl,List.map_map];refine cT (dM ns a k) fun x hx=>?_
       have hx':=(mL ns a k).2.1 x hx;have m5:=yg (show 5<=1000 by decide) (x:Int);simp only [show ((5:Nat):Int)=5 from rfl] at m5;have eg:(iw ns a).getD x 1=cQ ns a x:=by simp [List.getD,xY hx']
       have hlp:=pG ns a x;simpa only [m5,GQ (enc:=eN) (xY hx'),pP (show (0:Int) < 9929 by decide) (show (0:Int) < (cQ ns a x:Nat) by omega),if_pos (show 0+1+1<=lim by decide)];simp only [Function.comp,eg,eP]
    .refine bM (List.range (bw ns a)) fun x hx=>?_
     have m17:=yg (show 17<=1000 by decide) (x:Int);simp only [show ((17:Nat):Int)=17 from rfl] at m17;simpa only [m17,pP (show (0:Int) < 9941 by decide) (show (0:Int) < 2 by decide)];have e1:decide (((dU (dW ns a k+17 * (x:Int)) 9941 2:Nat):Int)=1)=decide (dU (dW ns a k+17 * (x:Int)) 9941 2=1):=tR _ 1;rw [e1];by_cases hh:dU (dW ns a k+17 * (x:Int)) 9941 2=1 <;> simpa [hh]
   .rw [iH,List.length_nil,List.length_map,List.length_range];omega
   .rw [iH];rfl
 .refine (fj eN (fun acc:zz=>[some (.lst (ns.map D.int)),some (.int (a:Int)),some (.int (cU ns a)),some (.int (bw ns a:Nat)),some (.lst (acc.map eN)),none,none,none,none,none,none]) (fun k=>[cQ ns a k]) lim (List.range (bw ns a)) (fun acc k hk hB=>?_) [] ?_).trans ?_
  .have hk':=yY.mp hk;have m31:=yg (show 31<=1000 by decide) (k:Int);have m31k:=mul_k (show k<=1000 by omega) (((31:Nat):Int) * (k:Int));simp only [show ((31:Nat):Int)=31 from rfl] at m31 m31k;have hal:acc.length < lim:=by simp only [List.length_singleton] at hB;omega
   have h63:decide ((63:Int) < (ns.length:Int))=false:=yl (by omega);by_cases h2:k < 2
   .have e3:jB k=3:=if_pos h2;have el:cQ ns a k=1+dU (cU ns (a+1)+31 * (k:Int) * (k:Int)+(k:Int)) 9967 3:=by unfold cQ;rw [e3];rfl
    simpa only [decide_eq_true (show (k:Int) < 2 by omega),ea1,sJ,m31,m31k,pP (show (0:Int) < 9967 by decide) (show (0:Int) < 3 by decide),one_add,<- el];rw [bind_eq (xJ (enc:=eN) hal)];exact ⟨_,rfl,by simp [aN]⟩
   .have e3:jB k=2:=if_neg h2;have el:cQ ns a k=1+dU (cU ns (a+1)+31 * (k:Int) * (k:Int)+(k:Int)) 9967 2:=by unfold cQ;rw [e3];rfl
    simpa only [decide_eq_false (show ¬ ((k:Int) < 2) by omega),h63,ea1,sJ,m31,m31k,pP (show (0:Int) < 9967 by decide) (show (0:Int) < 2 by decide),one_add,<- el];rw [bind_eq (xJ (enc:=eN) hal)];exact ⟨_,rfl,by simp [aN]⟩
  .rw [iH,List.length_nil,List.length_map,List.length_range];omega
  .rw [iH];rfl
theorem Ye (h1:∀ l∈lv,1<=l) (hp:prod lv<=lim) (hlen:lv.length<=lim) (hl:∀ l∈lv,l<=lim):aq tab aD (n+1) 37 [au lv]=.ok (.lst ((rows lv).map au)):=by
 rw [bC KY rfl];delta lQ;simpa only [if_pos (show 0<=lim from Nat.zero_le _),if_pos (show 0+1<=lim by decide)];rw [bind_eq (a:=.nx [some (au lv),some (.lst ((rows lv).map au)),none,none,none,none])]
 .simpa only []
 .refine bL eN (fun rs:zv=>[some (au lv),some (.lst (rs.map au)),none,none,none,none]) bY (fun rs rest=>sG lv rs rest/\∀ l∈rest,l<=lim) (fun rs l rest hi=>?_) lv [[]] ⟨⟨rfl,by simp,h1⟩,hl⟩;obtain ⟨hi,hll⟩:=hi;obtain ⟨hs,hsz⟩:=hi.step;have hrl:∀ r∈rs,r.length < lim:=fun r hr=>by
   have:=hi.2.1 r hr;simp only [List.length_cons] at this;omega
  refine ⟨⟨hs,fun x hx=>hll x (vz _ hx)⟩,?_⟩;simpa only [if_pos (show 0<=lim from Nat.zero_le _)];rw [bind_eq (a:=.nx [some (au lv),some (.lst (rs.map au)),some (eN l),some (.lst ((bY rs l).map au)),none,none])]
  .simpa only [];exact ⟨_,rfl,by simp [aN]⟩
  .refine fj au (fun acc:zv=>[some (au lv),some (.lst (rs.map au)),some (eN l),some (.lst (acc.map au)),none,none]) (fun r=>(List.range l).map fun s=>r++[s]) lim rs (fun acc r hr hB=>?_) [] (by rw [yF,List.length_nil];omega);simpa only [jg l (hll l List.mem_cons_self)];rw [bind_eq (a:=((List.range l).map fun s=>r++[s]).map au)]
   .have hll':=hll l vE;simpa only [List.length_map,List.length_range,if_pos hll'];rw [bind_eq (Gw (enc:=au) hB)];exact ⟨_,rfl,by simp [aN]⟩
   .rw [List.map_map];refine cT (List.range l) fun s hs=>?_
    simpa only [GR (hrl r hr),if_pos (show 0+1<=lim by decide)];rfl
variable {b:Meet}
def Zq (h:WB lv bs)  (hr:gC lv r)  (hb:b∈bs):(∀ p∈b,p.1 < r.length)/\b.length<=lim:=by
 have hlim:lim=100000:=rfl;refine ⟨fun p hp=>?_,by have:=(h.ban b hb).2.2;omega⟩;obtain ⟨l,e,_⟩:=(h.ban b hb).1.2 p hp;rw [hr.len];exact (vV.mp e).1
def BJ (lv:zz) (k:Nat):List Meet:=((rows lv).flatMap fun r=>(subs (aM 0 r)).filter fun m=>decide (m.length=k)).foldl cG []
def Q6 (h1:∀ (i l:Nat),lv[i]?=some l->1<=l):m∈BJ lv k↔m∈allM lv k:=by
 unfold BJ;rw [mQ,oY];simp only [List.not_mem_nil,false_or,List.mem_flatMap,List.mem_filter,FN,decide_eq_true_eq];constructor
 .rintro ⟨r,hr,⟨h2,h3⟩,h4⟩;exact ⟨h4,Jo (pq.mp hr) h2 h3⟩
 .rintro ⟨h4,h5⟩;obtain ⟨r,hr,h6⟩:=TJ h1 h5;exact ⟨r,hr,⟨h5.1,h6⟩,h4⟩
variable {s:Nat}
theorem Zu {t:Nat} (h:m.length < lim):mY (eM m) (.tup [.tup [.int (t:Int),.int (s:Int)]])=.ok (eM (m++[(t,s)])):=PJ (p:=(t,s)) h
theorem Js {α β:Type} (p:β->Bool) (g:α->β->α):∀ (l:List β) (a:α),l.foldl (fun a x=>if p x then g a x else a) a=(l.filter p).foldl g a
 | [],a=>rfl
 | x::l,a=>by
  rw [List.foldl_cons,Js p g l,List.filter_cons];cases p x <;> simp
def J9 (h:WB lv bs)  (h1:1<=k) (h3:k<=3):aq tab aD (n+2) 38 [eB lv bs,.int k]=.ok (.lst ((allM lv k).map eM)):=by
 have f:=oV lv h.mem;have h4:=h.four;have hlim:lim=100000:=rfl;rw [bC Bu rfl];have hsort:jh (eK (BJ lv k))=.ok (.lst ((allM lv k).map eM)) :=
  Jj (mj List.nodup_nil) (yN lv k) (fun m=>Q6 fun i l e=>(h.lv1 i l e).1) (tX h h1 h3) (Lg h1)
 delta iR;simpa only [if_pos (show 0<=lim from Nat.zero_le _),Ye (fun l hl=>(WB.lvAll h l hl).1) (show prod lv<=lim by omega) (show lv.length<=lim by omega) (fun l hl=>by have:=WB.lvAll h l hl;omega)];rw [bind_eq (a:=.nx [some (eB lv bs),some (.int (k:Int)),some (eK (BJ lv k)),none,none,none,none,none])]
 .simpa only [hsort]
 .refine (bL au (fun ks:List Meet=>[some (eB lv bs),some (.int (k:Int)),some (eK ks),none,none,none,none,none]) (fun ks r=>((subs (aM 0 r)).filter fun m=>decide (m.length=k)).foldl cG ks) (fun ks rest=>(∀ r∈rest,r∈rows lv)/\ks.length+rest.length * 16<=640) (fun ks r rest hp=>?_) (rows lv) [] ⟨fun _ h=>h,by rw [uc,List.length_nil];omega⟩).trans ?_
  .obtain ⟨hin,hsz⟩:=hp;have hok:=pq.mp (hin r vE);have hrl:=hok.len;have hsl:(subs (aM 0 r)).length<=16:=by
    unfold subs;rw [Ea,cP,List.length_singleton,Nat.one_mul];have:2 ^ r.length<=2 ^ 4:=Nat.pow_le_pow_right (by omega) (by omega);have e:(2:Nat) ^ 4=16:=by decide
    omega
   have hfl:=mH ((subs (aM 0 r)).filter fun m=>decide (m.length=k)) ks;have hff:=yo (fun m:Meet=>decide (m.length=k)) (subs (aM 0 r));simp only [List.length_cons,Nat.succ_mul] at hsz;refine ⟨⟨fun x hx=>hin x (vz _ hx),by omega⟩,?_⟩;simpa only [if_pos (show 0<=lim from Nat.zero_le _),if_pos (show 0+1<=lim by decide)];rw [bind_eq (a:=.nx [some (eB lv bs),some (.int (k:Int)),some (eK ks),some (au r),some (.lst ((subs (aM 0 r)).map eM)),none,none,none])]
   .simpa only [];rw [bind_eq (a:=.nx [some (eB lv bs),some (.int (k:Int)),some (eK (((subs (aM 0 r)).filter fun m=>decide (m.length=k)).foldl cG ks)),some (au r),some (.lst ((subs (aM 0 r)).map eM)),none,none,none])]
    .exact ⟨_,rfl,by simp [aN]⟩
    .refine (bL eM (fun ks:List Meet=>[some (eB lv bs),some (.int (k:Int)),some (eK ks),some (au r),some (.lst ((subs (aM 0 r)).map eM)),none,none,none]) (fun ks m=>if decide (m.length=k) then cG ks m else ks) (fun ks rest=>ks.length+rest.length<=90000) (fun ks m rest hp=>?_) (subs (aM 0 r)) ks (by omega)).trans ?_
     .simp only [List.length_cons] at hp;have:=uH ks m;by_cases hm:m.length=k
      .refine ⟨by simp only [hm];simp;omega,?_⟩;simpa only [tR,hm,decide_eq_true (Eq.refl k)];rw [bind_eq (RW ks m (by omega))];exact ⟨_,rfl,by simp [aN]⟩
      .refine ⟨by simp only [hm];simp;omega,?_⟩;simpa only [tR,decide_eq_false hm];exact ⟨_,rfl,by simp [aN]⟩
     .rw [Js]
   .refine (bL eP (fun acc:List Meet=>[some (eB lv bs),some (.int (k:Int)),some (eK ks),some (au r),some (.lst (acc.map eM)),none,none,none]) fG (fun acc rest=>acc.length * 2 ^ rest.length<=16/\∀ m∈acc,m.length+rest.length<=4) (fun acc p rest hp=>?_) (aM 0 r) [[]] ⟨?_,?_⟩).trans ?_
    .obtain ⟨q1,q2⟩:=hp;have hal:acc.length<=8:=by
      rw [List.length_cons,Nat.pow_succ] at q1;have:1<=2 ^ rest.length:=Nat.one_le_two_pow;have h5:acc.length * 2<=acc.length * (2 ^ rest.length * 2):=Nat.mul_le_mul_left _ (by omega);omega
     refine ⟨⟨?_,fun m hm=>?_⟩,?_⟩
     .unfold fG;rw [List.length_append,List.length_map,<- Nat.two_mul,Nat.mul_comm 2,Nat.mul_assoc];rw [List.length_cons,Nat.pow_succ,Nat.mul_comm (2 ^ rest.length)] at q1;exact q1
     .unfold fG at hm;rcases yc.mp hm with hm | hm
      .have:=q2 m hm;simp only [List.length_cons] at this;omega
      .obtain ⟨m',hm',rfl⟩:=v8.mp hm;have:=q2 m' hm';simp only [List.length_cons,List.length_append,List.length_nil] at this ⊢;omega
     .simpa only [eP];rw [bind_eq (a:=(acc.map fun m=>m++[p]).map eM)]
      .simpa only [List.length_map,if_pos (show acc.length<=lim by omega)];rw [bind_eq (Gw (enc:=eM) (l:=acc) (l':=acc.map fun m=>m++[p]) (by rw [List.length_map];omega))];exact ⟨_,rfl,by simp [aN,fG]⟩
      .rw [List.map_map];refine cT acc fun m hm=>?_
       have:=q2 m hm;simp only [List.length_cons] at this;simpa only [Zu (show m.length < lim by omega),if_pos (show 0+1<=lim by decide),if_pos (show 0+1+1<=lim by decide)];rfl
    .rw [cP,List.length_singleton,Nat.one_mul];have:2 ^ r.length<=2 ^ 4:=Nat.pow_le_pow_right (by omega) (by omega);have e:(2:Nat) ^ 4=16:=by decide
     omega
    .intro m hm;rw [List.mem_singleton.mp hm,cP,List.length_nil];omega
    .rfl
  .unfold BJ;rw [List.foldl_flatMap]
theorem MJ:∀ {lv r:zz},gC lv r->∀ p∈r.zip lv,p.1 < p.2
 | [],[],_,p,h=>by simp at h
 | l::lv,x::r,h,p,hp=>by
  rw [List.zip_cons_cons,List.mem_cons] at hp;rcases hp with rfl | hp
  .exact h.1
  .exact MJ h.2 p hp
def U5 (hr:gC lv r) (hl:lv.length<=6):aq tab aD (n+2) 11 [au lv,au r]=.ok (.bl true):=by
 have hlim:lim=100000:=rfl;have hlen:=hr.len;have hz:(r.zip lv).length<=lim:=by rw [List.length_zip];omega
 rw [bC U8 rfl];delta uD;simpa only [sW,decide_eq_true (show (lv.length:Int)<=r.length by omega),decide_eq_true (show (r.length:Int)<=lv.length by omega),Bool.and_self,Qo];rw [bind_eq (a:=(r.zip lv).map fun _=>D.bl true)]
 .simpa only [List.length_map,if_pos hz];rw [bind_eq (Gn (fun _=>true) (r.zip lv))];simpa []
 .refine cT (r.zip lv) fun p hp=>?_
  have:=MJ hr p hp;simpa only [eP,nJ,decide_eq_true (show (0:Int)<=p.1 by omega),decide_eq_true (show (p.1:Int)<=p.2 - 1 by omega),Bool.and_self]
def Sw (h:WB lv bs)  (ht:t∈tests lv bs):aq tab aD (n+3) 12 [eB lv bs,au t]=.ok (.bl true):=by
 have hlim:lim=100000:=rfl;have h4:=h.four;have hb:=h.nb;have hr:=mK ht;have hany:(bs.any fun b=>bQ t b)=false:=by
  have:=(yT.mp ht).2;unfold Bx at this;simpa using this
 rw [bC Q8 rfl];delta rF;simpa only [U5 hr (show lv.length<=6 by omega),yr (fun b hb=>Zq h hr hb) (show bs.length<=lim by omega),hany]
theorem Jd {p:D->R D}:∀ (ts:zv),(∀ t∈ts,p (au t)=.ok (.bl true))->lC p (ts.map au)=.ok ()
 | [],_=>rfl
 | t::ts,h=>by
  show (match p (au t) with | .ok (.bl true)=>lC p (ts.map au) | _=>.stuck)=_
  rw [h t List.mem_cons_self];exact Jd ts fun u hu=>h u (vz _ hu)
theorem Gg (h:WB lv bs)  (ht:∀ t∈ts,t∈tests lv bs):aq tab aD (n+4) 13 [eB lv bs,.lst (ts.map au)]=.ok .non:=by
 rw [abt uT uV rfl];have e:Nm (aq tab aD (n+3)) 12 [some (eB lv bs),some (.lst (ts.map au))]=.ok (.nx [some (eB lv bs),some (.lst (ts.map au))]):=by
  show (match lC (fun t=>aq tab aD (n+3) 12 [eB lv bs,t]) (ts.map au) with | .ok _=>R.ok (Out.nx [some (eB lv bs),some (.lst (ts.map au))]) | _=>.stuck)=_
  rw [Jd ts fun t hh=>Sw h (ht t hh)]
 show rW (Nm (aq tab aD (n+3)) 12 [some (eB lv bs),some (.lst (ts.map au))])=_
 rw [e];rfl
def lN (h:WB lv bs)  (h1:1<=k) (h3:k<=3) (hk:k<=lv.length)  (ht:∀ t∈ts,t∈tests lv bs):aq tab aD (n+7) 21 [eB lv bs,.int k,.lst (ts.map au)]=.ok .non:=by
 rw [bC J3 rfl];delta lM;simpa only [Dq h h1 h3 hk,Gg h ht]
theorem vL :∀ m∈aP lv bs k,m.length=k/\dG m:=fun m hm=>⟨(gP.mp hm).1,(gP.mp hm).2.1⟩
def Ag (h:WB lv bs)  (h1:1<=k) (h3:k<=3):(aP lv bs k).length < 64:=by
 have:=tX h h1 h3;have:=yo (fun m=>(tests lv bs).any fun t=>bQ t m) (allM lv k);unfold aP;omega
def Qa (h:WB lv bs)  (h1:1<=k) (h3:k<=3) (hk:k<=lv.length)  (ht:∀ t∈ts,t∈tests lv bs) (hts:ts.length<=400):aq tab aD (n+8) 22 [eB lv bs,.int k,.lst (ts.map au)]=.ok (.lst ((uJ (aP lv bs k) ts).map eM)):=by
 have hlim:lim=100000:=rfl;have hpl:=Ag h h1 h3;rw [bC RP rfl];delta rE;simpa only [lN h h1 h3 hk ht,zp h3 (fun t hh=>jC h t (ht t hh)) hts,uE h h1 h3 hk];rw [bind_eq (a:=(uJ (aP lv bs k) ts).map eM)]
 .have:=yo (fun m=>!(ts.any fun t=>bQ t m)) (aP lv bs k);have h2:(uJ (aP lv bs k) ts).length<=lim:=by unfold uJ;omega
  simpa only [List.length_map,if_pos h2]
 .refine bM (aP lv bs k) fun m hm=>?_
  have e:decide (m∈rH ts k)=ts.any fun t=>bQ t m:=by
   rw [Bool.eq_iff_iff,decide_eq_true_eq,Et,List.any_eq_true];exact ⟨fun z=>z.2.2,fun z=>⟨(vL m hm).1,(vL m hm).2,z⟩⟩
  simpa only [eK,Yv,e];cases ts.any fun t=>bQ t m <;> simpa []
def uz (h:WB lv bs)  (h1:1<=k) (h3:k<=3) (hk:k<=lv.length)  (ht:∀ t∈ts,t∈tests lv bs) (hts:ts.length<=400):aq tab aD (n+9) 23 [eB lv bs,.int k,.lst (ts.map au)]=.ok (.bl (uJ (aP lv bs k) ts).isEmpty):=by
 rw [bC Nb rfl];delta nG;simpa only [Qa h h1 h3 hk ht hts];congr 2;cases uJ (aP lv bs k) ts <;> simp;omega
theorem Jl (d:D):Nu (.ok (.ro d))=.ok d:=rfl
theorem Xg (ρ:En):Gk 3 (.ok (.nx ρ))=(do let a <- bF ρ 1;let b <- bF ρ 2;.ok (.tup [a,b])):=rfl
theorem Zc (ρ:En):Gk 2 (.ok (.nx ρ))=(do let a <- bF ρ 1;let b <- bF ρ 1;.ok (.tup [a,b])):=rfl
def QJ (h0:tab[2000+f]?=none) (ht:tab[f]?=some d) (hl:args.length=d.np) (hn:d.nrm=true:=by rfl) (hx:aD.lookup (2000+f)=none:=by rfl):aq tab aD (n+1) (2000+f) args=Nu (bZ (aq tab aD n) d.body (args.map some++List.replicate (d.nn - d.np) none)):=by
 show (match aD.lookup (2000+f) with | some b=>_ | none=>_)=_
 rw [hx];show jt _ _ _ _=_
 unfold jt;rw [h0];have e:2000+f - 2000=f:=by omega
 simp only [if_pos (show 2000<=2000+f by omega),e,ht];exact if_pos ⟨hl,hn⟩
def Qi (h0:tab[1000+f]?=none) (ht:tab[f]?=some d) (hf:f < 1000) (hl:args.length=d.np) (hn:Ar d=true) (hx:aD.lookup (1000+f)=none:=by rfl):aq tab aD (n+1) (1000+f) args=Gk d.np (bZ (aq tab aD n) d.body (args.map some++List.replicate (d.nn - d.np) none)):=by
 show (match aD.lookup (1000+f) with | some b=>_ | none=>_)=_
 rw [hx];show jt _ _ _ _=_
 unfold jt;rw [h0];have e:1000+f - 1000=f:=by omega
 simp only [if_neg (show ¬ 2000<=1000+f by omega),e,ht];exact if_pos ⟨hl,hn⟩
def prs (k:Nat):Nat->zv->List (Nat × Meet)
 | _,[]=>[]
 | n,t::ts=>(among (aM 0 t) k).map (fun m=>(n,m))++prs k (n+1) ts
theorem Lz {k:Nat}{m:Meet}:∀ {n:Nat}{ts:zv},(∃ x∈prs k n ts,x.2=m)↔∃ t∈ts,m∈mOf k t
 | n,[]=>by simp [prs]
 | n,t::ts=>by
  have ih:=Lz (k:=k) (m:=m) (n:=n+1) (ts:=ts);rw [prs];constructor
  .rintro ⟨x,hx,rfl⟩;rcases yc.mp hx with h | h
   .obtain ⟨m,hm,rfl⟩:=v8.mp h;exact ⟨t,vE,hm⟩
   .obtain ⟨u,hu,hm⟩:=ih.mp ⟨x,h,rfl⟩;exact ⟨u,vz _ hu,hm⟩
  .rintro ⟨u,hu,hm⟩;rcases z9.mp hu with rfl | hu
   .exact ⟨(n,m),vF _ (v8.mpr ⟨m,hm,rfl⟩),rfl⟩
   .obtain ⟨x,hx,e⟩:=ih.mpr ⟨u,hu,hm⟩;exact ⟨x,vS _ hx,e⟩
def SN (hk:k<=3) (ht:t.length<=6):(among (aM 0 t) k).length<=216:=by
 have h1:=mF (aM 0 t) k;rw [cP] at h1;have h2:t.length ^ k<=6 ^ k:=Nat.pow_le_pow_left ht k;have h3:6 ^ k<=6 ^ 3:=Nat.pow_le_pow_right (by omega) hk;have h4:(6:Nat) ^ 3=216:=by decide
 omega
theorem Qc {m:Meet}{n:Nat}:∀ {l:List Meet},l.Nodup->((l.map fun x=>(n,x)).filter fun x=>decide (x.2=m)).map (fun x=>eN x.1)=if m∈l then [eN n] else []
 | [],_=>rfl
 | x::l,h=>by
  rw [List.nodup_cons] at h;have ih:=Qc (m:=m) (n:=n) h.2;rw [List.map_cons,List.filter_cons];by_cases e:x=m
  .subst e;rw [if_neg h.1] at ih;simp [ih]
  .have e2:¬ m=x:=fun z=>e z.symm
   simp only [decide_eq_false e,Bool.false_eq_true,if_false,ih,List.mem_cons,e2,false_or]
theorem Lf {k:Nat}{m:Meet} (h1:m.length=k) (h2:dG m):∀ (n:Nat) (ts:zv),((prs k n ts).filter fun x=>decide (x.2=m)).map (fun x=>eN x.1)=(plc m n ts).map eN
 | n,[]=>rfl
 | n,t::ts=>by
  rw [prs,List.filter_append,List.map_append,Lf h1 h2 (n+1) ts,Qc (Vc t k),plc];by_cases e:bQ t m=true
  .rw [if_pos (aR.mpr ⟨h1,h2,e⟩),if_pos e];rfl
  .rw [if_neg fun z=>e (aR.mp z).2.2,if_neg e];rfl
structure PlOk (k:Nat) (ts:zv) (ks:List Meet) (f:Meet->List D):Prop where
 nd:ks.Nodup
 kind:∀ m∈ks,m.length=k/\dG m
 fn:∀ m∈ks,f m=(plc m 0 ts).map eN
 all:∀ t∈ts,∀ m∈mOf k t,m∈ks
def NP (hk:k<=3) (ht:∀ t∈ts,t.length<=6) (hts:ts.length<=400):∃ (ks:List Meet) (f:Meet->List D),aq tab aD (n+4) (2000+29) [.lst (ts.map au),.int k]=.ok (eGr eM ks f)/\PlOk k ts ks f:=by
 have hlim:lim=100000:=rfl;have step:∀ (us:zv) (j:Nat) (done:List (Nat × Meet)) (s:List Meet × (Meet->List D)),GrOk (fun x:Nat × Meet=>x.2) (fun x=>eN x.1) done s->done.length+us.length * 216<=86400->(∀ t∈us,t.length<=6) ->
   ∃ s',GrOk (fun x:Nat × Meet=>x.2) (fun x=>eN x.1) (done++prs k j us) s'/\nD (fun x d=>do let ρ1 <- dj (.two 3 4) x [some (.lst (ts.map au)),some (.int (k:Int)),none,none,none,none];lF (aq tab aD (n+3)) (.forr (.one 5) .seq [.call 18 [.var 4,.var 1]] (.sda (.var 5) (.var 3))) ρ1 d) (aQ j (us.map au)) (eGr eM s.1 s.2)=.ok (eGr eM s'.1 s'.2):=by
  intro us;induction us with
  | nil=>intro j done s hs _ _;exact ⟨s,by rw [prs,List.append_nil];exact hs,rfl⟩
  | cons t us ih =>
   intro j done s hs hsz hus;have ht6:=hus t vE;have hal:=SN hk ht6;simp only [List.length_cons,Nat.succ_mul] at hsz;have hle:(aM 0 t).length<=16:=by rw [cP];omega
   obtain ⟨g1,g2⟩:=Cp (enc:=eM) aaX (e:=fun x:Nat × Meet=>eM x.2) (f:=fun x d=>do let ρ1 <- dj (.one 5) x [some (.lst (ts.map au)),some (.int (k:Int)),none,some (.int (j:Int)),some (au t),none];lF (aq tab aD (n+3)) (.sda (.var 5) (.var 3)) ρ1 d)
    ((among (aM 0 t) k).map fun m=>(j,m)) done s hs (by rw [List.length_map];omega) (fun x hx ks g=>by
     obtain ⟨m,_,rfl⟩:=v8.mp hx;simpa only []
     all_goals rfl)
   obtain ⟨s',q1,q2⟩:=ih (j+1) (done++(among (aM 0 t) k).map fun m=>(j,m)) _ g1 (by rw [List.length_append,List.length_map];omega) fun u hu=>hus u (vz _ hu)
   refine ⟨s',by rw [prs,<- List.append_assoc];exact q1,?_⟩;rw [List.map_cons,aQ,nD];rw [bind_eq (a:=eGr eM (((among (aM 0 t) k).map fun m=>(j,m)).foldl (mC (fun x:Nat × Meet=>x.2) (fun x=>eN x.1)) s).1 (((among (aM 0 t) k).map fun m=>(j,m)).foldl (mC (fun x:Nat × Meet=>x.2) (fun x=>eN x.1)) s).2)]
   .exact q2
   .rw [List.map_map] at g2;refine Eq.trans ?_ g2;simpa only [eZ (n:=n) hk hle]
    all_goals rfl
 obtain ⟨s',q1,q2⟩:=step ts 0 [] ([],fun _=>[]) GrOk.nil (by simp only [List.length_nil];omega) ht;rw [List.nil_append] at q1;have hmem:∀ m,m∈s'.1↔∃ t∈ts,m∈mOf k t:=fun m=>q1.mem.trans Lz
 have hkind:∀ m∈s'.1,m.length=k/\dG m:=fun m hm=>by
  obtain ⟨t,_,h⟩:=(hmem m).mp hm;exact ⟨(aR.mp h).1,(aR.mp h).2.1⟩
 refine ⟨s'.1,s'.2,?_,by rw [q1.ks];exact mj List.nodup_nil,hkind,fun m hm=>?_,fun t ht m hm=>(hmem m).mpr ⟨t,ht,hm⟩⟩
 .rw [QJ rfl uW rfl];delta fL;simpa only [KZ,Ju];rw [bind_eq (a:=eGr eM s'.1 s'.2)]
  .simpa only [Jl]
  .simpa only [] using q2;exact q2
 .rw [q1.fn,Lf (hkind m hm).1 (hkind m hm).2]
theorem tU {α:Type}{enc:α->D} (h:∀ a,ndD (enc a)=true):∀ l:List α,iu (l.map enc)=true
 | []=>rfl
 | a::l=>by rw [List.map_cons,iu,h a,tU h l];rfl
theorem aaG (m:Meet):ndD (eM m)=true:=tU (fun p=>rfl) m
variable {ks:List Meet}
theorem PlOk.ndc {f:Meet->List D} (h:PlOk k ts ks f):ndC (eGr eM ks f)=true:=by
 show (iu (ks.map eM) && iu (ks.map fun m=>D.lst (f m)))=true
 have key:∀ l:List Meet,(∀ m∈l,m∈ks)->iu (l.map fun m=>D.lst (f m))=true:=by
  intro l;induction l with
  | nil=>intro _;rfl
  | cons m l ih =>
   intro hl;rw [List.map_cons,iu,ih fun x hx=>hl x (List.mem_cons_of_mem _ hx)];have:ndD (D.lst (f m))=true:=by
    rw [h.fn m (hl m List.mem_cons_self)];exact tU (fun _=>rfl) _
   rw [this];rfl
 rw [tU aaG,key ks fun _ hm=>hm];rfl
def Tw (ms:List Meet):∀ (A:Meet->Bool) (x:Meet),ms.foldl fu A x=(A x && decide (x ∉ ms)):=by
 induction ms with
 | nil=>intro A x;simp
 | cons m ms ih =>
  intro A x;rw [List.foldl_cons,ih,fu,Bool.and_assoc,Bool.eq_iff_iff];simp
def Fe {f:Meet->List D} (h:PlOk k ts ks f) (ms:List Meet) (A:Meet->Bool) :
  aq tab aD (n+1) (1000+30) [.lst (ms.map eM),eGr eM (ks.filter A) f,.lst ((ts.map (gA k A)).map D.int)]=.ok (.tup [eGr eM (ks.filter (ms.foldl fu A)) f,.lst ((ts.map (gA k (ms.foldl fu A))).map D.int)]):=by
 rw [Qi rfl MP (by decide) rfl (by decide +kernel)];delta nR;simpa only [];rw [bind_eq (a:=.nx [some (.lst (ms.map eM)),some (eGr eM (ks.filter (ms.foldl fu A)) f),some (.lst ((ts.map (gA k (ms.foldl fu A))).map D.int)),none,none,none])]
 .simpa only [Xg]
 .refine bL eM (fun A:Meet->Bool=>[some (.lst (ms.map eM)),some (eGr eM (ks.filter A) f),some (.lst ((ts.map (gA k A)).map D.int)),none,none,none]) fu (fun _ _=>True) (fun A m rest _=>⟨trivial,?_⟩) ms A trivial;have ef:((ks.filter A).filter fun x=>decide (x≠m))=ks.filter (fu A m):=by
   rw [List.filter_filter];exact List.filter_congr fun x _=>by unfold fu;rw [Bool.and_comm]
  simpa only [Xl (h.nd.filter A),ef];by_cases hm:m∈ks.filter A
  .have hA:=(yT.mp hm).2;have hk:=(yT.mp hm).1;rw [if_pos hm,h.fn m hk];have eg:(plc m 0 ts).foldl vJ (ts.map (gA k A))=ts.map (gA k (fu A m)):=by
    have:=Lp m (gA k A) ts [];rw [List.nil_append,List.nil_append] at this;rw [show plc m 0 ts=plc m ([]:List Int).length ts from rfl,this];refine List.map_congr_left fun t ht=>?_
    rw [Tj,hA];have:decide (m∈mOf k t)=bQ t m:=by
     rw [Bool.eq_iff_iff,decide_eq_true_eq,aR];exact ⟨fun z=>z.2.2,fun z=>⟨(h.kind m hk).1,(h.kind m hk).2,z⟩⟩
    rw [this,Bool.true_and]
   rw [bind_eq (a:=.nx [some (.lst (ms.map eM)),some (eGr eM (ks.filter (fu A m)) f),some (.lst ((ts.map (gA k (fu A m))).map D.int)),some (eM m),some (.lst ((plc m 0 ts).map eN)),none])]
   .exact ⟨_,rfl,by simp [aN]⟩
   .rw [<- eg];refine bL eN (fun g:List Int=>[some (.lst (ms.map eM)),some (eGr eM (ks.filter (fu A m)) f),some (.lst (g.map D.int)),some (eM m),some (.lst ((plc m 0 ts).map eN)),none]) vJ (fun g rest=>g.length=ts.length/\∀ p∈rest,p < ts.length) (fun g p rest hP=>⟨⟨by rw [U7];exact hP.1,fun q hq=>hP.2 q (vz _ hq)⟩,?_⟩) (plc m 0 ts) (ts.map (gA k A)) ⟨by simp,fun p hp=>by have:=Qx m ts 0 p hp;omega⟩;have hpl:p < g.length:=by rw [hP.1];exact hP.2 p vE
    simpa only [acn hpl,aa8 hpl];exact ⟨_,rfl,by simp [aN,vJ]⟩
  .rw [if_neg hm];have eg:ts.map (gA k (fu A m))=ts.map (gA k A):=by
    refine List.map_congr_left fun t ht=>?_
    rw [Tj,if_neg];intro z;simp only [Bool.and_eq_true,decide_eq_true_eq] at z;exact hm (yT.mpr ⟨h.all t ht m z.2,z.1⟩)
   rw [eg];exact ⟨_,rfl,by simp [aN,jo]⟩
def Dy {us:zv} (h1:m.length=k) (h2:dG m):(mOf k t).foldl fu (c7 us) m=c7 (us++[t]) m:=by
 rw [Tw,uI];congr 1;have:decide (m∈mOf k t)=bQ t m:=by
  rw [Bool.eq_iff_iff,decide_eq_true_eq,aR];exact ⟨fun z=>z.2.2,fun z=>⟨h1,h2,z⟩⟩
 rw [<- this];by_cases e:m∈mOf k t <;> simp [e]
def Qe {f:Meet->List D} (h:PlOk k ts ks f) (us:zv) (t:zz) :
  aq tab aD (n+1) (1000+30) [.lst ((mOf k t).map eM),eGr eM (ks.filter (c7 us)) f,.lst ((ts.map (gN k us)).map D.int)]=.ok (.tup [eGr eM (ks.filter (c7 (us++[t]))) f,.lst ((ts.map (gN k (us++[t]))).map D.int)]):=by
 rw [Fe h];have e1:ks.filter ((mOf k t).foldl fu (c7 us))=ks.filter (c7 (us++[t])):=List.filter_congr fun m hm=>Dy (h.kind m hm).1 (h.kind m hm).2
 have e2:∀ x,gA k ((mOf k t).foldl fu (c7 us)) x=gN k (us++[t]) x:=fun x=>by
  unfold gN gA;rw [List.filter_congr fun m hm=>Dy (us:=us) (t:=t) (aR.mp hm).1 (aR.mp hm).2.1]
 rw [e1,List.map_congr_left fun x _=>e2 x]
noncomputable def inB {α:Type} [DecidableEq α] (a:α) (l:List α):Bool:=decide (a∈l)
variable {α:Type}
theorem Px [DecidableEq α] {enc:α->D} (E:Enc enc) (hk:∀ a b,like (enc a) (enc b)=true) (i:α) (l:List α):inD (enc i) (.lst (l.map enc))=.ok (inB i l):=by
 unfold inB;have h4:=E.dp;show (if ((l.map enc).all (fun d=>bW d (enc i)) && decide (dep (enc i)<=30))=true then R.ok ((l.map enc).any fun d=>aG d (enc i)) else .stuck)=_
 rw [if_pos]
 .congr 1;rw [Bool.eq_iff_iff,List.any_eq_true,decide_eq_true_eq];constructor
  .rintro ⟨d,hd,e⟩;obtain ⟨j,hj,rfl⟩:=v8.mp hd;rw [E.eq1,decide_eq_true_eq] at e;rw [<- e];exact hj
  .intro hi;exact ⟨enc i,v8.mpr ⟨i,hi,rfl⟩,by rw [E.eq1];simp⟩
 .rw [Bool.and_eq_true,List.all_eq_true];refine ⟨fun d hd=>?_,yk (by have:=h4 i;omega)⟩;obtain ⟨j,hj,rfl⟩:=v8.mp hd;unfold bW;rw [decide_eq_true (show dep (enc j)<=30 by have:=h4 j;omega),decide_eq_true (show dep (enc i)<=30 by have:=h4 i;omega),hk];rfl
theorem abH (i:Nat) (l:zz):inD (.int (i:Int)) (.lst (l.map eN))=.ok (decide (i∈l)):=Px xV (fun _ _=>rfl) i l
theorem X4 (l:List Int):lfL (.lst (l.map D.int))=true:=zx (fun _=>rfl) l
theorem Zh (l:zz):lfL (.lst (l.map eN))=true:=zx (fun _=>rfl) l
def uF (k:Nat) (ts:zv) (ks:List Meet) (f:Meet->List D) (taken:zz):En :=
 [some (.lst []),some (.lst (ts.map au)),some (.int (k:Int)),some (eGr eM (ks.filter (c7 (taken.map fun i=>ts.getD i []))) f),some (.lst ((ts.map (gN k (taken.map fun i=>ts.getD i []))).map D.int)),some (.lst (taken.map eN)),none,none,none]
def Xb (hk:k<=3)  (ht:∀ t∈ts,t.length<=6) (hts:ts.length<=400) {f:Meet->List D} (h:PlOk k ts ks f) :
  ∀ (r fuel:Nat) (taken:zz),((List.range ts.length).filter fun i=>!decide (i∈taken)).length<=r->r < fuel->taken.length+r<=ts.length->taken.Nodup->(∀ i∈taken,i < ts.length)->(∀ i∈taken,gN k (taken.map fun i=>ts.getD i []) (ts.getD i [])=0) ->
   ∃ taken',taken'.length<=ts.length/\(taken'.Nodup/\∀ i∈taken',i < ts.length) /\
    tW (fun ρ=>do let x <- evE (aq tab aD (n+4)) (.cmp .gt (.maxd (.var 4) 0) (.con (.int 0))) ρ;bO x) (fun ρ=>bZ (aq tab aD (n+4)) [.setB (.one 7) (.idx 4 (.blt .maxl [(.var 4)])),.app 5 (.var 7),.call2 3 4 30 (.call 18 [(.ix (.var 1) (.var 7)),(.var 2)])] ρ) (uF k ts ks f []) fuel (uF k ts ks f taken)=.ok (.nx (uF k ts ks f taken')):=by
 have hlim:lim=100000:=rfl;intro r fuel;induction fuel generalizing r with
 | zero=>intro taken _ hf;omega
 | succ fuel ih =>
  intro taken hR hf htl hnd hlt hz;generalize hus:(taken.map fun i=>ts.getD i [])=us at hz;by_cases hM:0 < mxL (ts.map (gN k us))
  .have hnei:ts.map (gN k us)≠[]:=fun z=>by rw [z] at hM;exact absurd hM (by decide)
   obtain ⟨j,i1⟩:∃ j,(ts.map (gN k us)).findIdx? (fun a=>decide (a=mxL (ts.map (gN k us))))=some j:=by
    cases e:(ts.map (gN k us)).findIdx? (fun a=>decide (a=mxL (ts.map (gN k us)))) with
    | some j=>exact ⟨j,rfl⟩
    | none =>
     have:=List.findIdx?_eq_none_iff.mp e _ (Yg hnei);simp at this
   obtain ⟨hj1,hj2,_⟩:=List.findIdx?_eq_some_iff_getElem.mp i1;have hjl:j < ts.length:=by simpa using hj1
   have htj2:ts[j]?=some (ts.getD j []):=by
    rw [List.getElem?_eq_getElem hjl];simp [hjl]
   have hgj:gN k us (ts.getD j [])=mxL (ts.map (gN k us)):=by
    simp only [List.getElem_map,decide_eq_true_eq] at hj2;rw [<- hj2];simp [hjl]
   have hnt:j ∉ taken:=fun z=>by
    have:=hz j z;omega
   have hjR:j∈((List.range ts.length).filter fun i=>!decide (i∈taken)):=yT.mpr ⟨by simpa using hjl,by simpa using hnt⟩;have hRpos:=List.length_pos_of_mem hjR;have htj:(taken++[j]).map (fun i=>ts.getD i [])=us++[ts.getD j []]:=by rw [List.map_append,hus];rfl
   obtain ⟨taken',t1,t0,t2⟩:=ih (r - 1) (taken++[j]) (by
    rw [<- O6];have:=(List.length_filter_lt_length_iff_exists (p:=fun i=>decide (i≠j)) (l:=(List.range ts.length).filter fun i=>!decide (i∈taken))).mpr ⟨j,hjR,by simp⟩;omega) (by omega) (by rw [List.length_append,List.length_singleton];omega) (List.nodup_append.mpr ⟨hnd,by simp,fun a ha b hb z=>by rw [List.mem_singleton.mp hb] at z;exact hnt (z ▸ ha)⟩) (fun i hi=>by
    rcases yc.mp hi with hi | hi
    .exact hlt i hi
    .rw [List.mem_singleton.mp hi];exact hjl) (fun i hi=>by
    rw [htj];rcases yc.mp hi with hi | hi
    .have h1:=Zb k us (ts.getD j []) (ts.getD i []);have h2:=abB k (us++[ts.getD j []]) (ts.getD i []);have h3:=hz i hi;omega
    .rw [List.mem_singleton.mp hi];exact Xk k us _)
   refine ⟨taken',t1,t0,?_⟩;rw [<- t2];have ht6:(ts.getD j []).length<=6:=ht _ (List.mem_of_getElem? htj2);have hle:(aM 0 (ts.getD j [])).length<=16:=by rw [cP];omega
   have htl':taken.length < lim:=by omega
   rw [tW];unfold uF;rw [hus,htj];have eapp:=xJ (enc:=eN) (l:=taken) (a:=j) htl';simpa only [Rv,decide_eq_true hM,qR,RD hnei,acf i1,show lfD (.int (j:Int))=true from rfl,eapp,GQ (enc:=au) htj2,eZ (n:=n+1) hk hle,if_neg (show ¬ (3:Nat)=4 by decide)];rw [bind_eq (Qe (n:=n+3) h us (ts.getD j []))];simpa only [Dm]
  .refine ⟨taken,by omega,⟨hnd,hlt⟩,?_⟩;unfold tW uF;rw [hus];simpa only [Rv,decide_eq_false hM]
def ab0 (hk:k<=3)  (ht:∀ t∈ts,t.length<=6) (hts:ts.length<=200):∃ L:zv,aq tab aD (n+5) 31 [.lst [],.lst (ts.map au),.int k]=.ok (.lst (L.map au))/\L.Perm ts:=by
 have hlim:lim=100000:=rfl;obtain ⟨ks,f,q1,q2⟩:=NP (n:=n) hk ht (by omega);have e0:ks.filter (c7 [])=ks:=List.filter_eq_self.mpr fun m _=>rfl
 have hr0:((List.range ts.length).filter fun i=>!decide (i∈([]:zz)))=List.range ts.length:=List.filter_eq_self.mpr fun i _=>by simp
 obtain ⟨taken,t1,⟨hnd,t0⟩,t2⟩:=Xb (n:=n) hk ht (by omega) q2 ts.length wfu [] (by rw [hr0];simp) (by show ts.length < 1000;omega) (by simp) List.nodup_nil (fun i hi=>by cases hi) (fun i hi=>by cases hi);have eE:uF k ts ks f []=[some (.lst []),some (.lst (ts.map au)),some (.int (k:Int)),some (eGr eM ks f),some (.lst ((ts.map (gN k [])).map D.int)),some (.lst []),none,none,none]:=by
  unfold uF;rw [List.map_nil,e0];rfl
 rw [eE] at t2;have em:aq tab aD (n+4) 19 [.lst [],.int (k:Int)]=.ok (.dct [] []):=zp (n:=n) (ts:=[]) hk (fun t h=>by cases h) (by decide);have et:aq tab aD (n+4) (1000+30) [.lst [],eGr eM ks f,.lst ((ts.map (gN k [])).map D.int)]=.ok (.tup [eGr eM ks f,.lst ((ts.map (gN k [])).map D.int)]):=by
  have:=Fe (n:=n+3) q2 [] (c7 []);rw [List.foldl_nil,e0] at this;exact this
 have hrl:=yo (fun i=>!decide (i∈taken)) (List.range ts.length);rw [List.length_range] at hrl;have hTm:∀ i∈taken++((List.range ts.length).filter fun i=>!decide (i∈taken)),i < ts.length:=fun i hi=>by
  rcases yc.mp hi with hi | hi
  .exact t0 i hi
  .simpa using (List.mem_filter.mp hi).1
 have hpm:(taken++((List.range ts.length).filter fun i=>!decide (i∈taken))).Perm (List.range ts.length):=by
  refine (List.perm_ext_iff_of_nodup (List.nodup_append.mpr ⟨hnd,List.Pairwise.filter _ List.nodup_range,fun a ha b hb z=>?_⟩) List.nodup_range).mpr fun i=>⟨fun hi=>by simpa using hTm i hi,fun hi=>?_⟩
  .have:=(yT.mp hb).2;rw [<- z] at this;simp [ha] at this
  .by_cases z:i∈taken
   .exact vF _ z
   .exact vS _ (yT.mpr ⟨hi,by simpa using z⟩)
 generalize hrest:((List.range ts.length).filter fun i=>!decide (i∈taken))=rest at hrl hTm hpm;have hg:∀ i,i < ts.length->ts[i]?=some (ts.getD i []):=fun i hil=>by rw [List.getElem?_eq_getElem hil];simp [hil]
 refine ⟨(taken++rest).map fun i=>ts.getD i [],?_,?_⟩
 .rw [bC yp rfl];delta gB;simpa only [q1,q2.ndc];rw [bind_eq (a:=(ts.map (gN k [])).map D.int)]
  .simpa only [List.length_map,if_pos (show ts.length<=lim by omega),X4,em,et,if_pos (show 0<=lim from Nat.zero_le _),if_neg (show ¬ (3:Nat)=4 by decide)];rw [bind_eq (a:=.nx (uF k ts ks f taken)) (by rw [Tf];exact t2)];unfold uF;simpa only [jg ts.length (show ts.length<=lim by omega)];rw [bind_eq (a:=rest.map eN)]
   .simpa only [List.length_map,if_pos (show rest.length<=lim by omega),Zh];rw [bind_eq (Gw (enc:=eN) (show taken.length+rest.length<=lim by omega))];simpa only [];rw [bind_eq (a:=(taken++rest).map fun i=>au (ts.getD i []))]
    .simpa only [List.length_map,List.length_append,if_pos (show taken.length+rest.length<=lim by omega),List.map_map,Function.comp_def]
    .refine cT (taken++rest) fun i hi=>?_
     simpa only [GQ (enc:=au) (hg i (hTm i hi))]
   .rw [<- hrest];refine bM (List.range ts.length) fun i hi=>?_
    simpa only [abH];cases decide (i∈taken) <;> simpa []
  .rw [List.map_map];refine cT ts fun t htm=>?_
   have hle:(aM 0 t).length<=16:=by rw [cP];have:=ht t htm;omega
   simpa only [eZ (n:=n+1) hk hle];have:gN k [] t=((mOf k t).length:Nat):=by
    unfold gN gA;rw [show (mOf k t).filter (c7 [])=mOf k t from List.filter_eq_self.mpr fun m _=>rfl]
   simp only [Function.comp,this]
 .have:=hpm.map fun i=>ts.getD i []
  rwa [show (List.range ts.length).map (fun i=>ts.getD i [])=ts from (map_getD ts id).trans (List.map_id ts)] at this
def uG (h:WB lv bs)  (h1:1<=k) (h3:k<=3) (hk:k<=lv.length)  (ht:∀ t∈ts,t∈tests lv bs) (hts:ts.length<=200):∃ L:zv,aq tab aD (n+8) 32 [eB lv bs,.int k,.lst (ts.map au)]=.ok (.lst (L.map au))/\L.Perm ts:=by
 obtain ⟨L,q1,q2⟩:=ab0 (n:=n+2) h3 (fun t hh=>jC h t (ht t hh)) hts;refine ⟨L,?_,q2⟩;rw [bC Oq rfl];delta nA;simpa only [lN h h1 h3 hk ht,if_pos (show 0<=lim from Nat.zero_le _),q1]
theorem xT (hk:k<=3)  (ht:t.length<=6):(mOf k t).length<=216:=SN hk ht
def uR (hk:k<=3) (ht:∀ t∈ts,t.length<=6) (hts:ts.length<=400):bZ (aq tab aD (n+3)) gq.body ([D.lst (ts.map au),D.int k].map some++List.replicate (gq.nn - gq.np) none)=.ok (.ro (eT eM (ts.flatMap (mOf k)))):=by
 have hlim:lim=100000:=rfl;have hfl:(ts.flatMap (mOf k)).length<=ts.length * 216:=jm ts fun t h=>xT hk (ht t h)
 delta gq;simpa only [];rw [bind_eq (a:=.nx [some (.lst (ts.map au)),some (.int (k:Int)),some (eT eM (ts.flatMap (mOf k))),none,none])]
 .simpa only []
 .refine (fj au (fun acc:List Meet=>[some (.lst (ts.map au)),some (.int (k:Int)),some (eT eM acc),none,none]) (mOf k) 90000 ts (fun acc t htm hB=>?_) [] (by rw [List.length_nil];omega));have hle:(aM 0 t).length<=16:=by rw [cP];have:=ht t htm;omega
  simpa only [eZ hk hle];rw [bind_eq (a:=.nx [some (.lst (ts.map au)),some (.int (k:Int)),some (eT eM (acc++mOf k t)),some (au t),none])]
  .exact ⟨_,rfl,by simp [aN]⟩
  .have hfm:(mOf k t).flatMap (fun m=>[m])=mOf k t:=by rw [iH (fun m=>m)];simp
   refine (fj eM (fun acc:List Meet=>[some (.lst (ts.map au)),some (.int (k:Int)),some (eT eM acc),some (au t),none]) (fun m=>[m]) 90000 (mOf k t) (fun acc m hm hB=>?_) acc (by rw [hfm];exact hB)).trans (by rw [hfm]);simp only [List.length_cons,List.length_nil] at hB;simpa only [aaC uZ];rw [bind_eq (ab4 uZ (show acc.length < lim by omega))];exact ⟨_,rfl,by simp [aN]⟩
def Ga (hk:k<=3) (ht:∀ t∈ts,t.length<=6) (hts:ts.length<=400):aq tab aD (n+4) (2000+24) [.lst (ts.map au),.int k]=.ok (eT eM (ts.flatMap (mOf k))):=by
 rw [QJ rfl yM rfl,uR hk ht hts,Jl]
variable {ms:List Meet}
def sy {c:Meet->Int} (h:∀ m∈ms,m∈ks) (hl:ms.length<=lim):aq tab aD (n+1) 25 [.lst (ms.map eM),eC eM ks c]=.ok (.bl (ms.all fun m=>decide (1 < c m))):=by
 rw [bC Dl rfl];delta jr;simpa only [];rw [bind_eq (a:=ms.map fun m=>D.bl (decide (1 < c m)))]
 .simpa only [List.length_map,if_pos hl];rw [bind_eq (Gn (fun m=>decide (1 < c m)) ms)];simpa []
 .refine cT ms fun m hm=>?_
  simpa only [aaK uZ (h m hm)]
def W6 (l:List Meet) (m:Meet):@List.count Meet instBEqOfDecidableEq m l=l.count m:=by
 unfold List.count;have e:=fun x=>@beq_iff_eq Meet instBEqOfDecidableEq inferInstance x m
 exact List.countP_congr fun x _=>(e x).trans beq_iff_eq.symm
def KD (hk:k<=3) (ht:∀ t∈ts,t.length<=6) (hts:ts.length<=400):aq tab aD (n+4) 24 [.lst (ts.map au),.int k]=.ok (eT eM (ts.flatMap (mOf k))):=by
 rw [bC yM rfl,uR hk ht hts,bT]
def Ou (h:WB lv bs)  (h1:1<=k) (h3:k<=3) (hk:k<=lv.length)  (ht:∀ t∈ts,t∈tests lv bs) (hts:ts.length<=400):aq tab aD (n+8) 26 [eB lv bs,.int k,.lst (ts.map au)]=.ok (.lst (((List.range ts.length).filter (nM k ts)).map eN)):=by
 have hlim:lim=100000:=rfl;have hsh:∀ t∈ts,t.length<=6:=fun t hh=>jC h t (ht t hh)
 rw [bC N7 rfl];delta nF;simpa only [lN h h1 h3 hk ht,KD h3 hsh hts,KR];rw [bind_eq (a:=((List.range ts.length).filter (nM k ts)).map eN)]
 .have:=yo (nM k ts) (List.range ts.length);rw [List.length_range] at this;have h2:((List.range ts.length).filter (nM k ts)).length<=lim:=by omega
  simpa only [List.length_map,if_pos h2]
 .refine bM (List.range ts.length) fun i hi=>?_
  have hi':=yY.mp hi;have hm:ts.getD i []∈ts:=by simp [List.getD,hi']
  have hs:=hsh _ hm;have hle:(aM 0 (ts.getD i [])).length<=16:=by rw [cP];omega
  have hml:=xT h3 hs;have e:=Ur (k:=k) hi';unfold gG at e;simp only [<- W6] at e;simpa only [eAt,eZ h3 hle,eT,sy (n:=n+6) (ms:=mOf k (ts.getD i [])) (ks:=(ts.flatMap (mOf k)).foldl cG []) (c:=fun m=>((@List.count Meet instBEqOfDecidableEq m (ts.flatMap (mOf k)):Nat):Int)) (fun m hmm=>vo.mpr (List.mem_flatMap.mpr ⟨_,hm,hmm⟩)) (by omega),e];cases nM k ts i <;> simpa []
def Az {c:Meet->Int} (hn:ms.Nodup) (h:∀ m∈ms,m∈ks) (hl:ks.length < lim):aq tab aD (n+1) (1000+27) [.lst (ms.map eM),eC eM ks c]=.ok (.tup [eC eM ks fun m=>if m∈ms then c m - 1 else c m,eC eM ks fun m=>if m∈ms then c m - 1 else c m]):=by
 rw [Qi rfl Ij (by decide) rfl (by decide +kernel)];delta j7;simpa only [];have ef:∀ (l:List Meet) (c:Meet->Int),l.Nodup->l.foldl (fun c m=>rM c m (c m - 1)) c=fun m=>if m∈l then c m - 1 else c m:=by
  intro l;induction l with
  | nil=>intro c _;funext m;simp
  | cons a l ih =>
   intro c hn;rw [List.nodup_cons] at hn;rw [List.foldl_cons,ih _ hn.2];funext m;unfold rM;by_cases e:m=a
   .subst e;simp [hn.1]
   .simp [e]
 rw [bind_eq (a:=.nx [some (.lst (ms.map eM)),some (eC eM ks fun m=>if m∈ms then c m - 1 else c m),none])]
 .simpa only [Zc]
 .refine (bL eM (fun c:Meet->Int=>[some (.lst (ms.map eM)),some (eC eM ks c),none]) (fun c m=>rM c m (c m - 1)) (fun _ rest=>∀ m∈rest,m∈ks) (fun c m rest hp=>⟨fun x hx=>hp x (vz _ hx),?_⟩) ms c h).trans (by rw [ef ms c hn]);have hm:=hp m vE;simpa only [aaK uZ hm];rw [bind_eq (W0 uZ c m (c m - 1) hl)];have ea:cG ks m=ks:=by unfold cG;rw [if_pos hm]
  simpa only [ea];exact ⟨_,rfl,by simp [aN]⟩
theorem Yc (k:Nat) (ts:zv) (m:Meet):gG k ts.reverse m=gG k ts m:=((List.reverse_perm ts).flatMap_right (mOf k)).count_eq m
def Ao (k:Nat) (a:zv × zv):zv × zv:=match a.2 with
 | []=>a
 | t::rest=>if cV k t (a.1++rest) then (a.1,rest) else (a.1++[t],rest)
theorem uQ (k:Nat) (l r:zv) (t:zz):Ao k (l,t::r)=if cV k t (l++r) then (l,r) else (l++[t],r):=rfl
theorem v5 {β:Type} (k:Nat):∀ (xs:List β) (l r:zv),r.length=xs.length->xs.foldl (fun a _=>Ao k a) (l,r)=(cW k l r,[])
 | [],l,[],_=>rfl
 | x::xs,l,t::r,h=>by
  rw [List.foldl_cons,uQ,cW];have h':r.length=xs.length:=by simpa using h
  split
  .exact v5 k xs l r h'
  .exact v5 k xs (l++[t]) r h'
def DR (h:WB lv bs)  (h1:1<=k) (h3:k<=3) (hk:k<=lv.length)  (ht:∀ t∈ts,t∈tests lv bs) (hts:ts.length<=400):aq tab aD (n+8) 28 [eB lv bs,.int k,.lst (ts.map au)]=.ok (.lst ((cW k [] ts.reverse).reverse.map au)):=by
 have hlim:lim=100000:=rfl;have hsh:∀ t∈ts,t.length<=6:=fun t hh=>jC h t (ht t hh)
 have hfl:(ts.flatMap (mOf k)).length<=ts.length * 216:=jm ts fun t h=>xT h3 (hsh t h)
 have hkl:=mH (ts.flatMap (mOf k)) [];rw [List.length_nil] at hkl;have hT:eT eM (ts.flatMap (mOf k))=eC eM ((ts.flatMap (mOf k)).foldl cG []) fun m=>(gG k ([]++ts.reverse) m:Int):=by
  unfold eT;congr 1;funext m;rw [List.nil_append,Yc];exact congrArg Nat.cast (W6 _ m)
 rw [bC Rn rfl];delta rC;simpa only [lN h h1 h3 hk ht,Ga h3 hsh hts,hT,acL aaG,if_pos (show 0<=lim from Nat.zero_le _),Ov];rw [bind_eq (a:=.nx [some (eB lv bs),some (.int (k:Int)),some (.lst (ts.map au)),some (eC eM ((ts.flatMap (mOf k)).foldl cG []) fun m=>(gG k (cW k [] ts.reverse++[]) m:Int)),some (.lst ((cW k [] ts.reverse).map au)),none,none])]
 .simpa only [RZ]
 .refine (bL au (fun a:zv × zv=>[some (eB lv bs),some (.int (k:Int)),some (.lst (ts.map au)),some (eC eM ((ts.flatMap (mOf k)).foldl cG []) fun m=>(gG k (a.1++a.2) m:Int)),some (.lst (a.1.map au)),none,none]) (fun a _=>Ao k a) (fun a xs=>a.2=xs/\(∀ t∈xs,t∈ts)/\a.1.length+xs.length<=400) (fun a t rest hp=>?_) ts.reverse ([],ts.reverse) ⟨rfl,fun t ht=>List.mem_reverse.mp ht,by simp;omega⟩).trans (by rw [v5 k ts.reverse [] ts.reverse rfl]);obtain ⟨l,r⟩:=a;obtain ⟨rfl,hin,hsz⟩:=hp;have htm:=hin t vE;have hs:=hsh t htm;have hle:(aM 0 t).length<=16:=by rw [cP];omega
  have hml:=xT h3 hs;have hkeys:∀ m∈mOf k t,m∈(ts.flatMap (mOf k)).foldl cG []:=fun m hmm=>vo.mpr (yB.mpr ⟨_,htm,hmm⟩)
  have e:=GJ k l rest t;simp only [List.length_cons] at hsz;simp only [uQ];simpa only [eZ h3 hle,sy (n:=n+6) (c:=fun m=>(gG k (l++t::rest) m:Int)) hkeys (by omega),e];cases hc:cV k t (l++rest) with
  | true =>
   refine ⟨⟨rfl,fun x hx=>hin x (vz _ hx),by simp;omega⟩,?_⟩;simpa only [Az (n:=n+6) (c:=fun m=>(gG k (l++t::rest) m:Int)) (pU k t) hkeys (by omega),if_pos (show (3:Nat)=3 from rfl),Dm];have hc2:(fun m=>if m∈mOf k t then (gG k (l++t::rest) m:Int) - 1 else (gG k (l++t::rest) m:Int))=fun m=>(gG k (l++rest) m:Int):=by
    funext m;rw [HY];split <;> omega
   refine ⟨_,rfl,?_⟩;simp [aN,hc2]
  | false =>
   refine ⟨⟨rfl,fun x hx=>hin x (vz _ hx),by simp;omega⟩,?_⟩;simpa only [];rw [bind_eq (xJ (enc:=au) (l:=l) (a:=t) (by omega))];refine ⟨_,rfl,?_⟩;simp [aN]
theorem Yl (ht:t∈tests lv bs):∀ m∈mOf k t,m∈aP lv bs k:=fun m hm=>by
 obtain ⟨q1,q2,q3⟩:=aR.mp hm;exact gP.mpr ⟨q1,q2,t,ht,q3⟩
theorem yX {k:Nat}:∀ (r l:zv),∀ t∈cW k l r,t∈l++r
 | [],l,t,h=>by rw [List.append_nil];exact h
 | u::r,l,t,h=>by
  rw [cW] at h;split at h
  .have:=yX r l t h;rcases yc.mp this with z | z
   .exact vF _ z
   .exact vS _ (vz _ z)
  .have:=yX r (l++[u]) t h
   rwa [List.append_assoc] at this
theorem zy {k:Nat}:∀ (r l:zv),(cW k l r).length<=l.length+r.length
 | [],l=>v6 _
 | u::r,l=>by
  rw [cW,List.length_cons];split
  .have:=zy (k:=k) r l;omega
  .have:=zy (k:=k) r (l++[u]);rw [List.length_append,List.length_singleton] at this;omega
theorem Ac {k:Nat}{m:Meet} (h1:m.length=k) (h2:dG m):∀ (r l:zv),(∃ t∈l++r,bQ t m=true)->∃ t∈cW k l r,bQ t m=true
 | [],l,h=>by rw [List.append_nil] at h;exact h
 | u::r,l,h=>by
  rw [cW];split
  .rename_i hc;refine Ac h1 h2 r l ?_;obtain ⟨t,ht,e⟩:=h;rcases yc.mp ht with z | z
   .exact ⟨t,vF _ z,e⟩
   .rcases z9.mp z with rfl | z
    .exact List.any_eq_true.mp (yA.mp hc m (aR.mpr ⟨h1,h2,e⟩))
    .exact ⟨t,vS _ z,e⟩
  .refine Ac h1 h2 r (l++[u]) ?_
   rwa [List.append_assoc]
def Qt {X Y:zv} (h:∀ u∈X,u∈Y) (hc:cV k t Y=false):cV k t X=false:=by
 cases e:cV k t X with
 | false=>rfl
 | true =>
  rw [<- hc];refine (yA.mpr fun m hm=>?_).symm;obtain ⟨u,hu,z⟩:=List.any_eq_true.mp (yA.mp e m hm);exact List.any_eq_true.mpr ⟨u,h u hu,z⟩
theorem uK {k:Nat}:∀ (r l:zv),(∀ a t b,l=a++t::b->cV k t (a++b++r)=false)->∀ a t b,cW k l r=a++t::b->cV k t (a++b)=false
 | [],l,h,a,t,b,e=>by
  have:=h a t b e
  rwa [List.append_nil] at this
 | u::r,l,h,a,t,b,e=>by
  rw [cW] at e;split at e
  .refine uK r l (fun a t b q=>Qt (fun x hx=>?_) (h a t b q)) a t b e;rcases yc.mp hx with z | z
   .exact vF _ z
   .exact vS _ (vz _ z)
  .rename_i hc;refine uK r (l++[u]) (fun a t b q=>?_) a t b e;rcases List.eq_nil_or_concat b with rfl | ⟨b',x,rfl⟩
   .obtain ⟨rfl,q2⟩:=List.append_inj' q rfl;cases q2;rw [List.append_nil];simpa using hc
   .rw [List.concat_eq_append,<- List.cons_append,<- List.append_assoc] at q;obtain ⟨q1,q2⟩:=List.append_inj' q rfl;cases q2;have:=h a t b' q1;simpa using this
theorem Ho {k:Nat}:∀ (r l:zv),(∀ a t b,r=a++t::b->cV k t (l++a++b)=false)->cW k l r=l++r
 | [],l,_=>by rw [cW,List.append_nil]
 | u::r,l,h=>by
  have h0:=h [] u r rfl;rw [List.append_nil] at h0;rw [cW,h0,if_neg (by decide),Ho r (l++[u]) (fun a t b e=>by
   have:=h (u::a) t b (by rw [e];rfl);simpa using this),List.append_assoc]
  rfl
def W9 (h:WB lv bs)  (h1:1<=k) (h3:k<=3) (hk:k<=lv.length):∃ fo:zv,aq tab aD (n+9) 33 [eB lv bs,.int k]=.ok (.lst (fo.map au))/\(∀ t∈fo,t∈tests lv bs)/\(∀ m∈aP lv bs k,∃ t∈fo,bQ t m=true)/\(∀ a t b,fo.reverse=a++t::b->cV k t (a++b)=false)/\fo.length<=36:=by
 have htl:=DK h;obtain ⟨L,q1,q2⟩:=uG (n:=n) h h1 h3 hk (ts:=tests lv bs) (fun _ z=>z) (by omega);have hL:∀ t∈L,t∈tests lv bs:=fun t ht=>q2.mem_iff.mp ht
 have hLl:=q2.length_eq;refine ⟨(cW k [] L.reverse).reverse,?_,fun t ht=>?_,fun m hm=>?_,?_,?_⟩
 .rw [bC XH rfl];delta xM;simpa only [Dq (n:=n+2) h h1 h3 hk,yL (n:=n+2) h,q1,DR (n:=n) h h1 h3 hk hL (by omega)]
 .have:=yX _ _ t (List.mem_reverse.mp ht);rw [List.nil_append,List.mem_reverse] at this;exact hL t this
 .obtain ⟨a,b,t,ht,e⟩:=gP.mp hm;obtain ⟨u,hu,e2⟩:=Ac a b L.reverse [] ⟨t,by rw [List.nil_append,List.mem_reverse];exact q2.mem_iff.mpr ht,e⟩;exact ⟨u,List.mem_reverse.mpr hu,e2⟩
 .rw [List.reverse_reverse];exact uK L.reverse [] (fun a t b q=>by cases a <;> cases q)
 .have:=zy (k:=k) L.reverse [];rw [List.length_reverse,List.length_nil] at this;rw [List.length_reverse];omega
def X8 {α:Type}{l1 l2:List α} (s:l1.Sublist l2):l1.length < l2.length->∃ l,l1.Sublist l/\l.Sublist l2/\l.length=l1.length+1:=by
 induction s with
 | slnil=>intro h;simp at h
 | @cons l1 l2 a s ih=>intro _;exact ⟨a::l1,List.sublist_cons_self a l1,s.cons_cons a,rfl⟩
 | @cons_cons l1 l2 a s ih =>
  intro h;obtain ⟨l,p,q,e⟩:=ih (by simpa using h);exact ⟨a::l,p.cons_cons a,q.cons_cons a,by simp [e]⟩
theorem Rj {α:Type}{l2:List α}:∀ (d:Nat) {l1:List α},l1.Sublist l2->l1.length+d<=l2.length->∃ l,l1.Sublist l/\l.Sublist l2/\l.length=l1.length+d
 | 0,l1,s,_=>⟨l1,List.Sublist.refl _,s,rfl⟩
 | d+1,l1,s,h=>by
  obtain ⟨l,p,q,e⟩:=X8 s (by omega);obtain ⟨l',p',q',e'⟩:=Rj d q (by omega);exact ⟨l',p.trans p',q',by omega⟩
theorem Ah:∀ {l m:Meet},dG l->dG m->(∀ p∈m,p∈l)->m.Sublist l
 | l,[],_,_,_=>List.nil_sublist _
 | [],y::m,_,_,h=>absurd (h y vE) (by simp)
 | x::l,y::m,hl,hm,h=>by
  obtain ⟨a1,a2⟩:=List.pairwise_cons.mp hl;obtain ⟨b1,b2⟩:=List.pairwise_cons.mp hm;rcases z9.mp (h y vE) with e | e
  .subst e;refine (Ah a2 b2 fun p hp=>?_).cons_cons _;rcases z9.mp (h p (vz _ hp)) with z | z
   .have:=b1 p hp;rw [z] at this;exact absurd this (yy _)
   .exact z
  .have hy:=a1 y e;refine (Ah a2 hm fun p hp=>?_).cons _;rcases z9.mp (h p hp) with z | z
   .rcases z9.mp hp with w | w
    .rw [<- w,z] at hy;exact absurd hy (yy _)
    .have:=b1 p w;rw [z] at this;omega
   .exact z
def T8 (h:m∈mOf l t) (h1:l<=s) (h2:s<=t.length):∃ M∈mOf s t,∀ p∈m,p∈M:=by
 obtain ⟨q1,q2,q3⟩:=jc.mp h;obtain ⟨M,p1,p2,p3⟩:=Rj (s - l) (Ah (jk 0 t) q2 q3) (by rw [cP];omega);exact ⟨M,jc.mpr ⟨by omega,(jk 0 t).sublist p2,fun p hp=>p2.subset hp⟩,fun p hp=>p1.subset hp⟩
theorem K7 {u:zz}{M:Meet} (h:∀ p∈m,p∈M) (e:bQ u M=true):bQ u m=true:=lg.mpr fun p hp=>lg.mp e p (h p hp)
def G5 (h1:l<=s) (h2:s<=lv.length)  (hm:m∈aP lv bs l):∃ M∈aP lv bs s,∀ p∈m,p∈M:=by
 obtain ⟨a,b,t,ht,e⟩:=gP.mp hm;obtain ⟨M,q1,q2⟩:=T8 (s:=s) (aR.mpr ⟨a,b,e⟩) h1 (by rw [(mK ht).len];exact h2);exact ⟨M,Yl ht M q1,q2⟩
def yR {ps:List Meet} (h:∀ m∈ps,∃ u∈ts,bQ u m=true):(uJ ps ts).isEmpty=true:=by
 rw [List.isEmpty_iff];exact List.filter_eq_nil_iff.mpr fun m hm=>by rw [List.any_eq_true.mpr (h m hm)];decide
theorem Hh:∀ a b:zz,dY (a.map eN) (b.map eN)=true
 | [],b=>by cases b <;> rfl
 | x::a,[]=>rfl
 | x::a,y::b=>by
  rw [List.map_cons,List.map_cons,dY];split
  .exact Hh a b
  .rfl
theorem Aw (l:zv):jU (l.map au):=fun a ha b hb=>by
 obtain ⟨x,_,rfl⟩:=v8.mp ha;obtain ⟨y,_,rfl⟩:=v8.mp hb;exact Hh x y
theorem Mr:∀ {ds:List D},(∀ d∈ds,∃ r,d=au r)->∃ S:zv,ds=S.map au
 | [],_=>⟨[],rfl⟩
 | d::ds,h=>by
  obtain ⟨r,rfl⟩:=h d vE;obtain ⟨S,rfl⟩:=Mr fun x hx=>h x (vz _ hx)
  exact ⟨r::S,rfl⟩
theorem Hu {l:zv} (hl:l.length < 64) (hne:∀ t∈l,t≠[]):jh (.lst (l.map au))=.ok (.lst (iT (l.map au))):=by
 show (if mR (l.map au)=true then R.ok (D.lst (iT (l.map au))) else .stuck)=_
 refine if_pos ?_;unfold mR;simp only [Bool.and_eq_true,Bool.or_eq_true,decide_eq_true_eq,List.length_map,List.all_eq_true];refine ⟨⟨⟨⟨hl,?_⟩,fun a ha b hb=>Aw l a ha b hb⟩,iC Dh.key l⟩,.inl (.inr fun d hd=>?_)⟩
 .have:=jN Dh.dp l;omega
 .obtain ⟨t,ht,rfl⟩:=v8.mp hd;have:=hne t ht;cases t with
  | nil=>exact absurd rfl this
  | cons x t=>rfl
def RX {L fo:zv} (p:L.Perm fo) (hl:fo.length < 64) (hne:∀ t∈fo,t≠[]):∃ S:zv,jh (.lst (fo.map au))=.ok (.lst (S.map au))/\jh (.lst (L.map au))=.ok (.lst (S.map au)):=by
 obtain ⟨S,eS⟩:=Mr (ds:=iT (fo.map au)) fun d hd=>by
  obtain ⟨t,_,rfl⟩:=v8.mp ((jl _).mem_iff.mp hd);exact ⟨t,rfl⟩
 have e:iT (L.map au)=iT (fo.map au):=yP (Aw L) ((jl _).trans (p.symm.map au)) (o7 (Aw fo));have hpl:=p.length_eq;refine ⟨S,?_,?_⟩
 .rw [Hu hl hne,eS]
 .rw [Hu (by omega) fun t ht=>hne t (p.mem_iff.mp ht),e,eS]
def subB (a b:Meet):Bool:=(a.filter fun p=>!inB p b).isEmpty
def G3 {a:Meet}:subB a b=true↔∀ p∈a,p∈b:=by
 unfold subB inB;rw [List.isEmpty_iff,List.filter_eq_nil_iff];simp
theorem abG (p:Nat × Nat) (m:Meet):inD (eP p) (eM m)=.ok (inB p m):=Px xR (fun _ _=>rfl) p m
def IW {q:Nat} (h:1<=q) (c:Int):∃ s:Nat,1<=s/\s<=q/\1+c % (q:Int)=(s:Int):=by
 have h0:=Int.emod_nonneg c (show (q:Int)≠0 by omega);have h1:=Int.emod_lt_of_pos c (show (0:Int) < q by omega);exact ⟨(1+c % (q:Int)).toNat,by omega,by omega,by omega⟩
theorem ne_nil:bV .ne (.lst []) (.lst [])=.ok false:=rfl
theorem UL (ns:List Int) (hns:ns.length<=63):aq tab aD 31 39 [.lst (ns.map D.int)]=.ok (.bl true):=by
 have W:=Xp ns 2;have hlim:lim=100000:=rfl;have hcell:aq tab aD 30 34 [.lst (ns.map D.int),.int 0]=.ok (.int (cU ns 0)):=sJ (n:=29) ns 0;have hcell1:aq tab aD 30 34 [.lst (ns.map D.int),.int 1]=.ok (.int (cU ns 1)):=sJ (n:=29) ns 1;have hbook:aq tab aD 30 36 [.lst (ns.map D.int),.int 2]=.ok (eB (iw ns 2) (o9 ns 2)):=aaQ (n:=28) hns 2
 revert hbook W
 generalize iw ns 2=lv;generalize o9 ns 2=bs;intro W hbook;have hone:=W.one;have emost:(if (lv.length:Int) < 3 then (lv.length:Int) else 3)=((min 3 lv.length:Nat):Int):=by split <;> omega
 obtain ⟨s,s1,s2,es⟩:=IW (q:=min 3 lv.length) (by omega) (cU ns 0);obtain ⟨l,l1,l2,el⟩:=IW s1 (cU ns 1);have s3:s<=3:=by omega
 have sk:s<=lv.length:=by omega
 have l3:l<=3:=by omega
 have lk:l<=lv.length:=by omega
 obtain ⟨fo,b1,b2,b3,b4,b5⟩:=W9 (n:=21) W s1 s3 sk;have hb1:aq tab aD 30 33 [eB lv bs,.int s]=.ok (.lst (fo.map au)):=b1;have hcov:∀ m∈aP lv bs l,∃ u∈fo,bQ u m=true:=fun m hm=>by
  obtain ⟨M,q1,q2⟩:=G5 l2 sk hm;obtain ⟨u,hu,e⟩:=b3 M q1;exact ⟨u,hu,K7 q2 e⟩
 have hne:∀ t∈fo,t≠[]:=fun t ht z=>by
  have:=(mK (b2 t ht)).len;rw [z] at this;simp at this;omega
 obtain ⟨L1,p1,p2⟩:=uG (n:=22) W s1 s3 sk b2 (by omega);obtain ⟨L2,p3,p4⟩:=uG (n:=22) W l1 l3 lk b2 (by omega);obtain ⟨S,o1,o2⟩:=RX p2 (by omega) hne;have p4l:=p4.length_eq;have hrr:∀ t∈fo.reverse++fo,t∈tests lv bs:=fun t ht=>b2 t (by
  rcases yc.mp ht with z | z
  .exact List.mem_reverse.mp z
  .exact z)
 have htr:(cW s [] fo.reverse).reverse=fo:=by
  rw [Ho fo.reverse [] (fun a t b e=>by rw [List.nil_append];exact b4 a t b e),List.nil_append,List.reverse_reverse]
 have hnd:((List.range fo.length).filter (nM s fo))=[]:=List.filter_eq_nil_iff.mpr fun i hi=>by
  have e:=congrArg List.reverse (Ht (yY.mp hi));rw [List.reverse_append,List.reverse_cons,List.append_assoc,List.singleton_append] at e;have:=b4 _ _ _ e;rw [GK] at this;show ¬ nM s fo i=true
  rw [show nM s fo i=false from this];decide
 have k1:aq tab aD 30 23 [eB lv bs,.int l,.lst (fo.map au)]=.ok (.bl true):=by
  rw [<- yR hcov];exact uz (n:=21) W l1 l3 lk b2 (by omega)
 have k2:aq tab aD 30 23 [eB lv bs,.int s,.lst ((fo.reverse++fo).map au)]=.ok (.bl true):=by
  rw [<- yR (ps:=aP lv bs s) (ts:=fo.reverse++fo) fun m hm=>let ⟨u,hu,e⟩:=b3 m hm;⟨u,List.mem_append_right _ hu,e⟩];exact uz (n:=21) W s1 s3 sk hrr (by rw [List.length_append,List.length_reverse];omega)
 have k3:aq tab aD 30 28 [eB lv bs,.int s,.lst (fo.map au)]=.ok (.lst (fo.map au)):=by
  have:=DR (n:=22) W s1 s3 sk b2 (by omega);rw [htr] at this;exact this
 have k4:aq tab aD 30 26 [eB lv bs,.int s,.lst (fo.map au)]=.ok (.lst []):=by
  have:=Ou (n:=22) W s1 s3 sk b2 (by omega);rw [hnd] at this;exact this
 have k5:aq tab aD 30 32 [eB lv bs,.int s,.lst (fo.map au)]=.ok (.lst (L1.map au)):=p1;have k6:aq tab aD 30 32 [eB lv bs,.int l,.lst (fo.map au)]=.ok (.lst (L2.map au)):=p3;have k7:aq tab aD 30 23 [eB lv bs,.int l,.lst (L2.map au)]=.ok (.bl true):=by
  rw [<- yR (ps:=aP lv bs l) (ts:=L2) fun m hm=>let ⟨u,hu,e⟩:=hcov m hm;⟨u,p4.mem_iff.mpr hu,e⟩];exact uz (n:=21) W l1 l3 lk (fun t ht=>b2 t (p4.mem_iff.mp ht)) (by omega)
 have k8:aq tab aD 30 20 [eB lv bs,.int s]=.ok (.lst ((aP lv bs s).map eM)):=uE (n:=23) W s1 s3 sk;have k9:aq tab aD 30 20 [eB lv bs,.int l]=.ok (.lst ((aP lv bs l).map eM)):=uE (n:=23) W l1 l3 lk;have hps:=Ag W s1 s3;have hpl:=Ag W l1 l3;have hal:=tX W l1 l3;have inner:∀ (x o:Meet),x.length<=3->gK (fun d=>inD d (eM o) >>= fun r=>if (!r)=true then R.ok (some d) else R.ok none) (x.map eP)=.ok ((x.filter fun p=>!inB p o).map eP):=fun x o _=>by
  refine bM x fun p hp=>?_
  rw [bind_eq (abG p o)];cases inB p o <;> rfl
 have hfl:∀ (x o:Meet),x.length<=3->(x.filter fun p=>!inB p o).length<=lim:=fun x o hx=>by
  have:=yo (fun p=>!inB p o) x;omega
 show aq tab aD (30+1) 39 _=_
 rw [bC abD rfl];delta Gv;simpa only [hbook,hcell,hcell1,emost,Gy (show (0:Int) < ((min 3 lv.length:Nat):Int) by omega),es,Gy (show (0:Int) < (s:Int) by omega),el,hb1,k1,abT,Gw (enc:=au) (show fo.reverse.length+fo.length<=lim by rw [List.length_reverse];omega),k2,k3,k4,Dh.cmpNe,decide_true,if_pos (show 0<=lim from Nat.zero_le _),ne_nil,k5,o1,o2,k6,k7,k8,k9];rw [bind_eq (a:=.nx [some (.lst (ns.map D.int)),some (eB lv bs),some (.int ((min 3 lv.length:Nat):Int)),some (.int (s:Int)),some (.int (l:Int)),some (.lst (fo.map au)),some (.lst ((aP lv bs s).map eM)),some (.lst ((aP lv bs l).map eM)),none,none,none,none])]
 .simpa only [];rw [bind_eq (a:=.nx [some (.lst (ns.map D.int)),some (eB lv bs),some (.int ((min 3 lv.length:Nat):Int)),some (.int (s:Int)),some (.int (l:Int)),some (.lst (fo.map au)),some (.lst ((aP lv bs s).map eM)),some (.lst ((aP lv bs l).map eM)),none,none,none,none])]
  .simpa only []
  .refine (fj eM (fun _:zz=>[some (.lst (ns.map D.int)),some (eB lv bs),some (.int ((min 3 lv.length:Nat):Int)),some (.int (s:Int)),some (.int (l:Int)),some (.lst (fo.map au)),some (.lst ((aP lv bs s).map eM)),some (.lst ((aP lv bs l).map eM)),none,none,none,none]) (fun _=>[]) lim (aP lv bs s) (fun acc o ho hB=>?_) [] (by
    rw [show (aP lv bs s).flatMap (fun _=>([]:zz))=[] from List.flatMap_eq_nil_iff.mpr fun _ _=>rfl];exact yf _))
   simpa only [J9 (n:=28) W l1 l3];rw [bind_eq (a:=((allM lv l).filter fun x=>subB x o).map eM)]
   .have h1:=yo (fun x=>subB x o) (allM lv l);simpa only [List.length_map,if_pos (show ((allM lv l).filter fun x=>subB x o).length<=lim by omega)];rw [bind_eq (a:=([]:List D))]
    .simpa only [if_pos (show 0<=lim from Nat.zero_le _),List.isEmpty_nil];exact ⟨_,rfl,by simp [aN]⟩
    .have e0:((allM lv l).filter fun x=>subB x o).filter (fun x=>!inB x (aP lv bs l))=[]:=List.filter_eq_nil_iff.mpr fun x hx=>by
      obtain ⟨hx1,hx2⟩:=yT.mp hx;obtain ⟨_,_,t,ht,e⟩:=gP.mp ho;have:=oY.mp hx1;have:x∈aP lv bs l:=gP.mpr ⟨this.1,this.2.1,t,ht,K7 (G3.mp hx2) e⟩;simp [inB,this]
     refine (bM (enc:=eM) (e:=eM) (p:=fun x=>!inB x (aP lv bs l)) ((allM lv l).filter fun x=>subB x o) fun x hx=>?_).trans (by rw [e0];rfl);simpa only [Px kE (fun _ _=>rfl)];cases inB x (aP lv bs l) <;> rfl
   .refine bM (allM lv l) fun x hx=>?_
    have hx3:x.length<=3:=by
     have:=(oY.mp hx).1;omega
    simpa only [];rw [bind_eq (inner x o hx3)];simpa only [List.length_map,if_pos (hfl x o hx3),if_pos (show 0<=lim from Nat.zero_le _),xR.cmpEq0];show (if subB x o=true then R.ok (some (eM x)) else R.ok none)=_
    cases subB x o <;> rfl
 .refine (fj eM (fun _:zz=>[some (.lst (ns.map D.int)),some (eB lv bs),some (.int ((min 3 lv.length:Nat):Int)),some (.int (s:Int)),some (.int (l:Int)),some (.lst (fo.map au)),some (.lst ((aP lv bs s).map eM)),some (.lst ((aP lv bs l).map eM)),none,none,none,none]) (fun _=>[]) lim (aP lv bs l) (fun acc x hx hB=>?_) [] (by
    rw [show (aP lv bs l).flatMap (fun _=>([]:zz))=[] from List.flatMap_eq_nil_iff.mpr fun _ _=>rfl];exact yf _))
  have hx3:x.length<=3:=by
   have:=(vL x hx).1;omega
  simpa only [];rw [bind_eq (a:=((aP lv bs s).filter fun o=>subB x o).map eM)]
  .have h1:=yo (fun o=>subB x o) (aP lv bs s);have hne:((aP lv bs s).filter fun o=>subB x o).isEmpty=false:=by
    obtain ⟨M,q1,q2⟩:=G5 l2 sk hx;have:M∈(aP lv bs s).filter fun o=>subB x o:=yT.mpr ⟨q1,G3.mpr q2⟩
    cases e:(aP lv bs s).filter fun o=>subB x o with
    | nil=>rw [e] at this;cases this
    | cons _ _=>rfl
   simpa only [List.length_map,if_pos (show ((aP lv bs s).filter fun o=>subB x o).length<=lim by omega),if_pos (show 0<=lim from Nat.zero_le _),kE.cmpEq0,hne];exact ⟨_,rfl,by simp [aN]⟩
  .refine bM (aP lv bs s) fun o ho=>?_
   rw [bind_eq (inner x o hx3)];simpa only [List.length_map,if_pos (hfl x o hx3),if_pos (show 0<=lim from Nat.zero_le _),xR.cmpEq0];show (if subB x o=true then R.ok (some (eM o)) else R.ok none)=_
   cases subB x o <;> rfl
end E08
namespace E08
open PySem L2 Mi
variable (P:Params)
theorem Fz:FF (heap P) "check_list" (top 24):=aX (f:=156) (by kernel_rfl) (show (heap P).lookup 156=some vY by kernel_rfl) (by kernel_rfl) (by kernel_rfl)
theorem kcl:((heap P).all fun q=>V4 q.2)=true:=by kernel_rfl
theorem recs:((PyProof.Rows.recsOf view).any fun d=>decide (d.name=Str.ofString "check_tests"))=true:=by kernel_rfl
theorem Kv:FF (heap P) "is_whole" (top 11):=aX (f:=77) (by kernel_rfl) (show (heap P).lookup 77=some Ci by kernel_rfl) (by kernel_rfl) (by kernel_rfl)
theorem Kd:FF (heap P) "is_tuple" (top 12):=aX (f:=84) (by kernel_rfl) (show (heap P).lookup 84=some Cr by kernel_rfl) (by kernel_rfl) (by kernel_rfl)
theorem FQ:FF (heap P) "are_levels" (top 13):=aX (f:=91) (by kernel_rfl) (show (heap P).lookup 91=some v9 by kernel_rfl) (by kernel_rfl) (by kernel_rfl)
theorem Fx:FF (heap P) "is_setting" (top 14):=aX (f:=98) (by kernel_rfl) (show (heap P).lookup 98=some vO by kernel_rfl) (by kernel_rfl) (by kernel_rfl)
theorem Gb:FF (heap P) "is_meeting" (top 15):=aX (f:=105) (by kernel_rfl) (show (heap P).lookup 105=some vK by kernel_rfl) (by kernel_rfl) (by kernel_rfl)
theorem M8:FF (heap P) "is_book" (top 16):=aX (f:=110) (by kernel_rfl) (show (heap P).lookup 110=some Fq by kernel_rfl) (by kernel_rfl) (by kernel_rfl)
theorem Nt:FF (heap P) "checked" (top 17):=aX (f:=117) (by kernel_rfl) (show (heap P).lookup 117=some Ew by kernel_rfl) (by kernel_rfl) (by kernel_rfl)
theorem TQ:FF (heap P) "meets" (top 18):=aX (f:=122) (by kernel_rfl) (show (heap P).lookup 122=some Lh by kernel_rfl) (by kernel_rfl) (by kernel_rfl)
theorem HS:FF (heap P) "meets_any" (top 19):=aX (f:=127) (by kernel_rfl) (show (heap P).lookup 127=some yI by kernel_rfl) (by kernel_rfl) (by kernel_rfl)
theorem Ke:FF (heap P) "all_rows" (top 20):=aX (f:=132) (by kernel_rfl) (show (heap P).lookup 132=some BL by kernel_rfl) (by kernel_rfl) (by kernel_rfl)
theorem Jz:FF (heap P) "all_tests" (top 21):=aX (f:=137) (by kernel_rfl) (show (heap P).lookup 137=some yE by kernel_rfl) (by kernel_rfl) (by kernel_rfl)
theorem PN:FF (heap P) "is_row" (top 22):=aX (f:=142) (by kernel_rfl) (show (heap P).lookup 142=some Il by kernel_rfl) (by kernel_rfl) (by kernel_rfl)
theorem O8:FF (heap P) "is_test" (top 23):=aX (f:=149) (by kernel_rfl) (show (heap P).lookup 149=some Fp by kernel_rfl) (by kernel_rfl) (by kernel_rfl)
theorem Dt:FL (heap P) "check_tests" (top 25):=ab1 (f:=163) (by kernel_rfl) (show (heap P).lookup 163=some uL by kernel_rfl) (by kernel_rfl) (by kernel_rfl) (by kernel_rfl)
theorem Ak:FF (heap P) "most_strength" (top 27):=aX (f:=170) (by kernel_rfl) (show (heap P).lookup 170=some rD by kernel_rfl) (by kernel_rfl) (by kernel_rfl)
theorem mW:FF (heap P) "check_book_and_strength" (top 28):=aX (f:=177) (by kernel_rfl) (show (heap P).lookup 177=some iV by kernel_rfl) (by kernel_rfl) (by kernel_rfl)
theorem Jv:FF (heap P) "is_behind" (top 29):=aX (f:=184) (by kernel_rfl) (show (heap P).lookup 184=some yJ by kernel_rfl) (by kernel_rfl) (by kernel_rfl)
theorem yh:FF (heap P) "meetings_among" (top 30):=aX (f:=189) (by kernel_rfl) (show (heap P).lookup 189=some pC by kernel_rfl) (by kernel_rfl) (by kernel_rfl)
theorem Ds:FF (heap P) "meetings_of" (top 31):=aX (f:=196) (by kernel_rfl) (show (heap P).lookup 196=some uM by kernel_rfl) (by kernel_rfl) (by kernel_rfl)
theorem R7:FF (heap P) "met_by" (top 32):=aX (f:=203) (by kernel_rfl) (show (heap P).lookup 203=some HF by kernel_rfl) (by kernel_rfl) (by kernel_rfl)
theorem Kq:FF (heap P) "possible" (top 33):=aX (f:=210) (by kernel_rfl) (show (heap P).lookup 210=some Bc by kernel_rfl) (by kernel_rfl) (by kernel_rfl)
theorem Ji:FF (heap P) "check_all" (top 35):=aX (f:=217) (by kernel_rfl) (show (heap P).lookup 217=some yK by kernel_rfl) (by kernel_rfl) (by kernel_rfl)
theorem Pq:FF (heap P) "missing" (top 36):=aX (f:=222) (by kernel_rfl) (show (heap P).lookup 222=some DY by kernel_rfl) (by kernel_rfl) (by kernel_rfl)
theorem Kr:FF (heap P) "is_cover" (top 37):=aX (f:=229) (by kernel_rfl) (show (heap P).lookup 229=some BP by kernel_rfl) (by kernel_rfl) (by kernel_rfl)
theorem Ja:FF (heap P) "times_met" (top 38):=aX (f:=236) (by kernel_rfl) (show (heap P).lookup 236=some yO by kernel_rfl) (by kernel_rfl) (by kernel_rfl)
theorem BZ:FF (heap P) "meet_without" (top 39):=aX (f:=241) (by kernel_rfl) (show (heap P).lookup 241=some su by kernel_rfl) (by kernel_rfl) (by kernel_rfl)
theorem Ku:FF (heap P) "needless" (top 40):=aX (f:=246) (by kernel_rfl) (show (heap P).lookup 246=some Bk by kernel_rfl) (by kernel_rfl) (by kernel_rfl)
theorem FW:FF (heap P) "count_less" (top 41):=aX (f:=253) (by kernel_rfl) (show (heap P).lookup 253=some vX by kernel_rfl) (by kernel_rfl) (by kernel_rfl)
theorem Ot:FF (heap P) "trimmed" (top 42):=aX (f:=260) (by kernel_rfl) (show (heap P).lookup 260=some Dw by kernel_rfl) (by kernel_rfl) (by kernel_rfl)
theorem tY:FF (heap P) "places_by_meeting" (top 43):=aX (f:=267) (by kernel_rfl) (show (heap P).lookup 267=some kZ by kernel_rfl) (by kernel_rfl) (by kernel_rfl)
theorem KH:FF (heap P) "take_out" (top 44):=aX (f:=274) (by kernel_rfl) (show (heap P).lookup 274=some Bp by kernel_rfl) (by kernel_rfl) (by kernel_rfl)
theorem vg:FF (heap P) "in_order_behind" (top 45):=aX (f:=279) (by kernel_rfl) (show (heap P).lookup 279=some nu by kernel_rfl) (by kernel_rfl) (by kernel_rfl)
theorem Ky:FF (heap P) "in_order" (top 46):=aX (f:=286) (by kernel_rfl) (show (heap P).lookup 286=some Cj by kernel_rfl) (by kernel_rfl) (by kernel_rfl)
theorem Vn:FF (heap P) "built" (top 48):=aX (f:=293) (by kernel_rfl) (show (heap P).lookup 293=some K8 by kernel_rfl) (by kernel_rfl) (by kernel_rfl)
theorem GX:FF (heap P) "_law_cell" (top 50):=aX (f:=300) (by kernel_rfl) (show (heap P).lookup 300=some yx by kernel_rfl) (by kernel_rfl) (by kernel_rfl)
theorem Ka:FF (heap P) "_law_mix" (top 51):=aX (f:=307) (by kernel_rfl) (show (heap P).lookup 307=some Bw by kernel_rfl) (by kernel_rfl) (by kernel_rfl)
theorem Hw:FF (heap P) "_law_book" (top 52):=aX (f:=312) (by kernel_rfl) (show (heap P).lookup 312=some yG by kernel_rfl) (by kernel_rfl) (by kernel_rfl)
theorem JB:FF (heap P) "_law_rows" (top 53):=aX (f:=317) (by kernel_rfl) (show (heap P).lookup 317=some yC by kernel_rfl) (by kernel_rfl) (by kernel_rfl)
theorem Am:FF (heap P) "_law_meetings" (top 54):=aX (f:=322) (by kernel_rfl) (show (heap P).lookup 322=some rG by kernel_rfl) (by kernel_rfl) (by kernel_rfl)
theorem R4:FF (heap P) "law" (top 55):=aX (f:=327) (by kernel_rfl) (show (heap P).lookup 327=some o_law by kernel_rfl) (by kernel_rfl) (by kernel_rfl)
theorem Cy:GF (heap P) "MOST_THINGS" (.int 6):=Ce (t:=266) (by kernel_rfl)
theorem yV:GF (heap P) "MOST_SETTINGS" (.int 4):=Ce (t:=268) (by kernel_rfl)
theorem HN:GF (heap P) "MOST_ROWS" (.int 400):=Ce (t:=270) (by kernel_rfl)
theorem Hl:GF (heap P) "MOST_BANS" (.int 12):=Ce (t:=272) (by kernel_rfl)
theorem u0:GF (heap P) "MOST_IN_MEETING" (.int 3):=Ce (t:=274) (by kernel_rfl)
theorem bl:∀ f∈lJ,PySem.W.nsIn (heap P) mainGlobals f=some none:=by
 intro f hf;simp only [lJ,List.mem_cons,List.not_mem_nil,or_false] at hf;rcases hf with rfl | rfl | rfl | rfl | rfl | rfl | rfl | rfl | rfl | rfl | rfl | rfl | rfl | rfl | rfl | rfl <;> kernel_rfl
end E08
theorem PySem.W.Fast.te13309917278659446964:True:=trivial
open PySem PySem.W PyProof.Rows
set_option maxRecDepth 100000 in
set_option maxHeartbeats 0 in
theorem PySem.Challenge.cw_pairtests_k08_whole_strengths_holds : PySem.Challenge.rw_pairtests_k08_whole_strengths.Holds := by
 w_on;o_law
 refine PySem.W.holds_open (q:=E08.view) (loose:=[]) (Xt:=fun s=>PySem.W.xlAt E08.view [] s && PySem.W.recOk (PySem.W.RowW.records (PySem.W.OpenRow.toRowW PySem.Challenge.rw_pairtests_k08_whole_strengths.row)) s) (XP:=XL E08.view []) (Yf:=Hook.obs E08.hook) (Ya:=Hook.val E08.hook) (YP:=Hook.says E08.hook) (N:=4438) E08.left (Hook.of E08.hook) (Hook.keeps E08.hook) (fun s e=>xl_of s (Bool.and_eq_true_iff.mp e).1) XL.keeps (by rfl) (by rfl) (by rfl) (fun s e=>recFacts_of (Bool.and_eq_true_iff.mp e).2) (by rfl) (by first | assumption | decide +kernel) (by decide +kernel) ⟨rfl,rfl,rfl,rfl,rfl,by decide +kernel⟩ ?hw ?hc
 (case hw=>w_witness2)
 exact Mi.abx (l:=PySem.Challenge.rw_pairtests_k08_whole_strengths) (T:=E08.T) (tab:=E08.tab) (xt:=E08.aD) (n:=30) (fl:=39) (par:="_law_script") (N:=["_law_script","_law_book_here","_law_most","_law_strength","_law_less","_law_tests","_law_great","_law_small","_law_one","_law_other","_law_inner","_law_pair"]) (st:=E08.top 55) rfl rfl ⟨rfl,by decide,by decide⟩ rfl rfl E08.Sd (fun w h Y=>Y) (fun p=>Mi.abA (E08.kcl p)) (fun w s₀ mg mb h G Y=>Mi.tab_of E08.recs G) (fun w mg h KX G=>E08.pr KX G (E08.Kv w.params) (E08.Kd w.params) (E08.FQ w.params) (E08.Fx w.params) (E08.Gb w.params) (E08.M8 w.params) (E08.Nt w.params) (E08.TQ w.params) (E08.HS w.params) (E08.Ke w.params) (E08.Jz w.params) (E08.PN w.params) (E08.O8 w.params) (E08.Dt w.params) (E08.Ak w.params) (E08.mW w.params) (E08.Jv w.params) (E08.yh w.params) (E08.Ds w.params) (E08.R7 w.params) (E08.Kq w.params) (E08.Ji w.params) (E08.Pq w.params) (E08.Kr w.params) (E08.Ja w.params) (E08.BZ w.params) (E08.Ku w.params) (E08.FW w.params) (E08.Ot w.params) (E08.tY w.params) (E08.KH w.params) (E08.vg w.params) (E08.Ky w.params) (E08.Vn w.params) (E08.GX w.params) (E08.Ka w.params) (E08.Hw w.params) (E08.JB w.params) (E08.Am w.params) (E08.R4 w.params) (E08.Fz w.params) (E08.Cy w.params) (E08.yV w.params) (E08.HN w.params) (E08.Hl w.params) (E08.u0 w.params) (E08.bl w.params)) (fun w=>E08.R4 w.params) (fun _ _ _ _ _ _ _=>rfl) E08.UL
