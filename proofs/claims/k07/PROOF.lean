import PyProof.Rows.All
import Wide.All
import OpenK.AllK
import Wide.FinOn
import Lean
import PyProof.EqAt
import PyProof.EqKinds
import PyProof.TupleCall
import PyProof.NeKinds
import PyProof.DictRoadsH
import KE.KIntText
import PyProof.StrLawsTight
import PyProof.CompFree
import PyProof.CompUse
import KE.KDictSum
import PyProof.Draws
import PyProof.EnumMake
import PyProof.EnumFor
import KE.KSortTup
import PyProof.TupleOfSeq
import KE.LcSums
import PyProof.ZipIter
import KE.KRevIter
import KE.KStateDown
import PyProof.ListRange
import KE.KMinKey
import KE.KRevSl
import PyProof.Conv_int_bool
import PyProof.AutoListH
import PyProof.Rows.StrItems
import KE.KLam
import PySem.Challenge.RW_pairtests_k07_built
noncomputable section
set_option Elab.async false
set_option linter.all false
set_option bootstrap.genMatcherCode false
set_option compiler.extract_closed false
set_option maxRecDepth 100000
set_option maxHeartbeats 4000000
abbrev w4:=List (PySem.Addr × PySem.Obj)
abbrev w8:=PySem.Str->Option PySem.Value
abbrev zn:=PySem.Value->PySem.Shared->Prop
abbrev zt:=PySem.W.Frag
abbrev zv:=List (List Nat)
abbrev zw:=List PySem.Value
abbrev zz:=List Nat
abbrev z0:=List PySem.Str
abbrev ve:=List PySem.Expr
abbrev vi:=List PySem.Stmt
abbrev vj:=Array PySem.Value
abbrev vk:=Option PySem.Addr
abbrev vn:=Array (Option PySem.Value)
abbrev vw:=@PySem.wpAny_bind
abbrev vx:=@PySem.wpAny_pure
abbrev vy:=@List.mem_cons_of_mem
abbrev vz:=@List.mem_cons_self
abbrev vE:=@List.mem_append_left
abbrev vF:=@List.mem_append_right
abbrev vS:=@PySem.Heap.get?_push_of_some
abbrev vT:=@PySem.Heap.get?_push_size
abbrev v3:=@PySem.Heap.lt_size
abbrev v4:=@Nat.le_refl
abbrev v6:=@Nat.ne_of_lt
abbrev ya:=@Nat.ne_of_gt
abbrev yb:=@Nat.le_trans
abbrev ye:=@Nat.zero_le
abbrev yf:=@Nat.lt_of_lt_of_le
abbrev yi:=@decide_eq_true
abbrev yk:=@decide_eq_false
abbrev yl:=@PySem.Heap.get?_update_other
abbrev ym:=@PySem.Heap.get?_update_self
abbrev yn:=@List.length_filter_le
abbrev yv:=@Nat.lt_irrefl
abbrev w6:=@List.mem_cons
abbrev v7:=@List.getElem?_eq_some_iff
abbrev yo:=@List.mem_map
abbrev yy:=@List.mem_append
abbrev yz:=@List.mem_singleton
abbrev yA:=@Option.isSome_iff_exists
abbrev yB:=@List.all_eq_true
abbrev yT:=@List.mem_flatMap
abbrev yY:=@List.mem_filter
abbrev y0:=@List.mem_range
abbrev y4:=@PySem.wpAny_call_entry
abbrev y6:=@PySem.wpAny_callSpecial?_slot
abbrev y8:=@PyProof.Rows.callWith_type1
abbrev y9:=@PySem.wpAny_truthy_bool
abbrev ja:=@PySem.wpAny_field
abbrev jb:=@Option.some.inj
abbrev jd:=@False.elim
abbrev jn:=@PySem.Heap.SameBut.update
abbrev jp:=@PySem.mem_of_lookup
abbrev js:=@Bool.false_ne_true
abbrev jv:=@PySem.wpAny_newObj_type
abbrev jC:=@PySem.wpAny_dictEntries
abbrev jS:=@Nat.lt_succ_self
namespace L2
open PySem PySem.Spec PyProof.Rows
noncomputable def eU (s:Stmt):Arguments:=match s with
 | .FunctionDef _ a _ _ _ _ _ _ _ _=>a
 | _=>{ posonlyargs:=[],args:=[],vararg:=none,kwonlyargs:=[],kw_defaults:=[],kwarg:=none,defaults:=[] }
noncomputable def dF (s:Stmt):vi:=match s with
 | .FunctionDef _ _ b _ _ _ _ _ _ _=>b
 | _=>[]
noncomputable def bf (s:Stmt):Scope:=match s with
 | .FunctionDef _ _ _ _ _ _ sc _ _ _=>sc
 | _=>{ kind:=.function,names:=[],isGenerator:=false,isCoroutine:=false }
end L2
namespace Mi
open PySem L2
noncomputable abbrev gS (x:String) (k:Nat):Value:=.str (Str.ofString x) k
noncomputable abbrev gE (P:Params) (x:String) (k:Nat) (v:Value):DictEntry:=⟨PyData.keyHash P (Str.ofString x),.str (Str.ofString x) k,v⟩
abbrev gF (st:Stmt) (x:String) (kV doc pm:Value) (an:vk) (cdv ct:Value) (sl:vn):Obj:=⟨.type "function",none,.func (PySem.W.fnOf x x (eU st) (dF st) (bf st) .none kV doc pm an cdv ct),sl⟩
end Mi
namespace E07
open PySem L2 Mi
noncomputable def top (i:Nat):Stmt:=PySem.Challenge.pw_pairtests_k07_built.main.body.getD i (.Pass ⟨0,0,0,0⟩)
def view:Program:={ PySem.Challenge.pw_pairtests_k07_built with main:={ PySem.Challenge.pw_pairtests_k07_built.main with body:=[top 1,top 2,top 3,top 4,top 6,top 7,top 8,top 9,top 10,top 11,top 12,top 13,top 14,top 15,top 16,top 17,top 18,top 19,top 20,top 21,top 22,top 23,top 24,top 25,top 27,top 28,top 29,top 30,top 31,top 32,top 34,top 35,top 36,top 37,top 38,top 39,top 40,top 41,top 42,top 44,top 46,top 47,top 48,top 49,top 50,top 51,top 52,top 53,top 54,top 55,top 56] } }
noncomputable def hnm:Stmt->Str
 | .FunctionDef n ..=>n
 | _=>""
abbrev kC (i t a k:Nat):Obj:=⟨.type "code",none,.fields #[.str (hnm (top i)) t,.str (hnm (top i)) (t+1),gS "/claim/cut.py" (t+2),.int ((top i).pos.line:Nat) 0,.int ((L2.eU (top i)).args.length:Nat) 0,.int 0 0,.int 0 0,.int 3 0,.ref a,.bool true,.int 181 0,.ref (a+1),.none,.ref (a+2),.ref (a+3),.ref (a+4),.int (t+3+k:Nat) 0,.int ((top i).pos.line:Nat) 0,gS "/claim/cut.py" (t+4+k)],#[]⟩
abbrev kD (i t a:Nat):Obj:=⟨.type "code",none,.fields #[.str (hnm (top i)) t,.str (hnm (top i)) (t+1),gS "/claim/cut.py" (t+2),.int ((top i).pos.line:Nat) 0,.int ((L2.eU (top i)).args.length:Nat) 0,.int 0 0,.int 0 0,.int 3 0,.ref a,.bool true,.int 181 0,.ref (a+1),.none,.none,.none,.ref (a+2),.int (t+3:Nat) 0,.int ((top i).pos.line:Nat) 0,gS "/claim/cut.py" (t+4)],#[]⟩
abbrev fqq (i:Nat) (n:String) (a:Nat):Obj:=gF (top i) n .none .none (gS "pairtests.books" 264) none (.ref a) .none #[]
def Bp:Obj:=fqq 11 "is_whole" 76
def Bt:Obj:=fqq 12 "is_tuple" 83
def vo:Obj:=fqq 13 "are_levels" 90
def xr:Obj:=fqq 14 "is_setting" 97
def u0:Obj:=fqq 15 "is_meeting" 104
def DP:Obj:=fqq 16 "is_book" 109
def EY:Obj:=fqq 17 "checked" 116
def Ly:Obj:=fqq 18 "meets" 121
def yG:Obj:=fqq 19 "meets_any" 126
def BP:Obj:=fqq 20 "all_rows" 131
def yO:Obj:=fqq 21 "all_tests" 136
def JM:Obj:=fqq 22 "is_row" 141
def Eu:Obj:=fqq 23 "is_test" 148
def uZ:Obj:=fqq 24 "check_list" 155
def uT:Obj:=fqq 25 "check_tests" 162
abbrev fqz (i:Nat) (n:String) (a:Nat):Obj:=gF (top i) n .none .none (gS "pairtests.meetings" 391) none (.ref a) .none #[]
def rB:Obj:=fqz 27 "most_strength" 169
def iK:Obj:=fqz 28 "check_book_and_strength" 176
def yS:Obj:=fqz 29 "is_behind" 183
def oW:Obj:=fqz 30 "meetings_among" 188
def uV:Obj:=fqz 31 "meetings_of" 195
def Hu:Obj:=fqz 32 "met_by" 202
abbrev fqx (i:Nat) (n:String) (a:Nat):Obj:=gF (top i) n .none .none (gS "pairtests.covers" 441) none (.ref a) .none #[]
def yV:Obj:=fqx 34 "check_all" 209
def yI:Obj:=fqx 35 "times_met" 216
def sH:Obj:=fqx 36 "meet_without" 221
def vH:Obj:=fqx 37 "count_less" 228
def Fq:Obj:=fqx 38 "trimmed" 235
def kW:Obj:=fqx 39 "places_by_meeting" 242
def Bh:Obj:=fqx 40 "take_out" 249
def nA:Obj:=fqx 41 "in_order_behind" 254
def BZ:Obj:=fqx 42 "in_order" 261
def Mu:Obj:=gF (top 44) "built" .none .none (gS "pairtests.building" 530) none (.ref 268) .none #[]
abbrev fqv (i:Nat) (n:String) (a:Nat):Obj:=gF (top i) n .none .none (gS "law_pairtests_k07_built" 540) none (.ref a) .none #[]
def yJ:Obj:=fqv 46 "_law_cell" 275
def Cu:Obj:=fqv 47 "_law_mix" 282
def yK:Obj:=fqv 48 "_law_book" 287
def yL:Obj:=fqv 49 "_law_rows" 292
def vN:Obj:=fqv 50 "_law_meets" 297
def v9:Obj:=fqv 51 "_law_tests" 302
def rJ:Obj:=fqv 52 "_law_meetings" 307
def pP:Obj:=fqv 53 "_law_possible" 312
def yC:Obj:=fqv 54 "_law_left" 317
def pL:Obj:=fqv 55 "_law_strength" 324
def o_law:Obj:=fqv 56 "law" 329
def heap (P:Params):zt:=[(3,⟨.type "dict",none,.dict #[gE P "__name__" 165 (gS "law_pairtests_k07_built" 540),gE P "__doc__" 166 .none,gE P "__package__" 167 .none,gE P "__loader__" 168 (.builtin "__main__.__loader__#opaque"),gE P "__spec__" 169 .none,gE P "__annotations__" 170 (.ref 6),gE P "__builtins__" 171 (.ref 4),gE P "__file__" 173 (gS "/claim/cut.py" 172),gE P "__cached__" 174 .none,gE P "TestError" 206 (.ref 24),gE P "BadBook" 222 (.ref 37),gE P "BadStrength" 238 (.ref 49),gE P "BadTests" 263 (.ref 68),gE P "MOST_THINGS" 267 (.int 6 266),gE P "MOST_SETTINGS" 269 (.int 4 268),gE P "MOST_ROWS" 271 (.int 400 270),gE P "MOST_BANS" 273 (.int 12 272),gE P "MOST_IN_MEETING" 275 (.int 3 274),gE P "is_whole" 284 (.ref 77),gE P "is_tuple" 293 (.ref 84),gE P "are_levels" 302 (.ref 91),gE P "is_setting" 310 (.ref 98),gE P "is_meeting" 320 (.ref 105),gE P "is_book" 326 (.ref 110),gE P "checked" 333 (.ref 117),gE P "meets" 339 (.ref 122),gE P "meets_any" 345 (.ref 127),gE P "all_rows" 351 (.ref 132),gE P "all_tests" 357 (.ref 137),gE P "is_row" 363 (.ref 142),gE P "is_test" 371 (.ref 149),gE P "check_list" 381 (.ref 156),gE P "check_tests" 390 (.ref 163),gE P "most_strength" 399 (.ref 170),gE P "check_book_and_strength" 407 (.ref 177),gE P "is_behind" 415 (.ref 184),gE P "meetings_among" 421 (.ref 189),gE P "meetings_of" 429 (.ref 196),gE P "met_by" 440 (.ref 203),gE P "check_all" 451 (.ref 210),gE P "times_met" 462 (.ref 217),gE P "meet_without" 468 (.ref 222),gE P "count_less" 477 (.ref 229),gE P "trimmed" 490 (.ref 236),gE P "places_by_meeting" 502 (.ref 243),gE P "take_out" 514 (.ref 250),gE P "in_order_behind" 520 (.ref 255),gE P "in_order" 529 (.ref 262),gE P "built" 539 (.ref 269),gE P "_law_cell" 549 (.ref 276),gE P "_law_mix" 558 (.ref 283),gE P "_law_book" 564 (.ref 288),gE P "_law_rows" 570 (.ref 293),gE P "_law_meets" 576 (.ref 298),gE P "_law_tests" 582 (.ref 303),gE P "_law_meetings" 588 (.ref 308),gE P "_law_possible" 594 (.ref 313),gE P "_law_left" 600 (.ref 318),gE P "_law_strength" 608 (.ref 325),gE P "law" 614 (.ref 330)] 60,#[]⟩),(23,⟨.type "dict",none,.dict #[gE P "__module__" 196 (gS "pairtests.errors" 187),gE P "__firstlineno__" 200 (.int 2 199),gE P "__static_attributes__" 201 (.ref 22),gE P "__weakref__" 203 (.ref 25),gE P "__doc__" 204 .none] 3,#[]⟩),(24,⟨.type "type",none,.cls { name:=(Str.ofString "TestError"),bases:=[.type "ValueError"],mro:=[.ref 24,.type "ValueError",.type "Exception",.type "BaseException",.type "object"],ns:=23,qualname:=(Str.ofString "TestError"),hasDict:=true,slotNames:=[],subclasses:=[.ref 37,.ref 49,.ref 68],abstract:=false,collection:=none,hasDel:=false },#[some (.ref 15),none,some (gS "TestError" 189),some (gS "TestError" 197),some (.builtin "ValueError.__new__"),some (.bool true)]⟩),(76,kC 11 276 71 3),(77,Bp),(83,kC 12 285 78 3),(84,Bt),(90,kC 13 294 85 3),(91,vo),(97,kC 14 303 92 2),(98,xr),(104,kC 15 311 99 4),(105,u0),(109,kD 16 321 106),(110,DP),(116,kC 17 327 111 1),(117,EY),(121,kD 18 334 118),(122,Ly),(126,kD 19 340 123),(127,yG),(131,kD 20 346 128),(132,BP),(136,kD 21 352 133),(137,yO),(141,kD 22 358 138),(142,JM),(148,kC 23 364 143 2),(149,Eu),(155,kC 24 372 150 4),(156,uZ),(162,kC 25 382 157 3),(163,uT),(169,kC 27 393 164 1),(170,rB),(176,kC 28 400 171 2),(177,iK),(183,kC 29 408 178 2),(184,yS),(188,kD 30 416 185),(189,oW),(195,kC 31 422 190 2),(196,uV),(202,kC 32 430 197 5),(203,Hu),(209,kC 34 443 204 3),(210,yV),(216,kC 35 452 211 5),(217,yI),(221,kD 36 463 218),(222,sH),(228,kC 37 469 223 3),(229,vH),(235,kC 38 478 230 7),(236,Fq),(242,kC 39 491 237 6),(243,kW),(249,kC 40 503 244 6),(250,Bh),(254,kD 41 515 251),(255,nA),(261,kC 42 521 256 3),(262,BZ),(268,kC 44 532 263 2),(269,Mu),(275,kC 46 542 270 2),(276,yJ),(282,kC 47 550 277 3),(283,Cu),(287,kD 48 559 284),(288,yK),(292,kD 49 565 289),(293,yL),(297,kD 50 571 294),(298,vN),(302,kD 51 577 299),(303,v9),(307,kD 52 583 304),(308,rJ),(312,kD 53 589 309),(313,pP),(317,kD 54 595 314),(318,yC),(324,kC 55 601 319 2),(325,pL),(329,kD 56 609 326),(330,o_law)]
noncomputable def acT:List Addr:=[3,23,24,76,77,83,84,90,91,97,98,104,105,109,110,116,117,121,122,126,127,131,132,136,137,141,142,148,149,155,156,162,163,169,170,176,177,183,184,188,189,195,196,202,203,209,210,216,217,221,222,228,229,235,236,242,243,249,250,254,255,261,262,268,269,275,276,282,283,287,288,292,293,297,298,302,303,307,308,312,313,317,318,324,325,329,330]
def hook:PySem.W.Hook:=PySem.W.kHook heap acT (fun _=>rfl)
theorem left:PySem.W.LeftO PySem.Challenge.pw_pairtests_k07_built view [] (fun s=>PySem.W.xlAt E07.view [] s && PySem.W.recOk (PySem.W.RowW.records (PySem.W.OpenRow.toRowW PySem.Challenge.rw_pairtests_k07_built.row)) s) (PySem.W.Hook.obs hook) (PySem.W.Hook.val hook) 4480:=fun w=>by kernel_rfl
end E07
set_option genInjectivity false
set_option genSizeOfSpec false
namespace L2
open PySem PySem.Spec PyProof.Rows
noncomputable abbrev Key:=Sum Int Str
noncomputable def W8:Key->Value->Bool
 | .inl k,v=>Value.isInt k v
 | .inr x,v=>Value.isStrOf x v
noncomputable def ac3 (w:World):Key->Int
 | .inl k=>hashInt k
 | .inr x=>hashStr w x
theorem dU:∀ {k:Key}{v:Value},W8 k v=true->(∃ i t,k=Sum.inl i/\v=Value.int i t)\/(∃ x t,k=Sum.inr x/\v=Value.str x t)
 | .inl i,v,h=>by
  obtain ⟨t,e⟩:=Value.isInt_shape (k:=i) (v:=v) h;exact .inl ⟨i,t,rfl,e⟩
 | .inr x,v,h=>by
  obtain ⟨t,e⟩:=Value.isStrOf_shape (x:=x) (v:=v) h;exact .inr ⟨x,t,rfl,e⟩
def aaj (a b:Int):decide ((Sum.inl a:Key)=Sum.inl b)=(a == b):=by
 by_cases e:a=b
 .subst e;simp
 .have h:¬ (Sum.inl a:Key)=Sum.inl b:=fun q=>e (Sum.inl.inj q)
  rw [decide_eq_false h];exact (beq_eq_false_iff_ne.mpr e).symm
def aas (a b:Str):decide ((Sum.inr a:Key)=Sum.inr b)=decide (a=b):=by
 by_cases e:a=b
 .subst e;simp
 .have h:¬ (Sum.inr a:Key)=Sum.inr b:=fun q=>e (Sum.inr.inj q)
  rw [decide_eq_false h,decide_eq_false e]
theorem abj (a:Int) (b:Str):decide ((Sum.inl a:Key)=Sum.inr b)=false:=yk (fun q=>nomatch q)
theorem aag (a:Str) (b:Int):decide ((Sum.inr a:Key)=Sum.inl b)=false:=yk (fun q=>nomatch q)
def CQ (prog:Program) (w:World):PySem.KeyKind prog w Key where
 is:=W8
 hash:=ac3 w
 inj:=fun v a b ha hb=>by
  rcases dU ha with ⟨i,t,rfl,rfl⟩ | ⟨x,t,rfl,rfl⟩
  .rcases dU hb with ⟨j,u,rfl,e⟩ | ⟨y,u,rfl,e⟩
   .injection e with e1 _;rw [e1]
   .exact nomatch e
  .rcases dU hb with ⟨j,u,rfl,e⟩ | ⟨y,u,rfl,e⟩
   .exact nomatch e
   .injection e with e1 _;rw [e1]
 byValue:=fun k v h=>by
  rcases dU h with ⟨i,t,rfl,rfl⟩ | ⟨x,t,rfl,rfl⟩ <;> rfl
 pyHash:=fun hv h=>by
  rcases dU hv with ⟨i,t,rfl,rfl⟩ | ⟨x,t,rfl,rfl⟩
  .exact wpAny_pyHash_int h
  .exact wpAny_pyHash_str h
 eqBool:=fun hu hv h=>by
  rcases dU hu with ⟨i,t,rfl,rfl⟩ | ⟨x,t,rfl,rfl⟩
  .rcases dU hv with ⟨j,u,rfl,rfl⟩ | ⟨y,u,rfl,rfl⟩
   .rw [aaj] at h;exact wpAny_eqBool_int h
   .rw [abj] at h;exact SeqAt.EqAt.int_str i t y u _ _ _ _ h
  .rcases dU hv with ⟨j,u,rfl,rfl⟩ | ⟨y,u,rfl,rfl⟩
   .rw [aag] at h;exact SeqAt.EqAt.str_int x t j u _ _ _ _ h
   .rw [aas] at h;exact wpAny_eqBool_str h
 «strs»:=fun k x t v h=>by
  rcases dU h with ⟨i,u,rfl,e⟩ | ⟨y,u,rfl,e⟩
  .exact nomatch e
  .injection e with e1 _;subst e1;cases v <;> rfl
inductive V where
 | non | bl (b:Bool) | int (i:Int) | str (x:Str) | byt (b:Array UInt8) | flt (b:UInt64) | ref (a:Addr) | ty (n:String)
 deriving DecidableEq
def RelV:V->Value->Prop
 | .non,u=>u=Value.none
 | .bl b,u=>u=Value.bool b
 | .int i,u=>∃ t,u=Value.int i t
 | .str x,u=>∃ t,u=Value.str x t
 | .byt b,u=>∃ t,u=Value.bytes b t
 | .flt b,u=>∃ t,u=Value.float b t
 | .ref a,u=>u=Value.ref a
 | .ty n,u=>u=Value.type n
abbrev Vals:List V->zw->Prop:=Paired RelV
variable {xs:List V}{us:zw}
theorem Vals.length (r:Vals xs us):xs.length=us.length:=Paired.length r
theorem Vals.get:∀ {xs:List V}{us:zw}{i:Nat}{x:V},Vals xs us->xs[i]?=some x->∃ u,us[i]?=some u/\RelV x u
 | _,_,_,_,.nil,e=>by simp at e
 | _,_,0,_,.cons r _,e=>by simp at e;subst e;exact ⟨_,rfl,r⟩
 | _,_,i+1,x,.cons _ t,e=>by
  obtain ⟨u,h1,h2⟩:=Vals.get (i:=i) (x:=x) t (by simpa using e);exact ⟨u,by simpa using h1,h2⟩
theorem Vals.set {x:V}{u:Value} (r:RelV x u):∀ {xs:List V}{us:zw} (i:Nat),Vals xs us->Vals (xs.set i x) (us.set i u)
 | _,_,_,.nil=>.nil
 | _,_,0,.cons _ t=>.cons r t
 | _,_,i+1,.cons q t=>.cons q (Vals.set r i t)
theorem Vals.append:∀ {xs ys:List V}{us ws:zw},Vals xs us->Vals ys ws->Vals (xs++ys) (us++ws)
 | _,_,_,_,.nil,s=>s
 | _,_,_,_,.cons r t,s=>.cons r (Vals.append t s)
theorem Vals.take:∀ {xs:List V}{us:zw} (n:Nat),Vals xs us->Vals (xs.take n) (us.take n)
 | _,_,0,_=>.nil
 | _,_,_+1,.nil=>.nil
 | _,_,n+1,.cons r t=>.cons r (Vals.take n t)
theorem Vals.drop:∀ {xs:List V}{us:zw} (n:Nat),Vals xs us->Vals (xs.drop n) (us.drop n)
 | _,_,0,r=>r
 | _,_,_+1,.nil=>.nil
 | _,_,n+1,.cons _ t=>Vals.drop n t
def V4:Option V->Option Value->Prop
 | some v,some u=>RelV v u
 | none,none=>True
 | _,_=>False
def KV {κ:Type}:List (κ × V)->List (κ × Value)->Prop:=Paired fun (p:κ × V) (q:κ × Value)=>p.1=q.1/\RelV p.2 q.2
noncomputable def kV:Key->V
 | .inl i=>.int i
 | .inr x=>.str x
inductive HO where
 /-- a list -/
 | lst (xs:List V)
 /-- a tuple (never changes) -/
 | tup (xs:List V)
 /-- a dict whose keys are ints and texts;one whose keys are tuples of ints and texts (the empty one is both) -/
 | dK (kvs:List (Key × V)) | dT (kvs:List (List Key × V))
 /-- a set of ints: its members,its size -/
 | set (S:Int->Bool) (n:Nat)
 /-- an instance of the class at C,its dict at dx,its attributes -/
 | ins (C dx:Addr) (fs:List (Str × V))
 /-- the dict of the instance at x -/
 | own (x:Addr)
 /-- the dict of an exception -/
 | xd (fs:List (Str × V))
 /-- a bound method,f of x -/
 | met (f x:Addr)
 /-- a range object lo,lo+1,.. below hi -/
 | rng (lo hi:Int)
 /-- a thing that is known to the object (the script;a dict while a loop walks it): read,never written while it is so -/
 | frz (o:Obj) (u:HO)
 /-- a code object's table -/
 | tbl (ps:vj)
 /-- any other thing,by what is true of its one object (a def of one's own: SetO a S n:=HO.ext fun h=>..) -/
 | ext (φ:Heap->Prop)
abbrev Hp:=Addr->Option HO
noncomputable def upd (H:Hp) (a:Addr) (o:HO):Hp:=fun b=>if b=a then some o else H b
variable {H:Hp}{a:Addr}{o:HO}
def aB :upd H a o a=some o:=by unfold upd;rw [if_pos rfl]
variable {b:Addr}
def ao (h:b≠a):upd H a o b=H b:=by unfold upd;rw [if_neg h]
theorem Du {u:HO}:upd (upd H a o) a u=upd H a u:=by
 funext b;unfold upd;split <;> rfl
def Nm {u:HO} (h:H a=some o) (h':H b=some u) (d:o≠u):a≠b:=by
 intro e;subst e;rw [h] at h';exact d (jb h')
def ak (h:H a=some o) (h':H b=none):a≠b:=by
 intro e;subst e;rw [h] at h';cases h'
def Pn (o:Obj):Prop:=∀ vs,o.data=.fields vs->o.cls≠.none
noncomputable def eG:Str:=Str.ofString "check_tests.<locals>.<lambda>"
def lamO (o:Obj):Prop:=∃ vs t,o.data=.fields vs/\vs[1]?=some (.str eG t)
section
variable (P:Program) (w:World)
def cD (H:Hp) (h:Heap) (a:Addr):HO->Prop
 | .lst xs=>xs.length <= sizeLine /\ ∃ (its:zw) (n:Nat),Vals xs its /\ h.get? a=some { cls:=.type "list",data:=.seq its.toArray n }
 | .tup xs=>xs.length<=sizeLine/\∃ its:zw,Vals xs its/\IsTup h a its.toArray
 | .dK kvs=>kvs.length<=sizeLine/\(a == sysModules)=false/\∃ vs,KV kvs vs/\h.DictOf (CQ P w) a vs
 | .dT kvs=>kvs.length<=sizeLine/\(a == sysModules)=false/\∃ xs:List (List Key × Addr × Value),
   Paired (fun (p:List Key × V) (q:List Key × Addr × Value)=>p.1=q.1/\H q.2.1=some (.tup (p.1.map kV))/\RelV p.2 q.2.2) kvs xs /\
   ∃ o es ep,h.get? a=some o/\o.ExactDict/\o.data=.dict es ep/\es.toList=xs.map (entryOfKey (tupleKind (CQ P w)))/\(xs.map (·.1)).Nodup
 | .set S n=>h.SetOf (intKind P w) a S n
 | .ins C dx fs=>H dx=some (.own a)/\fs.length<=1000/\dx≠a/\h.get? a=some (PySem.W.instObj C dx) /\
   ∃ mA,h.Ns1 dx mA/\(∀ f,V4 (fs.lookup f) (mA f))/\PySem.Within mA (fs.map (·.1))
 | .own _=>∃ o,h.get? a=some o
 | .xd fs=>∃ mA,h.Ns1 a mA/\∀ f,V4 (fs.lookup f) (mA f)
 | .rng lo hi=>∃ t u v,h.get? a=some { cls:=.type "range",data:=.fields #[.int lo t,.int hi u,.int 1 v] }
 | .frz o u=>h.get? a=some o/\cD H h a u
 | .tbl _=>∃ ps:vj,h.get? a=some { cls:=.none,data:=.fields ps }/\TriplesOk ps.toList/\∀ pos v,codeAmong pos ps.toList=some v->∃ c o,v=.ref c/\H c=some (.frz o (.ext fun _=>True))/\lamO o
 | .met f x=>h.get? a=some (PySem.W.methodObj (.ref f) (.ref x))
 | .ext φ=>φ h/\(∃ o,h.get? a=some o)/\∀ h1 h2:Heap,φ h1->(∀ o,h1.get? a=some o->h2.get? a=some o)->φ h2
def HOk (H:Hp) (h:Heap):Prop:=∀ a o,H a=some o->cD P w H h a o
end
section
variable {P:Program}{w:World}{H H':Hp}{h h':Heap}{a:Addr}{o:HO}
theorem cD.lt (x:cD P w H h a o):a < h.objs.size:=by
 cases o with
 | lst xs=>obtain ⟨_,_,_,_,e⟩:=x;exact v3 e
 | tup xs=>obtain ⟨_,_,_,p⟩:=x;exact p.lt
 | dK kvs=>obtain ⟨_,_,_,_,o,_,_,e,_⟩:=x;exact v3 e
 | dT kvs=>obtain ⟨_,_,_,_,o,_,_,e,_⟩:=x;exact v3 e
 | set S n=>obtain ⟨o,_,_,_,e,_⟩:=x;exact v3 e
 | ins C dx fs=>obtain ⟨_,_,_,e,_⟩:=x;exact v3 e
 | own y=>obtain ⟨_,e⟩:=x;exact v3 e
 | xd fs=>obtain ⟨_,⟨_,_,_,e,_⟩,_⟩:=x;exact v3 e
 | rng lo hi=>obtain ⟨_,_,_,e⟩:=x;exact v3 e
 | frz ob u=>obtain ⟨e,_⟩:=x;exact v3 e
 | tbl ps=>obtain ⟨_,e,_⟩:=x;exact v3 e
 | met f y=>exact v3 (show h.get? a=some _ from x)
 | ext φ=>obtain ⟨_,⟨_,e⟩,_⟩:=x;exact v3 e
theorem Paired.mapP {α β:Type}{F G:α->β->Prop}:∀ {l₁:List α}{l₂:List β},Paired F l₁ l₂->(∀ a b,F a b->G a b)->Paired G l₁ l₂
 | _,_,.nil,_=>.nil
 | _,_,.cons r t,f=>.cons (f _ _ r) (Paired.mapP t f)
theorem cD.stay (x:cD P w H h a o) (k:∀ b u,(b=a\/H b=some (.own a))->h.get? b=some u->h'.get? b=some u)
  (ho:∀ b,H b=some (.own a)->H' b=some (.own a)) (ht:∀ b xs,H b=some (.tup xs)->H' b=some (.tup xs)) (hf:∀ b o,H b=some (.frz o (.ext fun _=>True))->lamO o->H' b=some (.frz o (.ext fun _=>True)):=by intro _ _ q _;exact q):cD P w H' h' a o:=by
 induction o with
 | lst xs=>obtain ⟨z,its,n,r,e⟩:=x;exact ⟨z,its,n,r,k _ _ (.inl rfl) e⟩
 | tup xs=>obtain ⟨z,its,r,ob,e,c⟩:=x;exact ⟨z,its,r,ob,k _ _ (.inl rfl) e,c⟩
 | dK kvs=>obtain ⟨z,y,vs,r,ob,es,ep,e,c⟩:=x;exact ⟨z,y,vs,r,ob,es,ep,k _ _ (.inl rfl) e,c⟩
 | dT kvs =>
  obtain ⟨z,y,xs,r,ob,es,ep,e,c⟩:=x;exact ⟨z,y,xs,Paired.mapP r fun p q z=>⟨z.1,ht _ _ z.2.1,z.2.2⟩,ob,es,ep,k _ _ (.inl rfl) e,c⟩
 | set S n=>obtain ⟨ob,es,ep,t,e,c⟩:=x;exact ⟨ob,es,ep,t,k _ _ (.inl rfl) e,c⟩
 | ins C dx fs =>
  obtain ⟨d,z,ne,e,mA,⟨od,es,ep,e2,c⟩,r⟩:=x;exact ⟨ho _ d,z,ne,k _ _ (.inl rfl) e,mA,⟨od,es,ep,k _ _ (.inr d) e2,c⟩,r⟩
 | own y=>obtain ⟨ob,e⟩:=x;exact ⟨ob,k _ _ (.inl rfl) e⟩
 | xd fs=>obtain ⟨mA,⟨od,es,ep,e,c⟩,r⟩:=x;exact ⟨mA,⟨od,es,ep,k _ _ (.inl rfl) e,c⟩,r⟩
 | rng lo hi=>obtain ⟨t,u,v,e⟩:=x;exact ⟨t,u,v,k _ _ (.inl rfl) e⟩
 | frz ob u ih=>obtain ⟨e,q⟩:=x;exact ⟨k _ _ (.inl rfl) e,ih q⟩
 | tbl qs =>
  obtain ⟨ps,e,tr,g⟩:=x;refine ⟨ps,k a _ (.inl rfl) e,tr,fun pos v hc=>?_⟩;obtain ⟨c,o,e1,g1,g2⟩:=g pos v hc;exact ⟨c,o,e1,hf c o g1 g2,g2⟩
 | met f y =>
  have e:h.get? a=some (PySem.W.methodObj (.ref f) (.ref y)):=x;show h'.get? a=some (PySem.W.methodObj (.ref f) (.ref y))
  exact k a _ (.inl rfl) e
 | ext φ=>obtain ⟨p,⟨o,e⟩,st⟩:=x;exact ⟨st _ _ p fun o q=>k _ _ (.inl rfl) q,⟨o,k _ _ (.inl rfl) e⟩,st⟩
theorem HOk.lt (x:HOk P w H h) (e:H a=some o):a < h.objs.size:=(x a o e).lt
theorem HOk.fresh (x:HOk P w H h) (e:h.objs.size<=a):H a=none:=by
 cases q:H a with
 | none=>rfl
 | some u=>exact absurd (yf (x.lt q) e) (yv _)
theorem HOk.kept (x:HOk P w H h) (k:∀ b u,h.get? b=some u->h'.get? b=some u):HOk P w H h':=fun a o e =>
 (x a o e).stay (fun b u _ q=>k b u q) (fun _ q=>q) fun _ _ q=>q
theorem HOk.laid (x:HOk P w H h) (k:∀ b u,h.get? b=some u->h'.get? b=some u) (hp:h.objs.size<=a) (new:cD P w (upd H a o) h' a o):HOk P w (upd H a o) h':=fun b u e=>by
 have hn:=x.fresh hp;by_cases hb:b=a
 .subst hb;rw [aB] at e;cases e;exact new
 .rw [ao hb] at e;exact (x b u e).stay (fun c v _ q=>k c v q) (fun c q=>by rw [ao (ak q hn)];exact q) (fun c xs q=>by rw [ao (ak q hn)];exact q) (fun c ob q _=>by rw [ao (ak q hn)];exact q)
end
def Rd (H:Hp) (a:Addr) (u:HO):Prop:=H a=some u\/∃ o,H a=some (.frz o u)
variable {P:Program}{w:World}{h:Heap}
theorem Rd.ok {u:HO} (r:Rd H a u) (x:HOk P w H h):cD P w H h a u:=by
 rcases r with r | ⟨o,r⟩
 .exact x a u r
 .obtain ⟨_,q⟩:=x a _ r;exact q
def Mut:Option HO->Prop
 | some (.lst _)=>True
 | some (.dK _)=>True
 | some (.dT _)=>True
 | some (.set _ _)=>True
 | some (.ins _ _ _)=>True
 | some (.ext _)=>True
 | _=>False
section
variable {P:Program}{w:World}{H:Hp}{h h':Heap}{x e:Addr}{o':HO}
theorem HOk.write (ok:HOk P w H h) (mu:Mut (H x)) (he:e=x\/H e=some (.own x)) (k:∀ b u,b≠e->h.get? b=some u->h'.get? b=some u) (heo:∃ u,h'.get? e=some u)
  (new:cD P w (upd H x o') h' x o'):HOk P w (upd H x o') h':=fun b u q=>by
 have nown:∀ c y,H c=some (.own y)->c≠x:=fun c y r z=>by subst z;rw [r] at mu;exact mu
 have ntup:∀ c xs,H c=some (.tup xs)->c≠x:=fun c xs r z=>by subst z;rw [r] at mu;exact mu
 by_cases hb:b=x
 .subst hb;rw [aB] at q;cases q;exact new
 .rw [ao hb] at q;by_cases hbe:b=e
  .have q':H b=some (.own x):=by
    rcases he with z | z
    .exact absurd (hbe.trans z) hb
    .rw [hbe];exact z
   rw [q] at q';cases q';obtain ⟨v,hv⟩:=heo;exact ⟨v,by rw [hbe];exact hv⟩
  .refine (ok b u q).stay (fun c v hc r=>k c v ?_ r) (fun c r=>by rw [ao (nown c b r)];exact r) (fun c xs r=>by rw [ao (ntup c xs r)];exact r) (fun c ob r _=>by rw [ao (fun z=>by subst z;rw [r] at mu;exact mu)];exact r);rcases hc with rfl | hc
   .exact hbe
   .rintro rfl;rcases he with z | z
    .exact nown c b hc z
    .rw [hc] at z;cases z;exact hb rfl
end
structure Un (fs ex:List Addr) (H H':Hp) (h h':Heap):Prop where
 keep:∀ b o,h.get? b=some o->H b=none->b ∉ fs->b ∉ ex->h'.get? b=some o
 slot:∀ b o,h.get? b=some o->H b=none->b∈fs->b ∉ ex->∃ sl,h'.get? b=some { o with slots:=sl }
 free:∀ b o,h.get? b=some o->H b=none->b ∉ ex->H' b=none
 there:∀ b o,h.get? b=some o->b ∉ ex->∃ o',h'.get? b=some o'
 tups:∀ b xs,H b=some (.tup xs)->H' b=some (.tup xs)
 frzs:∀ b o u,H b=some (.frz o u)->H' b=some (.frz o u)
 tbls:∀ b ps,H b=some (.tbl ps)->∃ more,H' b=some (.tbl (ps++more))
section
variable {fs fs' ex ex':List Addr}{H H1 H2:Hp}{h h1 h2 h':Heap}{a x e:Addr}{o:HO}
theorem Un.any (u:Un fs ex H H1 h h1) {ob:Obj} (q:h.get? b=some ob) (n:H b=none) (hx:b ∉ ex):∃ sl,h1.get? b=some { ob with slots:=sl }:=by
 by_cases hb:b∈fs
 .exact u.slot b ob q n hb hx
 .exact ⟨ob.slots,u.keep b ob q n hb hx⟩
theorem Un.kept (k:∀ b u,h.get? b=some u->h'.get? b=some u):Un fs ex H H h h' :=
 ⟨fun b ob q _ _ _=>k b ob q,fun b ob q _ _ _=>⟨ob.slots,k b ob q⟩,fun _ _ _ n _=>n,fun b ob q _=>⟨ob,k b ob q⟩,fun _ _ q=>q,fun _ _ _ q=>q,fun _ ps q=>⟨#[],by rw [q];simp⟩⟩
theorem Un.refl:Un fs ex H H h h:=Un.kept fun _ _ q=>q
theorem Un.laid (k:∀ b u,h.get? b=some u->h'.get? b=some u) (hp:h.objs.size<=a) (hn:H a=none):Un fs ex H (upd H a o) h h' where
 keep:=fun b u q _ _ _=>k b u q
 slot:=fun b u q _ _ _=>⟨u.slots,k b u q⟩
 free:=fun b u q n _=>by rw [ao (Nat.ne_of_lt (Nat.lt_of_lt_of_le (Heap.lt_size q) hp))];exact n
 there:=fun b u q _=>⟨u,k b u q⟩
 tups:=fun b xs q=>by rw [ao (ak q hn)];exact q
 frzs:=fun b u xs q=>by rw [ao (ak q hn)];exact q
 tbls:=fun b ps q=>⟨#[],by rw [ao (ak q hn),q];simp⟩
theorem Un.write (mu:Mut (H x)) (he:e=x\/H e=some (.own x)) (k:∀ b u,b≠e->h.get? b=some u->h'.get? b=some u) (heo:∃ u,h'.get? e=some u):Un fs ex H (upd H x o) h h':=by
 have hx:∀ b,H b=none->b≠x:=fun b n z=>by subst z;rw [n] at mu;exact mu
 have hb:∀ b,H b=none->b≠e:=fun b n z=>by
  subst z;rcases he with r | r
  .exact hx b n r
  .rw [n] at r;cases r
 have hm:∀ b u,H b=some u->¬ Mut (some u)->b≠x:=fun b u q nm z=>by subst z;rw [q] at mu;exact nm mu
 refine ⟨fun b u q n _ _=>k b u (hb b n) q,fun b u q n _ _=>⟨u.slots,k b u (hb b n) q⟩,fun b u q n _=>by rw [ao (hx b n)];exact n,fun b u q _=>?_,
  fun b xs q=>by rw [ao (hm b _ q fun z=>z)];exact q,fun b u xs q=>by rw [ao (hm b _ q fun z=>z)];exact q,fun b ps q=>⟨#[],by rw [ao (hm b _ q fun z=>z),q];simp⟩⟩
 by_cases hbe:b=e
 .subst hbe;exact heo
 .exact ⟨u,k b u hbe q⟩
end
noncomputable def trk (h:Heap) (H:Hp):List Addr:=(List.range h.objs.size).filter fun a=>(H a).isSome
def rT (h:Heap) (H:Hp):Heap:=PySem.W.hideAll h (trk h H)
theorem QK (h:Heap) (H:Hp):(rT h H).objs.size=h.objs.size:=PySem.W.hideAll_size _ _
theorem Uo {o:Obj} (e:h.get? b=some o) (n:H b=none):(rT h H).get? b=some o :=
 PySem.W.hideAll_get _ e fun hm=>by
  have q:(H b).isSome=true:=(yY.mp hm).2;rw [n] at q;simp at q
def XC {o:Obj} (e:(rT h H).get? b=some o):h.get? b=some o/\H b=none:=by
 have e':h.get? b=some o:=PySem.W.of_hideAll (trk h H) e;refine ⟨e',?_⟩;cases q:H b with
 | none=>rfl
 | some x =>
  have hm:b∈trk h H:=yY.mpr ⟨y0.mpr (v3 e'),by simp [q]⟩;have z:(rT h H).get? b=none:=PySem.W.hideAll_none (trk h H) hm;rw [z] at e;cases e
structure Mod (K:zt) (mg:w8) (base:Heap):Prop where
 kin:K.In base
 glob:base.Ns mainGlobals mg
 blt:∃ mb,base.Ns builtinsNs mb /\ ∀ x:Str,x ≠ "__name__" -> mb x=bootBuiltins x
 nolimit:base.NoLimit
 bm:∃ bm ob,mg "__builtins__"=some (.ref bm) /\ bm ≠ builtinsNs /\ bm ≠ mainGlobals /\ base.get? bm=some ob /\ ob.cls=.type "module" /\ ob.dict=some builtinsNs /\ ob.data=.plain
def pO (K:zt) (mg:Str -> Option Value) (H:Hp):Prop:=∀ a o fd c oc vs p,mg "check_tests"=some (.ref a) -> K.lookup a=some o -> o.data=.func fd -> fd.code=.ref c -> K.lookup c=some oc -> oc.data=.fields vs -> vs[11]?=some (.ref p) -> ∃ q,H p=some (.tbl q)
variable {K:zt}{mg:w8}{H':Hp}
theorem pO.un {fs ex:List Addr}{h':Heap} (x:pO K mg H) (u:Un fs ex H H' h h'):pO K mg H':=fun a o fd c oc vs p e1 e2 e3 e4 e5 e6 e7 =>
 let ⟨q,e⟩:=x a o fd c oc vs p e1 e2 e3 e4 e5 e6 e7
 let ⟨m,e'⟩:=u.tbls p q e
 ⟨_,e'⟩
structure Cx where
 prog:Program
 w:World
 K:zt
 mg:w8
 base:Heap
 A:Around
 N:z0
 s₀:Shared
 H₀:Hp
 env:Env
 outer:List Env
 stack:List Env
 ex:List Addr
 fn:Str->Bool
 calm:Bool
 pn:w4
 xe:zn
noncomputable def frs (l:List Env):List Addr:=l.filterMap (·.frame)
abbrev Cx.fs (X:Cx):List Addr:=frs X.outer
def Vis (sc:Scope) (x:Str):Prop:=sc.names.lookup x=some .local\/sc.names.lookup x=some .cell\/sc.names.lookup x=some .free
def Loc (sc:Scope) (x:Str):Prop:=sc.names.lookup x=some .local\/sc.names.lookup x=some .cell
def Look (env:Env) (h:Heap) (m:w8) (x:Str) (u:Value):Prop :=
 (env.kindOf x=some .local/\m x=some u)\/((env.kindOf x=some .cell\/env.kindOf x=some .free)/\∃ c,env.cells.lookup x=some c/\h.IsCell c (some u))
structure Cx.Ok (X:Cx):Prop where
 mod:Mod X.K X.mg X.base
 kind:X.env.scope.kind=.function
 glob:X.env.globals=mainGlobals
 blt:X.env.builtins=builtinsNs
 above:X.s₀.heap.objs.size<=X.env.locals
 inj:∀ x y c,X.env.cells.lookup x=some c->X.env.cells.lookup y=some c->x=y
 has:∀ x,(X.env.kindOf x=some .cell\/X.env.kindOf x=some .free)->∃ c,X.env.cells.lookup x=some c
 cab:∀ x c,X.fn x=true->X.env.cells.lookup x=some c->X.s₀.heap.objs.size<=c
 hd:X.calm=true->X.A.handled=none
 frames:X.A.frames=some X.stack
 stk:X.stack=X.outer\/(X.stack=X.env::X.outer/\X.env.frame=some X.env.locals)
 exf:∀ b∈X.ex,b≠X.env.locals/\∀ x c,X.env.cells.lookup x=some c->c≠b
 bs:∀ b o,X.base.get? b=some o->X.s₀.heap.get? b=some o/\X.H₀ b=none
 bsz:X.base.objs.size<=X.s₀.heap.objs.size
 noex:∀ b o,X.base.get? b=some o->b ∉ X.ex
 exfs:∀ b∈X.ex,b ∉ X.fs
 funs:X.s₀.heap.FunFrames X.base X.outer
 frf:∀ b∈X.fs,X.H₀ b=none
 tab:pO X.K X.mg X.H₀
structure Inv (X:Cx) (pins:w4) (σ:List (Option V)) (H:Hp) (s:Shared):Prop where
 ok:X.Ok
 os:s.os=X.s₀.os
 bare:AllBare s.gens
 base:Un X.fs X.ex X.H₀ H X.s₀.heap s.heap
 loc:∃ m,s.heap.Ns X.env.locals m/\∀ (i:Nat) (x:Str) (v:V),X.N[i]?=some x->σ[i]?=some (some v)->Vis X.env.scope x->∃ u,RelV v u/\Look X.env s.heap m x u
 cell:∀ x c,X.env.cells.lookup x=some c->∃ v,s.heap.IsCell c v
 free:H X.env.locals=none
 freeC:∀ x c,X.env.cells.lookup x=some c->H c=none
 pin:∀ p∈X.pn++pins,s.heap.get? p.1=some p.2/\H p.1=none/\p.1≠X.env.locals/\p.1 ∉ X.fs/\∀ v,p.2.data≠.cell v
 hok:HOk X.prog X.w H s.heap
 len:σ.length=X.N.length
variable {g':Array GenState}{ch:List Addr}{it:Addr}{N:z0}{i:Nat}{x:Str}{A:Around}{E:zn}{v:V}{u:Value}{Q:Unit->Shared->Prop}{s':Shared}
section
variable {X:Cx}{pins:w4}{σ:List (Option V)}{H H':Hp}{s:Shared}{h':Heap}
theorem Cx.Ok.nofr (ok:X.Ok) {o:Obj} (e:X.base.get? b=some o):b ∉ X.fs:=fun hb=>by
 have:=(ok.funs.mem hb).1;rw [e] at this;cases this
theorem Inv.bs (I:Inv X pins σ H s):∀ b o,X.base.get? b=some o->s.heap.get? b=some o/\H b=none:=fun b o e =>
 ⟨I.base.keep b o (I.ok.bs b o e).1 (I.ok.bs b o e).2 (I.ok.nofr e) (I.ok.noex b o e),I.base.free b o (I.ok.bs b o e).1 (I.ok.bs b o e).2 (I.ok.noex b o e)⟩
theorem Inv.bk (I:Inv X pins σ H s):∀ b o,X.base.get? b=some o->s.heap.get? b=some o:=fun b o e=>(I.bs b o e).1
theorem Inv.mod (I:Inv X pins σ H s):Mod X.K X.mg X.base:=I.ok.mod
theorem Inv.kIn (I:Inv X pins σ H s):X.K.In s.heap:=I.ok.mod.kin.keeps I.bk
theorem Inv.fr (I:Inv X pins σ H s):∃ m,Fr X.base X.env.locals s.heap m :=
 let ⟨m,hn,_⟩:=I.loc
 ⟨m,hn,I.bk,yb I.ok.bsz I.ok.above⟩
theorem Inv.lt (I:Inv X pins σ H s):X.env.locals < s.heap.objs.size:=let ⟨_,hn,_⟩:=I.loc;hn.lt
theorem Inv.sz (I:Inv X pins σ H s):X.s₀.heap.objs.size<=s.heap.objs.size:=yb I.ok.above (Nat.le_of_lt I.lt)
theorem Inv.nofs (I:Inv X pins σ H s)  (h:s.heap.objs.size<=a):a ∉ X.fs:=fun hb=>by
 obtain ⟨_,o,ho,_⟩:=I.ok.funs.mem hb;exact absurd (yf (v3 ho) (yb I.sz h)) (yv _)
theorem Inv.cne (I:Inv X pins σ H s):∀ x c,X.env.cells.lookup x=some c->c≠X.env.locals:=fun x c e z=>by
 obtain ⟨v,o,ho,hd⟩:=I.cell x c e;obtain ⟨m,⟨o',es,ep,ho',hd',_⟩,_⟩:=I.loc;rw [z,ho'] at ho;cases ho;rw [hd'] at hd;cases hd
theorem Inv.funs (I:Inv X pins σ H s):s.heap.FunFrames X.base X.outer:=by
 have all:∀ (l:List Env),(∀ b∈frs l,b∈X.fs)->X.s₀.heap.FunFrames X.base l->s.heap.FunFrames X.base l:=by
  intro l;induction l with
  | nil=>intro _ _;trivial
  | cons env r ih =>
   intro hs hl;obtain ⟨hk,⟨L,o,hf,hn,ho,hd⟩,hr⟩:=hl;have hL:L∈X.fs:=hs L (by unfold frs;rw [List.filterMap_cons,hf];exact vz);obtain ⟨sl,e⟩:=I.base.slot L o ho (I.ok.frf L hL) hL fun z=>I.ok.exfs L z hL
   exact ⟨hk,⟨L,_,hf,hn,e,hd⟩,ih (fun b hb=>hs b (by unfold frs;rw [List.filterMap_cons,hf];exact vy _ hb)) hr⟩
 exact all X.outer (fun _ hb=>hb) I.ok.funs
theorem Inv.stack (I:Inv X pins σ H s):s.heap.FunFrames X.base X.stack:=by
 rcases I.ok.stk with e | ⟨e,hf⟩
 .rw [e];exact I.funs
 .rw [e];obtain ⟨m,hn,_⟩:=I.loc;refine .cons (by rw [I.ok.kind];decide) hf hn ?_ I.funs;exact Heap.get?_none_of_le (yb I.ok.bsz I.ok.above)
theorem Inv.stkSub (I:Inv X pins σ H s):∀ b∈frs X.stack,b∈X.env.locals::X.fs:=fun b hb=>by
 rcases I.ok.stk with e | ⟨e,hf⟩
 .rw [e] at hb;exact vy _ hb
 .rw [e] at hb;unfold frs at hb;rw [List.filterMap_cons,hf] at hb;exact hb
theorem Inv.stkFree (I:Inv X pins σ H s):∀ b∈frs X.stack,H b=none:=fun b hb=>by
 rcases w6.mp (I.stkSub b hb) with e | hb
 .rw [e];exact I.free
 .obtain ⟨_,o,ho,_⟩:=I.ok.funs.mem hb;exact I.base.free b o ho (I.ok.frf b hb) fun z=>I.ok.exfs b z hb
theorem Inv.step {t':Nat}{d':Drawn} (I:Inv X pins σ H s)
  (hch:∀ b∈ch,(b∈X.ex\/X.s₀.heap.objs.size<=b)/\b≠X.env.locals/\(∀ x c,X.env.cells.lookup x=some c->c≠b)/\∀ p∈X.pn++pins,p.1≠b)
  (keep:∀ b o,b≠X.env.locals->b ∉ X.fs->b ∉ ch->s.heap.get? b=some o->H b=none->h'.get? b=some o)
  (slot:∀ b o,b≠X.env.locals->b∈X.fs->b ∉ ch->s.heap.get? b=some o->H b=none->∃ sl,h'.get? b=some { o with slots:=sl }) (free:∀ b o,b ∉ ch->s.heap.get? b=some o->H b=none->H' b=none)
  (there:∀ b o,b ∉ ch->s.heap.get? b=some o->∃ o',h'.get? b=some o')
  (tups:∀ b xs,H b=some (.tup xs)->H' b=some (.tup xs)) (frzs:∀ b o u,H b=some (.frz o u)->H' b=some (.frz o u)) (tbls:∀ b ps,H b=some (.tbl ps)->∃ more,H' b=some (.tbl (ps++more)))
  (ns:∀ m,s.heap.Ns X.env.locals m->h'.Ns X.env.locals m) (hok:HOk X.prog X.w H' h') (hg:AllBare g') :
  Inv X pins σ H' { s with heap:=h',gens:=g',drawn:=d',toks:=t' }:=by
 have neL:∀ b o,X.s₀.heap.get? b=some o->b≠X.env.locals:=fun b o e=>v6 (yf (v3 e) I.ok.above)
 have neC:∀ b o,X.s₀.heap.get? b=some o->b ∉ X.ex->b ∉ ch:=fun b o e hx hb=>by
  rcases (hch b hb).1 with z | z
  .exact hx z
  .exact absurd (yf (v3 e) z) (yv _)
 have cellK:∀ x c,X.env.cells.lookup x=some c->∀ v,s.heap.IsCell c v->h'.IsCell c v:=fun x c e v ⟨o,ho,hd⟩=>by
  have nch:c ∉ ch:=fun z=>(hch c z).2.2.1 x c e rfl
  by_cases hc:c∈X.fs
  .obtain ⟨sl,q⟩:=slot c o (I.cne x c e) hc nch ho (I.freeC x c e);exact ⟨_,q,hd⟩
  .exact ⟨o,keep c o (I.cne x c e) hc nch ho (I.freeC x c e),hd⟩
 refine ⟨I.ok,I.os,hg,⟨fun b o e n hb hx=>?_,fun b o e n hb hx=>?_,fun b o e n hx=>?_,fun b o e hx=>?_,fun b xs e=>tups b xs (I.base.tups b xs e),fun b o xs e=>frzs b o xs (I.base.frzs b o xs e),fun b ps e=>?_⟩,?_,fun x c e=>?_,?_,fun x c e=>?_,fun p hp=>?_,hok,I.len⟩
 .exact keep b o (neL b o e) hb (neC b o e hx) (I.base.keep b o e n hb hx) (I.base.free b o e n hx)
 .obtain ⟨sl,e1⟩:=I.base.slot b o e n hb hx;obtain ⟨sl',e2⟩:=slot b _ (neL b o e) hb (neC b o e hx) e1 (I.base.free b o e n hx);exact ⟨sl',e2⟩
 .obtain ⟨o',e1⟩:=I.base.there b o e hx;exact free b o' (neC b o e hx) e1 (I.base.free b o e n hx)
 .obtain ⟨o',e1⟩:=I.base.there b o e hx;exact there b o' (neC b o e hx) e1
 .obtain ⟨m1,e1⟩:=I.base.tbls b ps e;obtain ⟨m2,e2⟩:=tbls b _ e1;exact ⟨m1++m2,by rw [e2,Array.append_assoc]⟩
 .obtain ⟨m,hn,hl⟩:=I.loc;refine ⟨m,ns m hn,fun i x v e1 e2 e3=>?_⟩;obtain ⟨u,r,l⟩:=hl i x v e1 e2 e3;refine ⟨u,r,?_⟩;rcases l with l | ⟨k,c,e,z⟩
  .exact .inl l
  .exact .inr ⟨k,c,e,cellK x c e _ z⟩
 .obtain ⟨v,z⟩:=I.cell x c e;exact ⟨v,cellK x c e v z⟩
 .obtain ⟨m,⟨o,_,_,ho,_⟩,_⟩:=I.loc;exact free _ o (fun z=>(hch _ z).2.1 rfl) ho I.free
 .obtain ⟨v,o,ho,hd⟩:=I.cell x c e;exact free c o (fun z=>(hch c z).2.2.1 x c e rfl) ho (I.freeC x c e)
 .obtain ⟨e,n,ne,nf,d⟩:=I.pin p hp;have nch:p.1 ∉ ch:=fun z=>(hch p.1 z).2.2.2 p hp rfl
  exact ⟨keep p.1 p.2 ne nf nch e n,free p.1 p.2 nch e n,ne,nf,d⟩
theorem Inv.un {t':Nat} (I:Inv X pins σ H s) (u:Un X.fs [] H H' s.heap h') (hok:HOk X.prog X.w H' h'):Inv X pins σ H' { s with heap:=h',toks:=t' }:=by
 obtain ⟨m,⟨o,es,ep,ho,r⟩,_⟩:=id I.loc;obtain ⟨sl,hL⟩:=u.any ho I.free (by simp);exact I.step (g':=s.gens) (d':=s.drawn) (ch:=[]) (fun _ z=>nomatch z) (fun b o _ hb _ e n=>u.keep b o e n hb (by simp)) (fun b o _ hb _ e n=>u.slot b o e n hb (by simp)) (fun b o _ e n=>u.free b o e n (by simp)) (fun b o _ e=>u.there b o e (by simp)) u.tups u.frzs u.tbls (fun m' hm=>by
  obtain ⟨o',es',ep',ho',r'⟩:=hm;rw [ho] at ho';cases ho';exact ⟨_,es',ep',hL,r'⟩) hok I.bare
theorem Inv.call {t':Nat}{d':Drawn} (I:Inv X pins σ H s) (u:Un (frs X.stack) ch H H' s.heap h') (hok:HOk X.prog X.w H' h') (hg:AllBare g')
  (hch:∀ b∈ch,(b∈X.ex\/X.s₀.heap.objs.size<=b)/\b≠X.env.locals/\(∀ x c,X.env.cells.lookup x=some c->c≠b)/\∀ p∈X.pn++pins,p.1≠b) :
  Inv X pins σ H' { s with heap:=h',gens:=g',drawn:=d',toks:=t' }:=by
 obtain ⟨m,⟨o,es,ep,ho,r⟩,_⟩:=id I.loc;obtain ⟨sl,hL⟩:=u.any ho I.free fun z=>(hch _ z).2.1 rfl
 exact I.step (ch:=ch) hch (fun b o hL hb hc e n=>u.keep b o e n (fun z=>(w6.mp (I.stkSub b z)).elim hL hb) hc) (fun b o _ _ hc e n=>u.any e n hc) (fun b o hc e n=>u.free b o e n hc) (fun b o hc e=>u.there b o e hc) u.tups u.frzs u.tbls (fun m' hm=>by
  obtain ⟨o',es',ep',ho',r'⟩:=hm;rw [ho] at ho';cases ho';exact ⟨_,es',ep',hL,r'⟩) hok hg
theorem Inv.turned {t':Nat} (I:Inv X pins σ H s) (k:∀ b o,b≠it->s.heap.get? b=some o->h'.get? b=some o) (hn:H it=none) (hL:it≠X.env.locals)
  (h1:it∈X.ex\/X.s₀.heap.objs.size<=it) (h2:∀ x c,X.env.cells.lookup x=some c->c≠it) (h3:∀ p∈X.pn++pins,p.1≠it):Inv X pins σ H { s with heap:=h',toks:=t' }:=by
 have nit:∀ b u,H b=some u->b≠it:=fun b u e z=>by rw [z,hn] at e;cases e
 refine I.step (g':=s.gens) (d':=s.drawn) (ch:=[it]) (fun b hb=>?_) (fun b o _ _ hc e _=>k b o (fun z=>hc (by simp [z])) e) (fun b o _ _ hc e _=>⟨o.slots,k b o (fun z=>hc (by simp [z])) e⟩) (fun _ _ _ _ n=>n)
  (fun b o hc e=>⟨o,k b o (fun z=>hc (by simp [z])) e⟩) (fun _ _ e=>e) (fun _ _ _ e=>e) (fun b ps e=>⟨#[],by rw [e];simp⟩) (fun m hm=>?_) (fun b u e=>?_) I.bare
 .have e:b=it:=by simpa using hb
  subst e;exact ⟨h1,hL,h2,h3⟩
 .obtain ⟨o,es,ep,ho,r⟩:=hm;exact ⟨o,es,ep,k _ o (Ne.symm hL) ho,r⟩
 .refine (I.hok b u e).stay (fun c v hc q=>k c v ?_ q) (fun _ q=>q) fun _ _ q=>q
  rcases hc with z | z
  .rw [z];exact nit b u e
  .exact nit c _ z
theorem Inv.tok (I:Inv X pins σ H s) (t:Nat):Inv X pins σ H { s with toks:=t }:=I.un (h':=s.heap) (t':=t) Un.refl I.hok
theorem Inv.kept {t':Nat} (I:Inv X pins σ H s) (k:∀ b u,s.heap.get? b=some u->h'.get? b=some u):Inv X pins σ H { s with heap:=h',toks:=t' }:=I.un (Un.kept k) (I.hok.kept k)
theorem Inv.laid {t':Nat} (I:Inv X pins σ H s) (k:∀ b u,s.heap.get? b=some u->h'.get? b=some u) (hp:s.heap.objs.size<=a) (new:cD X.prog X.w (upd H a o) h' a o) :
  Inv X pins σ (upd H a o) { s with heap:=h',toks:=t' }:=I.un (Un.laid k hp (I.hok.fresh hp)) (I.hok.laid k hp new)
theorem Inv.write {x e:Addr}{t':Nat} (I:Inv X pins σ H s) (mu:Mut (H x)) (he:e=x\/H e=some (.own x)) (k:∀ b u,b≠e->s.heap.get? b=some u->h'.get? b=some u) (heo:∃ u,h'.get? e=some u)
  (new:cD X.prog X.w (upd H x o) h' x o):Inv X pins σ (upd H x o) { s with heap:=h',toks:=t' }:=I.un (Un.write mu he k heo) (I.hok.write mu he k heo new)
theorem Inv.weak {σ':List (Option V)} (I:Inv X pins σ H s) (hl:σ'.length=σ.length) (w:∀ (i:Nat) v,σ'[i]?=some (some v)->σ[i]?=some (some v)):Inv X pins σ' H s :=
 ⟨I.ok,I.os,I.bare,I.base,let ⟨m,hn,hl'⟩:=I.loc;⟨m,hn,fun i x v e1 e2 e3=>hl' i x v e1 (w i v e2) e3⟩,I.cell,I.free,I.freeC,I.pin,I.hok,hl.trans I.len⟩
theorem Inv.pins_of {pins':w4} (I:Inv X pins σ H s) (h:∀ p∈pins',s.heap.get? p.1=some p.2/\H p.1=none/\p.1≠X.env.locals/\p.1 ∉ X.fs/\∀ v,p.2.data≠.cell v):Inv X pins' σ H s :=
 ⟨I.ok,I.os,I.bare,I.base,I.loc,I.cell,I.free,I.freeC,fun p hp=>(yy.mp hp).elim (fun z=>I.pin p (vE _ z)) (h p),I.hok,I.len⟩
def JC (hN:N.Nodup) {j:Nat} (a:N[i]?=some x) (b:N[j]?=some x):i=j:=by
 obtain ⟨h1,e1⟩:=v7.mp a;obtain ⟨h2,e2⟩:=v7.mp b;exact (List.getElem_inj hN).mp (e1.trans e2.symm)
def Ef {M:Model} (I:Inv X pins σ H s) (hN:X.N.Nodup) (hi:X.N[i]?=some x) (hx:Loc X.env.scope x) (r:RelV v u)
  (h:∀ s',Inv X pins (σ.set i (some v)) H s'->(∃ a,Heap.SameBut a s.heap s'.heap/\(a=X.env.locals\/X.env.cells.lookup x=some a))->Q () s') (hf:X.fn x=true\/X.env.scope.names.lookup x=some .local:=by first | exact .inl rfl | exact .inr rfl | assumption):wpAny M A (storeName X.env x u) Q E s:=by
 obtain ⟨m,hn,hl⟩:=id I.loc;have hcls:(X.env.scope.kind == .class || (X.env.scope.kind == .module && X.env.locals != X.env.globals))=false:=by rw [I.ok.kind];rfl
 have hiσ:i < σ.length:=by rw [I.len];exact (v7.mp hi).1
 have cne:=I.cne;have tracked:∀ {a:Addr}{h':Heap},(∃ o,s.heap.get? a=some o/\H a=none)->Heap.SameBut a s.heap h'->HOk X.prog X.w H h':=fun {a h'} ha hs b ob e=>by
  obtain ⟨_,_,hfree⟩:=ha;refine (I.hok b ob e).stay (fun c w' hc q=>(hs.2 c ?_).trans q) (fun _ q=>q) fun _ _ q=>q
  rintro rfl;rcases hc with rfl | hc
  .rw [hfree] at e;cases e
  .rw [hfree] at hc;cases hc
 rcases hx with hk | hk
 .refine wpAny_storeName_local hk hn (fun h' hn' hs=>?_) hcls;obtain ⟨oL,_,_,hoL,_⟩:=id hn;refine h _ ⟨I.ok,I.os,I.bare,⟨fun b o e n hb hx=>?_,fun b o e n hb hx=>?_,I.base.free,fun b o e hx=>?_,I.base.tups,I.base.frzs,I.base.tbls⟩,⟨_,hn',fun j y v' e1 e2 e3=>?_⟩,fun y c e=>?_,I.free,I.freeC,fun p hp=>?_,tracked ⟨oL,hoL,I.free⟩ hs,by simpa using I.len⟩ ⟨_,hs,.inl rfl⟩
  .exact (hs.2 b (v6 (yf (v3 e) I.ok.above))).trans (I.base.keep b o e n hb hx)
  .obtain ⟨sl,e1⟩:=I.base.slot b o e n hb hx;exact ⟨sl,(hs.2 b (v6 (yf (v3 e) I.ok.above))).trans e1⟩
  .obtain ⟨o',e1⟩:=I.base.there b o e hx;exact ⟨o',(hs.2 b (v6 (yf (v3 e) I.ok.above))).trans e1⟩
  .by_cases hj:j=i
   .subst hj;rw [hi] at e1;cases e1;rw [List.getElem?_set_self hiσ] at e2;cases e2;exact ⟨u,r,.inl ⟨hk,by simp⟩⟩
   .rw [List.getElem?_set_ne (Ne.symm hj)] at e2;obtain ⟨u',r',q⟩:=hl j y v' e1 e2 e3;refine ⟨u',r',?_⟩;rcases q with ⟨k,e⟩ | ⟨k,c,e,z⟩
    .refine .inl ⟨k,?_⟩;have:y≠x:=fun e=>hj (JC hN e1 (e ▸ hi))
     simp [this,e]
    .exact .inr ⟨k,c,e,z.sameBut hs (cne y c e)⟩
  .obtain ⟨w',z⟩:=I.cell y c e;exact ⟨w',z.sameBut hs (cne y c e)⟩
  .obtain ⟨e,n,ne,nf,d⟩:=I.pin p hp;exact ⟨(hs.2 p.1 ne).trans e,n,ne,nf,d⟩
 .have hfn:X.fn x=true:=by
   rcases hf with z | z
   .exact z
   .rw [z] at hk;cases hk
  obtain ⟨c,hc⟩:=I.ok.has x (.inl hk);obtain ⟨w',z⟩:=I.cell x c hc;refine wpAny_storeName_cell I.ok.kind hk hc z (fun h' hc' hs=>?_);obtain ⟨oc,hoc,hocd⟩:=id z;refine h { s with heap:=h' } ⟨I.ok,I.os,I.bare,⟨fun b o e n hb hx=>?_,fun b o e n hb hx=>?_,I.base.free,fun b o e hx=>?_,I.base.tups,I.base.frzs,I.base.tbls⟩,⟨m,hn.sameBut hs (Ne.symm (cne x c hc)),fun j y v' e1 e2 e3=>?_⟩,fun y c' e=>?_,I.free,I.freeC,fun p hp=>?_,tracked ⟨oc,hoc,I.freeC x c hc⟩ hs,by simpa using I.len⟩ ⟨c,hs,.inr hc⟩
  .exact (hs.2 b (v6 (yf (v3 e) (I.ok.cab x c hfn hc)))).trans (I.base.keep b o e n hb hx)
  .obtain ⟨sl,e1⟩:=I.base.slot b o e n hb hx;exact ⟨sl,(hs.2 b (v6 (yf (v3 e) (I.ok.cab x c hfn hc)))).trans e1⟩
  .obtain ⟨o',e1⟩:=I.base.there b o e hx;exact ⟨o',(hs.2 b (v6 (yf (v3 e) (I.ok.cab x c hfn hc)))).trans e1⟩
  .by_cases hj:j=i
   .subst hj;rw [hi] at e1;cases e1;rw [List.getElem?_set_self hiσ] at e2;cases e2;exact ⟨u,r,.inr ⟨.inl hk,c,hc,hc'⟩⟩
   .rw [List.getElem?_set_ne (Ne.symm hj)] at e2;obtain ⟨u',r',q⟩:=hl j y v' e1 e2 e3;refine ⟨u',r',?_⟩;rcases q with q | ⟨k,c',e,z'⟩
    .exact .inl q
    .refine .inr ⟨k,c',e,z'.sameBut hs ?_⟩;rintro rfl;exact hj (JC hN e1 (I.ok.inj _ _ _ e hc ▸ hi))
  .by_cases hcc:c'=c
   .subst hcc;exact ⟨_,hc'⟩
   .obtain ⟨w2,z2⟩:=I.cell y c' e;exact ⟨w2,z2.sameBut hs hcc⟩
  .obtain ⟨e,n,ne,nf,d⟩:=I.pin p hp;refine ⟨(hs.2 p.1 ?_).trans e,n,ne,nf,d⟩;intro q;rw [q,hoc] at e;have q':oc=p.2:=jb e;exact d w' (by rw [<- q'];exact hocd)
def TX {M:Model} (I:Inv X pins σ H s) (hN:X.N.Nodup) (hi:X.N[i]?=some x) (hx:Loc X.env.scope x) (r:RelV v u)
  (h:∀ s',Inv X pins (σ.set i (some v)) H s'->Q () s') (hf:X.fn x=true\/X.env.scope.names.lookup x=some .local:=by first | exact .inl rfl | exact .inr rfl | assumption):wpAny M A (storeName X.env x u) Q E s :=
 Ef I hN hi hx r (fun s' I' _=>h s' I') hf
theorem Inv.call' (I:Inv X pins σ H s) (ho:s'.os=s.os) (u:Un (frs X.stack) ch H H' s.heap s'.heap) (hok:HOk X.prog X.w H' s'.heap) (hg:AllBare s'.gens)
  (hch:∀ b∈ch,(b∈X.ex\/X.s₀.heap.objs.size<=b)/\b≠X.env.locals/\(∀ x c,X.env.cells.lookup x=some c->c≠b)/\∀ p∈X.pn++pins,p.1≠b):Inv X pins σ H' s':=by
 obtain ⟨h',g',d',t',o'⟩:=s';have e:o'=s.os:=ho;subst e;exact I.call (g':=g') (t':=t') (d':=d') u hok hg hch
end
abbrev XK:=Value->vk->Hp->Prop
abbrev St:=List (Option V)
abbrev VK:=V->Hp->Prop
abbrev TE:=St->Hp->VK->Prop
abbrev TT:=St->Hp->(Bool->Hp->Prop)->Prop
abbrev TA:=St->Hp->(List V->Hp->Prop)->Prop
structure Ends where
 nx:St->Hp->Prop
 rt:VK
 bk:St->Hp->Prop:=fun _ _=>False
 ct:St->Hp->Prop:=fun _ _=>False
noncomputable abbrev TS:=Ends->St->Hp->Prop
def EP (X:Cx) (pins:w4) (σ:St) (Q:VK) (u:Value) (s':Shared):Prop:=∃ v H',Inv X pins σ H' s'/\RelV v u/\Q v H'
def TP (X:Cx) (pins:w4) (σ:St) (Q:Bool->Hp->Prop) (b:Bool) (s':Shared):Prop:=∃ H',Inv X pins σ H' s'/\Q b H'
def AP (X:Cx) (pins:w4) (σ:St) (Q:List V->Hp->Prop) (us:zw) (s':Shared):Prop:=∃ vs H',Inv X pins σ H' s'/\Vals vs us/\Q vs H'
def SP (X:Cx) (pins:w4) (D:Ends) (f:Flow) (s':Shared):Prop :=
 match f with
 | .next=>∃ σ' H',Inv X pins σ' H' s'/\D.nx σ' H'
 | .brk=>∃ σ' H',Inv X pins σ' H' s'/\D.bk σ' H'
 | .cont=>∃ σ' H',Inv X pins σ' H' s'/\D.ct σ' H'
 | .ret u=>∃ v σ' H',Inv X pins σ' H' s'/\RelV v u/\D.rt v H'
def PE (X:Cx) (e:Expr) (t:TE):Prop :=
 ∀ (pins:w4) (s:Shared) (σ:St) (H:Hp) (Q:VK),Inv X pins σ H s->t σ H Q->wpAny (model X.prog X.w) X.A (eval e X.env) (EP X pins σ Q) X.xe s
def PT (X:Cx) (e:Expr) (t:TT):Prop :=
 ∀ (pins:w4) (s:Shared) (σ:St) (H:Hp) (Q:Bool->Hp->Prop),Inv X pins σ H s->t σ H Q->wpAny (model X.prog X.w) X.A (isTrue e X.env (eval e X.env)) (TP X pins σ Q) X.xe s
def PW (X:Cx) (e:Expr) (t:TT):Prop :=
 ∀ (whole:Sem Value) (pins:w4) (s:Shared) (σ:St) (H:Hp) (Q:Bool->Hp->Prop),Inv X pins σ H s->t σ H Q->wpAny (model X.prog X.w) X.A (isTrue e X.env whole) (TP X pins σ Q) X.xe s
variable {X:Cx}{e:Expr}
theorem PW.pt {t:TT} (h:PW X e t):PT X e t:=h _
def PA (X:Cx) (es:ve) (t:TA):Prop :=
 ∀ (pos:Pos) (pins:w4) (s:Shared) (σ:St) (H:Hp) (Q:List V->Hp->Prop),Inv X pins σ H s->t σ H Q->wpAny (model X.prog X.w) X.A (spliced (backTo pos (starEach es X.env))) (AP X pins σ Q) X.xe s
def PS (X:Cx) (st:Stmt) (t:TS):Prop :=
 ∀ (pins:w4) (s:Shared) (σ:St) (H:Hp) (D:Ends),Inv X pins σ H s->t D σ H->wpAny (model X.prog X.w) X.A (exec st X.env) (SP X pins D) X.xe s
def PSs (X:Cx) (st:vi) (t:TS):Prop :=
 ∀ (pins:w4) (s:Shared) (σ:St) (H:Hp) (D:Ends),Inv X pins σ H s->t D σ H->wpAny (model X.prog X.w) X.A (execs st X.env) (SP X pins D) X.xe s
variable {s:Shared}
theorem thn {α:Type}{t:Sem α}{Q Q':α->Shared->Prop}{M:Model} (h:wpAny M A t Q E s) (hQ:∀ a s,Q a s->Q' a s):wpAny M A t Q' E s:=wpAny_mono h hQ fun _ _ x=>x
variable {pins:w4}{σ:St}{pos:Pos}{op:CmpOp}{t:TE}
section
variable {X:Cx}
def bin {a b:Expr}{ta tb:TE} (ha:PE X a ta) (hb:PE X b tb) {R:V->V->Hp->Prop} (I:Inv X pins σ H s) (h:ta σ H fun x H1=>tb σ H1 fun y H2=>R x y H2)
  {α:Type}{Q:α->Shared->Prop}{f:Value->Value->Sem α}
  (hf:∀ v u s2 x y H2,Inv X pins σ H2 s2->RelV x v->RelV y u->R x y H2->wpAny (model X.prog X.w) X.A (f v u) Q X.xe s2) :
  wpAny (model X.prog X.w) X.A (eval a X.env) (fun v s₁=>wpAny (model X.prog X.w) X.A (eval b X.env) (fun u s₂=>wpAny (model X.prog X.w) X.A (f v u) Q X.xe s₂) X.xe s₁) X.xe s:=by
 refine thn (ha pins s σ H _ I h) fun v s1 ⟨x,H1,I1,r1,q1⟩=>?_
 refine thn (hb pins s1 σ H1 _ I1 q1) fun u s2 ⟨y,H2,I2,r2,q2⟩=>?_
 exact hf v u s2 x y H2 I2 r1 r2 q2
def Z5 (i:Nat):TE:=fun σ H Q=>∃ v,σ[i]?=some (some v)/\Q v H
def tC (v:V):TE:=fun _ H Q=>Q v H
def gM (hN:X.N[i]?=some x) (hv:Vis X.env.scope x) (hd:(x == ("__debug__":Str))=false:=by decide) (hcd:(x == ("__classdict__":Str))=false:=by decide):PE X (.Name x pos) (Z5 i):=by
 intro pins s σ H Q I h;obtain ⟨v,e,h⟩:=h;obtain ⟨m,hn,hl⟩:=I.loc;obtain ⟨u,r,l⟩:=hl i x v hN e hv;have fin:EP X pins σ Q u s:=⟨v,H,I,r,h⟩;rcases l with ⟨hk,hm⟩ | ⟨hk,c,hc,hcell⟩
 .exact wpAny_Name (wpAny_loadName_local I.ok.kind hk hn hm fin) hd
 .rcases hk with hk | hk
  .exact wpAny_Name (wpAny_loadName_cell I.ok.kind hk hc hcell fin) hd
  .exact wpAny_Name (wpAny_loadName_free I.ok.kind hk hc hcell fin hcd) hd
theorem aa7 {i j pos}:PE X (.Constant (.int i) j pos) (tC (.int i)):=fun _ _ _ H _ I h=>wpAny_Constant_int ⟨.int i,H,I.tok _,⟨_,rfl⟩,h⟩
theorem acg {b j pos}:PE X (.Constant (.bool b) j pos) (tC (.bl b)):=fun _ _ _ H _ I h=>Constant_bool ⟨.bl b,H,I,rfl,h⟩
theorem aai {j pos}:PE X (.Constant .none j pos) (tC .non):=fun _ _ _ H _ I h=>Constant_none ⟨.non,H,I,rfl,h⟩
theorem Z7 {x j pos}:PE X (.Constant (.str x) j pos) (tC (.str x)):=fun _ _ _ H _ I h=>Calls.Constant_str ⟨.str x,H,I.tok _,⟨_,rfl⟩,h⟩
def Gl (X:Cx) (x:Str):Prop:=X.env.kindOf x=some .globalImplicit
def yj {Q:zn} (I:Inv X pins σ H s) (hg:Gl X x) (hm:X.mg x=some u) (h:Q u s)
  (hd:(x == ("__debug__":Str))=false:=by decide):wpAny (model X.prog X.w) X.A (eval (.Name x pos) X.env) Q E s :=
 Calls.Name_function_global I.ok.kind hg (Calls.loadGlobal_global (by rw [I.ok.glob];exact I.mod.glob.keeps I.bk) hm h) hd
def fV {Q:zn} (I:Inv X pins σ H s) (hg:Gl X x) (hm:X.mg x=none) (hv:bootBuiltins x=some u) (h:Q u s)
  (hn:x ≠ "__name__":=by decide) (hd:(x == ("__debug__":Str))=false:=by decide):wpAny (model X.prog X.w) X.A (eval (.Name x pos) X.env) Q E s:=by
 obtain ⟨mb,h1,h2⟩:=I.mod.blt;exact Calls.Name_function_global I.ok.kind hg (Calls.loadGlobal_builtin (by rw [I.ok.glob];exact I.mod.glob.keeps I.bk) hm (by rw [I.ok.blt];exact h1.keeps I.bk) ((h2 x hn).trans hv) h) hd
def Lw (hg:Gl X x) (hm:X.mg x=some u) (r:RelV v u) (hd:(x == ("__debug__":Str))=false:=by decide):PE X (.Name x pos) (tC v) :=
 fun _ _ _ H _ I h=>yj I hg hm ⟨v,H,I,r,h⟩ hd
def tU (hg:Gl X x) (hm:X.mg x=none) (hv:bootBuiltins x=some u) (r:RelV v u) (hn:x ≠ "__name__":=by decide) (hd:(x == ("__debug__":Str))=false:=by decide):PE X (.Name x pos) (tC v) :=
 fun _ _ _ H _ I h=>fV I hg hm hv ⟨v,H,I,r,h⟩ hn hd
variable {a b:Expr}{ta tb:TE}{pos:Pos}
def PC (X:Cx) (op:CmpOp) (a b:Expr) (t:TE):Prop :=
 ∀ (pins:w4) (s:Shared) (σ:St) (H:Hp) (Q:VK),Inv X pins σ H s->t σ H Q ->
  wpAny (model X.prog X.w) X.A (eval a X.env) (fun v s₁=>wpAny (model X.prog X.w) X.A (eval b X.env) (fun u s₂=>wpAny (model X.prog X.w) X.A (compareOp op v u) (EP X pins σ Q) X.xe s₂) X.xe s₁) X.xe s
def tB (t:TE):TT:=fun σ H Q=>t σ H fun x H1=>∃ c,x=.bl c/\Q c H1
def ac8 (h:PC X op a b t) (h1:behindInMarks op b=false:=by first | exact nobehind _ (by decide) (by decide) | rfl):PT X (.Compare a [op] [b] pos) (tB t):=by
 intro pins s σ H Q I hw;refine wpAny_isTrue_Compare1 (thn (h pins s σ H _ I hw) fun v s1 h1=>thn h1 fun u s2 h2=>thn h2 fun c s3 ⟨x,H1,I1,r1,q1⟩=>?_) h1;obtain ⟨d,rfl,q⟩:=q1;cases r1;exact y9 ⟨H1,I1,q⟩
def Sv (h:PE X e t) (he:∀ whole,isTrue e X.env whole=(do let v <- whole;standAt e.pos;holding [v] (truthy v)):=by intro _;rfl):PT X e (tB t):=by
 intro pins s σ H Q I hw;refine isTrue_plain (thn (h pins s σ H _ I hw) fun v s1 ⟨x,H1,I1,r1,q1⟩=>?_) (he _);obtain ⟨d,rfl,q⟩:=q1;cases r1;exact y9 ⟨H1,I1,q⟩
variable {tA tB':TT}{rest:ve}
def ac2 (t u:TT):TT:=fun σ H Q=>t σ H fun c H1=>if c=true then u σ H1 Q else Q false H1
def tOr (t u:TT):TT:=fun σ H Q=>t σ H fun c H1=>if c=true then Q true H1 else u σ H1 Q
def acX (t:TT):TT:=fun σ H Q=>t σ H fun c H1=>Q (!c) H1
def Xj (ha:PT X a tA):PW X (.BoolOp .And [a] pos) tA:=by
 intro wh pins s σ H Q I h;refine isTrue_and (thn (ha pins s σ H Q I h) fun c s1 e=>?_);cases c with
 | true=>exact isTrue_and_nil e
 | false=>exact e
def aaS (ha:PT X a tA):PW X (.BoolOp .Or [a] pos) tA:=by
 intro wh pins s σ H Q I h;refine isTrue_or (thn (ha pins s σ H Q I h) fun c s1 e=>?_);cases c with
 | false=>exact isTrue_or_nil e
 | true=>exact e
def aa1 (ha:PT X a tA) (hb:PW X (.BoolOp .And (b::rest) pos) tB'):PW X (.BoolOp .And (a::b::rest) pos) (ac2 tA tB'):=by
 intro wh pins s σ H Q I h;refine isTrue_and (thn (ha pins s σ H _ I h) fun c s1 ⟨H1,I1,q1⟩=>?_);cases c with
 | true=>exact hb wh pins s1 σ H1 Q I1 q1
 | false=>exact ⟨H1,I1,q1⟩
def abO (ha:PT X a tA) (hb:PW X (.BoolOp .Or (b::rest) pos) tB'):PW X (.BoolOp .Or (a::b::rest) pos) (tOr tA tB'):=by
 intro wh pins s σ H Q I h;refine isTrue_or (thn (ha pins s σ H _ I h) fun c s1 ⟨H1,I1,q1⟩=>?_);cases c with
 | true=>exact ⟨H1,I1,q1⟩
 | false=>exact hb wh pins s1 σ H1 Q I1 q1
def Ru (ha:PT X a tA):PT X (.UnaryOp .Not a pos) (acX tA):=by
 intro pins s σ H Q I h;exact isTrue_not (ha pins s σ H (fun c H1=>Q (!c) H1) I h)
def acf (ta tb:TE):TE:=fun σ H Q=>ta σ H fun x H1=>∃ c,x=.bl c/\if c=true then tb σ H1 Q else Q (.bl false) H1
def acN (ta tb:TE):TE:=fun σ H Q=>ta σ H fun x H1=>∃ c,x=.bl c/\if c=true then Q (.bl true) H1 else tb σ H1 Q
def abU (ta:TE):TE:=fun σ H Q=>ta σ H fun x H1=>∃ c,x=.bl c/\Q (.bl (!c)) H1
theorem Qi {op} (h:PE X a t):PE X (.BoolOp op [a] pos) t:=fun pins s σ H Q I hw=>BoolOp_one (h pins s σ H Q I hw)
def aa5 (ha:PE X a ta) (hb:PE X (.BoolOp .And (b::rest) pos) tb):PE X (.BoolOp .And (a::b::rest) pos) (acf ta tb):=by
 intro pins s σ H Q I h;refine BoolOp_and (thn (ha pins s σ H _ I h) fun v s1 ⟨x,H1,I1,r1,q1⟩=>?_);obtain ⟨c,rfl,q1⟩:=q1;cases r1;refine y9 ?_;cases c with
 | true=>exact hb pins s1 σ H1 Q I1 q1
 | false=>exact ⟨.bl false,H1,I1,rfl,q1⟩
def acp (ha:PE X a ta) (hb:PE X (.BoolOp .Or (b::rest) pos) tb):PE X (.BoolOp .Or (a::b::rest) pos) (acN ta tb):=by
 intro pins s σ H Q I h;refine BoolOp_or (thn (ha pins s σ H _ I h) fun v s1 ⟨x,H1,I1,r1,q1⟩=>?_);obtain ⟨c,rfl,q1⟩:=q1;cases r1;refine y9 ?_;cases c with
 | false=>exact hb pins s1 σ H1 Q I1 q1
 | true=>exact ⟨.bl true,H1,I1,rfl,q1⟩
def aaZ (ha:PE X a ta):PE X (.UnaryOp .Not a pos) (abU ta):=by
 intro pins s σ H Q I h;refine UnaryOp_ (thn (ha pins s σ H _ I h) fun v s1 ⟨x,H1,I1,r1,q1⟩=>?_);obtain ⟨c,rfl,q1⟩:=q1;cases r1;exact not_of (y9 ⟨.bl (!c),H1,I1,rfl,q1⟩)
end
def SqL (K:zt) (H:Hp) (a:Addr) (xs:List V):Prop :=
 Rd H a (.lst xs) \/
  ∃ (o:Obj) (its:vj) (n:Nat),K.lookup a=some o /\ o.cls=.type "list" /\ o.dict=none /\ o.data=.seq its n /\ its.size <= sizeLine /\ Vals xs its.toList
def SqT (K:zt) (H:Hp) (a:Addr) (xs:List V):Prop :=
 Rd H a (.tup xs) \/
  ∃ (o:Obj) (its:vj) (n:Nat),K.lookup a=some o /\ o.cls=.type "tuple" /\ o.data=.seq its n /\ its.size <= sizeLine /\ Vals xs its.toList
noncomputable def acB:Value->Option V
 | .none=>some .non
 | .bool b=>some (.bl b)
 | .int i _=>some (.int i)
 | .str x _=>some (.str x)
 | .bytes b _=>some (.byt b)
 | .float b _=>some (.flt b)
 | .ref a=>some (.ref a)
 | .type n=>some (.ty n)
 | _=>none
theorem RelV.abs {x:V} (r:RelV x u):acB u=some x:=by
 cases x with
 | non=>cases r;rfl
 | bl _=>cases r;rfl
 | int _=>obtain ⟨t,rfl⟩:=r;rfl
 | str _=>obtain ⟨t,rfl⟩:=r;rfl
 | byt _=>obtain ⟨t,rfl⟩:=r;rfl
 | flt _=>obtain ⟨t,rfl⟩:=r;rfl
 | ref _=>cases r;rfl
 | ty _=>cases r;rfl
variable {y:V}
theorem RelV.inj {x:V} (r:RelV x u) (q:RelV y u):x=y:=jb (r.abs.symm.trans q.abs)
theorem Vals.inj:∀ {xs ys:List V}{us:zw},Vals xs us->Vals ys us->xs=ys
 | _,_,_,.nil,.nil=>rfl
 | _,_,_,.cons r t,.cons r' t'=>by rw [r.inj r',Vals.inj t t']
section
variable {X:Cx}{pins:w4}{σ:St}{H:Hp}{s:Shared}{a:Addr}{xs ys:List V}
theorem SqL.of (h:H a=some (.lst xs)):SqL K H a xs:=.inl (.inl h)
theorem SqT.of (h:H a=some (.tup xs)):SqT K H a xs:=.inl (.inl h)
theorem Inv.list (I:Inv X pins σ H s) (h:SqL X.K H a xs):∃ its:zw,Vals xs its/\PlainL s.heap a its.toArray/\xs.length<=sizeLine:=by
 rcases h with h | ⟨o,its,n,hk,hc,hd,hs,hz,r⟩
 .obtain ⟨z,its,n,r,e⟩:=h.ok I.hok;exact ⟨its,r,⟨_,n,e,rfl,rfl,rfl⟩,z⟩
 .refine ⟨its.toList,r,⟨o,n,I.kIn a o hk,hc,hd,by simpa using hs⟩,?_⟩;have e:=r.length;simp only [Array.length_toList] at e;omega
theorem Inv.tuple (I:Inv X pins σ H s) (h:SqT X.K H a xs):∃ its:zw,Vals xs its/\IsTup s.heap a its.toArray/\xs.length<=sizeLine:=by
 rcases h with h | ⟨o,its,n,hk,hc,hs,hz,r⟩
 .obtain ⟨z,its,r,p⟩:=h.ok I.hok;exact ⟨its,r,p,z⟩
 .refine ⟨its.toList,r,⟨o,I.kIn a o hk,hc,n,by simpa using hs⟩,?_⟩;have e:=r.length;simp only [Array.length_toList] at e;omega
theorem Inv.list_inj (I:Inv X pins σ H s) (h:SqL X.K H a xs) (h':SqL X.K H a ys):xs=ys:=by
 obtain ⟨its,r,⟨o,n,e,_,_,d⟩,_⟩:=I.list h;obtain ⟨its',r',⟨o',n',e',_,_,d'⟩,_⟩:=I.list h';rw [e] at e';cases e';rw [d] at d';injection d' with d1 _;have:its=its':=by simpa using congrArg Array.toList d1
 subst this;exact r.inj r'
theorem Inv.tuple_inj (I:Inv X pins σ H s) (h:SqT X.K H a xs) (h':SqT X.K H a ys):xs=ys:=by
 obtain ⟨its,r,⟨o,e,_,n,d⟩,_⟩:=I.tuple h;obtain ⟨its',r',⟨o',e',_,n',d'⟩,_⟩:=I.tuple h';rw [e] at e';cases e';rw [d] at d';injection d' with d1 _;have:its=its':=by simpa using congrArg Array.toList d1
 subst this;exact r.inj r'
end
noncomputable abbrev Cx.wish (X:Cx) (E:zn):Cx:={ X with xe:=E }
noncomputable abbrev Cx.nox (X:Cx):Cx:=X.wish fun _ _=>False
theorem Cx.Ok.wish (ok:X.Ok) (E:zn):(X.wish E).Ok :=
 ⟨ok.mod,ok.kind,ok.glob,ok.blt,ok.above,ok.inj,ok.has,ok.cab,ok.hd,ok.frames,ok.stk,ok.exf,ok.bs,ok.bsz,ok.noex,ok.exfs,ok.funs,ok.frf,ok.tab⟩
theorem Cx.Ok.unwish (ok:(X.wish E).Ok):X.Ok :=
 ⟨ok.mod,ok.kind,ok.glob,ok.blt,ok.above,ok.inj,ok.has,ok.cab,ok.hd,ok.frames,ok.stk,ok.exf,ok.bs,ok.bsz,ok.noex,ok.exfs,ok.funs,ok.frf,ok.tab⟩
section
variable {X:Cx}{pins:w4}{σ:St}{H:Hp}{s:Shared}{E:zn}
theorem Inv.wish (I:Inv X pins σ H s) (E:zn):Inv (X.wish E) pins σ H s:=⟨I.ok.wish E,I.os,I.bare,I.base,I.loc,I.cell,I.free,I.freeC,I.pin,I.hok,I.len⟩
theorem Inv.unwish (I:Inv (X.wish E) pins σ H s):Inv X pins σ H s:=⟨I.ok.unwish,I.os,I.bare,I.base,I.loc,I.cell,I.free,I.freeC,I.pin,I.hok,I.len⟩
theorem SP.unwish {D:Ends}{f:Flow} (h:SP (X.wish E) pins D f s'):SP X pins D f s':=by
 cases f with
 | next=>obtain ⟨σ',H',I,q⟩:=h;exact ⟨σ',H',I.unwish,q⟩
 | brk=>obtain ⟨σ',H',I,q⟩:=h;exact ⟨σ',H',I.unwish,q⟩
 | cont=>obtain ⟨σ',H',I,q⟩:=h;exact ⟨σ',H',I.unwish,q⟩
 | ret u=>obtain ⟨v,σ',H',I,r,q⟩:=h;exact ⟨v,σ',H',I.unwish,r,q⟩
theorem PSs.nox {st:vi}{t:TS} (h:PSs X.nox st t):PSs X st t:=fun pins s σ H D I hw =>
 wpAny_mono (h pins s σ H D (I.wish _) hw) (fun _ _ q=>q.unwish) fun _ _ z=>jd z
end
variable {c:Expr}{tc:TT}
section
variable {X:Cx}{st:Stmt}{rest:vi}{t u:TS}{e:Expr}{te:TE}{pos:Pos}
def ab7:TS:=fun D σ H=>D.nx σ H
def acC (t u:TS):TS:=fun D σ H=>t { D with nx:=u D } σ H
theorem Dw:PSs X [] ab7:=fun _ _ σ H _ I h=>wpAny_execs_nil ⟨σ,H,I,h⟩
def uw (h1:PS X st t) (h2:PSs X rest u):PSs X (st::rest) (acC t u):=by
 intro pins s σ H D I h;refine wpAny_execs_cons (thn (h1 pins s σ H { D with nx:=u D } I h) fun f s1 q=>?_);cases f with
 | next =>
  obtain ⟨σ',H',I',q⟩:=q;exact h2 pins s1 σ' H' D I' q
 | ret v=>exact q
 | brk=>exact q
 | cont=>exact q
def Dp (h1:PS X st t):PSs X [st] t:=by
 intro pins s σ H D I h;refine wpAny_execs_cons (thn (h1 pins s σ H D I h) fun f s1 q=>?_);cases f with
 | next=>exact wpAny_execs_nil q
 | ret v=>exact q
 | brk=>exact q
 | cont=>exact q
theorem Inv.quiet (I:Inv X pins σ H s):interactive X.env=false:=by simp [interactive,I.ok.kind]
def acr (te:TE):TS:=fun D σ H=>te σ H fun _ H1=>D.nx σ H1
def lK (he:PE X e te) (hs:swapsWith e none pos.line X.env=pure false:=by rfl):PS X (.Expr e pos) (acr te):=by
 intro pins s σ H D I h;exact wpAny_Expr_any (thn (he pins s σ H _ I h) fun v s1 ⟨x,H1,I1,r1,q1⟩=>⟨σ,H1,I1,q1⟩) I.quiet hs
def acZ (te:TE):TS:=fun D σ H=>te σ H D.rt
def SQ (he:PE X e te):PS X (.Return (some e) pos) (acZ te):=by
 intro pins s σ H D I h;exact wpAny_Return_some (thn (he pins s σ H _ I h) fun v s1 ⟨x,H1,I1,r1,q1⟩=>⟨x,σ,H1,I1,r1,q1⟩)
def abX:TS:=fun D _ H=>D.rt .non H
theorem XF:PS X (.Return none pos) abX:=fun _ _ σ H _ I h=>wpAny_Return_none ⟨.non,σ,H,I,rfl,h⟩
def ac0 (c:TT) (t u:TS):TS:=fun D σ H=>c σ H fun b H1=>if b=true then t D σ H1 else u D σ H1
def W2 {a b:vi} (hc:PT X c tc) (ha:PSs X a t) (hb:PSs X b u):PS X (.If c a b pos) (ac0 tc t u):=by
 intro pins s σ H D I h;refine wpAny_If (thn (hc pins s σ H _ I h) fun d s1 ⟨H1,I1,q1⟩=>?_);cases d with
 | true=>exact ha pins s1 σ H1 D I1 q1
 | false=>exact hb pins s1 σ H1 D I1 q1
def Hi:TS:=fun _ _ _=>False
theorem Uk:PS X st Hi:=fun _ _ _ _ _ _ h=>h.elim
theorem Fl {sts:vi}:PSs X sts Hi:=fun _ _ _ _ _ _ h=>h.elim
end
abbrev TG:=V->St->Hp->(St->Hp->Prop)->Prop
abbrev TGs:=List V->St->Hp->(St->Hp->Prop)->Prop
def PG (X:Cx) (target:Expr) (t:TG):Prop :=
 ∀ (pins:w4) (s:Shared) (σ:St) (H:Hp) (v:V) (u:Value) (Q:St->Hp->Prop),Inv X pins σ H s->RelV v u->t v σ H Q ->
  wpAny (model X.prog X.w) X.A (assign target X.env u) (fun _ s'=>∃ σ' H',Inv X pins σ' H' s'/\Q σ' H') X.xe s
def PGs (X:Cx) (ts:ve) (t:TGs):Prop :=
 ∀ (pins:w4) (s:Shared) (σ:St) (H:Hp) (vs:List V) (us:zw) (Q:St->Hp->Prop),Inv X pins σ H s->Vals vs us->t vs σ H Q ->
  wpAny (model X.prog X.w) X.A (assignInOrder ((assignEach ts X.env).map (·.2)) us) (fun _ s'=>∃ σ' H',Inv X pins σ' H' s'/\Q σ' H') X.xe s
abbrev Oi:=V->V->V->Hp->(Hp->Prop)->Prop
def Oj (X:Cx) (t:Oi):Prop :=
 ∀ (pins:w4) (s:Shared) (σ:St) (H:Hp) (o i v:V) (ov iv u:Value) (Q:Hp->Prop),Inv X pins σ H s->RelV o ov->RelV i iv->RelV v u->t o i v H Q ->
  wpAny (model X.prog X.w) X.A (setItem ov iv u) (fun _ s'=>∃ H',Inv X pins σ H' s'/\Q H') X.xe s
variable {es:ve}{k n:Nat}{tg:Expr}{g:TG}
section
variable {X:Cx}{pos:Pos}
def Bg (i:Nat):TG:=fun v σ H Q=>Q (σ.set i (some v)) H
def Dy (hN:X.N.Nodup) (hi:X.N[i]?=some x) (hx:Loc X.env.scope x) (hf:X.fn x=true\/X.env.scope.names.lookup x=some .local:=by first | exact .inl rfl | exact .inr rfl | assumption):PG X (.Name x pos) (Bg i):=by
 intro pins s σ H v u Q I r h;exact wpAny_assign_Name (TX I hN hi hx r (fun s' I'=>⟨_,H,I',h⟩) hf)
def ZW:TGs:=fun vs σ H Q=>vs=[]/\Q σ H
def Nz (t:TG) (u:TGs):TGs:=fun vs σ H Q=>∃ v r,vs=v::r/\t v σ H fun σ' H'=>u r σ' H' Q
def Xn:PGs X [] ZW:=by
 intro pins s σ H vs us Q I r h;obtain ⟨e,h⟩:=h;subst e;cases r;exact assignInOrder_nil ⟨σ,H,I,h⟩
def Hh {t:TG}{u:TGs} (h1:PG X e t) (h2:PGs X es u)
  (hs:(assignEach (e::es) X.env).map (·.2)=assign e X.env::(assignEach es X.env).map (·.2):=by rfl):PGs X (e::es) (Nz t u):=by
 intro pins s σ H vs us Q I r h;obtain ⟨v,vr,e1,h⟩:=h;subst e1;cases r with
 | cons r rr =>
  rw [hs];refine assignInOrder_cons (thn (h1 pins s σ H _ _ _ I r h) fun _ s1 ⟨σ1,H1,I1,q1⟩=>?_);exact h2 pins s1 σ1 H1 _ _ Q I1 rr q1
def Z1 (K:zt) (n:Nat) (t:TGs):TG:=fun v σ H Q=>∃ a xs,v=.ref a/\SqT K H a xs/\xs.length=n/\t xs σ H Q
def abb {t:TGs} (hc:X.calm=true) (h:PGs X es t)
  (hn:(assignEach es X.env).length=n:=by rfl) (hst:(assignEach es X.env).findIdx? (·.1)=none:=by rfl):PG X (.Tuple es k pos) (Z1 X.K n t):=by
 intro pins s σ H v u Q I r hw;obtain ⟨a,xs,e1,hq,hl,hw⟩:=hw;subst e1;cases r;obtain ⟨its,rv,ht,hz⟩:=I.tuple hq;refine assign_Tuple_tuple (I.ok.hd hc) ht (by simp [hn,<- hl,rv.length]) hst fun h' hx=>?_
 have I1:Inv X pins σ H { s with heap:=h' }:=I.kept (t':=s.toks) fun b o e=>hx b o (v6 (v3 e)) e
 exact h pins _ σ H xs _ Q I1 (by simpa using rv) hw
def acG (to ti:TE) (t:Oi):TG:=fun v σ H Q=>to σ H fun o H1=>ti σ H1 fun i H2=>t o i v H2 fun H3=>Q σ H3
def abw {o i:Expr}{to ti:TE}{t:Oi} (ho:PE X o to) (hi:PE X i ti) (hs:Oj X t)
  (ha:∀ v,assign (.Subscript o i pos) X.env v=(do
   let ov <- holding [v] (eval o X.env)
   let iv <- holding [v,ov] (eval i X.env)
   standAt pos
   holding [v,ov,iv] (setItem ov iv v)
   release [v,ov,iv] []):=by intro _;rfl):PG X (.Subscript o i pos) (acG to ti t):=by
 intro pins s σ H v u Q I r h;rw [ha];refine vw (wpAny_holding (thn (ho pins s σ H _ I h) fun ov s1 ⟨x,H1,I1,r1,q1⟩=>?_));refine vw (wpAny_holding (thn (hi pins s1 σ H1 _ I1 q1) fun iv s2 ⟨y,H2,I2,r2,q2⟩=>?_));refine vw (wpAny_standAt (vw (wpAny_holding (thn (hs pins s2 σ H2 x y v ov iv u _ I2 r1 r2 r q2) fun _ s3 ⟨H3,I3,q3⟩=>?_))));exact wpAny_release ⟨σ,H3,I3,q3⟩
def Wh (te:TE) (g:TG):TS:=fun D σ H=>te σ H fun x H1=>g x σ H1 D.nx
def jt {te:TE} (he:PE X e te) (hg:PG X tg g) (hs:swapsWithSole [tg] e pos.line X.env=pure false:=by rfl) (hw:swappedStores [tg] e X.env=pure none:=by rfl)
  (h1:(assignEach [tg] X.env).map (·.2)=[assign tg X.env]:=by rfl):PS X (.Assign [tg] e pos) (Wh te g):=by
 intro pins s σ H D I h;refine wpAny_Assign_stores (thn (he pins s σ H _ I h) fun v s1 ⟨x,H1,I1,r1,q1⟩=>?_) hs hw;rw [h1];exact thn (hg pins s1 σ H1 x v _ I1 r1 q1) fun _ s2 q=>q
end
variable {body:vi}{tb:TS}
section
variable {X:Cx}{pos:Pos}
def aa2 (c:TT) (tb:TS):TS:=fun D σ H=>∃ W:Nat->St->Hp->Prop,(∃ m,W m σ H)/\∀ m σ H,W m σ H ->
 c σ H fun b H1=>if b=true then ∃ N:St->Hp->Prop,(∀ σ' H',N σ' H'->∃ m',m' < m/\W m' σ' H')/\tb { D with nx:=N,ct:=N,bk:=D.nx } σ H1 else D.nx σ H1
def VD (hp:PassesOwn (model X.prog X.w) X.A X.env X.xe) (hc:PT X c tc) (hb:PSs X body tb):PS X (.While c body [] pos) (aa2 tc tb):=by
 intro pins s σ H D I h;obtain ⟨W,⟨m0,w0⟩,turn⟩:=h;refine wpAny_While (codeAny_whileLoop (fun n s'=>∃ σ' H',Inv X pins σ' H' s'/\W n σ' H') ?_ m0 ⟨σ,H,I,w0⟩);rintro n s1 ⟨σ1,H1,I1,w1⟩;refine wpAny_passesOwn hp (thn (hc pins s1 σ1 H1 _ I1 (turn n σ1 H1 w1)) fun b s2 ⟨H2,I2,q2⟩=>?_);cases b with
 | true =>
  obtain ⟨N,hN,q2⟩:=q2;rw [if_pos rfl];refine wpAny_passesOwn hp (thn (hb pins s2 σ1 H2 _ I2 q2) fun f s3 q3=>?_);cases f with
  | next =>
   obtain ⟨σ3,H3,I3,n3⟩:=q3;obtain ⟨m',hm,w3⟩:=hN σ3 H3 n3;exact ⟨m',hm,σ3,H3,I3,w3⟩
  | cont =>
   obtain ⟨σ3,H3,I3,n3⟩:=q3;obtain ⟨m',hm,w3⟩:=hN σ3 H3 n3;exact ⟨m',hm,σ3,H3,I3,w3⟩
  | brk=>exact q3
  | ret v=>exact q3
 | false =>
  rw [if_neg Bool.false_ne_true];exact wpAny_execs_nil ⟨σ1,H2,I2,q2⟩
end
structure It where
 go:Nat->Hp->Prop
 yld:Nat->Hp->V->Hp->Prop
 stop:Nat->Hp->Prop
def iJ (X:Cx) (pins:w4) (H:Hp) (b:Addr):Prop :=
 H b=none/\b≠X.env.locals/\b ∉ X.fs/\(b∈X.ex\/X.s₀.heap.objs.size<=b)/\(∀ x c,X.env.cells.lookup x=some c->c≠b)/\∀ p∈X.pn++pins,p.1≠b
theorem Inv.fpOk (I:Inv X pins σ H s) (hb:s.heap.objs.size<=b) (hn:H' b=none):iJ X pins H' b:=by
 refine ⟨hn,ya (yf I.lt hb),I.nofs hb,.inr (yb I.sz hb),fun x c e z=>?_,fun p hp z=>?_⟩
 .obtain ⟨v,q⟩:=I.cell x c e;exact absurd (yf q.lt (by rw [z];exact hb)) (yv _)
 .exact absurd (yf (v3 (I.pin p hp).1) (by rw [z];exact hb)) (yv _)
structure Turn (P:Program) (w:World) (K:zt) (tg:Expr) (J:It) (fp:List Addr) (it:Addr) (tn:Nat->Heap->Prop):Prop where
 mem:it∈fp
 obj:∀ i h,tn i h->∀ b∈fp,∃ o,h.get? b=some o/\∀ v,o.data≠.cell v
 keep:∀ i h h',tn i h->(∀ b∈fp,∀ o,h.get? b=some o->h'.get? b=some o)->tn i h'
 item:∀ (X:Cx),X.prog=P->X.w=w->X.K=K->X.calm=true->∀ (i:Nat) (pins:w4) (s:Shared) (σ:St) (H:Hp) (E:zn),Inv X pins σ H s->(∀ b∈fp,iJ X pins H b)->tn i s.heap->J.go i H ->
  wpAny (model P w) X.A (pyNext (.ref it)) (fun r s1=>∃ u,r=some u /\
   wpAny (model P w) X.A (letOwnedTupleGo tg (.ref it) u) (fun _ s2=>∃ x H',Inv X pins σ H' s2/\RelV x u/\J.yld i H x H'/\tn (i+1) s2.heap/\∀ b∈fp,H' b=none) E s1) E s
 done:∀ (X:Cx),X.prog=P->X.w=w->X.K=K->X.calm=true->∀ (i:Nat) (pins:w4) (s:Shared) (σ:St) (H:Hp) (E:zn),Inv X pins σ H s->(∀ b∈fp,iJ X pins H b)->tn i s.heap->J.stop i H ->
  wpAny (model P w) X.A (pyNext (.ref it)) (fun r s1=>r=none/\Inv X pins σ H s1) E s
 self:∀ (A:Around) (i:Nat) (s:Shared) (Q:zn) (E:zn),tn i s.heap->Q (.ref it) s->wpAny (model P w) A (pyIter (.ref it)) Q E s
abbrev TI:=St->Hp->(It->Hp->Prop)->Prop
def PIE (X:Cx) (pins:w4) (σ:St) (tg:Expr) (R:It->Hp->Prop) (itv:Value) (s2:Shared):Prop :=
 ∃ (it:Addr) (fp:List Addr) (tn:Nat->Heap->Prop) (J:It) (H':Hp),itv=.ref it/\Inv X pins σ H' s2/\Turn X.prog X.w X.K tg J fp it tn/\tn 0 s2.heap/\(∀ b∈fp,iJ X pins H' b)/\R J H'
def PI (X:Cx) (tg iter:Expr) (wi:TI):Prop :=
 ∀ (pins:w4) (s:Shared) (σ:St) (H:Hp) (R:It->Hp->Prop),Inv X pins σ H s->wi σ H R ->
  wpAny (model X.prog X.w) X.A (eval iter X.env) (fun v s1=>wpAny (model X.prog X.w) X.A (pyIter v) (PIE X pins σ tg R) X.xe s1) X.xe s
def Bk {M:Model}{o:Obj}{n:String}{vs:vj} (ho:s.heap.get? it=some o) (hc:o.cls=.type n) (hd:o.data=.fields vs)
  (hn:["enumerate","zip","dict_itemiterator","dict_reverseitemiterator","odict_iterator","itertools.zip_longest","itertools.pairwise"].contains n=false) (hQ:Q () s):wpAny M A (letOwnedTupleGo tg (.ref it) u) Q E s:=by
 unfold letOwnedTupleGo;cases tg <;> first
  | exact vx hQ
  | (cases u <;> first
    | exact vx hQ
    | (refine vw (wpAny_load ho ?_)
       rw [hc,hd];show wpAny M A (if (["enumerate","zip","dict_itemiterator","dict_reverseitemiterator","odict_iterator","itertools.zip_longest","itertools.pairwise"].contains n && vs[0]? == some (rawInt _))=true then _ else _) Q E s
       rw [if_neg (by intro h;rw [hn,Bool.false_and] at h;cases h)];exact vx hQ))
noncomputable def Itl (K:zt) (a:Addr):It :=
 ⟨fun i H=>∃ xs x,SqL K H a xs/\xs[i]?=some x,fun i H x H'=>H'=H/\∀ xs,SqL K H a xs->xs[i]?=some x,fun i H=>∃ xs,SqL K H a xs/\xs.length<=i⟩
noncomputable def Itt (K:zt) (a:Addr):It :=
 ⟨fun i H=>∃ xs x,SqT K H a xs/\xs[i]?=some x,fun i H x H'=>H'=H/\∀ xs,SqT K H a xs->xs[i]?=some x,fun i H=>∃ xs,SqT K H a xs/\xs.length<=i⟩
noncomputable def Itr (lo:Int) (n:Nat):It:=⟨fun i _=>i < n,fun i H x H'=>H'=H/\x=.int (lo+i),fun i _=>n<=i⟩
def Qw (a it:Addr):Turn P w K tg (Itl K a) [it] it (fun i h=>h.IsListIter it a i) where
 mem:=by simp
 obj:=fun i h st b hb=>by
  have e:b=it:=by simpa using hb
  subst e;obtain ⟨o,e,c,d⟩:=st;exact ⟨o,e,fun v z=>by rw [d] at z;cases z⟩
 keep:=fun i h h' st k=>st.at fun o e=>k it (by simp) o e
 item:=by
  intro X hP hw hK hc i pins s σ H E I hf st hg;subst hP hw hK;obtain ⟨xs,x,hq,hx⟩:=hg;obtain ⟨its,rv,p,hz⟩:=I.list hq;obtain ⟨u,hu,ru⟩:=rv.get hx;obtain ⟨f0,f1,f2,f3,f4,f5⟩:=hf it (by simp);refine wpAny_pyNext_list_item st p.isList (x:=u) (by simpa using hu) fun h' st' sb=>?_
  have I1:Inv X pins σ H { s with heap:=h' }:=I.turned (t':=s.toks) (fun b o hb e=>(sb.2 b hb).trans e) f0 f1 f3 f4 f5;obtain ⟨o,e,c,d⟩:=id st';exact ⟨u,rfl,Bk (s:={ s with heap:=h' }) e c d (by decide) ⟨x,H,I1,ru,⟨rfl,fun ys hy=>by rw [I.list_inj hy hq];exact hx⟩,st',fun b hb=>(hf b hb).1⟩⟩
 done:=by
  intro X hP hw hK hc i pins s σ H E I hf st hg;subst hP hw hK;obtain ⟨xs,hq,hx⟩:=hg;obtain ⟨its,rv,p,hz⟩:=I.list hq;obtain ⟨f0,f1,f2,f3,f4,f5⟩:=hf it (by simp);have hl:=rv.length;exact wpAny_pyNext_list_end (I.ok.hd hc) st p.isList (by simp;omega) fun h' eb=>⟨rfl,I.turned (t':=s.toks) (fun b o hb e=>eb b o hb e) f0 f1 f3 f4 f5⟩
 self:=fun _ _ _ _ _ st h=>wpAny_pyIter_listiter st h
def Od (a it:Addr):Turn P w K tg (Itt K a) [it] it (fun i h=>h.IsTupleIter it a i) where
 mem:=by simp
 obj:=fun i h st b hb=>by
  have e:b=it:=by simpa using hb
  subst e;obtain ⟨o,e,c,d⟩:=st;exact ⟨o,e,fun v z=>by rw [d] at z;cases z⟩
 keep:=fun i h h' st k=>st.at fun o e=>k it (by simp) o e
 item:=by
  intro X hP hw hK hc i pins s σ H E I hf st hg;subst hP hw hK;obtain ⟨xs,x,hq,hx⟩:=hg;obtain ⟨its,rv,p,hz⟩:=I.tuple hq;obtain ⟨u,hu,ru⟩:=rv.get hx;obtain ⟨f0,f1,f2,f3,f4,f5⟩:=hf it (by simp);refine wpAny_pyNext_tuple_item st (show s.heap.IsTuple a its.toArray from p) (x:=u) (by simpa using hu) fun h' st' sb=>?_
  have I1:Inv X pins σ H { s with heap:=h' }:=I.turned (t':=s.toks) (fun b o hb e=>(sb.2 b hb).trans e) f0 f1 f3 f4 f5;obtain ⟨o,e,c,d⟩:=id st';exact ⟨u,rfl,Bk (s:={ s with heap:=h' }) e c d (by decide) ⟨x,H,I1,ru,⟨rfl,fun ys hy=>by rw [I.tuple_inj hy hq];exact hx⟩,st',fun b hb=>(hf b hb).1⟩⟩
 done:=by
  intro X hP hw hK hc i pins s σ H E I hf st hg;subst hP hw hK;obtain ⟨xs,hq,hx⟩:=hg;obtain ⟨its,rv,p,hz⟩:=I.tuple hq;obtain ⟨f0,f1,f2,f3,f4,f5⟩:=hf it (by simp);have hl:=rv.length;exact wpAny_pyNext_tuple_end (I.ok.hd hc) st (show s.heap.IsTuple a its.toArray from p) (by simp;omega) fun h' eb=>⟨rfl,I.turned (t':=s.toks) (fun b o hb e=>eb b o hb e) f0 f1 f3 f4 f5⟩
 self:=fun _ _ _ _ _ st h=>wpAny_pyIter_tupleiter st h
def Np (it:Addr) (lo:Int) (n:Nat):Turn P w K tg (Itr lo n) [it] it (fun i h=>IsRangeIter h it (lo+(i:Nat) * 1) ((n:Int) - (i:Nat)) 1) where
 mem:=by simp
 obj:=fun i h st b hb=>by
  have e:b=it:=by simpa using hb
  subst e;exact ⟨_,st,fun v z=>by
   have z':Data.fields _=Data.cell v:=z;cases z'⟩
 keep:=fun i h h' st k=>k it (by simp) _ st
 item:=by
  intro X hP hw hK hc i pins s σ H E I hf st hg;subst hP hw hK;obtain ⟨f0,f1,f2,f3,f4,f5⟩:=hf it (by simp);have W:=Walks.range (prog:=X.prog) (w:=X.w) (I.ok.hd hc) it lo 1 n;refine W.item i s _ _ hg st fun v h' tk hv st' kk=>?_
  obtain ⟨t,rfl⟩:=hv;have I1:Inv X pins σ H { s with heap:=h',toks:=tk }:=I.turned (fun b o hb e=>kk b o (by simpa using hb) e) f0 f1 f3 f4 f5;refine ⟨_,rfl,Bk (s:={ s with heap:=h',toks:=tk }) (n:="range_iterator") st' rfl rfl (by decide) ⟨.int (lo+i),H,I1,⟨t,?_⟩,⟨rfl,rfl⟩,st',fun b hb=>(hf b hb).1⟩⟩
  rw [Int.mul_one]
 done:=by
  intro X hP hw hK hc i pins s σ H E I hf st hg;subst hP hw hK;obtain ⟨f0,f1,f2,f3,f4,f5⟩:=hf it (by simp);exact wpAny_pyNext_range_end (I.ok.hd hc) st (by have:n<=i:=hg;omega) fun h' eb=>⟨rfl,I.turned (t':=s.toks) (fun b o hb e=>eb b o hb e) f0 f1 f3 f4 f5⟩
 self:=fun _ _ _ _ _ st h=>wpAny_pyIter_rangeiter st h
variable {l:Expr}{tl:TE}{ta:TA}{p:Pos}{fp:List Addr}
section
variable {X:Cx}{tg:Expr}
def ab9 (K:zt) (tl:TE):TI:=fun σ H R=>tl σ H fun x H1=>∃ a,x=.ref a/\(∃ xs,SqL K H1 a xs)/\R (Itl K a) H1
def acO (K:zt) (tl:TE):TI:=fun σ H R=>tl σ H fun x H1=>∃ a,x=.ref a/\(∃ xs,SqT K H1 a xs)/\R (Itt K a) H1
def Yl (hl:PE X l tl):PI X tg l (ab9 X.K tl):=by
 intro pins s σ H R I h;refine thn (hl pins s σ H _ I h) fun v s1 ⟨x,H1,I1,r1,q1⟩=>?_
 obtain ⟨a,e,⟨xs,hq⟩,q⟩:=q1;subst e;cases r1;obtain ⟨its,rv,p,hz⟩:=I1.list hq;refine wpAny_pyIter_list p.isList ?_;refine ⟨s1.heap.objs.size,[s1.heap.objs.size],_,_,H1,rfl,I1.kept (t':=s1.toks) fun b o e=>vS _ e,Qw a _,⟨_,vT _ rfl,rfl,rfl⟩,fun b hb=>?_,q⟩;have e:b=s1.heap.objs.size:=by simpa using hb
 subst e;exact I1.fpOk (v4 _) (I1.hok.fresh (v4 _))
def aan (hl:PE X l tl):PI X tg l (acO X.K tl):=by
 intro pins s σ H R I h;refine thn (hl pins s σ H _ I h) fun v s1 ⟨x,H1,I1,r1,q1⟩=>?_
 obtain ⟨a,e,⟨xs,hq⟩,q⟩:=q1;subst e;cases r1;obtain ⟨its,rv,p,hz⟩:=I1.tuple hq;refine wpAny_pyIter_tuple (show s1.heap.IsTuple a its.toArray from p) ?_;refine ⟨s1.heap.objs.size,[s1.heap.objs.size],_,_,H1,rfl,I1.kept (t':=s1.toks) fun b o e=>vS _ e,Od a _,⟨_,vT _ rfl,rfl,rfl⟩,fun b hb=>?_,q⟩;have e:b=s1.heap.objs.size:=by simpa using hb
 subst e;exact I1.fpOk (v4 _) (I1.hok.fresh (v4 _))
def G9 {R:It->Hp->Prop}{lo hi:Int}{t u v:Tok}{tk:Nat} (I:Inv X pins σ H s) (h1:-(2 ^ 62)<=lo) (h2:lo < 2 ^ 62) (h3:-(2 ^ 62)<=hi) (h4:hi < 2 ^ 62)
  (q:R (Itr lo (hi - lo).toNat) H):wpAny (model X.prog X.w) X.A (pyIter (.ref s.heap.objs.size)) (PIE X pins σ tg R) E { s with heap:=s.heap.push { cls:=.type "range",data:=.fields #[.int lo t,.int hi u,.int 1 v] },toks:=tk }:=by
 refine wpAny_pyIter_range (IsRange.new ..) (small_one h1 h2 h3 h4) ?_;have I1:Inv X pins σ H { s with heap:=s.heap.push { cls:=.type "range",data:=.fields #[.int lo t,.int hi u,.int 1 v] },toks:=tk }:=I.kept fun b o e=>vS _ e
 refine ⟨(s.heap.push { cls:=.type "range",data:=.fields #[.int lo t,.int hi u,.int 1 v] }).objs.size,[(s.heap.push { cls:=.type "range",data:=.fields #[.int lo t,.int hi u,.int 1 v] }).objs.size],_,_,H,rfl,
  I1.kept (t':=tk) fun b o e=>vS _ e,Np _ lo (hi - lo).toNat,?_,fun b hb=>?_,q⟩
 .have e1:lo+((0:Nat):Int) * 1=lo:=by simp
  have e2:(((hi - lo).toNat:Nat):Int) - ((0:Nat):Int)=Builtin.Range.rangeSize lo hi 1:=by rw [rangeSize_one];split <;> omega
  show IsRangeIter _ _ (lo+((0:Nat):Int) * 1) ((((hi - lo).toNat:Nat):Int) - ((0:Nat):Int)) 1
  rw [e1,e2];exact vT _ rfl
 .have e:b=(s.heap.push { cls:=.type "range",data:=.fields #[.int lo t,.int hi u,.int 1 v] }).objs.size:=by simpa using hb
  subst e;exact I1.fpOk (v4 _) (I1.hok.fresh (v4 _))
def abQ (ta:TA):TI:=fun σ H R=>ta σ H fun vs H1=>∃ j:Int,vs=[.int j]/\-(2 ^ 62)<=j/\j < 2 ^ 62/\R (Itr 0 j.toNat) H1
def abN (ta:TA):TI:=fun σ H R=>ta σ H fun vs H1=>∃ i j:Int,vs=[.int i,.int j]/\(-(2 ^ 62)<=i/\i < 2 ^ 62/\-(2 ^ 62)<=j/\j < 2 ^ 62)/\R (Itr i (j - i).toNat) H1
def Rz {a:Expr} (hg:Gl X "range") (hm:X.mg "range"=none) (ha:PA X [a] ta) (hs:starEach [a] X.env=[(false,eval a X.env)]:=by rfl):PI X tg (.Call (.Name "range" p) [a] [] pos) (abQ ta):=by
 intro pins s σ H R I h;refine Call_ (fV I hg hm boot_range (y8 (thn (ha pos pins s σ H _ I h) fun us s1 ⟨vs,H1,I1,r1,q1⟩=>?_) hs rfl));obtain ⟨j,e,q1,q2,q⟩:=q1;subst e;cases r1 with
 | cons r rr =>
  cases rr;obtain ⟨t,rfl⟩:=r;exact call_range_1 (G9 I1 (by omega) (by omega) q1 q2 (by simpa using q))
def Rt {a b:Expr} (hg:Gl X "range") (hm:X.mg "range"=none) (ha:PA X [a,b] ta) (hs:starEach [a,b] X.env=[(false,eval a X.env),(false,eval b X.env)]:=by rfl) (hs2:starEach [b] X.env=[(false,eval b X.env)]:=by rfl) :
  PI X tg (.Call (.Name "range" p) [a,b] [] pos) (abN ta):=by
 intro pins s σ H R I h;refine Call_ (fV I hg hm boot_range (y8 (thn (ha pos pins s σ H _ I h) fun us s1 ⟨vs,H1,I1,r1,q1⟩=>?_) (by rw [hs,hs2]) (by rw [hs2];rfl)));obtain ⟨i,j,e,⟨q1,q2,q3,q4⟩,q⟩:=q1;subst e;cases r1 with
 | cons r rr =>
  cases rr with
  | cons r' rr =>
   cases rr;obtain ⟨t,rfl⟩:=r;obtain ⟨t',rfl⟩:=r';exact call_range_2 (G9 I1 q1 q2 q3 q4 q)
def acF (wi:TI) (g:TG) (tb:TS):TS:=fun D σ H=>wi σ H fun J H1=>∃ W:Nat->Nat->St->Hp->Prop,(∃ m,W 0 m σ H1)/\∀ i m σ H,W i m σ H ->
 (J.stop i H/\D.nx σ H)\/(J.go i H/\∃ N:St->Hp->Prop,(∀ σ' H',N σ' H'->∃ m',m' < m/\W (i+1) m' σ' H')/\∀ x H',J.yld i H x H'->g x σ H' fun σ2 H2=>tb { D with nx:=N,ct:=N,bk:=D.nx } σ2 H2)
noncomputable def vL (fp:List Addr) (h:Heap):w4:=fp.filterMap fun b=>(h.get? b).map fun o=>(b,o)
theorem nU {o:Obj} (hb:b∈fp) (e:h.get? b=some o):(b,o)∈vL fp h:=List.mem_filterMap.mpr ⟨b,hb,by rw [e];rfl⟩
def S5 {p:Addr × Obj} (hp:p∈vL fp h):p.1∈fp/\h.get? p.1=some p.2:=by
 obtain ⟨b,hb,e⟩:=List.mem_filterMap.mp hp;cases q:h.get? b with
 | none=>rw [q] at e;cases e
 | some o =>
  rw [q] at e;have e':(b,o)=p:=jb e;subst e';exact ⟨hb,q⟩
theorem Inv.pinned (I:Inv X pins σ H s) (hf:∀ b∈fp,iJ X pins H b) (ho:∀ b∈fp,∃ o,s.heap.get? b=some o/\∀ v,o.data≠.cell v):Inv X (pins++vL fp s.heap) σ H s :=
 I.pins_of fun p hp=>(yy.mp hp).elim (fun z=>I.pin p (vF _ z)) fun z=>by
  obtain ⟨hb,e⟩:=S5 z;obtain ⟨f0,f1,f2,_⟩:=hf p.1 hb;obtain ⟨o,e',d⟩:=ho p.1 hb;rw [e] at e';cases e';exact ⟨e,f0,f1,f2,d⟩
theorem Inv.unpinned {pl:w4} (I:Inv X (pins++pl) σ H s):Inv X pins σ H s:=I.pins_of fun p hp=>I.pin p (vF _ (vE _ hp))
def R4 {iter:Expr}{wi:TI} (hp:PassesOwn (model X.prog X.w) X.A X.env X.xe) (hc:X.calm=true) (hi:PI X tg iter wi) (hg:PG X tg g) (hb:PSs X body tb)
  (hs:∀ x,foldedSetIterable iter X.env x=pure x:=by intro _;rfl):PS X (.For tg iter body [] pos) (acF wi g tb):=by
 intro pins s σ H D I h;refine wpAny_For (thn (hi pins s σ H _ I h) fun v s1 h1=>thn h1 fun itv s2 h2=>?_) hs;obtain ⟨it,fp,tn,J,H2,e,I2,T,st2,f2,W,⟨m0,w0⟩,turn⟩:=h2;subst e;have stat:∀ {H':Hp},(∀ b∈fp,H' b=none)->∀ b∈fp,iJ X pins H' b:=fun hn b hb=>⟨hn b hb,(f2 b hb).2⟩
 refine codeAny_forLoop_any (fun n s'=>∃ i σ' H',Inv X pins σ' H' s'/\tn i s'.heap/\(∀ b∈fp,H' b=none)/\W i n σ' H') ?_ m0 ⟨0,σ,H2,I2,st2,fun b hb=>(f2 b hb).1,w0⟩;rintro n s3 ⟨i,σ3,H3,I3,st3,fr3,w3⟩;rcases turn i n σ3 H3 w3 with ⟨stop,qn⟩ | ⟨go,N,hN,step⟩
 .refine wpAny_passesOwn hp (thn (T.done X rfl rfl rfl hc i pins s3 σ3 H3 X.xe I3 (stat fr3) st3 stop) fun r s4 ⟨hr,I4⟩=>?_);subst hr;exact wpAny_execs_nil ⟨σ3,H3,I4,qn⟩
 .refine wpAny_passesOwn hp (thn (T.item X rfl rfl rfl hc i pins s3 σ3 H3 X.xe I3 (stat fr3) st3 go) fun r s4 ⟨u,hr,h4⟩=>?_);subst hr;refine wpAny_passesOwn hp (thn h4 fun _ s5 ⟨x,H5,I5,r5,y5,st5,fr5⟩=>?_);have I5':=I5.pinned (stat fr5) (T.obj _ _ st5);refine wpAny_passesOwn hp (thn (hg _ s5 σ3 H5 x u _ I5' r5 (step x H5 y5)) fun _ s6 ⟨σ6,H6,I6,q6⟩=>?_);refine wpAny_passesOwn hp (thn (hb _ s6 σ6 H6 _ I6 q6) fun f s7 q7=>?_);have again:∀ {σ7:St}{H7:Hp},Inv X (pins++vL fp s5.heap) σ7 H7 s7->N σ7 H7->∃ m,m < n/\∃ i σ' H',Inv X pins σ' H' s7/\tn i s7.heap/\(∀ b∈fp,H' b=none)/\W i m σ' H':=fun {σ7 H7} I7 n7=>by
   obtain ⟨m',hm,w7⟩:=hN σ7 H7 n7;refine ⟨m',hm,i+1,σ7,H7,I7.unpinned,T.keep _ _ _ st5 fun b hb o e=>(I7.pin (b,o) (vF _ (vF _ (nU hb e)))).1,fun b hb=>?_,w7⟩;obtain ⟨o,e,d⟩:=T.obj _ _ st5 b hb;exact (I7.pin (b,o) (vF _ (vF _ (nU hb e)))).2.1
  cases f with
  | next=>obtain ⟨σ7,H7,I7,n7⟩:=q7;exact again I7 n7
  | cont=>obtain ⟨σ7,H7,I7,n7⟩:=q7;exact again I7 n7
  | brk=>obtain ⟨σ7,H7,I7,q7⟩:=q7;exact ⟨σ7,H7,I7.unpinned,q7⟩
  | ret v=>obtain ⟨x7,σ7,H7,I7,r7,q7⟩:=q7;exact ⟨x7,σ7,H7,I7.unpinned,r7,q7⟩
end
abbrev R2:=V->V->Hp->VK->Prop
def OpR (X:Cx) (f:Value->Value->Sem Value) (r:R2):Prop :=
 ∀ (pins:w4) (s:Shared) (σ:St) (H:Hp) (x y:V) (v u:Value) (Q:VK),Inv X pins σ H s->RelV x v->RelV y u->r x y H Q ->
  wpAny (model X.prog X.w) X.A (f v u) (EP X pins σ Q) X.xe s
def UnR (X:Cx) (f:Value->Sem Value) (r:V->Hp->VK->Prop):Prop :=
 ∀ (pins:w4) (s:Shared) (σ:St) (H:Hp) (x:V) (v:Value) (Q:VK),Inv X pins σ H s->RelV x v->r x H Q ->
  wpAny (model X.prog X.w) X.A (f v) (EP X pins σ Q) X.xe s
def gH (X:Cx) (f:Value) (r:List V->Hp->VK->Prop):Prop :=
 ∀ (pins:w4) (s:Shared) (σ:St) (H:Hp) (xs:List V) (us:zw) (Q:VK),Inv X pins σ H s->Vals xs us->r xs H Q ->
  wpAny (model X.prog X.w) X.A (call f us) (EP X pins σ Q) X.xe s
def acJ (X:Cx) (r:V->Hp->(Bool->Hp->Prop)->Prop):Prop :=
 ∀ (pins:w4) (s:Shared) (σ:St) (H:Hp) (x:V) (v:Value) (Q:Bool->Hp->Prop),Inv X pins σ H s->RelV x v->r x H Q ->
  wpAny (model X.prog X.w) X.A (truthy v) (TP X pins σ Q) X.xe s
def tOp (r:R2) (ta tb:TE):TE:=fun σ H Q=>ta σ H fun x H1=>tb σ H1 fun y H2=>r x y H2 Q
def tUn (r:V->Hp->VK->Prop) (ta:TE):TE:=fun σ H Q=>ta σ H fun x H1=>r x H1 Q
def rI (C:Int->Int->Prop) (g:Int->Int->V):R2:=fun x y H Q=>∃ i j,x=.int i/\y=.int j/\C i j/\Q (g i j) H
def rI0 (g:Int->Int->V):R2:=fun x y H Q=>∃ i j,x=.int i/\y=.int j/\Q (g i j) H
def rU (g:Int->V):V->Hp->VK->Prop:=fun x H Q=>∃ i,x=.int i/\Q (g i) H
variable {f:Value->Value->Sem Value}{r:R2}
section
variable {X:Cx}{a b c:Expr}{ta tb tc:TE}{pos:Pos}
def TV (ha:PE X a ta) (hb:PE X b tb) {R:V->V->Hp->Prop} (I:Inv X pins σ H s)
  (h:ta σ H fun x H1=>tb σ H1 fun y H2=>R x y H2) {Q:zn}
  (hf:∀ v u s2 x y H2,Inv X pins σ H2 s2->RelV x v->RelV y u->R x y H2->wpAny (model X.prog X.w) X.A (f v u) Q X.xe s2) :
  wpAny (model X.prog X.w) X.A (eval a X.env) (fun v s₁=>wpAny (model X.prog X.w) X.A (eval b X.env) (fun u s₂=>wpAny (model X.prog X.w) X.A (f v u) Q X.xe s₂) X.xe s₁) X.xe s:=by
 refine thn (ha pins s σ H _ I h) fun v s1 ⟨x,H1,I1,r1,q1⟩=>?_
 refine thn (hb pins s1 σ H1 _ I1 q1) fun u s2 ⟨y,H2,I2,r2,q2⟩=>?_
 exact hf v u s2 x y H2 I2 r1 r2 q2
def aco {op:Operator} (ho:OpR X (binaryOp op) r) (ha:PE X a ta) (hb:PE X b tb):PE X (.BinOp a op b pos) (tOp r ta tb):=by
 intro pins s σ H Q I h;exact wpAny_BinOp (TV ha hb I h fun v u s2 x y H2 I2 rx ry q=>ho pins s2 σ H2 x y v u Q I2 rx ry q)
def ab4 {op:UnaryOp}{r:V->Hp->VK->Prop} (ho:UnR X (unaryOp op) r) (ha:PE X a ta):PE X (.UnaryOp op a pos) (tUn r ta):=by
 intro pins s σ H Q I h;exact UnaryOp_ (thn (ha pins s σ H _ I h) fun v s1 ⟨x,H1,I1,r1,q1⟩=>ho pins s1 σ H1 x v Q I1 r1 q1)
def opI {C:Int->Int->Prop}{g:Int->Int->Int}
  (rule:∀ (i j:Int) (t u:Tok) (s:Shared) (Q:zn) (E:zn),C i j->Q (.int (g i j) s.toks) { s with toks:=s.toks+1 }->wpAny (model X.prog X.w) X.A (f (.int i t) (.int j u)) Q E s) :
  OpR X f (rI C fun i j=>.int (g i j)):=by
 intro pins s σ H x y v u Q I rx ry h;obtain ⟨i,j,rfl,rfl,hc,q⟩:=h;obtain ⟨t,rfl⟩:=rx;obtain ⟨t',rfl⟩:=ry;exact rule i j t t' s _ _ hc ⟨.int (g i j),H,I.tok _,⟨_,rfl⟩,q⟩
def aaK {g:Int->Int->Int}
  (rule:∀ (i j:Int) (t u:Tok) (s:Shared) (Q:zn) (E:zn),Q (.int (g i j) s.toks) { s with toks:=s.toks+1 }->wpAny (model X.prog X.w) X.A (f (.int i t) (.int j u)) Q E s) :
  OpR X f (rI0 fun i j=>.int (g i j)):=by
 intro pins s σ H x y v u Q I rx ry h;obtain ⟨i,j,rfl,rfl,q⟩:=h;obtain ⟨t,rfl⟩:=rx;obtain ⟨t',rfl⟩:=ry;exact rule i j t t' s _ _ ⟨.int (g i j),H,I.tok _,⟨_,rfl⟩,q⟩
def Nq {g:Int->Int->Bool}
  (rule:∀ (i j:Int) (t u:Tok) (s:Shared) (Q:zn) (E:zn),Q (.bool (g i j)) s->wpAny (model X.prog X.w) X.A (f (.int i t) (.int j u)) Q E s) :
  OpR X f (rI0 fun i j=>.bl (g i j)):=by
 intro pins s σ H x y v u Q I rx ry h;obtain ⟨i,j,rfl,rfl,q⟩:=h;obtain ⟨t,rfl⟩:=rx;obtain ⟨t',rfl⟩:=ry;exact rule i j t t' s _ _ ⟨.bl (g i j),H,I,rfl,q⟩
def Oq (i j:Int):Prop:=(-(2 ^ 64) < i/\i < 2 ^ 64)\/(-(2 ^ 64) < j/\j < 2 ^ 64)
theorem Oq.ok {i j:Int} (h:Oq i j):IntMulOk i j:=by
 rcases h with ⟨h1,h2⟩ | ⟨h1,h2⟩
 .exact .of_left (intBits_le_64 h1 h2)
 .exact .of_right (intBits_le_64 h1 h2)
theorem abl:OpR X (binaryOp .Add) (rI0 fun i j=>.int (i+j)):=aaK fun _ _ _ _ _ _ _ q=>add_int q
theorem aaf:OpR X (binaryOp .Sub) (rI0 fun i j=>.int (i - j)):=aaK fun _ _ _ _ _ _ _ q=>sub_int q
theorem ZJ:OpR X (binaryOp .Mult) (rI Oq fun i j=>.int (i * j)):=opI fun _ _ _ _ _ _ _ hc q=>mul_int q hc.ok
theorem aaT:OpR X (binaryOp .Mod) (rI (fun _ j=>0 < j) fun i j=>.int (i % j)):=opI fun i j _ _ _ _ _ hc q=>by
 have h1:(0:Int) < j:=hc;exact mod_int' (by omega) (by rw [Int.fmod_eq_emod_of_nonneg i (by omega)];exact q)
def unI {f:Value->Sem Value}{g:Int->Int}
  (rule:∀ (i:Int) (t:Tok) (s:Shared) (Q:zn) (E:zn),Q (.int (g i) s.toks) { s with toks:=s.toks+1 }->wpAny (model X.prog X.w) X.A (f (.int i t)) Q E s) :
  UnR X f (rU fun i=>.int (g i)):=by
 intro pins s σ H x v Q I rx h;obtain ⟨i,rfl,q⟩:=h;obtain ⟨t,rfl⟩:=rx;exact rule i t s _ _ ⟨.int (g i),H,I.tok _,⟨_,rfl⟩,q⟩
theorem aaz:UnR X (unaryOp .USub) (rU fun i=>.int (-i)):=unI fun _ _ _ _ _ q=>neg_int q
end
variable {r':R2}{op':CmpOp}
section
variable {X:Cx}{a b c:Expr}{ta tb tc:TE}{pos:Pos}
theorem acw:OpR X (compareOp .Lt) (rI0 fun i j=>.bl (decide (i < j))):=Nq fun _ _ _ _ _ _ _ q=>lt_int q
theorem abM:OpR X (compareOp .LtE) (rI0 fun i j=>.bl (decide (i<=j))):=Nq fun _ _ _ _ _ _ _ q=>le_int q
theorem acs:OpR X (compareOp .Gt) (rI0 fun i j=>.bl (decide (j < i))):=Nq fun _ _ _ _ _ _ _ q=>gt_int q
theorem abW:OpR X (compareOp .GtE) (rI0 fun i j=>.bl (decide (j<=i))):=Nq fun _ _ _ _ _ _ _ q=>ge_int q
theorem OpR.or (h:OpR X f r) (h':OpR X f r'):OpR X f (fun x y H Q=>r x y H Q\/r' x y H Q):=by
 intro pins s σ H x y v u Q I rx ry q;rcases q with q | q
 .exact h pins s σ H x y v u Q I rx ry q
 .exact h' pins s σ H x y v u Q I rx ry q
def Zo (ho:OpR X (compareOp op) r) (ha:PE X a ta) (hb:PE X b tb) (hm:behindInMarks op b=false):PE X (.Compare a [op] [b] pos) (tOp r ta tb):=by
 intro pins s σ H Q I h;exact wpAny_Compare1 (TV ha hb I h fun v u s2 x y H2 I2 rx ry q=>ho pins s2 σ H2 x y v u Q I2 rx ry q) hm
def W7 (t:TE):TT:=fun σ H Q=>t σ H fun x H'=>∃ k,x=.bl k/\Q k H'
def Yk (ho:OpR X (compareOp op) r) (ha:PE X a ta) (hb:PE X b tb) (hm:behindInMarks op b=false):PT X (.Compare a [op] [b] pos) (W7 (tOp r ta tb)):=by
 intro pins s σ H Q I h;refine wpAny_isTrue_Compare1 (thn (ha pins s σ H _ I h) fun v s1 ⟨x,H1,I1,r1,q1⟩=>thn (hb pins s1 σ H1 _ I1 q1) fun u s2 ⟨y,H2,I2,r2,q2⟩ =>
  thn (ho pins s2 σ H2 x y v u _ I2 r1 r2 q2) fun c s3 ⟨z,H3,I3,r3,k,e,q3⟩=>?_) hm
 subst e;cases r3;exact y9 ⟨H3,I3,q3⟩
def Hj (r r':R2) (ta tb tc:TE):TE:=fun σ H Q=>ta σ H fun x H1=>tb σ H1 fun y H2=>r x y H2 fun z H3=>∃ k,z=.bl k /\
 (if k=true then tc σ H3 fun w' H4=>r' y w' H4 Q else Q (.bl false) H3)
def TY (ho:OpR X (compareOp op) r) (ho':OpR X (compareOp op') r') (ha:PE X a ta) (hb:PE X b tb) (hc:PE X c tc)
  (hm:lastMarks [op,op'] [b,c]=false:=by with_unfolding_all rfl):PE X (.Compare a [op,op'] [b,c] pos) (Hj r r' ta tb tc):=by
 intro pins s σ H Q I h;refine Compare_chain (thn (ha pins s σ H _ I h) fun v s1 ⟨x,H1,I1,r1,q1⟩=>chain_link (thn (hb pins s1 σ H1 _ I1 q1) fun u s2 ⟨y,H2,I2,r2,q2⟩ =>
  thn (ho pins s2 σ H2 x y v u _ I2 r1 r2 q2) fun d s3 ⟨z,H3,I3,r3,k,e,q3⟩=>?_)) hm
 subst e;cases r3;refine y9 ?_;cases k with
 | false=>exact ite_ff ⟨.bl false,H3,I3,rfl,q3⟩
 | true=>exact ite_tt (chain_last (thn (hc pins s3 σ H3 _ I3 q3) fun w' s4 ⟨z',H4,I4,r4,q4⟩=>ho' pins s4 σ H4 y z' u w' Q I4 r2 r4 q4))
def Vn (ho:OpR X (compareOp op) r) (ho':OpR X (compareOp op') r') (ha:PE X a ta) (hb:PE X b tb) (hc:PE X c tc)
  (hm:lastMarks [op,op'] [b,c]=false:=by with_unfolding_all rfl):PT X (.Compare a [op,op'] [b,c] pos) (W7 (Hj r r' ta tb tc)):=by
 intro pins s σ H Q I h;refine isTrue_chain (thn (ha pins s σ H _ I h) fun v s1 ⟨x,H1,I1,r1,q1⟩=>test_link (thn (hb pins s1 σ H1 _ I1 q1) fun u s2 ⟨y,H2,I2,r2,q2⟩ =>
  thn (ho pins s2 σ H2 x y v u _ I2 r1 r2 q2) fun d s3 ⟨z,H3,I3,r3,k,e,q3⟩=>?_)) hm
 subst e;cases r3;refine y9 ?_;cases k with
 | false =>
  obtain ⟨k',e',q'⟩:=q3;cases e';exact ite_ff ⟨H3,I3,q'⟩
 | true =>
  refine ite_tt (test_last (thn (hc pins s3 σ H3 _ I3 q3) fun w' s4 ⟨z',H4,I4,r4,q4⟩=>thn (ho' pins s4 σ H4 y z' u w' _ I4 r2 r4 q4) fun d' s5 ⟨z2,H5,I5,r5,k2,e2,q5⟩=>?_));subst e2;cases r5;exact y9 ⟨H5,I5,q5⟩
def ZF (K:zt) (x:V) (H:Hp) (k:Bool):Prop :=
 match x with
 | .non=>k=false
 | .bl b=>k=b
 | .int i=>k=(i != 0)
 | .str y=>y.length<=sizeLine/\k=((y.length:Int) != 0)
 | .byt y=>y.size<=sizeLine/\k=((y.size:Int) != 0)
 | .ref p=>(∃ xs,SqL K H p xs/\k=!xs.isEmpty)\/(∃ xs,SqT K H p xs/\k=!xs.isEmpty)\/∃ kvs,H p=some (.dK kvs)/\k=!kvs.isEmpty
 | _=>False
theorem Oz {κ:Type}{kvs:List (κ × V)}{vs:List (κ × Value)} (r:KV kvs vs):(!vs.isEmpty)=!kvs.isEmpty:=by
 cases r <;> rfl
def Br {its:zw} (r:Vals xs its):(!its.toArray.isEmpty)=!xs.isEmpty:=by
 cases r <;> simp
def tH:(sizeLine:Nat) < 2 ^ 63:=by rw [sizeLine_eq];decide
def ZQ:acJ X (fun x H Q=>∃ k,ZF X.K x H k/\Q k H):=by
 intro pins s σ H x v Q I rx h;obtain ⟨k,e,q⟩:=h;have hl:=tH;have hs:sizeLine=16777216:=sizeLine_eq;cases x with
 | non =>
  cases rx;have e':k=false:=e;subst e';exact truthy_none ⟨H,I,q⟩
 | bl b =>
  cases rx;have e':k=b:=e;subst e';exact y9 ⟨H,I,q⟩
 | int i =>
  obtain ⟨t,rfl⟩:=rx;have e':k=(i != 0):=e;subst e';exact PySem.P.truthy_int ⟨H,I,q⟩
 | str y =>
  obtain ⟨t,rfl⟩:=rx;obtain ⟨hy,e'⟩:y.length<=sizeLine/\k=((y.length:Int) != 0):=e;subst e';exact PySem.P.truthy_str (by omega) ⟨H,I.tok _,q⟩
 | byt y =>
  obtain ⟨t,rfl⟩:=rx;obtain ⟨hy,e'⟩:y.size<=sizeLine/\k=((y.size:Int) != 0):=e;subst e';exact PySem.W.truthy_bytes (by omega) ⟨H,I.tok _,q⟩
 | ref p =>
  cases rx;have e':(∃ xs,SqL X.K H p xs/\k=!xs.isEmpty)\/(∃ xs,SqT X.K H p xs/\k=!xs.isEmpty)\/∃ kvs,H p=some (.dK kvs)/\k=!kvs.isEmpty:=e;rcases e' with ⟨xs,hx,e'⟩ | ⟨xs,hx,e'⟩ | ⟨kvs,hx,e'⟩
  .subst e';obtain ⟨its,r,pl,hz⟩:=I.list hx;have hlen:=r.length;exact wpAny_truthy_list pl.isList (by simp only [List.size_toArray];omega) ⟨H,I.tok _,by rw [Br r];exact q⟩
  .subst e';obtain ⟨its,r,pl,hz⟩:=I.tuple hx;have hlen:=r.length;exact truthy_tuple pl (by simp only [List.size_toArray];omega) ⟨H,I.tok _,by rw [Br r];exact q⟩
  .subst e';obtain ⟨hz,hS,vs,r,m⟩:kvs.length<=sizeLine/\(p == sysModules)=false/\∃ vs,KV kvs vs/\s.heap.DictOf (CQ X.prog X.w) p vs:=I.hok p _ hx;have hlen:kvs.length=vs.length:=Paired.length r;exact wpAny_truthy_dict hS m (by omega) ⟨H,I.tok _,by rw [Oz r];exact q⟩
 | _=>exact (show False from e).elim
def Wm (ha:PE X a ta) (he:∀ whole,isTrue a X.env whole=(do let v <- whole;standAt a.pos;holding [v] (truthy v))) :
  PT X a (fun σ H Q=>ta σ H fun x H'=>∃ k,ZF X.K x H' k/\Q k H'):=by
 intro pins s σ H Q I h;exact isTrue_plain (thn (ha pins s σ H _ I h) fun v s1 ⟨x,H1,I1,r1,q1⟩=>ZQ pins s1 σ H1 x v Q I1 r1 q1) (he _)
def vals1 {x:V} (r:Vals [x] us):∃ u,us=[u]/\RelV x u:=by
 cases r with
 | cons r1 r2=>cases r2;exact ⟨_,rfl,r1⟩
def vals2 {x:V} (r:Vals [x,y] us):∃ u w',us=[u,w']/\RelV x u/\RelV y w':=by
 cases r with
 | cons r1 r2 =>
  cases r2 with
  | cons r3 r4=>cases r4;exact ⟨_,_,rfl,r1,r3⟩
def RN (hc:X.calm=true):gH X (.builtin "min") (fun xs H Q=>∃ i j,xs=[.int i,.int j] /\ Q (.int (if j < i then j else i)) H):=by
 intro pins s σ H xs us Q I r h;obtain ⟨i,j,rfl,q⟩:=h;obtain ⟨u,w',rfl,⟨t,rfl⟩,⟨t',rfl⟩⟩:=vals2 r;refine min_two_ints (I.ok.hd hc) fun h' tk k=>⟨_,H,I.kept k,?_,q⟩
 by_cases hj:j < i
 .rw [if_pos hj,if_pos hj];exact ⟨_,rfl⟩
 .rw [if_neg hj,if_neg hj];exact ⟨_,rfl⟩
end
structure ObjM (h:Heap) (x dx C:Addr) (mA:w8):Prop where
 obj:h.get? x=some (PySem.W.instObj C dx)
 ns:h.Ns1 dx mA
 ne:dx≠x
variable {dx:Addr}{mA:w8}
def Tp (n:h.Ns1 dx mA):∃ od,h.get? dx=some od/\∀ name,PySem.W.lookIn name od=some (mA name):=by
 obtain ⟨o,es,ep,ho,hd,hk,_,hm⟩:=n;refine ⟨o,ho,fun name=>?_⟩;have e:=hm name;unfold nsFind findBy at e;rw [<- Array.find?_toList] at e;unfold PySem.W.lookIn;rw [hd];dsimp only;split
 .rename_i y q;rw [q] at e;exact congrArg some e
 .rename_i q;rw [q] at e;have a:es.toList.any (·.refKey)=false:=by
   rw [List.any_eq_false];intro y hy;obtain ⟨z,t,hkey⟩:=hk y (Array.mem_toList_iff.mp hy);simp [DictEntry.refKey,hkey]
  have a':¬ es.toList.any (·.refKey)=true:=by rw [a];exact js
  rw [if_neg a'];exact congrArg some e
variable {C:Addr}
theorem ObjM.look {x:Addr} (I:ObjM h x dx C mA):∃ od,PySem.W.InstAt h x (PySem.W.instObj C dx) C (some od)/\∀ name,PySem.W.lookIn name od=some (mA name) :=
 let ⟨od,ho,hl⟩:=Tp I.ns
 ⟨od,⟨I.obj,rfl,rfl,ho⟩,hl⟩
section
variable {P:Program}{w:World}{H H':Hp}{h h':Heap}{a C dx:Addr}{fs fs':List (Str × V)}
def Zz (hok:HOk P w H h) (e:H a=some (.ins C dx fs)):∃ mA,ObjM h a dx C mA/\(∀ f,V4 (fs.lookup f) (mA f))/\PySem.Within mA (fs.map (·.1))/\fs.length<=1000/\H dx=some (.own a):=by
 obtain ⟨d,z,ne,ob,mA,n,r,q⟩:=(show cD P w H h a (.ins C dx fs) from hok a _ e);exact ⟨mA,⟨ob,n,ne⟩,r,q,z,d⟩
end
structure Cls (K:zt) (C:Addr):Prop where
 pg:PySem.W.plainGet K C Str.empty=true
 hd:PySem.W.hasDictIn K C=true
 po:PySem.W.plainOver K C=true
 sa:PySem.W.findIn K (.ref C) "__setattr__"=some (some (.builtin "object.__setattr__"))
theorem Cls.get (c:Cls K C) (f:Str):PySem.W.plainGet K C f=true:=c.pg
section
variable {X:Cx}{pins:w4}{σ:St}{H:Hp}{s:Shared}{A:Around}{E:zn}{Q:zn}{c:Value}{b:Bool}
inductive TyOf (K:zt) (H:Hp):V->Value->Prop where
 | non:TyOf K H .non (.type "NoneType")
 | bl (x:Bool):TyOf K H (.bl x) (.type "bool")
 | int (i:Int):TyOf K H (.int i) (.type "int")
 | str (x:Str):TyOf K H (.str x) (.type "str")
 | flt (x:UInt64):TyOf K H (.flt x) (.type "float")
 | lst {a:Addr}{xs:List V} (e:H a=some (.lst xs)):TyOf K H (.ref a) (.type "list")
 | frz {a:Addr}{o:Obj}{xs:List V} (e:H a=some (.frz o (.lst xs))):TyOf K H (.ref a) (.type "list")
 | tup {a:Addr}{xs:List V} (e:H a=some (.tup xs)):TyOf K H (.ref a) (.type "tuple")
 | dK {a:Addr}{kvs:List (Key × V)} (e:H a=some (.dK kvs)):TyOf K H (.ref a) (.type "dict")
 | dT {a:Addr}{kvs:List (List Key × V)} (e:H a=some (.dT kvs)):TyOf K H (.ref a) (.type "dict")
 | ins {a C dx:Addr}{fs:List (Str × V)} (e:H a=some (.ins C dx fs)) (cl:Cls K C) (ha:PySem.W.findIn K (.ref C) "__class__"=some (some (.builtin "object.__class__")))
   (hn:PySem.W.specialIn K (.builtin "object.__class__") "__get__"=some (some (.builtin "getset_descriptor.__get__"))) (htk:PySem.W.takesIn K (.builtin "object.__class__")=some true)
   (hm:PySem.W.mroIn K C (.type "object")=some true):TyOf K H (.ref a) (.ref C)
def rF {x:V}{t:Value} (I:Inv X pins σ H s) (rx:RelV x u) (ty:TyOf X.K H x t) (e:PySem.W.kitOne X.K t c=some b) (h:∀ tk,Q (.bool b) { s with toks:=tk }) :
  wpAny (model X.prog X.w) A (call (.builtin "isinstance") [u,c]) Q E s:=by
 cases ty with
 | non=>cases (show u=Value.none from rx);exact PySem.W.kia_one PySem.W.kitx_none I.kIn True.intro e (fun z=>nomatch z) h
 | bl y=>cases (show u=Value.bool y from rx);exact PySem.W.kia_one PySem.W.kitx_bool I.kIn True.intro e (fun z=>nomatch z) h
 | int i=>obtain ⟨t,q⟩:=(show ∃ t,u=Value.int i t from rx);cases q;exact PySem.W.kia_one PySem.W.kitx_int I.kIn True.intro e (fun z=>nomatch z) h
 | str y=>obtain ⟨t,q⟩:=(show ∃ t,u=Value.str y t from rx);cases q;exact PySem.W.kia_one PySem.W.kitx_str I.kIn True.intro e (fun z=>nomatch z) h
 | flt y=>obtain ⟨t,q⟩:=(show ∃ t,u=Value.float y t from rx);cases q;exact PySem.W.kia_one PySem.W.kitx_float I.kIn True.intro e (fun z=>nomatch z) h
 | @lst a xs ea =>
  cases (show u=Value.ref a from rx);obtain ⟨_,_,n,_,h1⟩:=(show cD X.prog X.w H s.heap a (.lst xs) from I.hok a _ ea);exact PySem.W.kia_one PySem.W.kitx_list I.kIn ⟨_,h1,rfl⟩ e (fun z=>nomatch z) h
 | @frz a ob xs ea =>
  cases (show u=Value.ref a from rx);obtain ⟨_,_,_,n,_,h1⟩:=(show cD X.prog X.w H s.heap a (.frz ob (.lst xs)) from I.hok a _ ea);exact PySem.W.kia_one PySem.W.kitx_list I.kIn ⟨_,h1,rfl⟩ e (fun z=>nomatch z) h
 | @tup a xs ea =>
  cases (show u=Value.ref a from rx);obtain ⟨_,_,_,p⟩:=(show cD X.prog X.w H s.heap a (.tup xs) from I.hok a _ ea);obtain ⟨o,h1,h2,_⟩:=p;exact PySem.W.kia_one PySem.W.kitx_tuple I.kIn ⟨o,h1,h2⟩ e (fun z=>nomatch z) h
 | @dK a kvs ea =>
  cases (show u=Value.ref a from rx);obtain ⟨_,_,vs,_,p⟩:=(show cD X.prog X.w H s.heap a (.dK kvs) from I.hok a _ ea);obtain ⟨o,es,ep,h1,h2,_⟩:=p;exact PySem.W.kia_one PySem.W.kitx_dict I.kIn ⟨o,h1,h2.1⟩ e (fun z=>nomatch z) h
 | @dT a kvs ea =>
  cases (show u=Value.ref a from rx);obtain ⟨_,_,xs,_,o,es,ep,h1,h2,_⟩:=(show cD X.prog X.w H s.heap a (.dT kvs) from I.hok a _ ea);exact PySem.W.kia_one PySem.W.kitx_dict I.kIn ⟨o,h1,h2.1⟩ e (fun z=>nomatch z) h
 | @ins a C dx fs ea cl ha hn htk hm =>
  cases (show u=Value.ref a from rx);obtain ⟨mA,O,_⟩:=Zz I.hok ea;obtain ⟨od,J,_⟩:=O.look;exact PySem.W.kia_one (PySem.W.kitx_own (cl.get _) cl.hd ha hn htk hm) I.kIn J e (fun z=>nomatch z) h
end
structure Room (k:Nat) (A:Around):Prop where
 hd:A.handled=none
 dp:A.depth+3 * k+5 < recursionLimit
 un:A.units+16 * k+200 < cLine
theorem Room.deeper (r:Room (k+1) A) (env:Env):Room k (A.deeper env) :=
 ⟨r.hd,by have:=r.dp;show A.depth+1+3 * k+5 < _;omega,by have:=r.un;show A.units+3+16 * k+200 < _;omega⟩
theorem Room.depth (r:Room k A):A.depth < recursionLimit:=by have:=r.dp;omega
def Nb:TA:=fun _ H Q=>Q [] H
def Ni (ta:TE) (tr:TA):TA:=fun σ H Q=>ta σ H fun x H1=>tr σ H1 fun xs H2=>Q (x::xs) H2
section
variable {X:Cx}{e:Expr}{es:ve}{te:TE}{t:TA}{pos:Pos}
theorem gK:PA X [] Nb:=fun _ _ _ _ H Q I h=>Calls.spliced_nil ⟨[],H,I,.nil,h⟩
def dD (ha:PE X e te) (hr:PA X es t) (hs:starEach (e::es) X.env=(false,eval e X.env)::starEach es X.env:=by rfl):PA X (e::es) (Ni te t):=by
 intro pos pins s σ H Q I h;rw [hs];show wpAny _ _ (spliced ((false,eval e X.env)::backTo pos (starEach es X.env))) _ _ s
 refine Calls.spliced_cons (thn (ha pins s σ H _ I h) fun u s1 ⟨x,H1,I1,r1,q1⟩=>?_);exact thn (hr pos pins s1 σ H1 _ I1 q1) fun us s2 ⟨xs,H2,I2,r2,q2⟩=>⟨x::xs,H2,I2,.cons r1 r2,q2⟩
def acP (t:TA):TE:=fun σ H Q=>t σ H fun xs H1=>xs.length<=sizeLine/\∀ p,H1 p=none->Q (.ref p) (upd H1 p (.tup xs))
def acR (t:TA):TE:=fun σ H Q=>t σ H fun xs H1=>xs.length<=sizeLine/\∀ p,H1 p=none->Q (.ref p) (upd H1 p (.lst xs))
def abD {x1} (h:PA X es t):PE X (.Tuple es x1 pos) (acP t):=by
 intro pins s σ H Q I hq;refine wpAny_Tuple_spliced (thn (h pos pins s σ H _ I hq) fun us s1 ⟨xs,H1,I1,r,z,q⟩=>⟨by rw [<- r.length];exact z,?_⟩);have hf:H1 s1.heap.objs.size=none:=I1.hok.fresh (v4 _);refine ⟨.ref s1.heap.objs.size,upd H1 s1.heap.objs.size (.tup xs),I1.laid (t':=s1.toks) (fun b u e=>vS _ e) (v4 _) ?_,rfl,q _ hf⟩;exact ⟨z,us,r,⟨_,vT _ rfl,rfl,_,rfl⟩⟩
def Bs (h:PA X es t):PE X (.List es pos) (acR t):=by
 intro pins s σ H Q I hq;refine wpAny_List_spliced (thn (h pos pins s σ H _ I hq) fun us s1 ⟨xs,H1,I1,r,z,q⟩=>⟨by rw [<- r.length];exact z,?_⟩);have hf:H1 s1.heap.objs.size=none:=I1.hok.fresh (v4 _);refine ⟨.ref s1.heap.objs.size,upd H1 s1.heap.objs.size (.lst xs),I1.laid (t':=s1.toks) (fun b u e=>vS _ e) (v4 _) ?_,rfl,q _ hf⟩;exact ⟨z,us,0,r,vT _ rfl⟩
end
abbrev Sp:=List V->Hp->VK->XK->Prop
abbrev CXT:=List Env->Hp->Shared->XK->zn
structure Env0 (P:Program) (w:World) (K:zt) (mg:w8) (base:Heap) (A:Around) (outer:List Env) (s:Shared) (H:Hp):Prop where
 frames:A.frames=some outer
 mod:Mod K mg base
 bs:∀ b o,base.get? b=some o->s.heap.get? b=some o/\H b=none
 bsz:base.objs.size<=s.heap.objs.size
 funs:s.heap.FunFrames base outer
 frf:∀ b∈frs outer,H b=none
 hok:HOk P w H s.heap
 bare:AllBare s.gens
 tab:pO K mg H
def CE (outer:List Env) (P:Program) (w:World) (H:Hp) (s:Shared) (Q:VK) (u:Value) (s':Shared):Prop :=
 ∃ v H',s'.os=s.os/\AllBare s'.gens/\Un (frs outer) [] H H' s.heap s'.heap/\HOk P w H' s'.heap/\RelV v u/\Q v H'
def CR (CX:CXT) (outer:List Env) (P:Program) (w:World) (H:Hp) (s:Shared) (Q:VK) (E:XK) (r:Result) (s':Shared):Prop :=
 match r with
 | .ok (.ret u)=>CE outer P w H s Q u s'
 | .ok _=>False
 | .error e=>CX outer H s E e s'
structure FnOk (P:Program) (w:World) (K:zt) (mg:w8) (base:Heap) (CX:CXT) (k:Nat) (f:Addr) (fd:FuncData) (ps:z0) (sp:Sp):Prop where
 len:∀ vs H Q E,sp vs H Q E->vs.length=ps.length
 run:∀ (A:Around) (outer:List Env) (s:Shared) (H:Hp) (args:Args) (us:zw) (vs:List V) (Q:VK) (E:XK),Room k A->Env0 P w K mg base A outer s H->BindsTo s fd args (ps.zip us)->Vals vs us->sp vs H Q E ->
  codeAny (model P w) A (.call (.ref f) args) (CR CX outer P w H s Q E) s
section
variable {X:Cx}{pins:w4}{σ:St}{H:Hp}{s s':Shared}
theorem Inv.env0 (I:Inv X pins σ H s):Env0 X.prog X.w X.K X.mg X.base X.A X.stack s H :=
 ⟨I.ok.frames,I.ok.mod,I.bs,yb I.ok.bsz I.sz,I.stack,I.stkFree,I.hok,I.bare,I.ok.tab.un I.base⟩
theorem Inv.after {Q:VK} (I:Inv X pins σ H s) (h:CE X.stack X.prog X.w H s Q u s'):EP X pins σ Q u s':=by
 obtain ⟨v,H',os,bare,un,hok,r,q⟩:=h;obtain ⟨hh,g,d,t,os'⟩:=s';obtain rfl:os'=s.os:=os;exact ⟨v,H',I.call (h':=hh) (g':=g) (d':=d) (t':=t) (ch:=[]) un hok bare (fun b z=>absurd z (by simp)),r,q⟩
end
def W6 (sp:Sp) (dvs:List V) (E:XK) (t:TA):TE:=fun σ H Q=>t σ H fun vs H1=>sp (vs++dvs) H1 Q E
def Binds (K:zt) (fd:FuncData) (ps:z0) (ds:zw):Prop :=
 ∀ (s:Shared) (us:zw),K.In s.heap->(us++ds).length=ps.length->BindsTo s fd ⟨us,[]⟩ (ps.zip (us++ds))
variable {ps:z0}
theorem Binds.all {fd:FuncData} (h:∀ us:zw,us.length=ps.length->bindArgs fd ⟨us,[]⟩=pure (ps.zip us)):Binds K fd ps []:=fun s us _ hl=>by
 rw [List.append_nil] at hl ⊢;exact .of_eq (h us hl)
def Passes (CX:CXT) (X:Cx) (E:XK):Prop:=∀ (pins:w4) (σ:St) (H:Hp) (s:Shared) (e:Value) (s':Shared),Inv X pins σ H s->CX X.stack H s E e s'->X.xe e s'
variable {vs:List V}
section
variable {X:Cx}{CX:CXT}{k:Nat}{f C:Addr}{fd:FuncData}{ps:z0}{sp:Sp}{dvs:List V}{ds:zw}{E:XK}{x m:Str}{p pos apos:Pos}{e o:Expr}{es:ve}{ta:TE}{t:TA}
def RQ {Q:VK} (F:FnOk X.prog X.w X.K X.mg X.base CX k f fd ps sp) (hr:Room k X.A) (hb:Binds X.K fd ps ds) (hd:Vals dvs ds) (hx:Passes CX X E)
  (I:Inv X pins σ H s) (r:Vals vs us) (h:sp (vs++dvs) H Q E):wpAny (model X.prog X.w) X.A (call (.ref f) us) (EP X pins σ Q) X.xe s:=by
 have r2:Vals (vs++dvs) (us++ds):=r.append hd;have hl:(us++ds).length=ps.length:=by rw [<- r2.length];exact F.len _ _ _ _ h
 refine wpAny_call (codeAny_mono (F.run X.A X.stack s H ⟨us,[]⟩ (us++ds) (vs++dvs) Q E hr I.env0 (hb s us I.kIn hl) r2 h) fun r s' hq=>?_);cases r with
 | error e=>exact hx pins σ H s e s' I hq
 | ok fl =>
  cases fl with
  | ret u=>exact I.after hq
  | next=>exact jd hq
  | brk=>exact jd hq
  | cont=>exact jd hq
def xX (F:FnOk X.prog X.w X.K X.mg X.base CX k f fd ps sp) (hr:Room k X.A) (hg:Gl X x) (hm:X.mg x=some (.ref f)) (hk:PySem.W.keepIn X.K (.ref f)=true) (hb:Binds X.K fd ps ds) (hd:Vals dvs ds) (hx:Passes CX X E)
  (ha:PA X (e::es) t) (hdb:(x == ("__debug__":Str))=false:=by decide) (he:starEach (e::es) X.env=(false,eval e X.env)::starEach es X.env:=by rfl) (hpl:(backTo pos (starEach es X.env)).any (·.1)=false:=by rfl) :
  PE X (.Call (.Name x p) (e::es) [] pos) (W6 sp dvs E t):=by
 intro pins s σ H Q I h;refine wpAny_Call_Name_kw (yj I hg hm ?_ hdb);refine PySem.W.callWith_K (h₀:=X.base) I.ok.mod.kin hk (thn (ha pos pins s σ H _ I h) fun us s1 ⟨vs,H1,I1,r,q⟩=>⟨I1.kIn,?_⟩) he hpl;exact RQ F hr hb hd hx I1 r q
def Va (F:FnOk X.prog X.w X.K X.mg X.base CX k f fd ps sp) (hr:Room k X.A) (hg:Gl X x) (hm:X.mg x=some (.ref f)) (hk:PySem.W.keepIn X.K (.ref f)=true) (hb:Binds X.K fd ps ds) (hd:Vals dvs ds) (hx:Passes CX X E)
  (hdb:(x == ("__debug__":Str))=false:=by decide):PE X (.Call (.Name x p) [] [] pos) (W6 sp dvs E Nb):=by
 intro pins s σ H Q I h;refine wpAny_Call_Name_kw (yj I hg hm ?_ hdb);exact PySem.W.callWith_K0 I.kIn hk (RQ (us:=[]) F hr hb hd hx I .nil h)
end
structure FnScope (N P:z0) (sc:Scope):Prop where
 kind:sc.kind=.function
 co:sc.isCoroutine=false
 gen:sc.isGenerator=false
 nd:N.Nodup
 pre:N.take P.length=P
 par:∀ x∈P,sc.names.lookup x=some .local\/sc.names.lookup x=some .cell
 nofree:∀ y∈sc.names,y.2≠.free
theorem Fg {kindOf:Str->Option NameKind}{x:Str}:∀ {binds:List (Str × Value)}{m:w8},(∀ v,(x,v) ∉ binds)->bindL kindOf binds m x=m x
 | [],_,_=>rfl
 | (n,v)::r,m,h=>by
  unfold bindL;rw [Fg fun w hw=>h w (List.mem_cons_of_mem _ hw)];split
  .have:x≠n:=by rintro rfl;exact h v vz
   simp [this]
  .rfl
theorem El {kindOf:Str->Option NameKind}{x:Str}:∀ {binds:List (Str × Value)}{m:w8},(∀ v,(x,v) ∉ binds)->bindC kindOf binds m x=m x
 | [],_,_=>rfl
 | (n,v)::r,m,h=>by
  unfold bindC;rw [El fun w hw=>h w (List.mem_cons_of_mem _ hw)];split
  .rfl
  .have:x≠n:=by rintro rfl;exact h v vz
   simp [this]
theorem Er {kindOf:Str->Option NameKind}{x:Str}{v:Value}:∀ {P:z0}{vs:zw}{i:Nat}{m:w8},P.Nodup->P[i]?=some x->vs[i]?=some v->kindOf x=some .local ->
  bindL kindOf (P.zip vs) m x=some v
 | [],_,_,_,_,h,_,_=>by simp at h
 | _::_,[],_,_,_,_,h,_=>by simp at h
 | p::P,w::vs,0,m,nd,h1,h2,hk=>by
  simp at h1 h2;subst h1;subst h2;show bindL kindOf ((p,w)::P.zip vs) m p=_
  unfold bindL;rw [Fg fun v hv=>(List.nodup_cons.mp nd).1 (List.of_mem_zip hv).1,if_pos hk];simp
 | p::P,w::vs,i+1,m,nd,h1,h2,hk=>by
  show bindL kindOf ((p,w)::P.zip vs) m x=_
  unfold bindL;exact Er (i:=i) (List.nodup_cons.mp nd).2 (by simpa using h1) (by simpa using h2) hk
theorem DR {kindOf:Str->Option NameKind}{x:Str}{v:Value}:∀ {P:z0}{vs:zw}{i:Nat}{m:w8},P.Nodup->P[i]?=some x->vs[i]?=some v->kindOf x≠some .local ->
  bindC kindOf (P.zip vs) m x=some v
 | [],_,_,_,_,h,_,_=>by simp at h
 | _::_,[],_,_,_,_,h,_=>by simp at h
 | p::P,w::vs,0,m,nd,h1,h2,hk=>by
  simp at h1 h2;subst h1;subst h2;show bindC kindOf ((p,w)::P.zip vs) m p=_
  unfold bindC;rw [El fun v hv=>(List.nodup_cons.mp nd).1 (List.of_mem_zip hv).1,if_neg hk];simp
 | p::P,w::vs,i+1,m,nd,h1,h2,hk=>by
  show bindC kindOf ((p,w)::P.zip vs) m x=_
  unfold bindC;exact DR (i:=i) (List.nodup_cons.mp nd).2 (by simpa using h1) (by simpa using h2) hk
noncomputable def start (N:z0) (vs:List V):St:=vs.map some++List.replicate (N.length - vs.length) none
noncomputable def iH (CX:CXT) (P:Program) (w:World) (K:zt) (mg:w8) (base:Heap) (N:z0) (qual:Str) (scope:Scope) (f:Addr) (cd:Value) (A:Around) (outer:List Env) (s:Shared) (H:Hp) (E:XK):Cx where
 prog:=P
 w:=w
 K:=K
 mg:=mg
 base:=base
 A:=A.deeper (envOfC qual scope s.heap.objs.size f cd)
 N:=N
 s₀:=s
 H₀:=H
 env:=envOfC qual scope s.heap.objs.size f cd
 outer:=outer
 stack:=envOfC qual scope s.heap.objs.size f cd::outer
 ex:=[]
 calm:=true
 fn:=fun _=>true
 pn:=[]
 xe:=fun e s'=>wpAny (model P w) (A.deeper (envOfC qual scope s.heap.objs.size f cd)) (leaving (envOfC qual scope s.heap.objs.size f cd) e) (fun _ s''=>CX outer H s E e s'') (fun e' s''=>CX outer H s E e' s'') s'
def Ht {sc:Scope} (h:sc.names.lookup x=some .cell):∃ c,(cellsFrom n sc.names []).lookup x=some c:=by
 have q:=PySem.W.cellsFrom_some sc.names n [] (.inl h);exact yA.mp q
variable {CX:CXT}{base:Heap}{qual:Str}{scope:Scope}
def Ew {f:Addr}{cd:Value}{outer:List Env}{s1:Shared}{E:XK}
  (S:FnScope N ps scope) (hd:A.handled=none) (e0:Env0 P w K mg base A outer s H) (hl:vs.length=ps.length) (r:Vals vs us)
  (x:InCallC s s.heap.objs.size (bindL (envOfC qual scope s.heap.objs.size f cd).kindOf (ps.zip us) fun _=>none) (cellsFrom (s.heap.objs.size+1) scope.names []) (bindC (envOfC qual scope s.heap.objs.size f cd).kindOf (ps.zip us) fun _=>none) s1) :
  Inv (iH CX P w K mg base N qual scope f cd A outer s H E) [] (start N vs) H s1:=by
 have hpl:ps.length<=N.length:=by have:=congrArg List.length S.pre;rw [List.length_take] at this;omega
 obtain ⟨h1,tk,rfl,hk⟩:=x.done;have noA:∀ b:Addr,b ∉ (iH CX P w K mg base N qual scope f cd A outer s H E).ex:=fun b z=>absurd (show b∈([]:List Addr) from z) (by simp)
 refine ⟨⟨e0.mod,S.kind,rfl,rfl,v4 _,fun y z c h1 h2=>?_,fun y hy=>?_,fun y c _ h=>?_,fun _=>hd,Around.frames_deeper e0.frames,.inr ⟨rfl,rfl⟩,fun b z=>absurd z (noA b),e0.bs,e0.bsz,fun b _ _=>noA b,fun b z=>absurd z (noA b),e0.funs,e0.frf,e0.tab⟩,
  rfl,e0.bare,Un.kept hk,⟨_,x.toInCall.ns,fun i y v h1 h2 h3=>?_⟩,fun y c h=>⟨_,x.cell y c h⟩,e0.hok.fresh (v4 _),fun y c h=>?_,fun p hp=>absurd (show p∈([]:w4) from hp) (by simp),e0.hok.kept hk,?_⟩
 .exact name_of_addr x.apart (jp h1) (jp h2)
 .have hy:scope.names.lookup y=some .cell\/scope.names.lookup y=some .free:=hy;rcases hy with hy | hy
  .exact Ht hy
  .exact absurd rfl (S.nofree _ (jp hy))
 .exact Nat.le_of_lt (x.above y c (jp h))
 .have hi:i < vs.length:=by
   unfold start at h2;by_cases hi:i < vs.length
   .exact hi
   .rw [List.getElem?_append_right (by simpa using hi)] at h2;rw [List.getElem?_replicate] at h2;split at h2 <;> cases h2
  have ha:vs[i]?=some v:=by
   unfold start at h2;rw [List.getElem?_append_left (by simpa using hi),List.getElem?_map] at h2;cases e:vs[i]? with
   | none=>rw [e] at h2;cases h2
   | some a=>rw [e] at h2;cases h2;rfl
  obtain ⟨u,hu,rv⟩:=r.get ha;have hp:ps[i]?=some y:=by
   rw [<- S.pre,List.getElem?_take_of_lt (by omega)];exact h1
  have ndP:ps.Nodup:=by rw [<- S.pre];exact S.nd.sublist (List.take_sublist _ _)
  refine ⟨u,rv,?_⟩;rcases S.par y (List.mem_of_getElem? hp) with k | k
  .exact .inl ⟨k,Er ndP hp hu k⟩
  .obtain ⟨c,e⟩:=Ht (n:=s.heap.objs.size+1) k;refine .inr ⟨.inl k,c,e,?_⟩;have q:=x.cell y c e;rw [DR ndP hp hu (by show scope.names.lookup y≠_;rw [k];decide)] at q;exact q
 .exact e0.hok.fresh (Nat.le_of_lt (x.above y c (jp h)))
 .unfold start;show _=N.length
  rw [List.length_append,List.length_map,List.length_replicate];omega
def abI {f:Addr}{name:Str}{params:Arguments}{dV kV doc pm cdv ct oc:Value}{an od:vk}
  {osl:vn}{sp:Sp} (lk:K.lookup f=some ⟨oc,od,.func (PySem.W.fnOf name qual params body scope dV kV doc pm an cdv ct),osl⟩) (hcd:PySem.W.codeIn K cdv qual=true) (S:FnScope N ps scope)
  (len:∀ vs H Q E,sp vs H Q E->vs.length=ps.length)
  (hbody:∀ (A:Around) (outer:List Env) (s:Shared) (H:Hp) (vs:List V) (Q:VK) (E:XK),Room k (A.deeper (envOfC qual scope s.heap.objs.size f cdv))->sp vs H Q E ->
   ∃ t,PSs (iH CX P w K mg base N qual scope f cdv A outer s H E) body t/\t { nx:=fun _ H'=>Q .non H',rt:=Q } (start N vs) H) :
  FnOk P w K mg base CX (k+1) f (PySem.W.fnOf name qual params body scope dV kV doc pm an cdv ct) ps sp:=by
 refine ⟨len,fun A outer s H args us vs Q E hr e0 hb r hsp=>?_⟩;have hl:=len _ _ _ _ hsp;have KX:K.In s.heap:=e0.mod.kin.keeps fun b o e=>(e0.bs b o e).1
 have lim:s.heap.NoLimit:=e0.mod.nolimit.keeps fun b o e=>(e0.bs b o e).1
 have hkind:∀ y∈ps.zip us,scope.names.lookup y.1=some .local\/(scope.names.lookup y.1=some .cell/\((cellsFrom (s.heap.objs.size+1) scope.names []).lookup y.1).isSome=true):=fun ⟨n,v⟩ hy=>by
  rcases S.par n (List.of_mem_zip hy).1 with q | q
  .exact .inl q
  .exact .inr ⟨q,PySem.W.cellsFrom_some _ _ _ (.inl q)⟩
 refine codeAny_call_function hr.depth (KX _ _ lk) rfl S.co S.gen rfl (PySem.W.codeRec_of KX hcd) (hb _ _ _ _ ?_);refine wpAny_newFunctionEnv_cells S.kind hkind fun env he s1 x=>?_
 subst he;refine ⟨lim.keeps x.toInCall.keep,codeAny_func ?_⟩;obtain ⟨t,ht,hq⟩:=hbody A outer s H vs Q E (hr.deeper _) hsp;have I:Inv (iH CX P w K mg base N qual scope f cdv A outer s H E) [] (start N vs) H s1:=Ew S hr.hd e0 hl r x;refine wpAny_mono (ht [] s1 (start N vs) H _ I hq) (fun fl s' hs=>?_) fun e s' hs=>hs
 have fin:∀ {σ':St}{H':Hp}{v:V}{u:Value},Inv (iH CX P w K mg base N qual scope f cdv A outer s H E) [] σ' H' s'->RelV v u->Q v H'->CE outer P w H s Q u s' :=
  fun {σ' H' v u} J rv q=>⟨v,H',J.os,J.bare,J.base,J.hok,rv,q⟩
 cases fl with
 | ret u =>
  obtain ⟨v,σ',H',J,rv,q⟩:=hs;exact fin J rv q
 | next =>
  obtain ⟨σ',H',J,q⟩:=hs;exact fin (v:=V.non) (u:=Value.none) J rfl q
 | brk =>
  obtain ⟨_,_,_,q⟩:=hs;exact jd q
 | cont =>
  obtain ⟨_,_,_,q⟩:=hs;exact jd q
section
variable {X:Cx}{x:Str}{p pos:Pos}{e:Expr}{es:ve}{t:TA}{id T:String}{r:List V->Hp->VK->Prop}
def tCB (r:List V->Hp->VK->Prop) (t:TA):TE:=fun σ H Q=>t σ H fun vs H1=>r vs H1 Q
def jE (hc:gH X (.builtin id) r) (hg:Gl X x) (hm:X.mg x=none) (hv:bootBuiltins x=some (.builtin id)) (ha:PA X (e::es) t) (hn:x ≠ "__name__":=by decide) (hdb:(x == ("__debug__":Str))=false:=by decide)
  (he:starEach (e::es) X.env=(false,eval e X.env)::starEach es X.env:=by rfl) (hpl:(backTo pos (starEach es X.env)).any (·.1)=false:=by rfl):PE X (.Call (.Name x p) (e::es) [] pos) (tCB r t):=by
 intro pins s σ H Q I h;refine wpAny_Call_Name_kw (fV I hg hm hv ?_ hn hdb);exact PyProof.Rows.callWith_builtin1 (thn (ha pos pins s σ H _ I h) fun us s1 ⟨vs,H1,I1,r1,q1⟩=>hc pins s1 σ H1 vs us Q I1 r1 q1) he hpl
def vZ (hc:gH X (.type T) r) (hg:Gl X x) (hm:X.mg x=none) (hv:bootBuiltins x=some (.type T)) (ha:PA X (e::es) t) (hn:x ≠ "__name__":=by decide) (hdb:(x == ("__debug__":Str))=false:=by decide)
  (he:starEach (e::es) X.env=(false,eval e X.env)::starEach es X.env:=by rfl) (hpl:(backTo pos (starEach es X.env)).any (·.1)=false:=by rfl):PE X (.Call (.Name x p) (e::es) [] pos) (tCB r t):=by
 intro pins s σ H Q I h;refine wpAny_Call_Name_kw (fV I hg hm hv ?_ hn hdb);exact y8 (thn (ha pos pins s σ H _ I h) fun us s1 ⟨vs,H1,I1,r1,q1⟩=>hc pins s1 σ H1 vs us Q I1 r1 q1) he hpl
end
end L2
namespace HT
open PySem PyProof.Rows
theorem Wb (A:Around) (s:Shared) (a:Int) (t:Tok) (c:Int) (u:Tok) (prog:Program) (w:World) (E:zn) (Q:zn) (h:Q (.bool (decide (a < c))) s) :
  wpAny (model prog w) A (richCompare .Lt (.int a t) (.int c u)) Q E s :=
 (PyProof.Rows.lt_int h:wpAny (model prog w) A (compareOp .Lt (.int a t) (.int c u)) Q E s)
section
variable {prog:Program}{w:World}{A:Around}{E:zn}{s:Shared}
def Yw {t b:Addr}{vs ws:zw}{Q:zn} (ht:IsTup s.heap t vs.toArray) (hb:IsTup s.heap b ws.toArray) (hv:vs≠[])
  (h1:ws=[] -> Q (.ref t) s) (h2:ws ≠ [] -> Q (.ref s.heap.objs.size) { s with heap:=s.heap.push { cls:=.type "tuple",data:=.seq (vs ++ ws).toArray } })
  (hsz:vs.length+ws.length<=sizeLine):wpAny (model prog w) A (binaryOp .Add (.ref t) (.ref b)) Q E s:=by
 obtain ⟨⟨cls,dd,data,sl⟩,ho,hc,n,hd⟩:=id ht;obtain ⟨⟨cls2,dd2,data2,sl2⟩,ho2,hc2,n2,hd2⟩:=id hb;simp only at hc hd hc2 hd2;subst hc hd hc2 hd2;have e:vs.toArray++ws.toArray=(vs++ws).toArray:=by simp
 by_cases hw:ws=[]
 .exact concat_meets ⟨_,ho,rfl⟩ ⟨_,ho2,rfl⟩ noFill_tuple_add seq_tuple_add PySem.F.slot_tuple_add PySem.F.entry_tuple_add (PySem.F.args_tuple_add_2 _ _)
   (tuple_addW1 t b vs.toArray ws.toArray n n2 dd dd2 sl sl2 (by simpa using hv) (by simp [hw])) ⟨ho,ho2,h1 hw⟩
 .refine concat_meets ⟨_,ho,rfl⟩ ⟨_,ho2,rfl⟩ noFill_tuple_add seq_tuple_add PySem.F.slot_tuple_add PySem.F.entry_tuple_add (PySem.F.args_tuple_add_2 _ _)
   (tuple_addW2 t b vs.toArray ws.toArray n n2 dd dd2 sl sl2 (by simpa using hv) (by simpa using hw) (by rw [List.size_toArray,List.size_toArray];exact hsz)) ⟨ho,ho2,?_⟩
  rw [e];exact h2 hw
noncomputable def sIx (n d:Nat):Option Int->Nat
 | none=>d
 | some v=>if v < 0 then (v+(n:Int)).toNat else min v.toNat n
theorem Wl (n d:Nat):sIx n d none=d:=rfl
def YS (n d k:Nat):sIx n d (some (k:Int))=min k n:=by
 show (if (k:Int) < 0 then ((k:Int)+(n:Int)).toNat else min (k:Int).toNat n)=min k n
 rw [if_neg (by omega),Int.toNat_natCast]
end
end HT
namespace L2
open PySem PySem.Spec PyProof.Rows
abbrev TO:=St->Hp->(Option Int->Hp->Prop)->Prop
def PO (X:Cx) (e:Option Expr) (t:TO):Prop :=
 ∀ (pins:w4) (s:Shared) (σ:St) (H:Hp) (Q:Option Int->Hp->Prop),Inv X pins σ H s->t σ H Q ->
  wpAny (model X.prog X.w) X.A (evalPart e X.env) (fun u s'=>∃ o H',Inv X pins σ H' s'/\IsPart u o/\Q o H') X.xe s
def Yu:TO:=fun _ H Q=>Q none H
def acy (t:TE):TO:=fun σ H Q=>t σ H fun x H1=>∃ i,x=.int i/\Q (some i) H1
variable {xs:List V}{us:zw}
section
variable {X:Cx}{e:Expr}{te:TE}{lo hi:Option Expr}{tl th:TO}{pos p2:Pos}
def YM:PO X none Yu:=by
 intro pins s σ H Q I h;rw [evalPart_none];exact vx ⟨none,H,I,.none,h⟩
def XM (h:PE X e te):PO X (some e) (acy te):=by
 intro pins s σ H Q I hw;rw [evalPart_some];refine thn (h pins s σ H _ I hw) fun u s1 ⟨x,H1,I1,r1,q1⟩=>?_
 obtain ⟨i,rfl,q⟩:=q1;obtain ⟨t,rfl⟩:=r1;exact ⟨some i,H1,I1,.int i t,q⟩
def SlR (X:Cx) (r:V->Option Int->Option Int->Hp->VK->Prop):Prop :=
 ∀ (pins:w4) (s:Shared) (σ:St) (H:Hp) (x:V) (v vl vu:Value) (lo hi:Option Int) (sl:Addr) (Q:VK),Inv X pins σ H s->RelV x v->s.heap.IsSliceOf sl vl vu .none->IsPart vl lo->IsPart vu hi->r x lo hi H Q ->
  ∃ T id,typeLookup (.type T) "__getitem__"=pure (some (.builtin id)) /\ s.TypeIs v T /\ wpAny (model X.prog X.w) X.A (getItem v (.ref sl)) (EP X pins σ Q) X.xe s
def tSl (r:V->Option Int->Option Int->Hp->VK->Prop) (te:TE) (tl th:TO):TE:=fun σ H Q=>te σ H fun x H1=>tl σ H1 fun l H2=>th σ H2 fun u H3=>r x l u H3 Q
theorem TQ {r:V->Option Int->Option Int->Hp->VK->Prop} (hr:SlR X r) (he:PE X e te) (hl:PO X lo tl) (hu:PO X hi th):PE X (.Subscript e (.Slice lo hi none p2) pos) (tSl r te tl th):=by
 intro pins s σ H Q I h;refine Subscript_ (thn (he pins s σ H _ I h) fun v s1 ⟨x,H1,I1,r1,q1⟩=>?_);refine wpAny_Slice (thn (hl pins s1 σ H1 _ I1 q1) fun vl s2 ⟨l,H2,I2,pl,q2⟩=>thn (hu pins s2 σ H2 _ I2 q2) fun vu s3 ⟨u,H3,I3,pu,q3⟩=>?_);rw [evalPart_none];refine vx ?_;have I4:Inv X pins σ H3 { s3 with heap:=s3.heap.push { cls:=.type "slice",data:=.fields #[vl,vu,.none] } }:=I3.kept (t':=s3.toks) fun b ob q=>vS _ q
 obtain ⟨T,id,hT,ht,hg⟩:=hr pins { s3 with heap:=s3.heap.push { cls:=.type "slice",data:=.fields #[vl,vu,.none] } } σ H3 x v vl vu l u s3.heap.objs.size Q I4 r1 (Heap.IsSliceOf.new ..) pl pu q3
 show wpAny (model X.prog X.w) X.A (subscriptTail e (.Slice lo hi none p2) v (.ref s3.heap.objs.size)) (EP X pins σ Q) X.xe { s3 with heap:=s3.heap.push { cls:=.type "slice",data:=.fields #[vl,vu,.none] } }
 exact tail_any (ops:=[.ref s3.heap.objs.size,v]) ht hT hg (by with_unfolding_all rfl)
noncomputable def J9 (xs:List V) (lo hi:Option Int):List V:=(xs.drop (HT.sIx xs.length 0 lo)).take (HT.sIx xs.length xs.length hi - HT.sIx xs.length 0 lo)
def Kd (xs:List V) (lo hi:Option Int):(J9 xs lo hi).length<=xs.length:=by
 unfold J9;rw [List.length_take,List.length_drop];omega
def Xh (K:zt):R2:=fun x y H Q=>∃ a b xs ys,x=.ref a/\y=.ref b/\SqT K H a xs/\SqT K H b ys/\xs≠[]/\xs.length+ys.length<=sizeLine /\
 (ys=[]->Q (.ref a) H)/\(ys≠[]->∀ p,H p=none->Q (.ref p) (upd H p (.tup (xs++ys))))
theorem Vals.nil_iff (r:Vals xs us):us=[]↔xs=[]:=by
 cases r with
 | nil=>simp
 | cons _ _=>simp
def Yc:OpR X (binaryOp .Add) (Xh X.K):=by
 intro pins s σ H x y v u Q I rx ry h;obtain ⟨a,b,xs,ys,rfl,rfl,ha,hb,hx,hz,q1,q2⟩:=h;cases rx;cases ry;obtain ⟨its,r1,p1,_⟩:=I.tuple ha;obtain ⟨its2,r2,p2,_⟩:=I.tuple hb;refine HT.Yw p1 p2 (fun z=>hx (r1.nil_iff.mp z)) (fun z=>⟨.ref a,H,I,rfl,q1 (r2.nil_iff.mp z)⟩) (fun z=>?_) (by rw [<- r1.length,<- r2.length];exact hz);refine ⟨.ref s.heap.objs.size,_,I.laid (t':=s.toks) (o:=.tup (xs++ys)) (fun b ob q=>vS _ q) (v4 _) ?_,rfl,q2 (fun w=>z (r2.nil_iff.mpr w)) _ (I.hok.fresh (v4 _))⟩;exact ⟨by rw [List.length_append];exact hz,_,r1.append r2,IsTup.new _ _⟩
end
noncomputable def ixN (n:Nat) (i:Int):Option Nat:=if 0<=i then (if i < n then some i.toNat else none) else if -(n:Int)<=i then some (i+n).toNat else none
def atI {α:Type} (xs:List α) (i:Int):Option α:=(ixN xs.length i).bind fun j=>xs[j]?
variable {n:Nat}{i:Int}
def Ln {j:Nat} (h:ixN n i=some j):seqIndex? i n=some j/\j < n/\-(n:Int)<=i/\i < n:=by
 unfold ixN at h;by_cases h0:0<=i
 .rw [if_pos h0] at h;by_cases h1:i < n
  .rw [if_pos h1] at h;have e:i.toNat=j:=jb h;exact ⟨by rw [seqIndex_of h0 h1,e],by omega,by omega,h1⟩
  .rw [if_neg h1] at h;cases h
 .rw [if_neg h0] at h;by_cases h1:-(n:Int)<=i
  .rw [if_pos h1] at h;have e:(i+n).toNat=j:=jb h;exact ⟨by rw [seqIndex_neg (by omega) h1,e],by omega,h1,by omega⟩
  .rw [if_neg h1] at h;cases h
def Mf {α:Type}{xs:List α}{v:α} (h:atI xs i=some v):∃ j,seqIndex? i xs.length=some j/\xs[j]?=some v/\j < xs.length/\-(xs.length:Int)<=i/\i < xs.length:=by
 unfold atI at h;cases e:ixN xs.length i with
 | none=>rw [e] at h;cases h
 | some j =>
  rw [e] at h;obtain ⟨h1,h2,h3,h4⟩:=Ln e;exact ⟨j,h1,h,h2,h3,h4⟩
def Ls (b:Expr):Prop:=∀ o i,subscripted b false o i=operate [o,i] (getItem o i)
def IxR (X:Cx) (r:R2):Prop :=
 ∀ (value slice:Expr) (pins:w4) (s:Shared) (σ:St) (H:Hp) (x y:V) (v u:Value) (Q:VK),Inv X pins σ H s->RelV x v->RelV y u->r x y H Q ->
  subscripted slice false v u=operate [v,u] (getItem v u)->wpAny (model X.prog X.w) X.A (subscriptTail value slice v u) (EP X pins σ Q) X.xe s
def MtR (X:Cx) (id:String) (r:V->List V->Hp->VK->Prop):Prop :=
 ∀ (pins:w4) (s:Shared) (σ:St) (H:Hp) (x:V) (xs:List V) (v:Value) (us:zw) (Q:VK),Inv X pins σ H s->RelV x v->Vals xs us->r x xs H Q ->
  wpAny (model X.prog X.w) X.A (call (.builtin id) (v::us)) (EP X pins σ Q) X.xe s
variable {r:R2}{pins:w4}{σ:St}{H:Hp}{s:Shared}{p:Addr}{its its':zw}{x:V}{v:Value}
section
variable {X:Cx}{a b:Expr}{ta tb:TE}{pos:Pos}
theorem IxR.or {r':R2} (h:IxR X r) (h':IxR X r'):IxR X (fun x y H Q=>r x y H Q\/r' x y H Q):=by
 intro value slice pins s σ H x y v u Q I rx ry q hs;rcases q with q | q
 .exact h value slice pins s σ H x y v u Q I rx ry q hs
 .exact h' value slice pins s σ H x y v u Q I rx ry q hs
def abL (hr:IxR X r) (ha:PE X a ta) (hb:PE X b tb) (hs:Ls b):PE X (.Subscript a b pos) (tOp r ta tb):=by
 intro pins s σ H Q I h;exact Subscript_ (TV ha hb I h fun v u s2 x y H2 I2 rx ry q=>hr a b pins s2 σ H2 x y v u Q I2 rx ry q (hs _ _))
def aah (K:zt):R2:=fun x y H Q=>∃ p xs i v,x=.ref p/\y=.int i/\SqL K H p xs/\atI xs i=some v/\Q v H
def abu (K:zt):R2:=fun x y H Q=>∃ p xs i v,x=.ref p/\y=.int i/\SqT K H p xs/\atI xs i=some v/\Q v H
def Zr:IxR X (aah X.K):=by
 intro value slice pins s σ H x y v u Q I rx ry h hs;obtain ⟨p,xs,i,z,rfl,rfl,hq,he,q⟩:=h;cases rx;obtain ⟨t,rfl⟩:=ry;obtain ⟨its,r,pl,hz⟩:=I.list hq;obtain ⟨j,h1,h2,h3,h4,h5⟩:=Mf he;obtain ⟨w,ew,rw'⟩:=r.get h2;have hl:=r.length;have hn:=tH;have fin:EP X pins σ Q w s:=⟨z,H,I,rw',q⟩;by_cases h0:0<=i
 .have hj:i.toNat=j:=by
   rw [seqIndex_of h0 h5] at h1;exact jb h1
  exact item_listR pl.isList h0 (by omega) (by rw [hj];simpa using ew) fin hs
 .have hj:(i+(its.toArray.size:Int)).toNat=j:=by
   rw [seqIndex_neg (by omega) h4] at h1;rw [List.size_toArray,<- hl];exact jb h1
  exact subscriptTail_builtinR (x:=w) pl.isList.typeIs slot_list_getitem.lookup
   (wpAny_getItem_list_neg (Q:=fun r s'=>r=w/\EP X pins σ Q r s') pl.isList (by omega) (by rw [List.size_toArray] <;> omega) (by omega) (by rw [hj];simpa using ew) ⟨rfl,fin⟩) hs
def aaD:IxR X (abu X.K):=by
 intro value slice pins s σ H x y v u Q I rx ry h hs;obtain ⟨p,xs,i,z,rfl,rfl,hq,he,q⟩:=h;cases rx;obtain ⟨t,rfl⟩:=ry;obtain ⟨its,r,pl,hz⟩:=I.tuple hq;obtain ⟨j,h1,h2,h3,h4,h5⟩:=Mf he;obtain ⟨w,ew,rw'⟩:=r.get h2;have hl:=r.length;have hn:=tH;have fin:EP X pins σ Q w s:=⟨z,H,I,rw',q⟩;exact subscriptTail_builtinR (x:=w) pl.typeIs slot_tuple_getitem.lookup
  (getItem_tuple (j:=j) (Q:=fun r s'=>r=w/\EP X pins σ Q r s') pl (by omega) (by omega) (by rw [List.size_toArray,<- hl];exact h1) (by simpa using ew) ⟨rfl,fin⟩) hs
def O8 (its:zw) (n j:Nat) (u:Value):Obj.mapSeq (·.setIfInBounds j u) { cls:=.type "list",data:=.seq its.toArray n }={ cls:=.type "list",data:=.seq (its.set j u).toArray n }:=by
 simp [Obj.mapSeq]
theorem Inv.lst {pins:w4}{σ:St}{H:Hp}{s:Shared}{p:Addr}{xs:List V} (I:Inv X pins σ H s) (h:H p=some (.lst xs)) :
  ∃ (its:zw) (n:Nat),Vals xs its /\ s.heap.get? p=some { cls:=.type "list",data:=.seq its.toArray n } /\ xs.length <= sizeLine:=by
 obtain ⟨z,its,n,r,e⟩:=I.hok p _ h;exact ⟨its,n,r,e,z⟩
theorem Inv.lstUpd {ys:List V}{n':Nat}{f:Obj->Obj} (I:Inv X pins σ H s) (h:H p=some (.lst xs))
  (ho:s.heap.get? p=some { cls:=.type "list",data:=.seq its.toArray n }) (hf:f { cls:=.type "list",data:=.seq its.toArray n }={ cls:=.type "list",data:=.seq its'.toArray n' }) (r:Vals ys its') (hz:ys.length <= sizeLine) (t:Nat) :
  Inv X pins σ (upd H p (.lst ys)) { s with heap:=s.heap.update p f,toks:=t }:=by
 have e:(s.heap.update p f).get? p=some { cls:=.type "list",data:=.seq its'.toArray n' }:=by
  rw [Heap.get?_update_self f ho (by rw [hf] <;> rfl),hf]
 refine I.write (x:=p) (e:=p) (by rw [h];trivial) (.inl rfl) (fun b u hb q=>(yl _ _ (Ne.symm hb)).trans q) ⟨_,e⟩ ?_;exact ⟨hz,its',n',r,e⟩
def Xf:V->V->V->Hp->(Hp->Prop)->Prop:=fun o i v H Q=>∃ p xs k j,o=.ref p/\i=.int k/\H p=some (.lst xs)/\ixN xs.length k=some j/\Q (upd H p (.lst (xs.set j v)))
def set_list:Oj X Xf:=by
 intro pins s σ H o i v ov iv u Q I ro ri rv h;obtain ⟨p,xs,k,j,rfl,rfl,hp,hj,q⟩:=h;cases ro;obtain ⟨t,rfl⟩:=ri;obtain ⟨its,n,r,ho,hz⟩:=I.lst hp;obtain ⟨h1,h2,h3,h4⟩:=Ln hj;have hl:=r.length;have hn:=tH;have I':Inv X pins σ (upd H p (.lst (xs.set j v))) { s with heap:=s.heap.update p (Obj.mapSeq (·.setIfInBounds j u)) } :=
  I.lstUpd hp ho (O8 its n j u) (r.set rv j) (by rw [List.length_set];exact hz) s.toks
 by_cases h0:0<=k
 .have hk:k.toNat=j:=by
   rw [seqIndex_of h0 h4] at h1;exact jb h1
  exact PySem.W.ki_setAt ho h0 (by omega) (by rw [List.size_toArray,<- hl];exact h4) (by rw [hk];exact ⟨_,I',q⟩)
 .have hk:(k+(its.toArray.size:Int)).toNat=j:=by
   rw [seqIndex_neg (by omega) h3] at h1;rw [List.size_toArray,<- hl];exact jb h1
  exact PySem.W.ki_setBack ho (by omega) (by rw [List.size_toArray,<- hl];exact h3) (by omega) (by rw [hk];exact ⟨_,I',q⟩)
def Hy (lo hi:Option Int) (n:Nat):(sliceBounds lo hi none n).1=((HT.sIx n 0 lo:Nat):Int)/\(sliceBounds lo hi none n).2.1=((HT.sIx n n hi:Nat):Int)/\(sliceBounds lo hi none n).2.2=1:=by
 refine ⟨?_,?_,rfl⟩
 .cases lo with
  | none=>simp [sliceBounds,HT.sIx]
  | some i =>
   simp only [sliceBounds,HT.sIx,Option.getD_none,show (1:Int) > 0 by decide,if_true];by_cases h:i < 0
   .simp only [h,if_true] <;> omega
   .simp only [h,if_false] <;> omega
 .cases hi with
  | none=>simp [sliceBounds,HT.sIx]
  | some i =>
   simp only [sliceBounds,HT.sIx,Option.getD_none,show (1:Int) > 0 by decide,if_true];by_cases h:i < 0
   .simp only [h,if_true] <;> omega
   .simp only [h,if_false] <;> omega
theorem FT (its:zw) (lo hi:Option Int):slicePick its.toArray lo hi none=((its.drop (HT.sIx its.length 0 lo)).take (HT.sIx its.length its.length hi - HT.sIx its.length 0 lo)).toArray:=by
 obtain ⟨h1,h2,h3⟩:=Hy lo hi its.toArray.size;unfold slicePick;rw [h1,h2,h3];simp only [sliceRange_one,pick_run,List.size_toArray] <;> rfl
def abf (K:zt):V->Option Int->Option Int->Hp->VK->Prop:=fun x lo hi H Q=>∃ a xs,x=.ref a/\SqL K H a xs/\∀ p,H p=none->Q (.ref p) (upd H p (.lst (J9 xs lo hi)))
def Ym:SlR X (abf X.K):=by
 intro pins s σ H x v vl vu lo hi sl Q I rx hs pl pu h;obtain ⟨a,xs,rfl,hx,q⟩:=h;cases rx;obtain ⟨its,r,ht,hz⟩:=I.list hx;have hlen:=r.length;refine ⟨"list",_,slot_list_getitem.lookup,ht.isList.typeIs,?_⟩
 refine wpAny_getItem_list_slice ht.isList hs pl pu .none (by simp) ?_ (by rw [List.size_toArray] <;> omega);rw [FT,<- hlen];refine ⟨.ref s.heap.objs.size,_,I.laid (t':=s.toks) (o:=.lst (J9 xs lo hi)) (fun b ob q=>vS _ q) (v4 _) ?_,rfl,q _ (I.hok.fresh (v4 _))⟩;exact ⟨yb (Kd xs lo hi) hz,_,0,(r.drop (HT.sIx xs.length 0 lo)).take (HT.sIx xs.length xs.length hi - HT.sIx xs.length 0 lo),vT _ rfl⟩
noncomputable def Xe:V->Bool
 | .non=>true
 | .bl _=>true
 | .int _=>true
 | .str _=>true
 | _=>false
noncomputable def eqV:V->V->Bool
 | .non,.non=>true
 | .bl a,.bl b=>a == b
 | .bl a,.int b=>(if a then 1 else 0) == b
 | .int a,.bl b=>a == (if b then 1 else 0)
 | .int a,.int b=>a == b
 | .str a,.str b=>a == b
 | _,_=>false
def aaR {A:Around}{y:V}{u:Value} (ry:RelV y u) (rx:RelV x v) (fy:Xe y=true) (fx:Xe x=true):SeqAt.EqAt A s u v (eqV y x):=by
 cases y with
 | non =>
  cases ry;cases x with
  | non=>cases rx;exact SeqAt.EqAt.same _
  | bl b=>cases rx;exact SeqAt.EqAt.none_bool b
  | int b=>obtain ⟨t,rfl⟩:=rx;exact SeqAt.EqAt.none_int b t
  | str b=>obtain ⟨t,rfl⟩:=rx;exact SeqAt.EqAt.none_str b t
  | _=>exact absurd (show false=true from fx) js
 | bl a =>
  cases ry;cases x with
  | non=>cases rx;exact SeqAt.EqAt.bool_none a
  | bl b=>cases rx;exact SeqAt.EqAt.bool_bool a b
  | int b=>obtain ⟨t,rfl⟩:=rx;exact SeqAt.EqAt.bool_int a b t
  | str b=>obtain ⟨t,rfl⟩:=rx;exact SeqAt.EqAt.bool_str a b t
  | _=>exact absurd (show false=true from fx) js
 | int a =>
  obtain ⟨t',rfl⟩:=ry;cases x with
  | non=>cases rx;exact SeqAt.EqAt.int_none a t'
  | bl b=>cases rx;exact SeqAt.EqAt.int_bool a t' b
  | int b=>obtain ⟨t,rfl⟩:=rx;exact SeqAt.EqAt.int_int a t' b t
  | str b=>obtain ⟨t,rfl⟩:=rx;exact SeqAt.EqAt.int_str a t' b t
  | _=>exact absurd (show false=true from fx) js
 | str a =>
  obtain ⟨t',rfl⟩:=ry;cases x with
  | non=>cases rx;exact SeqAt.EqAt.str_none a t'
  | bl b=>cases rx;exact SeqAt.EqAt.str_bool a t' b
  | int b=>obtain ⟨t,rfl⟩:=rx;exact SeqAt.EqAt.str_int a t' b t
  | str b=>obtain ⟨t,rfl⟩:=rx;exact SeqAt.EqAt.str_str a t' b t
  | _=>exact absurd (show false=true from fx) js
 | _=>exact absurd (show false=true from fy) js
def Hr:gH X (.builtin "len") (fun xs H Q=>∃ p ys,xs=[.ref p] /\ (SqL X.K H p ys \/ SqT X.K H p ys) /\ Q (.int ys.length) H):=by
 intro pins s σ H xs us Q I r h;obtain ⟨p,ys,rfl,hq,q⟩:=h;obtain ⟨u,rfl,rx⟩:=vals1 r;cases rx;have hn:=tH;rcases hq with hq | hq
 .obtain ⟨its,r',pl,hz⟩:=I.list hq;have hlen:=r'.length;exact Calls.call_len_list pl.isList (by simp only [List.size_toArray] <;> omega) ⟨.int ys.length,H,I.tok _,⟨s.toks+1,by rw [List.size_toArray,hlen]⟩,q⟩
 .obtain ⟨its,r',pl,hz⟩:=I.tuple hq;have hlen:=r'.length;exact len_tuple pl (by simp only [List.size_toArray] <;> omega) ⟨.int ys.length,H,I.tok _,⟨s.toks+1,by rw [List.size_toArray,hlen]⟩,q⟩
theorem gH.or {f:Value}{r r':List V->Hp->VK->Prop} (h:gH X f r) (h':gH X f r'):gH X f (fun xs H Q=>r xs H Q\/r' xs H Q):=by
 intro pins s σ H xs us Q I rs q;rcases q with q | q
 .exact h pins s σ H xs us Q I rs q
 .exact h' pins s σ H xs us Q I rs q
def xH:gH X (.type "list") (fun xs H Q=>∃ p ys,xs=[.ref p] /\ (SqL X.K H p ys \/ SqT X.K H p ys) /\ ∀ l,H l=none -> Q (.ref l) (upd H l (.lst ys))):=by
 intro pins s σ H xs us Q I r h;obtain ⟨p,ys,rfl,hq,q⟩:=h;obtain ⟨u,rfl,rx⟩:=vals1 r;cases rx;have fin:∀ (its:zw),Vals ys its->ys.length<=sizeLine->∀ (h':Heap) (c':Nat),(∀ b o',s.heap.get? b=some o'->h'.get? b=some o') ->
   h'.get? s.heap.objs.size=some { cls:=.type "list",dict:=none,data:=.seq its.toArray c',slots:=#[] } -> EP X pins σ Q (.ref s.heap.objs.size) { s with heap:=h' }:=fun its r' hz h' c' kp e =>
  ⟨.ref s.heap.objs.size,_,I.laid (t':=s.toks) kp (v4 _) (show cD X.prog X.w _ h' _ (.lst ys) from ⟨hz,its,c',r',e⟩),rfl,q _ (I.hok.fresh (v4 _))⟩
 rcases hq with hq | hq
 .obtain ⟨its,r',pl,hz⟩:=I.list hq;have hlen:=r'.length;obtain ⟨o,ho,hc,n,hd⟩:=pl.isList;exact call_list_seq p (.inl rfl) ho hc hd (fun h' c' kp e=>fin its r' hz h' c' kp e) (by simp only [List.size_toArray] <;> omega)
 .obtain ⟨its,r',pl,hz⟩:=I.tuple hq;have hlen:=r'.length;obtain ⟨o,ho,hc,n,hd⟩:=pl;exact call_list_seq p (.inr rfl) ho hc hd (fun h' c' kp e=>fin its r' hz h' c' kp e) (by simp only [List.size_toArray] <;> omega)
def FW:gH X (.type "tuple") (fun xs H Q=>∃ p ys,xs=[.ref p] /\ ((SqL X.K H p ys /\ ∀ l,H l=none -> Q (.ref l) (upd H l (.tup ys))) \/ (SqT X.K H p ys /\ Q (.ref p) H))):=by
 intro pins s σ H xs us Q I r h;obtain ⟨p,ys,rfl,h⟩:=h;obtain ⟨u,rfl,rx⟩:=vals1 r;cases rx;rcases h with ⟨hq,q⟩ | ⟨hq,q⟩
 .obtain ⟨its,r',pl,hz⟩:=I.list hq;have hlen:=r'.length;refine call_tuple_list pl.isList (fun h' kp=>?_) (by simp only [List.size_toArray] <;> omega);have I1:Inv X pins σ H { s with heap:=h' }:=I.kept (t':=s.toks) kp;have I2:Inv X pins σ (upd H h'.objs.size (.tup ys)) { s with heap:=h'.push { cls:=.type "tuple",data:=.seq its.toArray } } :=
   I1.laid (t':=s.toks) (fun b o e=>vS _ e) (v4 _) (show cD X.prog X.w _ _ _ (.tup ys) from ⟨hz,its,r',IsTup.new _ _⟩)
  exact ⟨.ref h'.objs.size,_,I2,rfl,q _ (I1.hok.fresh (v4 _))⟩
 .obtain ⟨its,r',pl,hz⟩:=I.tuple hq;exact call_tuple_same pl ⟨.ref p,H,I,rfl,q⟩
def tyV (K:zt) (T:String) (x:V) (H:Hp):Prop:=match x with
 | .str _=>T="str"
 | .int _=>T="int"
 | .ref p=>(T="list" /\ ∃ xs,SqL K H p xs) \/ (T="tuple" /\ ∃ o,K.lookup p=some o /\ o.cls=.type "tuple" /\ o.dict=none) \/
   (T="dict" /\ ((∃ kvs,H p=some (.dK kvs)) \/ ∃ kvs,H p=some (.dT kvs))) \/ (T="set" /\ ∃ S n,H p=some (.set S n))
 | _=>False
def abo {T:String} (I:Inv X pins σ H s) (r:RelV x v) (ty:tyV X.K T x H) :
  s.TypeIs v T/\∀ a,v=.ref a->∃ ob,s.heap.get? a=some ob/\ob.dict=none:=by
 cases x with
 | str z =>
  obtain ⟨t,rfl⟩:=r;cases (show T="str" from ty)
  exact ⟨typeIs_str s z t,fun _ e=>nomatch e⟩
 | int i =>
  obtain ⟨t,rfl⟩:=r;cases (show T="int" from ty)
  exact ⟨typeIs_int s i t,fun _ e=>nomatch e⟩
 | ref p =>
  cases r;rcases ty with ⟨rfl,xs,hq⟩ | ⟨rfl,o,hk,hc,hd⟩ | ⟨rfl,hk⟩ | ⟨rfl,S,n,hk⟩
  .obtain ⟨its,_,pl,_⟩:=I.list hq;refine ⟨pl.isList.typeIs,fun a e=>?_⟩;cases e;obtain ⟨o,n,e,c,hd,_⟩:=pl;exact ⟨o,e,hd⟩
  .refine ⟨⟨o,I.kIn p o hk,hc⟩,fun a e=>?_⟩;cases e;exact ⟨o,I.kIn _ o hk,hd⟩
  .have z:∃ o,s.heap.get? p=some o/\o.ExactDict:=by
    rcases hk with ⟨kvs,hk⟩ | ⟨kvs,hk⟩
    .obtain ⟨_,_,_,_,o,_,_,e,ex,_⟩:=I.hok p _ hk;exact ⟨o,e,ex⟩
    .obtain ⟨_,_,_,_,o,_,_,e,ex,_⟩:=I.hok p _ hk;exact ⟨o,e,ex⟩
   obtain ⟨o,e,ex⟩:=z;refine ⟨⟨o,e,ex.1⟩,fun a e2=>?_⟩;cases e2;exact ⟨o,e,ex.2.1⟩
  .obtain ⟨o,_,_,_,e,ex,_⟩:=I.hok p _ hk;refine ⟨⟨o,e,ex.1⟩,fun a e2=>?_⟩;cases e2;exact ⟨o,e,ex.2.1⟩
 | _=>exact jd ty
def tBM (K:zt) (T:String) (r:V->List V->Hp->VK->Prop) (to:TE) (t:TA):TE:=fun σ H Q=>to σ H fun x H1=>tyV K T x H1/\t σ H1 fun xs H2=>r x xs H2 Q
variable {o e:Expr}{es:ve}{to:TE}{t:TA}{name:Str}{apos cpos:Pos}{T id:String}{r:V->List V->Hp->VK->Prop}
def Gv (pa:PlainAttrs T) (slot:Slot T name id) (hty:typeOf (.builtin id)=pure (.type "method_descriptor")) (hm:MtR X id r) (ho:PE X o to) (ha:PA X (e::es) t)
  (hbase:attributeBase o name X.env (eval o X.env)=eval o X.env:=by rfl)
  (hfew:((backTo cpos (starEach (e::es) X.env)).all (fun x=>!x.1) && (backToKw cpos (keywordEach [] X.env)).all (fun x=>x.1.isSome)
   && decide ((e::es).length+([]:List Keyword).length+(if ([]:List Keyword).isEmpty then 0 else 1) < 30))=true:=by rfl)
  (hline:(apos.endLine == cpos.line)=true:=by rfl) (hs:starEach (e::es) X.env=(false,eval e X.env)::starEach es X.env:=by rfl) (hplain:(backTo cpos (starEach es X.env)).any (·.1)=false:=by rfl) :
  PE X (.Call (.Attribute o name apos) (e::es) [] cpos) (tBM X.K T r to t):=by
 intro pins s σ H Q I h;refine wpAny_Call_method_late hbase hfew hline rfl (thn (ho pins s σ H _ I h) fun v s1 ⟨x,H1,I1,r1,ty,q1⟩=>?_);obtain ⟨h1,h2⟩:=abo I1 r1 ty;refine ⟨T,id,pa,slot,hty,h1,h2,?_⟩;have hA:=ha cpos pins s1 σ H1 _ I1 q1;rw [hs] at hA ⊢;refine Calls.callWith_builtin (by show (false || (backTo cpos (starEach es X.env)).any (·.1))=false;rw [hplain] <;> rfl) (Calls.evalArgs_plain ?_);exact thn hA fun us s2 ⟨vs,H2,I2,r2,q2⟩=>hm pins s2 σ H2 x vs v us Q I2 r1 r2 q2
end
def MtM (X:Cx) (id:String) (r:V->List V->Hp->VK->Prop):Prop :=
 ∀ (pins:w4) (s:Shared) (σ:St) (H:Hp) (x:V) (xs:List V) (v:Value) (us:zw) (Q:VK),Inv X pins σ H s->RelV x v->Vals xs us->r x xs H Q ->
  wpAny (model X.prog X.w) X.A (call (.builtin id) (v::us)) (EP X pins σ Q) X.xe s
theorem Vals.one:∀ {x:V}{us:zw},Vals [x] us->∃ u,us=[u]/\RelV x u
 | _,_,.cons r .nil=>⟨_,rfl,r⟩
theorem Vals.eraseIdx:∀ {xs:List V}{us:zw} (i:Nat),Vals xs us->Vals (xs.eraseIdx i) (us.eraseIdx i)
 | _,_,_,.nil=>.nil
 | _,_,0,.cons _ t=>t
 | _,_,i+1,.cons r t=>.cons r (Vals.eraseIdx i t)
theorem Vals.reverse (h:Vals xs us):Vals xs.reverse us.reverse:=by
 induction h with
 | nil=>exact .nil
 | cons r t ih=>rw [List.reverse_cons,List.reverse_cons];exact Vals.append ih (.cons r .nil)
theorem Ed {α:Type}:∀ (l:List α) (i:Nat),(l.eraseIdx i).length<=l.length
 | [],_=>v4 _
 | _::_,0=>Nat.le_succ _
 | _::r,i+1=>Nat.succ_le_succ (Ed r i)
section
variable {X:Cx}{pins:w4}{σ:St}{H:Hp}{s:Shared}{l b:Addr}{xs ys zs:List V}
theorem Inv.lset {f:vj->vj}{t':Nat} (I:Inv X pins σ H s) (hH:H l=some (.lst xs))
  (e:s.heap.get? l=some { cls:=.type "list",data:=.seq its.toArray n }) (hf:f its.toArray=its'.toArray) (hv:Vals ys its') (hz:ys.length <= sizeLine) :
  Inv X pins σ (upd H l (.lst ys)) { s with heap:=s.heap.update l (Obj.mapSeq f),toks:=t' }:=by
 have q:=PySem.IsL.update e f;rw [hf] at q;refine I.write (x:=l) (e:=l) (by rw [hH];exact trivial) (.inl rfl) (fun b' u hb hu=>(yl s.heap (Obj.mapSeq f) (Ne.symm hb)).trans hu) ⟨_,q⟩ ?_;exact ⟨hz,its',_,hv,q⟩
theorem Inv.lnew {t':Nat} (I:Inv X pins σ H s) (hv:Vals ys its) (hz:ys.length<=sizeLine) :
  Inv X pins σ (upd H s.heap.objs.size (.lst ys)) { s with heap:=s.heap.push { cls:=.type "list",data:=.seq its.toArray },toks:=t' } :=
 I.laid (fun _ _ q=>vS _ q) (v4 _) ⟨hz,its,0,hv,vT _ rfl⟩
theorem Inv.fresh (I:Inv X pins σ H s):H s.heap.objs.size=none:=I.hok.fresh (v4 _)
theorem Inv.lstM (I:Inv X pins σ H s) (hH:H l=some (.lst xs)):xs.length <= sizeLine /\ ∃ (its:zw) (n:Nat),Vals xs its /\ xs.length=its.length /\ s.heap.get? l=some { cls:=.type "list",data:=.seq its.toArray n }:=by
 obtain ⟨z,its,n,r,e⟩:=I.hok l _ hH;exact ⟨z,its,n,r,r.length,e⟩
def Wc (h:n<=sizeLine):Builtin.List.listTooLong n=false:=by
 unfold Builtin.List.listTooLong;exact yk (by omega)
end
section
variable {X:Cx}
def Mv:V->List V->Hp->VK->Prop:=fun x vs H Q=>∃ l xs y,x=.ref l/\vs=[y]/\H l=some (.lst xs)/\xs.length < sizeLine/\Q .non (upd H l (.lst (xs++[y])))
def vO:MtM X "list.append" Mv:=by
 intro pins s σ H x vs v us Q I rx rv h;obtain ⟨l,xs,y,rfl,rfl,hH,hz,q⟩:=h;cases rx;obtain ⟨u,rfl,ru⟩:=rv.one;obtain ⟨z,its,n,r,hl,e⟩:=I.lstM hH;refine call_meets F.slot_list_append ⟨_,e,rfl⟩ F.entry_list_append (F.args_list_append_2 _ _) (PySem.list_append l its.toArray n u (by rw [List.size_toArray];omega)) ⟨e,?_⟩;refine ⟨.non,_,I.lset (its':=its++[u]) hH e (by simp) (r.append (.cons ru .nil)) ?_,rfl,q⟩;rw [List.length_append,List.length_singleton];omega
end
section
variable {X:Cx}{pins:w4}{σ:St}{H:Hp}{s:Shared}{a:Addr}{y v:V}{u r:Value}{o:Option V}{A:Around}{E:zn}
theorem Inv.big (I:Inv X pins σ H s):sysModules < s.heap.objs.size:=by
 have h:mainGlobals < s.heap.objs.size:=(I.mod.glob.keeps I.bk).lt;exact Nat.lt_trans (by decide) h
end
structure M2 (X:Cx) (o:Expr) (m:Str) (apos:Pos) (e f:Expr) (cpos:Pos):Prop where
 base:attributeBase o m X.env (eval o X.env)=eval o X.env
 few:((backTo cpos (starEach [e,f] X.env)).all (fun x=>!x.1) && (backToKw cpos (keywordEach [] X.env)).all (fun x=>x.1.isSome)
  && decide (([e,f]:ve).length+([]:List Keyword).length+(if ([]:List Keyword).isEmpty then 0 else 1) < 30))=true
 line:(apos.endLine == cpos.line)=true
 trees:backTo cpos (starEach [e,f] X.env)=[(false,eval e X.env),(false,eval f X.env)]
end L2
namespace Att
open PySem PySem.W PySem.Calls PyProof.Rows
variable {P:Params}{h:Heap}
def Bx :∀ (ns:List Int) (vs:zw),WellAll P h vs (ns.map WData.int)->IntsAre vs ns:=by
 intro ns;induction ns with
 | nil =>
  intro vs w;rw [List.map_nil] at w;cases w;exact .nil
 | cons n ns ih =>
  intro vs w;rw [List.map_cons] at w;cases w with
  | cons a b =>
   cases a;exact .cons _ _ (ih _ b)
variable {l:OpenLaw}{n:Nat}
def RX (hn:l.most=some n) {args:List WData}{vals:zw}
  (hpre:l.row.toRowW.claim.pre args=true) (hwl:WellAll P h vals args) :
  ∃ a vs ns,vals=[Value.ref a] /\ args=[WData.list (ns.map WData.int)] /\ h.get? a=some { cls:=.type "list",data:=.seq vs.toArray } /\ IntsAre vs ns /\ ns.length <= n:=by
 have hsh:WShape.hasAll [] args [.list .int]=true:=(pre_splitW hpre).1;have hc:l.pre.holds [] { args:=args }=true:=(pre_splitW hpre).2;obtain ⟨d,r,rfl,h1,h2⟩:=hasAllW_cons hsh;obtain rfl:=hasAllW_nil h2;obtain ⟨xs,rfl,h3⟩:=hasW_list h1;obtain ⟨ns,rfl⟩:=items_int h3;have hlen:ns.length<=n:=by
  unfold OpenLaw.pre at hc;have h4:(WTm.not (.lt (.lit (.int (n:Int))) (.len (.arg 0)))).holds [] { args:=[.list (ns.map .int)] }=true:=by
   have h4:=(holds_andW hc).1;rw [hn] at h4;exact h4
  have h5:=condW_of h4 (w_not (w_lt w_lit (w_len_list (w_arg rfl))));rw [List.length_map] at h5;refine Nat.le_of_not_lt fun q=>?_
  have q':(n:Int) < ((ns.length:Nat):Int):=by omega
  first
   | (rw [decide_eq_true q'] at h5;exact absurd h5 (by decide))
   | (simp at h5;omega)
 cases hwl with
 | cons w1 w2 =>
  cases w2;cases w1 with
  | list ho hall=>exact ⟨_,_,ns,rfl,rfl,ho,Bx ns _ hall,hlen⟩
theorem QZ (l:OpenLaw) (args:List WData):l.row.toRowW.claim.post args (.bool true) args=true :=
 postW_of (r:=l.row.toRowW) (X:=(true == true))
  (show WShape.has [] (.bool true) .bool=true by first | rfl | decide | simp [WShape.has,WShape.arms,WShape.armsAll])
  (show (WTm.eq .res (.lit (.bool true))).value [] { args:=args,res:=some (.bool true),after:=args }=some (.bool (true == true)) from w_eq_bool (w_res rfl) w_lit) rfl
def Kz {q:Program}{loose:z0}{XP:(w8)->Heap->Prop}{YP:World->Heap->Prop}{d:DefRec}
  (hn:l.most=some n) (hdf:d.params.defaults=[])
  (call:∀ (w:World) (s₀ s₁:Shared) (mg mb:w8) (fa:Addr) (o:Obj) (pm cd doc:Value) (a:Addr) (vs:zw) (ns:List Int),
   Ground q loose [] XP w s₀ mg mb s₁.heap->YP w s₁.heap ->
   s₁.heap.get? fa=some o->o.data=.func (docDef d.name d.params d.body d.scope pm cd doc)->s₁.heap.CodeRec cd d.name->mg d.name=some (.ref fa) ->
   s₁.heap.get? a=some { cls:=.type "list",data:=.seq vs.toArray } -> IntsAre vs ns -> ns.length <= n -> s₁.gens=#[] ->
   codeAny (model l.prog w) callerA (.call (.ref fa) ⟨[.ref a],[]⟩) (fun r s'=>r=.ok (.ret (.bool true))/\OldK s₁.heap s'.heap/\s'.os=s₁.os/\AllBare s'.gens) s₁) :
  WalkO q loose XP YP l.row.toRowW d [] (fun f vs=>PySem.call f vs):=by
 intro w s₀ s₁ mg mb G Y fa o pm cd doc dV kV ho hd hcd hD hmg hg args vals as hpre hlay hrd hwl hlo;obtain rfl:dV=.none:=Dflts.none hD hdf;obtain rfl:kV=.none:=Dflts.noKw hD;obtain ⟨a,vs,ns,rfl,rfl,hobj,hints,hlen⟩:=RX hn hpre hwl;refine enter_call (codeAny_mono (call w s₀ s₁ mg mb fa o pm cd doc a vs ns G Y ho (fd_plain hd) hcd hmg hobj hints hlen hg) fun r s' hq=>?_);obtain ⟨rfl,h2,h3,h4⟩:=hq;exact ⟨.inl ⟨.bool true,.bool true,[],rfl,fun _=>rfl,.bool true,QZ l _,fun _=>⟨List.Pairwise.nil,fun _ hm=>(nomatch hm)⟩⟩,h2,h3,h4⟩
end Att
namespace L2
open PySem PySem.Spec PyProof.Rows
theorem Ft:∀ {vs:zw}{ns:List Int},IntsAre vs ns->Vals (ns.map V.int) vs
 | _,_,.nil=>.nil
 | _,_,.cons n t h=>.cons ⟨t,rfl⟩ (Ft h)
def Only (H:Hp):Prop:=∀ b,H b=none\/(∃ o xs,H b=some (.frz o (.lst xs)))\/H b=some (.tbl #[])
def Ce (mg:w8) (h:Heap) (tP:vk):Prop:=match tP with
 | none=>∀ a,mg "check_tests" ≠ some (.ref a)
 | some P=>∃ zl ot fdt ct,mg "check_tests"=some (.ref zl) /\ h.get? zl=some ot /\ ot.data=.func fdt /\ fdt.code=.ref ct /\ h.TableAt ct P #[]
variable {K:zt}{k:Nat}{a:Addr}{fd:FuncData}{x:Str}{sp:Sp}
def Wn {P:Program}{w:World}{mg mb:w8}{CX:CXT}{fa:Addr}{s₁:Shared}{vs:zw}{ns:List Int}{tP:vk}
  (KX:K.In s₁.heap) (hns:s₁.heap.Ns mainGlobals mg) (hb:s₁.heap.Ns builtinsNs mb) (hbb:∀ x:Str,x ≠ "__name__" -> mb x=bootBuiltins x) (hlim:s₁.heap.NoLimit) (hg:s₁.gens=#[])
  (hbm:∃ bm ob,mg "__builtins__"=some (.ref bm) /\ bm ≠ builtinsNs /\ s₁.heap.get? bm=some ob /\ ob.cls=.type "module" /\ ob.dict=some builtinsNs /\ ob.data=.plain) (hT:Ce mg s₁.heap tP) (hKc:∀ b o,K.lookup b=some o -> Pn o)
  (ha:s₁.heap.get? a=some { cls:=.type "list",data:=.seq vs.toArray }) (hi:IntsAre vs ns) (hl:ns.length <= sizeLine) (hr:Room k callerA)
  (F:∀ base:Heap,K.In base->base.Ns mainGlobals mg->FnOk P w K mg base CX k fa fd [x] sp) (hbind:∀ (s:Shared) (u:Value),BindsTo s fd ⟨[u],[]⟩ [(x,u)])
  (hsp:∀ H:Hp,Only H->SqL K H a (ns.map V.int)->sp [.ref a] H (fun v _=>v=.bl true) fun _ _ _=>False)
  (hCX:∀ H e s',CX [] H s₁ (fun _ _ _=>False) e s'->False) :
  codeAny (model P w) callerA (.call (.ref fa) ⟨[.ref a],[]⟩) (fun r s'=>r=.ok (.ret (.bool true))/\OldK s₁.heap s'.heap/\s'.os=s₁.os/\AllBare s'.gens) s₁:=by
 have rv:=Ft hi;have lenV:=hi.length;have tabP:∀ p,tP=some p->∃ ct,s₁.heap.TableAt ct p #[]:=fun p e=>by
  subst e;obtain ⟨_,_,_,ct,_,_,_,_,q⟩:=hT;exact ⟨ct,q⟩
 have tne:∀ p,tP=some p->p≠a:=fun p e z=>by
  obtain ⟨ct,_,q⟩:=tabP p e;rw [z,ha] at q;cases q
 have core:∀ H:Hp,Only H -> SqL K H a (ns.map V.int) -> (∀ b,H b ≠ none -> b=a \/ (tP=some b /\ H b=some (.tbl #[]))) -> (H a ≠ none -> K.lookup a=none /\ ∃ xs:List V,xs.length <= sizeLine /\ Vals xs vs /\ H a=some (.frz { cls:=.type "list",data:=.seq vs.toArray } (.lst xs))) -> (∀ p,tP=some p -> H p=some (.tbl #[])) ->
   codeAny (model P w) callerA (.call (.ref fa) ⟨[.ref a],[]⟩) (fun r s'=>r=.ok (.ret (.bool true))/\OldK s₁.heap s'.heap/\s'.os=s₁.os/\AllBare s'.gens) s₁:=by
  intro H hO hS hA hK hTb;have hok:HOk P w H s₁.heap:=fun b u z=>by
   rcases hA b (by rw [z];simp) with rfl | ⟨e,e2⟩
   .obtain ⟨_,xs,h1,h2,h3⟩:=hK (by rw [z];simp);rw [z] at h3;cases h3;exact ⟨ha,h1,vs,_,h2,ha⟩
   .rw [z] at e2;cases e2;obtain ⟨ct,_,q⟩:=tabP b e;exact ⟨#[],q,trivial,fun pos v hc=>by cases hc⟩
  have base_of:∀ {b:Addr}{o:Obj},s₁.heap.get? b=some o->H b=none->(rT s₁.heap H).get? b=some o:=fun e n=>Uo e n
  have noT:∀ {b:Addr}{o:Obj},s₁.heap.get? b=some o->(∀ us n,o.data≠.seq us n)->(∀ us,o.data≠.fields us)->H b=none:=fun {b o} e d1 d2=>by
   cases q:H b with
   | none=>rfl
   | some u =>
    rcases hA b (by rw [q];simp) with e' | ⟨e',_⟩
    .subst e';rw [ha] at e;cases e;exact absurd rfl (d1 _ _)
    .obtain ⟨ct,_,q'⟩:=tabP b e';rw [q'] at e;cases e;exact absurd rfl (d2 _)
  have noA:∀ {b:Addr}{o:Obj}{es:Array DictEntry}{ep:Nat},s₁.heap.get? b=some o->o.data=.dict es ep->H b=none:=fun {b o es ep} e d=>noT e (fun us n z=>by rw [d] at z;cases z) fun us z=>by rw [d] at z;cases z
  have nsK:∀ {b:Addr}{m:w8},s₁.heap.Ns b m->(rT s₁.heap H).Ns b m:=fun {b m} ⟨o,es,ep,e,d,r⟩=>⟨o,es,ep,base_of e (noA e d),d,r⟩
  have hKb:K.In (rT s₁.heap H):=fun b o e=>base_of (KX b o e) (by
   cases q:H b with
   | none=>rfl
   | some u =>
    rcases hA b (by rw [q];simp) with e' | ⟨e',_⟩
    .subst e';rw [(hK (by rw [q];simp)).1] at e;cases e
    .obtain ⟨ct,_,q'⟩:=tabP b e';have e2:=KX b o e;rw [q'] at e2;cases e2;exact absurd rfl (hKc b _ e _ rfl))
  have hB:∃ bm ob,mg "__builtins__"=some (.ref bm) /\ bm ≠ builtinsNs /\ bm ≠ mainGlobals /\ (rT s₁.heap H).get? bm=some ob /\ ob.cls=.type "module" /\ ob.dict=some builtinsNs /\ ob.data=.plain:=by
   obtain ⟨bm,ob,b1,b2,b3,b4,b5,b6⟩:=hbm;refine ⟨bm,ob,b1,b2,fun q=>?_,base_of b3 (noT b3 (fun us n z=>by rw [b6] at z;cases z) fun us z=>by rw [b6] at z;cases z),b4,b5,b6⟩;obtain ⟨o,es,ep,e,hd,_⟩:=hns;rw [q,e] at b3;cases b3;rw [hd] at b6;cases b6
  have hM:Mod K mg (rT s₁.heap H):=⟨hKb,nsK hns,⟨mb,nsK hb,hbb⟩,let ⟨mc,h1,h2⟩:=hlim;⟨mc,nsK h1,h2⟩,hB⟩;have hTI:pO K mg H:=fun a' o fd' c oc us p e1 e2 e3 e4 e5 e6 e7=>by
   cases tP with
   | none=>exact absurd e1 (hT a')
   | some p' =>
    obtain ⟨zl,ot,fdt,ct,t1,t2,t3,t4,⟨o',vs',t5,_,t6,t7⟩,_⟩:=hT;rw [e1] at t1;cases t1;rw [KX _ _ e2] at t2;cases t2;rw [e3] at t3;cases t3;rw [e4] at t4;cases t4;rw [KX _ _ e5] at t5;cases t5;rw [e6] at t6;cases t6;rw [e7] at t7;cases t7;exact ⟨_,hTb _ rfl⟩
  have e0:Env0 P w K mg (rT s₁.heap H) callerA [] s₁ H:=⟨rfl,hM,fun b o e=>XC e,Nat.le_of_eq (QK _ _),trivial,fun b hb=>absurd (show b∈([]:List Addr) from hb) (by simp),hok,.of_eq hg,hTI⟩;refine codeAny_mono ((F _ hKb (nsK hns)).run callerA [] s₁ H ⟨[.ref a],[]⟩ [.ref a] [.ref a] _ _ hr e0 (hbind s₁ (.ref a)) (.cons rfl .nil) (hsp H hO hS)) fun r s' h=>?_
  cases r with
  | error e=>exact (hCX H e s' h).elim
  | ok fl =>
   cases fl with
   | next=>exact jd h
   | brk=>exact jd h
   | cont=>exact jd h
   | ret u =>
    obtain ⟨v,H',os,bare,un,hok',r',q⟩:=h;have q':v=.bl true:=q;subst q';obtain rfl:u=Value.bool true:=r';refine ⟨rfl,⟨fun b o e=>?_,fun b o e=>un.there b o e (by simp)⟩,os,bare⟩;cases q:H b with
    | none=>exact .inl (un.keep b o e q (by intro z;exact absurd (show b∈([]:List Addr) from z) (by simp)) (by simp))
    | some u =>
     rcases hO b with z | ⟨ob,xs,z⟩ | z
     .rw [q] at z;cases z
     .have z2:=un.frzs b ob _ z;obtain ⟨e1,_⟩:=hok b _ z;obtain ⟨e2,_⟩:=hok' b _ z2;rw [e] at e1;cases e1;exact .inl e2
     .rcases hA b (by rw [z];simp) with rfl | ⟨e',_⟩
      .obtain ⟨_,xs,_,_,h3⟩:=hK (by rw [z];simp);rw [z] at h3;cases h3
      .obtain ⟨m,z2⟩:=un.tbls b _ z;obtain ⟨ps,e2,_⟩:=hok' b _ z2;obtain ⟨ct,qt⟩:=tabP b e';have e3:=qt.2;rw [e] at e3;cases e3;exact .inr (.inl ⟨qt.isCodeTable,rfl,#[],ps,rfl,by simpa using e2⟩)
 cases hk:K.lookup a with
 | some o =>
  have e:=KX a o hk;rw [ha] at e;cases e;refine core (fun b=>if tP=some b then some (.tbl #[]) else none) (fun b=>?_) (.inr ⟨_,vs.toArray,_,hk,rfl,rfl,rfl,by rw [List.size_toArray,lenV];exact hl,by simpa using rv⟩) (fun b z=>?_) (fun z=>?_) fun p e=>if_pos e
  .by_cases hb:tP=some b
   .exact .inr (.inr (if_pos hb))
   .exact .inl (if_neg hb)
  .by_cases hb:tP=some b
   .exact .inr ⟨hb,if_pos hb⟩
   .exact absurd (if_neg hb) z
  .exact absurd (if_neg fun e=>tne a e rfl) z
 | none =>
  refine core (fun b=>if b=a then some (.frz { cls:=.type "list",data:=.seq vs.toArray } (.lst (ns.map V.int))) else if tP=some b then some (.tbl #[]) else none) (fun b=>?_) (.inl (.inr ⟨{ cls:=.type "list",data:=.seq vs.toArray },if_pos rfl⟩)) (fun b z=>?_) (fun z=>⟨hk,ns.map V.int,by rw [List.length_map]; exact hl,rv,if_pos rfl⟩) fun p e=>?_
  .by_cases hb:b=a
   .exact .inr (.inl ⟨_,_,if_pos hb⟩)
   .by_cases hb2:tP=some b
    .exact .inr (.inr ((if_neg hb).trans (if_pos hb2)))
    .exact .inl ((if_neg hb).trans (if_neg hb2))
  .by_cases hb:b=a
   .exact .inl hb
   .by_cases hb2:tP=some b
    .exact .inr ⟨hb2,(if_neg hb).trans (if_pos hb2)⟩
    .exact absurd ((if_neg hb).trans (if_neg hb2)) z
  .exact (if_neg (tne p e)).trans (if_pos e)
def YT {l:PySem.W.OpenLaw}{n:Nat}{q:Program}{loose:z0}{XP:(w8)->Heap->Prop}{YP:World->Heap->Prop}{d:DefRec}{K:Params->zt}{CX:World->CXT}{sp:World->Sp}
  (hn:l.most=some n) (hn2:n<=sizeLine) (hdf:d.params.defaults=[]) (hr:Room k callerA)
  (hY:∀ (w:World) (h:Heap),YP w h->(K w.params).In h) (hKc:∀ (p:Params) (b:Addr) (o:Obj),(K p).lookup b=some o->Pn o) (hT:∀ (w:World) (s₀:Shared) (mg mb:w8) (h:Heap),PySem.W.Ground q loose [] XP w s₀ mg mb h->YP w h->∃ tP,Ce mg h tP)
  (F:∀ (w:World) (mg:w8) (fa:Addr) (h:Heap),(K w.params).In h->h.Ns mainGlobals mg->mg d.name=some (.ref fa) ->
   ∃ fd:FuncData,(∀ (s:Shared) (u:Value),BindsTo s fd ⟨[u],[]⟩ [(x,u)]) /\
    ∀ base:Heap,(K w.params).In base->base.Ns mainGlobals mg->FnOk l.prog w (K w.params) mg base (CX w) k fa fd [x] (sp w))
  (hsp:∀ (w:World) (H:Hp) (a:Addr) (ns:List Int),ns.length<=n->Only H->SqL (K w.params) H a (ns.map V.int)->sp w [.ref a] H (fun v _=>v=.bl true) fun _ _ _=>False)
  (hCX:∀ (w:World) (H:Hp) (s:Shared) (e:Value) (s':Shared),CX w [] H s (fun _ _ _=>False) e s'->False) :
  PySem.W.WalkO q loose XP YP l.row.toRowW d [] (fun f vs=>PySem.call f vs):=by
 refine Att.Kz hn hdf fun w s₀ s₁ mg mb fa o pm cd doc a vs ns G Y ho hd hcd hmg hobj hints hlen hg=>?_
 have KX:=hY w _ Y;obtain ⟨fd,hb,hF⟩:=F w mg fa _ KX G.T.g hmg;obtain ⟨tP,hTP⟩:=hT w s₀ mg mb _ G Y;exact Wn KX G.T.g G.T.b G.T.builtins G.T.nolimit hg G.T.bmain hTP (hKc w.params) hobj hints (yb hlen hn2) hr hF hb (fun H hO hS=>hsp w H a ns hlen hO hS) fun H e s'=>hCX w H s₁ e s'
abbrev CX0:CXT:=fun _ _ _ _ _ _=>False
abbrev E0:XK:=fun _ _ _=>False
theorem Cv {X:Cx}:Passes CX0 X E0:=fun _ _ _ _ _ _ _ h=>h.elim
structure Fun (K:zt) (x qual:Str) (st:Stmt) (f:Addr) (fd:FuncData):Prop where
 ex:∃ (oc:Value) (od:vk) (kV doc pm:Value) (an:vk) (cdv ct:Value) (osl:vn),
  fd=PySem.W.fnOf x qual (eU st) (dF st) (bf st) .none kV doc pm an cdv ct/\K.lookup f=some ⟨oc,od,.func fd,osl⟩/\PySem.W.codeIn K cdv qual=true
 kp:PySem.W.keepIn K (.ref f)=true
variable {qual:Str}{st:Stmt}{f:Addr}{ps:z0}
section
variable {P:Program}{w:World}{K:zt}{mg:w8}{base:Heap}
theorem Fun.ok {N:z0} (F:Fun K x qual st f fd) (S:FnScope N ps (bf st)) (len:∀ vs H Q E,sp vs H Q E->vs.length=ps.length)
  (hbody:∀ (cdv:Value) (A:Around) (outer:List Env) (s:Shared) (H:Hp) (vs:List V) (Q:VK) (E:XK),Room k (A.deeper (envOfC qual (bf st) s.heap.objs.size f cdv))->sp vs H Q E ->
   ∃ t,PSs (iH CX0 P w K mg base N qual (bf st) f cdv A outer s H E).nox (dF st) t/\t { nx:=fun _ H'=>Q .non H',rt:=Q } (start N vs) H):FnOk P w K mg base CX0 (k+1) f fd ps sp:=by
 obtain ⟨oc,od,kV,doc,pm,an,cdv,ct,osl,rfl,lk,hcd⟩:=F.ex;refine abI lk hcd S len fun A outer s H vs Q E hr hsp=>?_
 obtain ⟨t,h,q⟩:=hbody cdv A outer s H vs Q E hr hsp;exact ⟨t,h.nox,q⟩
theorem Fun.binds (F:Fun K x qual st f fd)
  (h:∀ (kV doc pm:Value) (an:vk) (cdv ct:Value) (us:zw),us.length=ps.length->bindArgs (PySem.W.fnOf x qual (eU st) (dF st) (bf st) .none kV doc pm an cdv ct) ⟨us,[]⟩=pure (ps.zip us)):Binds K fd ps []:=by
 obtain ⟨oc,od,kV,doc,pm,an,cdv,ct,osl,rfl,lk,hcd⟩:=F.ex;exact .all (h kV doc pm an cdv ct)
theorem Ry {oc:Value}{od an:vk}{osl:vn}{kV doc pm cdv ct:Value} (l:K.lookup f=some ⟨oc,od,.func (PySem.W.fnOf x qual (eU st) (dF st) (bf st) .none kV doc pm an cdv ct),osl⟩)
  (c:PySem.W.codeIn K cdv qual=true) (k:PySem.W.keepIn K (.ref f)=true):Fun K x qual st f (PySem.W.fnOf x qual (eU st) (dF st) (bf st) .none kV doc pm an cdv ct):=⟨⟨oc,od,kV,doc,pm,an,cdv,ct,osl,rfl,l,c⟩,k⟩
end
def Same (H H':Hp):Prop:=∀ b o,H b=some o->H' b=some o
theorem Same.refl (H:Hp):Same H H:=fun _ _ h=>h
variable {H:Hp}
theorem Same.trans {H1 H2:Hp} (a:Same H H1) (b:Same H1 H2):Same H H2:=fun c o h=>b c o (a c o h)
variable {H':Hp}
theorem Same.free (e:Same H H') {l:Addr} (h:H' l=Option.none):H l=Option.none:=by
 cases q:H l with
 | none=>rfl
 | some o =>
  rw [e l o q] at h;cases h
theorem Same.seq {xs:List V} (e:Same H H') (h:SqL K H a xs):SqL K H' a xs:=by
 rcases h with (h | ⟨o,h⟩) | h
 .exact .inl (.inl (e _ _ h))
 .exact .inl (.inr ⟨o,e _ _ h⟩)
 .exact .inr h
end L2
set_option genInjectivity true
set_option genSizeOfSpec true
namespace Mi
open PySem L2 PyProof.Rows
inductive D where
 | non | bl (b:Bool) | int (i:Int) | str (x:Str) | tup (ds:List D) | lst (ds:List D) | dct (ks vs:List D)
mutual
noncomputable def rR:D->D->Bool
 | .non,.non=>true
 | .bl a,.bl b=>a == b
 | .int a,.int b=>a == b
 | .str a,.str b=>decide (a=b)
 | .tup a,.tup b=>nJ a b
 | .lst a,.lst b=>nJ a b
 | .dct a b,.dct c d=>nJ a c && nJ b d
 | _,_=>false
noncomputable def nJ:List D->List D->Bool
 | [],[]=>true
 | a::as,b::bs=>rR a b && nJ as bs
 | _,_=>false
end
mutual
theorem CN:∀ (a b:D),rR a b=true↔a=b
 | .non,b=>by cases b <;> simp [rR]
 | .bl x,b=>by cases b <;> simp [rR]
 | .int x,b=>by cases b <;> simp [rR]
 | .str x,b=>by cases b <;> simp [rR]
 | .tup x,b=>by cases b <;> simp [rR,pJ x]
 | .lst x,b=>by cases b <;> simp [rR,pJ x]
 | .dct x y,b=>by cases b <;> simp [rR,pJ x,pJ y]
theorem pJ:∀ (a b:List D),nJ a b=true↔a=b
 | [],b=>by cases b <;> simp [nJ]
 | x::xs,b=>by
  cases b with
  | nil=>simp [nJ]
  | cons y ys=>simp [nJ,CN x y,pJ xs ys]
end
noncomputable instance:DecidableEq D:=fun a b=>if h:rR a b=true then isTrue ((CN a b).mp h) else isFalse fun e=>h ((CN a b).mpr e)
noncomputable def b2i (b:Bool):Int:=if b then 1 else 0
mutual
noncomputable def aF:D->D->Bool
 | .non,.non=>true
 | .bl a,.bl b=>a == b
 | .bl a,.int b=>b2i a == b
 | .int a,.bl b=>a == b2i b
 | .int a,.int b=>a == b
 | .str a,.str b=>a == b
 | .tup a,.tup b=>dH a b
 | .lst a,.lst b=>dH a b
 | _,_=>false
noncomputable def dH:List D->List D->Bool
 | [],[]=>true
 | a::as,b::bs=>aF a b && dH as bs
 | _,_=>false
end
mutual
noncomputable def dep:D->Nat
 | .tup ds=>deps ds+1
 | .lst ds=>deps ds+1
 | .dct _ _=>1000
 | _=>0
noncomputable def deps:List D->Nat
 | []=>0
 | d::ds=>max (dep d) (deps ds)
end
mutual
noncomputable def RpV (h:Heap):D->Value->Prop
 | .non,u=>u=.none
 | .bl b,u=>u=.bool b
 | .int i,u=>∃ t,u=.int i t
 | .str x,u=>∃ t,u=.str x t
 | .tup ds,u=>∃ a its,u=.ref a/\h.IsTuple a (List.toArray its)/\aC h ds its
 | .lst ds,u=>∃ a its,u=.ref a/\h.IsList a (List.toArray its)/\aC h ds its
 | .dct _ _,_=>False
noncomputable def aC (h:Heap):List D->zw->Prop
 | [],us=>us=[]
 | d::ds,us=>∃ y ys,us=y::ys/\RpV h d y/\aC h ds ys
end
theorem aC.length {h:Heap}:∀ {ds:List D}{us:zw},aC h ds us->ds.length=us.length
 | [],us,r=>by rw [aC] at r;subst r;rfl
 | d::ds,us,r=>by
  rw [aC] at r;obtain ⟨y,ys,rfl,_,r⟩:=r;simp [aC.length r]
theorem aC.get {h:Heap}:∀ {ds:List D}{us:zw}{i:Nat} (h1:i < ds.length) (h2:i < us.length),aC h ds us->RpV h ds[i] us[i]
 | [],us,i,h1,h2,r=>by simp at h1
 | d::ds,us,i,h1,h2,r=>by
  rw [aC] at r;obtain ⟨y,ys,rfl,r0,r⟩:=r;cases i with
  | zero=>exact r0
  | succ i=>exact aC.get (ds:=ds) (us:=ys) (i:=i) (by simpa using h1) (by simpa using h2) r
theorem fD:∀ {ds:List D}{i:Nat} (h:i < ds.length),dep ds[i]<=deps ds
 | [],i,h=>by simp at h
 | d::ds,0,h=>by simp only [deps,List.getElem_cons_zero];omega
 | d::ds,i+1,h=>by
  have:=fD (ds:=ds) (i:=i) (by simpa using h);simp only [deps,List.getElem_cons_succ];omega
theorem mO:∀ (as bs:List D),dH as bs=((List.range (min as.length bs.length)).all (fun j=>aF (as.getD j .non) (bs.getD j .non)) && as.length == bs.length)
 | [],[]=>by simp [dH]
 | [],b::bs=>by simp [dH]
 | a::as,[]=>by simp [dH]
 | a::as,b::bs=>by
  rw [dH,mO as bs];have e:min (a::as).length (b::bs).length=min as.length bs.length+1:=by simp only [List.length_cons];omega
  rw [e,List.range_succ_eq_map,List.all_cons,List.all_map];simp [Function.comp_def,Bool.and_assoc]
mutual
theorem RpV.inj {h:Heap}:∀ {d e:D}{u:Value},RpV h d u->RpV h e u->d=e
 | .non,e,u,r,q=>by
  rw [RpV] at r;subst r;cases e <;> simp [RpV] at q ⊢
 | .bl b,e,u,r,q=>by
  rw [RpV] at r;subst r;cases e <;> simp [RpV] at q ⊢;exact q
 | .int b,e,u,r,q=>by
  rw [RpV] at r;obtain ⟨t,rfl⟩:=r;cases e <;> simp [RpV] at q ⊢;exact q
 | .str b,e,u,r,q=>by
  rw [RpV] at r;obtain ⟨t,rfl⟩:=r;cases e <;> simp [RpV] at q ⊢;exact q
 | .tup ds,e,u,r,q=>by
  rw [RpV] at r;obtain ⟨a,its,rfl,⟨o,ho,hc,n,hd⟩,rs⟩:=r;cases e <;> simp only [RpV] at q
  .cases q
  .cases q
  .obtain ⟨_,q⟩:=q;cases q
  .obtain ⟨_,q⟩:=q;cases q
  .obtain ⟨a',its',z,⟨o',ho',hc',n',hd'⟩,qs⟩:=q;cases z;rw [ho] at ho';cases ho';rw [hd] at hd';injection hd' with z _;have z':its=its':=by simpa using z
   subst z';rw [aC.inj rs qs]
  .obtain ⟨a',its',z,⟨o',ho',hc',n',hd'⟩,qs⟩:=q;cases z;rw [ho] at ho';cases ho';rw [hc] at hc';exact absurd hc' (by simp)
 | .lst ds,e,u,r,q=>by
  rw [RpV] at r;obtain ⟨a,its,rfl,⟨o,ho,hc,n,hd⟩,rs⟩:=r;cases e <;> simp only [RpV] at q
  .cases q
  .cases q
  .obtain ⟨_,q⟩:=q;cases q
  .obtain ⟨_,q⟩:=q;cases q
  .obtain ⟨a',its',z,⟨o',ho',hc',n',hd'⟩,qs⟩:=q;cases z;rw [ho] at ho';cases ho';rw [hc] at hc';exact absurd hc' (by simp)
  .obtain ⟨a',its',z,⟨o',ho',hc',n',hd'⟩,qs⟩:=q;cases z;rw [ho] at ho';cases ho';rw [hd] at hd';injection hd' with z _;have z':its=its':=by simpa using z
   subst z';rw [aC.inj rs qs]
 | .dct ks vs,e,u,r,q=>by rw [RpV] at r;exact r.elim
theorem aC.inj {h:Heap}:∀ {ds es:List D}{us:zw},aC h ds us->aC h es us->ds=es
 | [],es,us,r,q=>by
  rw [aC] at r;subst r;cases es with
  | nil=>rfl
  | cons e es=>rw [aC] at q;obtain ⟨_,_,z,_⟩:=q;cases z
 | d::ds,es,us,r,q=>by
  rw [aC] at r;obtain ⟨y,ys,rfl,r0,rs⟩:=r;cases es with
  | nil=>rw [aC] at q;cases q
  | cons e es =>
   rw [aC] at q;obtain ⟨y',ys',z,q0,qs⟩:=q;cases z;rw [RpV.inj r0 q0,aC.inj rs qs]
end
mutual
theorem Rb {h:Heap}:∀ {d:D}{u:Value},RpV h d u->aF d d=true
 | .non,_,_=>by simp [aF]
 | .bl b,_,_=>by simp [aF]
 | .int b,_,_=>by simp [aF]
 | .str b,_,_=>by simp [aF]
 | .tup ds,_,r=>by
  rw [RpV] at r;obtain ⟨_,_,_,_,rs⟩:=r;rw [aF];exact oh rs
 | .lst ds,_,r=>by
  rw [RpV] at r;obtain ⟨_,_,_,_,rs⟩:=r;rw [aF];exact oh rs
 | .dct _ _,_,r=>by rw [RpV] at r;exact r.elim
theorem oh {h:Heap}:∀ {ds:List D}{us:zw},aC h ds us->dH ds ds=true
 | [],_,_=>by simp [dH]
 | d::ds,_,r=>by
  rw [aC] at r;obtain ⟨_,_,_,r0,rs⟩:=r;rw [dH,Rb r0,oh rs];rfl
end
variable {h:Heap}
def BX (ds es:List D) {us:zw} (r:aC h ds us) (q:aC h es us):dH ds es=true:=by
 rw [aC.inj r q];exact oh q
variable {A:Around}{s:Shared}
section
open PySem.SeqAt
theorem mQ:∀ (d e:D) {A:Around}{s:Shared}{u v:Value},RpV s.heap d u->RpV s.heap e v->A.units+dep d < cLine->A.units+dep e < cLine->EqAt A s u v (aF d e)
 | .non,e,A,s,u,v,r,q,hd,he=>by
  rw [RpV] at r;subst r;have hu:A.units < cLine:=by omega
  cases e <;> simp only [RpV] at q
  .subst q;rw [aF];exact EqAt.same _
  .subst q;rw [aF];exact EqAt.none_bool _;all_goals simp
  .obtain ⟨t,rfl⟩:=q;rw [aF];exact EqAt.none_int _ _;all_goals simp
  .obtain ⟨t,rfl⟩:=q;rw [aF];exact EqAt.none_str _ _;all_goals simp
  .obtain ⟨a,its,rfl,q,_⟩:=q;rw [aF];exact EqAt.none_tuple q hu;all_goals simp
  .obtain ⟨a,its,rfl,q,_⟩:=q;rw [aF];exact EqAt.none_list q hu;all_goals simp
 | .bl b,e,A,s,u,v,r,q,hd,he=>by
  rw [RpV] at r;subst r;have hu:A.units < cLine:=by omega
  cases e <;> simp only [RpV] at q
  .subst q;rw [aF];exact EqAt.bool_none _;all_goals simp
  .subst q;rw [aF];exact EqAt.bool_bool _ _
  .obtain ⟨t,rfl⟩:=q;rw [aF];exact EqAt.bool_int _ _ _
  .obtain ⟨t,rfl⟩:=q;rw [aF];exact EqAt.bool_str _ _ _;all_goals simp
  .obtain ⟨a,its,rfl,q,_⟩:=q;rw [aF];exact EqAt.bool_tuple _ q hu;all_goals simp
  .obtain ⟨a,its,rfl,q,_⟩:=q;rw [aF];exact EqAt.bool_list _ q hu;all_goals simp
 | .int b,e,A,s,u,v,r,q,hd,he=>by
  rw [RpV] at r;obtain ⟨t0,rfl⟩:=r;have hu:A.units < cLine:=by omega
  cases e <;> simp only [RpV] at q
  .subst q;rw [aF];exact EqAt.int_none _ _;all_goals simp
  .subst q;rw [aF];exact EqAt.int_bool _ _ _
  .obtain ⟨t,rfl⟩:=q;rw [aF];exact EqAt.int_int _ _ _ _
  .obtain ⟨t,rfl⟩:=q;rw [aF];exact EqAt.int_str _ _ _ _;all_goals simp
  .obtain ⟨a,its,rfl,q,_⟩:=q;rw [aF];exact EqAt.int_tuple _ _ q hu;all_goals simp
  .obtain ⟨a,its,rfl,q,_⟩:=q;rw [aF];exact EqAt.int_list _ _ q hu;all_goals simp
 | .str b,e,A,s,u,v,r,q,hd,he=>by
  rw [RpV] at r;obtain ⟨t0,rfl⟩:=r;have hu:A.units < cLine:=by omega
  cases e <;> simp only [RpV] at q
  .subst q;rw [aF];exact EqAt.str_none _ _;all_goals simp
  .subst q;rw [aF];exact EqAt.str_bool _ _ _;all_goals simp
  .obtain ⟨t,rfl⟩:=q;rw [aF];exact EqAt.str_int _ _ _ _;all_goals simp
  .obtain ⟨t,rfl⟩:=q;rw [aF];exact EqAt.str_str _ _ _ _
  .obtain ⟨a,its,rfl,q,_⟩:=q;rw [aF];exact EqAt.str_tuple _ _ q hu;all_goals simp
  .obtain ⟨a,its,rfl,q,_⟩:=q;rw [aF];exact EqAt.str_list _ _ q hu;all_goals simp
 | .tup ds,e,A,s,u,v,r,q,hd,he=>by
  rw [RpV] at r;obtain ⟨a0,its0,rfl,r,rs⟩:=r;rw [dep] at hd;have hu:A.units < cLine:=by omega
  cases e <;> simp only [RpV] at q
  .subst q;rw [aF];exact EqAt.tuple_none r hu;all_goals simp
  .subst q;rw [aF];exact EqAt.tuple_bool _ r hu;all_goals simp
  .obtain ⟨t,rfl⟩:=q;rw [aF];exact EqAt.tuple_int _ _ r hu;all_goals simp
  .obtain ⟨t,rfl⟩:=q;rw [aF];exact EqAt.tuple_str _ _ r hu;all_goals simp
  .rename_i es;obtain ⟨a,its,rfl,q,qs⟩:=q;rw [dep] at he;have l1:=rs.length;have l2:=qs.length;rw [aF];have items:∀ j (h1:j < its0.toArray.size) (h2:j < its.toArray.size),EqAt A.in1 s its0.toArray[j] its.toArray[j] (aF (ds.getD j .non) (es.getD j .non)):=fun j h1 h2=>by
    have k1:j < ds.length:=by simp at h1;omega
    have k2:j < es.length:=by simp at h2;omega
    have e1:ds.getD j .non=ds[j]:=by simp [k1]
    have e2:es.getD j .non=es[j]:=by simp [k2]
    rw [e1,e2];have w1:=fD k1;have w2:=fD k2;have hin:A.in1.units=A.units+1:=rfl;exact mQ ds[j] es[j] (aC.get k1 (by omega) rs) (aC.get k2 (by omega) qs) (by omega) (by omega)
   by_cases hab:a0=a
   .subst hab;have ei:its0=its:=by
     obtain ⟨o,ho,_,n,hd1⟩:=r;obtain ⟨o',ho',_,n',hd2⟩:=q;rw [ho] at ho';cases ho';rw [hd1] at hd2;injection hd2 with z _;simpa using z
    subst ei;have hQ:dH ds es=true:=by
     exact BX ds es rs qs
    rw [hQ];exact EqAt.same _
   .refine EqAt.of_refs hab ?_;have rc:=RcAt.tuples (e:=fun j=>aF (ds.getD j .non) (es.getD j .non)) r q hu items;rw [mO,l1,l2];simpa using rc
  .obtain ⟨a,its,rfl,q,_⟩:=q;rw [aF];exact EqAt.tuple_list r q hu;all_goals simp
 | .lst ds,e,A,s,u,v,r,q,hd,he=>by
  rw [RpV] at r;obtain ⟨a0,its0,rfl,r,rs⟩:=r;rw [dep] at hd;have hu:A.units < cLine:=by omega
  cases e <;> simp only [RpV] at q
  .subst q;rw [aF];exact EqAt.list_none r hu;all_goals simp
  .subst q;rw [aF];exact EqAt.list_bool _ r hu;all_goals simp
  .obtain ⟨t,rfl⟩:=q;rw [aF];exact EqAt.list_int _ _ r hu;all_goals simp
  .obtain ⟨t,rfl⟩:=q;rw [aF];exact EqAt.list_str _ _ r hu;all_goals simp
  .obtain ⟨a,its,rfl,q,_⟩:=q;rw [aF];exact EqAt.list_tuple r q hu;all_goals simp
  .rename_i es;obtain ⟨a,its,rfl,q,qs⟩:=q;rw [dep] at he;have l1:=rs.length;have l2:=qs.length;rw [aF];have items:∀ j (h1:j < its0.toArray.size) (h2:j < its.toArray.size),EqAt A.in1 s its0.toArray[j] its.toArray[j] (aF (ds.getD j .non) (es.getD j .non)):=fun j h1 h2=>by
    have k1:j < ds.length:=by simp at h1;omega
    have k2:j < es.length:=by simp at h2;omega
    have e1:ds.getD j .non=ds[j]:=by simp [k1]
    have e2:es.getD j .non=es[j]:=by simp [k2]
    rw [e1,e2];have w1:=fD k1;have w2:=fD k2;have hin:A.in1.units=A.units+1:=rfl;exact mQ ds[j] es[j] (aC.get k1 (by omega) rs) (aC.get k2 (by omega) qs) (by omega) (by omega)
   by_cases hab:a0=a
   .subst hab;have ei:its0=its:=by
     obtain ⟨o,ho,_,n,hd1⟩:=r;obtain ⟨o',ho',_,n',hd2⟩:=q;rw [ho] at ho';cases ho';rw [hd1] at hd2;injection hd2 with z _;simpa using z
    subst ei;rw [BX ds es rs qs];exact EqAt.same _
   .refine EqAt.of_refs hab ?_;rw [mO];by_cases hs:ds.length=es.length
    .have rc:=RcAt.lists (e:=fun j=>aF (ds.getD j .non) (es.getD j .non)) r q (by simp;omega) hu items;have e1:min ds.length es.length=its0.toArray.size:=by simp;omega
     rw [e1];simpa [hs] using rc
    .have rc:=RcAt.lists_lengths r q (by simp;omega) hu;have e0:(ds.length == es.length)=false:=by simpa using hs
     rw [e0,Bool.and_false];exact rc
 | .dct ks vs,e,A,s,u,v,r,q,hd,he=>by rw [RpV] at r;exact r.elim
termination_by d=>sizeOf d
decreasing_by
 all_goals
  have:=List.sizeOf_lt_of_mem (List.getElem_mem (by assumption:j < ds.length));simp only [D.tup.sizeOf_spec,D.lst.sizeOf_spec];omega
noncomputable def like:D->D->Bool
 | .bl _,.bl _=>true
 | .int _,.int _=>true
 | .tup _,.tup _=>true
 | .lst _,.lst _=>true
 | _,_=>false
def MN {ds es:List D}{its0 its:zw} (rs:aC s.heap ds its0) (qs:aC s.heap es its) (hd:A.units+(deps ds+1) < cLine) (he:A.units+(deps es+1) < cLine):∀ j (h1:j < its0.toArray.size) (h2:j < its.toArray.size),EqAt A.in1 s its0.toArray[j] its.toArray[j] (aF (ds.getD j .non) (es.getD j .non)):=fun j h1 h2=>by
 have l1:=rs.length;have l2:=qs.length;have k1:j < ds.length:=by simp at h1;omega
 have k2:j < es.length:=by simp at h2;omega
 have e1:ds.getD j .non=ds[j]:=by simp [k1]
 have e2:es.getD j .non=es[j]:=by simp [k2]
 rw [e1,e2];have w1:=fD k1;have w2:=fD k2;have hin:A.in1.units=A.units+1:=rfl;exact mQ ds[j] es[j] (aC.get k1 (by omega) rs) (aC.get k2 (by omega) qs) (by omega) (by omega)
def Z6:∀ (d e:D) {A:Around}{s:Shared}{u v:Value},like d e=true->RpV s.heap d u->RpV s.heap e v->A.units+dep d < cLine->A.units+dep e < cLine->RcAt A s u v (aF d e):=by
 intro d e A s u v k r q hd he;have hu:A.units < cLine:=by omega
 cases d <;> cases e <;> try (cases k;done)
 .rw [RpV] at r q;subst r q;rw [aF];exact RcAt.bool_bool _ _
 .rw [RpV] at r q;obtain ⟨t0,rfl⟩:=r;obtain ⟨t,rfl⟩:=q;rw [aF];exact RcAt.int_int _ _ _ _
 all_goals
  rw [RpV] at r q;obtain ⟨a0,its0,rfl,r,rs⟩:=r;obtain ⟨a,its,rfl,q,qs⟩:=q;rw [dep] at hd he;have l1:=rs.length;have l2:=qs.length;rw [aF,mO];have items:=MN rs qs hd he
 .rename_i ds es;have rc:=RcAt.tuples (e:=fun j=>aF (ds.getD j .non) (es.getD j .non)) r q hu items;rw [l1,l2];simpa using rc
 .rename_i ds es;by_cases hs:ds.length=es.length
  .have rc:=RcAt.lists (e:=fun j=>aF (ds.getD j .non) (es.getD j .non)) r q (by simp;omega) hu items;have e1:min ds.length es.length=its0.toArray.size:=by simp;omega
   rw [e1];simpa [hs] using rc
  .have rc:=RcAt.lists_lengths r q (by simp;omega) hu;have e0:(ds.length == es.length)=false:=by simpa using hs
   rw [e0,Bool.and_false];exact rc
def Xk:∀ (d e:D) {A:Around}{s:Shared}{u v:Value},like d e=true->RpV s.heap d u->RpV s.heap e v->A.units+dep d < cLine->A.units+dep e < cLine->RcNeAt A s u v (!aF d e):=by
 intro d e A s u v k r q hd he;have hu:A.units < cLine:=by omega
 cases d <;> cases e <;> try (cases k;done)
 .rw [RpV] at r q;subst r q;rw [aF];exact RcNeAt.bool_bool _ _
 .rw [RpV] at r q;obtain ⟨t0,rfl⟩:=r;obtain ⟨t,rfl⟩:=q;rw [aF];exact RcNeAt.int_int _ _ _ _
 all_goals
  rw [RpV] at r q;obtain ⟨a0,its0,rfl,r,rs⟩:=r;obtain ⟨a,its,rfl,q,qs⟩:=q;rw [dep] at hd he;have l1:=rs.length;have l2:=qs.length;rw [aF,mO];have items:=MN rs qs hd he
 .rename_i ds es;have rc:=RcNeAt.tuples (e:=fun j=>aF (ds.getD j .non) (es.getD j .non)) r q hu items;rw [l1,l2];simpa using rc
 .rename_i ds es;by_cases hs:ds.length=es.length
  .have rc:=RcNeAt.lists (e:=fun j=>aF (ds.getD j .non) (es.getD j .non)) r q (by simp;omega) hu items;have e1:min ds.length es.length=its0.toArray.size:=by simp;omega
   rw [e1];simpa [hs] using rc
  .have rc:=RcNeAt.lists_lengths r q (by simp;omega) hu;have e0:(ds.length == es.length)=false:=by simpa using hs
   rw [e0,Bool.and_false];exact rc
end
mutual
noncomputable def uD (w:World):D->Int
 | .int i=>hashInt i
 | .str x=>hashStr w x
 | .bl b=>hashInt (b2i b)
 | .tup ds=>reduceHash (Builtin.Tuple.tupleHashOf (gn w ds))
 | _=>0
noncomputable def gn (w:World):List D->List Int
 | []=>[]
 | d::ds=>uD w d::gn w ds
end
mutual
noncomputable def oO:D->Nat
 | .int _=>1
 | .str _=>1
 | .bl _=>1
 | .tup ds=>fQ ds+1
 | _=>0
noncomputable def fQ:List D->Nat
 | []=>0
 | d::ds=>oO d+fQ ds
end
mutual
noncomputable def keyOk:D->Bool
 | .int _=>true
 | .str _=>true
 | .tup ds=>bF ds
 | _=>false
noncomputable def bF:List D->Bool
 | []=>true
 | d::ds=>keyOk d && bF ds
end
mutual
noncomputable def dZ:D->Bool
 | .int _=>true
 | .str _=>true
 | .bl _=>true
 | .tup ds=>dN ds
 | _=>false
noncomputable def dN:List D->Bool
 | []=>true
 | d::ds=>dZ d && dN ds
end
noncomputable def zu:D->Bool
 | .bl _=>true
 | _=>false
def vY:D->Bool
 | .tup ds=>ds.all zu
 | _=>false
mutual
theorem ZK:∀ {d:D},keyOk d=true->dZ d=true
 | .non,h=>by simp [keyOk] at h
 | .bl _,h=>by simp [keyOk] at h
 | .int _,h=>rfl
 | .str _,h=>rfl
 | .tup ds,h=>by
  rw [keyOk] at h;rw [dZ];exact WX h
 | .lst _,h=>by simp [keyOk] at h
 | .dct _ _,h=>by simp [keyOk] at h
theorem WX:∀ {ds:List D},bF ds=true->dN ds=true
 | [],h=>rfl
 | d::ds,h=>by
  rw [bF,Bool.and_eq_true] at h;rw [dN,ZK h.1,WX h.2];rfl
end
theorem Uy:∀ {ds:List D},ds.all zu=true->dN ds=true/\deps ds=0
 | [],h=>⟨rfl,rfl⟩
 | d::ds,h=>by
  rw [List.all_cons,Bool.and_eq_true] at h;obtain ⟨h1,h2⟩:=Uy h.2;cases d <;> simp [zu] at h;exact ⟨by rw [dN,h1];rfl,by rw [deps,h2];rfl⟩
theorem Rx:∀ {ds es:List D},ds.all zu=true->es.all zu=true->dH ds es=decide (ds=es)
 | [],es,h,g=>by cases es <;> simp [dH]
 | d::ds,[],h,g=>by simp [dH]
 | d::ds,e::es,h,g=>by
  rw [List.all_cons,Bool.and_eq_true] at h g;rw [dH,Rx h.2 g.2];cases d <;> cases e <;> simp [zu] at h g;rw [aF,Bool.eq_iff_iff];simp
def Jy (b:Bool) (d:D):Bool:=if b then vY d else keyOk d
variable {b:Bool}{d:D}
def Ti (h:Jy b d=true):dZ d=true:=by
 cases b with
 | false=>exact ZK h
 | true =>
  cases d <;> try (cases h;done)
  rw [dZ];exact (Uy h).1
mutual
theorem kY:∀ {d e:D},keyOk d=true->keyOk e=true->aF d e=decide (d=e)
 | .non,e,h,_=>by simp [keyOk] at h
 | .bl _,e,h,_=>by simp [keyOk] at h
 | .int a,e,h,g=>by cases e <;> simp [keyOk] at g <;> simp [aF];rw [Bool.eq_iff_iff];simp
 | .str a,e,h,g=>by cases e <;> simp [keyOk] at g <;> simp [aF];rw [Bool.eq_iff_iff];simp
 | .tup ds,e,h,g=>by
  cases e <;> simp [keyOk] at g <;> simp [aF];exact vM (by simpa [keyOk] using h) g
 | .lst _,e,h,_=>by simp [keyOk] at h
 | .dct _ _,e,h,_=>by simp [keyOk] at h
theorem vM:∀ {ds es:List D},bF ds=true->bF es=true->dH ds es=decide (ds=es)
 | [],es,h,g=>by cases es <;> simp [dH]
 | d::ds,[],h,g=>by simp [dH]
 | d::ds,e::es,h,g=>by
  rw [bF,Bool.and_eq_true] at h g;rw [dH,kY h.1 g.1,vM h.2 g.2];rw [Bool.eq_iff_iff];simp
end
theorem ni (w:World):∀ (a b:List D),gn w (a++b)=gn w a++gn w b
 | [],b=>rfl
 | d::ds,b=>by rw [List.cons_append,gn,gn,ni w ds b,List.cons_append]
theorem lg:∀ (a b:List D),fQ (a++b)=fQ a+fQ b
 | [],b=>by simp [fQ]
 | d::ds,b=>by rw [List.cons_append,fQ,fQ,lg ds b];omega
theorem sW:∀ (a b:List D),dN (a++b)=(dN a && dN b)
 | [],b=>by simp [dN]
 | d::ds,b=>by rw [List.cons_append,dN,dN,sW ds b,Bool.and_assoc]
variable {w:World}
def R9 {prog:Program}{E:zn}{Q:Int->Shared->Prop} (h:Q (hashInt (b2i b)) { s with toks:=s.toks+1 }):wpAny (model prog w) A (pyHash (.bool b)) Q E s:=by
 have hr:=rawHash_range (b2i b);have hT:s.TypeIs (.bool b) "bool":=PySem.typeIs_bool s b
 unfold pyHash;unfold pyHashByItsType;have hv:[Value.bool b].any Value.onHeap=false:=rfl;refine vw ?_;rw [cRoomFor,if_neg (by rw [hv];exact Bool.false_ne_true)];refine vx ?_;refine vw (wpAny_specialOf hT F.slot_bool_hash.lookup ?_);show wpAny _ _ (if (some (Value.builtin "int.__hash__") == some Value.none)=true then _ else _) Q E s
 rw [if_neg (by rw [beq_builtin_none];exact Bool.false_ne_true)];refine vw (wpAny_specialOf hT F.slot_bool_hash.lookup ?_);show wpAny _ _ (callSpecialIfBoundUnlessNone? (.bool b) "__hash__" _ >>= _) Q E s
 refine vw (wpAny_callSpecialIfBoundUnlessNone?_slot hT F.slot_bool_hash
  (y4 F.slot_bool_hash hT entry_int_hash
   (show wpAny _ _ (do ret (<- mkInt (rawHash (b2i b)))) _ _ s from wpAny_ret_mkInt ?_) (args_int_hash _)))
 show wpAny _ _ (if (decide (-(2:Int) ^ 63<=rawHash (b2i b)) && decide (rawHash (b2i b) < 2 ^ 63))=true then _ else _) Q E _
 rw [if_pos (by rw [decide_eq_true hr.1,decide_eq_true hr.2];rfl)];exact vx h
theorem S9 {P:Program}{w:World}:∀ (d:D) {A:Around}{E:zn}{s:Shared}{u:Value}{Q:Int->Shared->Prop},dZ d=true->RpV s.heap d u->A.units+dep d < cLine ->
  Q (uD w d) { s with toks:=s.toks+oO d }->wpAny (model P w) A (pyHash u) Q E s
 | .non,A,E,s,u,Q,hk,r,hu,h=>by simp [dZ] at hk
 | .bl b,A,E,s,u,Q,hk,r,hu,h=>by
  rw [RpV] at r;subst r;rw [uD,oO] at h;exact R9 h
 | .int i,A,E,s,u,Q,hk,r,hu,h=>by
  rw [RpV] at r;obtain ⟨t,rfl⟩:=r;rw [uD,oO] at h;exact wpAny_pyHash_int h
 | .str x,A,E,s,u,Q,hk,r,hu,h=>by
  rw [RpV] at r;obtain ⟨t,rfl⟩:=r;rw [uD,oO] at h;exact wpAny_pyHash_str h
 | .lst _,A,E,s,u,Q,hk,r,hu,h=>by simp [dZ] at hk
 | .dct _ _,A,E,s,u,Q,hk,r,hu,h=>by simp [dZ] at hk
 | .tup ks,A,E,s,u,Q,hk,r,hu,h=>by
  rw [RpV] at r;obtain ⟨a,its,rfl,⟨o,ho,hc,n,hd⟩,hi⟩:=r;rw [dZ] at hk;rw [uD,oO] at h;rw [dep] at hu;have hT:s.TypeIs (.ref a) "tuple":=⟨o,ho,hc⟩
  unfold pyHash
  first | unfold pyHashByItsType | skip
  first | refine vw (wpAny_cRoomFor_or (.inr (by omega)) ?_) | skip
  refine vw (wpAny_specialOf hT F.slot_tuple_hash.lookup ?_);show wpAny _ _ (if (some (Value.builtin "tuple.__hash__") == some Value.none)=true then _ else _) Q E s
  rw [if_neg (by rw [beq_builtin_none];exact Bool.false_ne_true)];refine vw (wpAny_specialOf hT F.slot_tuple_hash.lookup ?_);show wpAny _ _ (callSpecialIfBoundUnlessNone? (.ref a) "__hash__" _ >>= _) Q E s
  refine vw (wpAny_callSpecialIfBoundUnlessNone?_slot hT F.slot_tuple_hash (y4 F.slot_tuple_hash hT F.entry_tuple_hash ?_ (F.args_tuple_hash_1 _)));show wpAny _ _ (Builtin.Tuple.tupleItemsOf (.ref a) >>= _) _ _ s
  refine vw (wpAny_tupleItemsOf ho hd ?_);refine vw ?_;rw [<- Array.forIn_toList];refine wpAny_forIn_list _
   (fun rest (b:Array Int) s'=>∃ done left,ks=done++left/\aC s.heap left rest/\b.toList=gn w done/\s'={ s with toks:=s.toks+fQ done })
   _ ?_ ?_ _ _ ⟨[],ks,rfl,by simpa using hi,rfl,rfl⟩
  .rintro x rest b s' ⟨done,left,hks,hl,hb,rfl⟩;cases left with
   | nil=>rw [aC] at hl;cases hl
   | cons k ks' =>
    rw [aC] at hl;obtain ⟨y,ys,z,h1,hl'⟩:=hl;cases z;have hmem:k∈ks:=by rw [hks];simp
    have hlt:=List.sizeOf_lt_of_mem hmem;have hko:dZ k=true:=by
     rw [hks,sW,dN] at hk;simp at hk;exact hk.2.1
    have hdep:dep k<=deps ks:=by
     obtain ⟨i,hi2,e⟩:=List.getElem_of_mem hmem;rw [<- e];exact fD hi2
    refine vw (S9 k (s:={ s with toks:=s.toks+fQ done }) hko h1 (by first | (show A.in1.units+dep k < cLine;show A.units+1+dep k < cLine;omega) | (show A.in1.in1.units+dep k < cLine;show A.units+1+1+dep k < cLine;omega)) ?_)
    first
     | exact vx ⟨done++[k],ks',by simp [hks],hl',by simp [hb,ni,gn],by simp [lg,fQ,Nat.add_assoc]⟩
     | exact vw (vx (vx ⟨done++[k],ks',by simp [hks],hl',by simp [hb,ni,gn],by simp [lg,fQ,Nat.add_assoc]⟩))
  .rintro b s' ⟨done,left,hks,hl,hb,rfl⟩;cases left with
   | cons k ks'=>rw [aC] at hl;obtain ⟨y,ys,z,_⟩:=hl;cases z
   | nil =>
    rw [List.append_nil] at hks;subst hks;show wpAny _ _ (retInt (Builtin.Tuple.tupleHashOf b.toList)) _ _ _
    rw [hb];refine wpAny_ret_mkInt ?_;show wpAny _ _ (if (decide (-(2:Int) ^ 63<=Builtin.Tuple.tupleHashOf (gn w ks)) && decide (Builtin.Tuple.tupleHashOf (gn w ks) < 2 ^ 63))=true then _ else _) Q E _
    unfold reduceHash at h;by_cases hr:(decide (-(2:Int) ^ 63<=Builtin.Tuple.tupleHashOf (gn w ks)) && decide (Builtin.Tuple.tupleHashOf (gn w ks) < 2 ^ 63))=true
    .rw [if_pos hr];rw [if_pos hr] at h;exact vx (by simpa [Nat.add_assoc] using h)
    .rw [if_neg hr];rw [if_neg hr] at h;exact vw (wpAny_rule (vx (by simpa [Nat.add_assoc] using h)))
termination_by d=>sizeOf d
decreasing_by
 simp only [D.tup.sizeOf_spec];omega
variable {P:Program}
def YJ :∀ (m:Nat) (d:D) {A:Around}{E:zn}{s:Shared}{u:Value}{Q:Bool->Shared->Prop},dZ d=true->dep d<=m->RpV s.heap d u->Q true s ->
  wpAny (model P w) A (eqIsQuiet m u) Q E s:=by
 intro m;induction m with
 | zero =>
  intro d A E s u Q hk hm r h;cases d <;> simp [dZ,dep] at hk hm
  .rw [RpV] at r;subst r;rw [eqIsQuiet_byValue _ (by rfl)];exact vx h
  .rw [RpV] at r;obtain ⟨t,rfl⟩:=r;rw [eqIsQuiet_byValue _ (by rfl)];exact vx h
  .rw [RpV] at r;obtain ⟨t,rfl⟩:=r;rw [eqIsQuiet_byValue _ (by rfl)];exact vx h
 | succ m ih =>
  intro d A E s u Q hk hm r h;cases d with
  | non=>simp [dZ] at hk
  | bl _ =>
   rw [RpV] at r;subst r;rw [eqIsQuiet_byValue _ (by rfl)];exact vx h
  | lst _=>simp [dZ] at hk
  | dct _ _=>simp [dZ] at hk
  | int _ =>
   rw [RpV] at r;obtain ⟨t,rfl⟩:=r;rw [eqIsQuiet_byValue _ (by rfl)];exact vx h
  | str _ =>
   rw [RpV] at r;obtain ⟨t,rfl⟩:=r;rw [eqIsQuiet_byValue _ (by rfl)];exact vx h
  | tup ks =>
   rw [RpV] at r;obtain ⟨a,its,rfl,⟨o,ho,hc,n,hd⟩,hi⟩:=r;rw [dZ] at hk;rw [dep] at hm;have hT:s.TypeIs (.ref a) "tuple":=⟨o,ho,hc⟩
   unfold eqIsQuiet;refine vw (wpAny_specialOf hT F.slot_tuple_eq.lookup ?_);show wpAny _ _ (isInstance (.ref a) (.type "tuple") >>= _) _ _ s
   refine vw (wpAny_isInstance hT isSubtype_tuple_tuple ?_);simp only [Bool.not_true,Bool.false_eq_true,if_false];refine vw (wpAny_seqItems ho hd ?_);refine vw ?_;show wpAny _ _ (forIn its.toArray _ _) _ _ s
   rw [<- Array.forIn_toList];refine wpAny_forIn_list _ (fun rest r s'=>r.1=none/\s'=s/\∃ left,aC s.heap left rest/\dN left=true/\deps left<=m) _ ?_ ?_ _ _ ⟨rfl,rfl,ks,by simpa using hi,hk,by omega⟩
   .rintro v rest r s' ⟨hr,rfl,left,hl,hok,hdp⟩;cases left with
    | nil=>rw [aC] at hl;cases hl
    | cons k ks' =>
     rw [aC] at hl;obtain ⟨y,ys,z,h1,hl'⟩:=hl;cases z;rw [dN,Bool.and_eq_true] at hok;rw [deps] at hdp;refine vw (ih k hok.1 (by omega) h1 ?_);simp only [Bool.not_true,Bool.false_eq_true,if_false];exact vx ⟨rfl,rfl,ks',hl',hok.2,by omega⟩
   .rintro ⟨r1,r2⟩ s' ⟨hr,rfl,_⟩;simp only at hr;subst hr;exact vx h
mutual
theorem RpV.keep {h h':Heap}:∀ {d:D}{u:Value},(∀ a o,h.get? a=some o->(∀ es ep,o.data≠.dict es ep)->h'.get? a=some o)->RpV h d u->RpV h' d u
 | .non,u,k,r=>by rw [RpV] at r ⊢;exact r
 | .bl _,u,k,r=>by rw [RpV] at r ⊢;exact r
 | .int _,u,k,r=>by rw [RpV] at r ⊢;exact r
 | .str _,u,k,r=>by rw [RpV] at r ⊢;exact r
 | .tup ds,u,k,r=>by
  rw [RpV] at r ⊢;obtain ⟨a,its,rfl,⟨o,ho,hc,n,hd⟩,rs⟩:=r;exact ⟨a,its,rfl,⟨o,k a o ho (by intro es ep z;rw [hd] at z;cases z),hc,n,hd⟩,aC.keep k rs⟩
 | .lst ds,u,k,r=>by
  rw [RpV] at r ⊢;obtain ⟨a,its,rfl,⟨o,ho,hc,n,hd⟩,rs⟩:=r;exact ⟨a,its,rfl,⟨o,k a o ho (by intro es ep z;rw [hd] at z;cases z),hc,n,hd⟩,aC.keep k rs⟩
 | .dct _ _,u,k,r=>by rw [RpV] at r;exact r.elim
theorem aC.keep {h h':Heap}:∀ {ds:List D}{us:zw},(∀ a o,h.get? a=some o->(∀ es ep,o.data≠.dict es ep)->h'.get? a=some o)->aC h ds us->aC h' ds us
 | [],us,k,r=>by rw [aC] at r ⊢;exact r
 | d::ds,us,k,r=>by
  rw [aC] at r ⊢;obtain ⟨y,ys,rfl,r0,rs⟩:=r;exact ⟨y,ys,rfl,RpV.keep k r0,aC.keep k rs⟩
end
def abJ (b:Bool) (h:Heap) (d:D) (a:Addr):Prop:=Jy b d=true/\dep d<=6/\RpV h d (.ref a)
def Qq {e:D} (hd:Jy b d=true) (he:Jy b e=true):aF d e=decide (d=e):=by
 cases b with
 | false=>exact kY hd he
 | true =>
  cases d <;> try (cases hd;done)
  cases e <;> try (cases he;done)
  rw [aF,Rx hd he,Bool.eq_iff_iff];simp
def gY (b:Bool) (P:Program) (w:World):HeapKind P w D where
 is:=abJ b
 hash:=uD w
 draws:=oO
 room:=fun A=>A.units+10 < cLine
 inj:=fun hx hy=>RpV.inj hx.2.2 hy.2.2
 keeps:=fun x ho hd hs=>⟨x.1,x.2.1,x.2.2.keep fun b ob hb hnd=>(hs.2 b (by
  rintro rfl;rw [ho] at hb;cases hb;exact hnd _ _ hd)).trans hb⟩
 pyHash:=fun hu hk h=>S9 _ (Ti hk.1) hk.2.2 (by have:=hk.2.1;omega) h
 eqBool:=fun hu hx hy h=>by
  have e:=Qq hx.1 hy.1;exact mQ _ _ hx.2.2 hy.2.2 (by have:=hx.2.1;omega) (by have:=hy.2.1;omega) _ _ _ _ (by rw [e];exact h)
 quiet:=fun hk h=>YJ 8 _ (Ti hk.1) (by have:=hk.2.1;omega) hk.2.2 h
def isKey (d:D):Bool:=keyOk d && decide (dep d<=6) && (match d with | .tup _=>true | _=>false)
def vW (b:Bool) (d:D):Bool:=if b then vY d else isKey d
def kOk (ks:List D) (k:D):Bool:=(isKey k && ks.all isKey) || (vY k && ks.all vY)
def Yh {ks:List D}{k:D} (h:kOk ks k=true):∃ b,vW b k=true/\∀ c∈ks,vW b c=true:=by
 unfold kOk at h;rw [Bool.or_eq_true] at h;rcases h with h | h <;> rw [Bool.and_eq_true] at h
 .exact ⟨false,h.1,fun c hc=>yB.mp h.2 c hc⟩
 .exact ⟨true,h.1,fun c hc=>yB.mp h.2 c hc⟩
def fX (h:vW b d=true):Jy b d=true/\dep d<=6/\∃ ds,d=.tup ds:=by
 cases b with
 | true =>
  have h':vY d=true:=h;cases d <;> try (cases h';done)
  rename_i ds;exact ⟨h',by rw [dep,(Uy (show ds.all zu=true from h')).2];decide,ds,rfl⟩
 | false =>
  have h':isKey d=true:=h;unfold isKey at h';simp only [Bool.and_eq_true,decide_eq_true_eq] at h';refine ⟨h'.1.1,h'.1.2,?_⟩;cases d <;> simp at h';exact ⟨_,rfl⟩
end Mi
namespace L2
open PySem PySem.Spec PyProof.Rows
end L2
namespace Mi
open PySem L2 PyProof.Rows
structure Xc where
 cls:Str
 val:D
inductive R (α:Type) where
 | ok (a:α) | exc (x:Xc) | stuck
noncomputable def R.bind {α β:Type}:R α->(α->R β)->R β
 | .ok a,f=>f a
 | .exc x,_=>.exc x
 | .stuck,_=>.stuck
noncomputable instance:Monad R where
 pure:=R.ok
 bind:=R.bind
@[simp] theorem qT {α β:Type} (a:α) (f:α->R β):(R.ok a >>= f)=f a:=rfl
@[simp] theorem T5 {α β:Type} (x:Xc) (f:α->R β):((R.exc x:R α) >>= f)=.exc x:=rfl
@[simp] theorem Nj {α β:Type} (f:α->R β):((R.stuck:R α) >>= f)=.stuck:=rfl
@[simp] theorem ac7 {α:Type} (a:α):(pure a:R α)=.ok a:=rfl
inductive BO where | add | sub | mul | mod
inductive CO where | eq | ne | lt | le | gt | ge | notin
 deriving DecidableEq
inductive Ty where | int | bool | str | tuple | list
inductive BI where | len | min2 | all | any | sorted | list | tuple | listEnum | listRev | maxl
 deriving DecidableEq
inductive IK where | seq | rng | enum | zip | rev
inductive Tg where
 | one (i:Nat) | two (i j:Nat)
abbrev En:=List (Option D)
noncomputable def lim:Nat:=100000
def ju:lim<=sizeLine:=by decide
def mY:D->D->R D
 | .int a,.int b=>.ok (.int (a+b))
 | .lst a,.lst b=>if a.length+b.length<=lim then .ok (.lst (a++b)) else .stuck
 | .tup a,.tup b=>if a.length+b.length<=lim then .ok (.tup (a++b)) else .stuck
 | _,_=>.stuck
noncomputable def j9:Int->Bool
 | .ofNat n=>Nat.ble n 18446744073709551615
 | .negSucc n=>Nat.ble n 18446744073709551614
def jD:BO->D->D->R D
 | .add,a,b=>mY a b
 | .sub,.int a,.int b=>.ok (.int (a - b))
 | .mul,.int a,.int b=>if j9 a || j9 b then .ok (.int (a * b)) else .stuck
 | .mod,.int a,.int b=>if 0 < b then .ok (.int (a % b)) else .stuck
 | _,_,_=>.stuck
def bN (a b:D):Bool:=decide (dep a<=30) && decide (dep b<=30) && like a b
def inD (x:D) (c:D):R Bool:=match c with
 | .lst ds=>if ds.all (fun d=>bN d x) && decide (dep x<=30) then .ok (ds.any fun d=>aF d x) else .stuck
 | .tup ds=>if ds.all (fun d=>bN d x) && decide (dep x<=30) then .ok (ds.any fun d=>aF d x) else .stuck
 | .dct ks _=>if kOk ks x then .ok (decide (x∈ks)) else .stuck
 | _=>.stuck
def bQ:CO->D->D->R Bool
 | .eq,a,b=>if bN a b then .ok (aF a b) else .stuck
 | .ne,a,b=>if bN a b then .ok (!aF a b) else .stuck
 | .lt,.int a,.int b=>.ok (decide (a < b))
 | .le,.int a,.int b=>.ok (decide (a<=b))
 | .gt,.int a,.int b=>.ok (decide (b < a))
 | .ge,.int a,.int b=>.ok (decide (b<=a))
 | .notin,a,b=>do let r <- inD a b;.ok (!r)
 | _,_,_=>.stuck
noncomputable def cW:List D->List D->D->Option D
 | k'::ks,v::vs,k=>if k'=k then some v else cW ks vs k
 | _,_,_=>none
def ixD:D->D->R D
 | .dct ks vs,k=>if kOk ks k then (match cW ks vs k with | some d=>.ok d | none=>.stuck) else .stuck
 | .lst ds,.int i=>match ixN ds.length i with | some k=>(match ds[k]? with | some d=>.ok d | none=>.stuck) | none=>.stuck
 | .tup ds,.int i=>match ixN ds.length i with | some k=>(match ds[k]? with | some d=>.ok d | none=>.stuck) | none=>.stuck
 | _,_=>.stuck
noncomputable def intsOf:List D->Option (List Int)
 | []=>some []
 | .int i::ds=>(intsOf ds).map (i::·)
 | _=>none
noncomputable def mxI:Int->List Int->Int
 | b,[]=>b
 | b,a::l=>mxI (if b < a then a else b) l
noncomputable def GJ:D->R (List D)
 | .lst ds=>.ok ds
 | .tup ds=>.ok ds
 | .dct ks _=>.ok ks
 | _=>.stuck
noncomputable def aY (n:Nat):List D->List D
 | []=>[]
 | d::ds=>.tup [.int n,d]::aY (n+1) ds
noncomputable def sy:List D->List D->List D
 | a::as,b::bs=>.tup [a,b]::sy as bs
 | _,_=>[]
def itemsOf:IK->List D->R (List D)
 | .seq,[.lst ds]=>.ok ds
 | .seq,[.tup ds]=>.ok ds
 | .seq,[.dct ks _]=>.ok ks
 | .enum,[.tup ds]=>.ok (aY 0 ds)
 | .enum,[.lst ds]=>.ok (aY 0 ds)
 | .zip,[.tup as,.tup bs]=>.ok (sy as bs)
 | .rev,[.lst ds]=>.ok ds.reverse
 | .rng,[.int n]=>if -(lim:Int)<=n/\n<=lim then .ok ((List.range n.toNat).map fun (k:Nat)=>D.int (k:Int)) else .stuck
 | .rng,[.int a,.int b]=>if -(lim:Int)<=a/\a<=lim/\-(lim:Int)<=b/\b<=lim then .ok ((List.range (b - a).toNat).map fun (k:Nat)=>D.int (a+(k:Int))) else .stuck
 | _,_=>.stuck
noncomputable def boolsOf:List D->Option (List Bool)
 | []=>some []
 | .bl b::ds=>(boolsOf ds).map (b::·)
 | _=>none
mutual
noncomputable def ltD:D->D->Bool
 | .int a,.int b=>decide (a < b)
 | .tup a,.tup b=>aR a b
 | .lst a,.lst b=>aR a b
 | _,_=>false
noncomputable def aR:List D->List D->Bool
 | [],[]=>false
 | [],_::_=>true
 | _::_,[]=>false
 | a::as,b::bs=>if a=b then aR as bs else ltD a b
end
end Mi
namespace Mi
open PySem L2
open PyProof.Rows hiding St
noncomputable def iu (env:Env):List (Str × NameKind)->List (Str × Addr)->List (Str × Addr)
 | [],acc=>acc
 | (n,k)::r,acc=>if k == .free then (match env.cells.lookup n with | some a=>iu env r ((n,a)::acc) | none=>iu env r acc) else iu env r acc
theorem Fi (env:Env) (f:Str × NameKind->List (Str × Addr)->Sem (ForInStep (List (Str × Addr))))
  (hf:∀ n k cs,f (n,k) cs=if k == .free then (do let a <- cellOf env n;pure (.yield ((n,a)::cs))) else pure (.yield cs)) :
  ∀ (l:List (Str × NameKind)) (acc:List (Str × Addr)),(∀ x∈l,x.2=.free->∃ c,env.cells.lookup x.1=some c)->forIn l acc f=(pure (iu env l acc):Sem _)
 | [],acc,_=>by rw [List.forIn_nil];rfl
 | (n,k)::r,acc,h=>by
  rw [List.forIn_cons,hf];have ih:=fun acc=>Fi env f hf r acc fun x hx=>h x (vy _ hx)
  unfold iu;by_cases hk:(k == NameKind.free)=true
  .obtain ⟨c,hc⟩:=h (n,k) vz (by simpa using hk);have hc':env.cells.lookup n=some c:=hc;rw [if_pos hk,if_pos hk,hc'];have e:cellOf env n=pure c:=by unfold cellOf;rw [hc']
   rw [e];simp only [pure_bind];exact ih _
  .rw [if_neg hk,if_neg hk];simp only [pure_bind];exact ih _
variable {env:Env}{scope:Scope}
theorem Nv (h:∀ x∈scope.names,x.2=.free->∃ c,env.cells.lookup x.1=some c):closureFor scope env=pure (iu env scope.names []):=by
 simp only [closureFor];rw [Fi env _ (fun n k cs=>by cases hk:k == NameKind.free <;> simp [hk]) scope.names [] h];rfl
theorem pZ {env:Env}:∀ {l:List (Str × NameKind)}{acc:List (Str × Addr)}{p:Str × Addr},p∈iu env l acc->p∈acc\/((p.1,NameKind.free)∈l/\env.cells.lookup p.1=some p.2)
 | [],acc,p,h=>.inl h
 | (n,k)::r,acc,p,h=>by
  unfold iu at h;split at h
  .rename_i hk;split at h
   .rename_i a ha;rcases pZ h with h | h
    .rcases w6.mp h with e | h
     .right;subst e;have:k=.free:=by simpa using hk
      subst this;exact ⟨vz,ha⟩
     .exact .inl h
    .exact .inr ⟨vy _ h.1,h.2⟩
   .rcases pZ h with h | h
    .exact .inl h
    .exact .inr ⟨vy _ h.1,h.2⟩
  .rcases pZ h with h | h
   .exact .inl h
   .exact .inr ⟨vy _ h.1,h.2⟩
theorem jZ {env:Env}{x:Str}{c:Addr} (hc:env.cells.lookup x=some c):∀ {l:List (Str × NameKind)}{acc:List (Str × Addr)},((x,NameKind.free)∈l\/acc.lookup x=some c)->(iu env l acc).lookup x=some c
 | [],acc,h=>by
  rcases h with h | h
  .simp at h
  .exact h
 | (n,k)::r,acc,h=>by
  unfold iu;split
  .rename_i hk;have hk':k=.free:=by simpa using hk
   split
   .rename_i a ha;apply jZ hc;by_cases hx:x=n
    .subst hx;rw [hc] at ha;cases ha;right;simp [List.lookup_cons]
    .rcases h with h | h
     .rcases w6.mp h with e | h
      .cases e;exact absurd rfl hx
      .exact .inl h
     .right;have:(x == n)=false:=beq_eq_false_iff_ne.mpr hx;rw [List.lookup_cons,this];exact h
   .rename_i ha;apply jZ hc;rcases h with h | h
    .rcases w6.mp h with e | h
     .cases e;rw [hc] at ha;cases ha
     .exact .inl h
    .exact .inr h
  .rename_i hk;apply jZ hc;rcases h with h | h
   .rcases w6.mp h with e | h
    .cases e;exact absurd (by rfl) hk
    .exact .inl h
   .exact .inr h
def dI (scope:Scope) (C:Addr) (env:Env):Env :=
 { scope:=relabel scope env,locals:=C,globals:=env.globals,cells:=cellsFrom (C+1) scope.names (iu env scope.names []),qual:=env.qual,func:=none,code:=env.code,frame:=env.frame,builtins:=env.builtins }
variable {s:Shared}
def aaP {M:Model}{A:Around}{E:zn}{cl:List (Str × Addr)}{Q:Env->Shared->Prop}
  (h:Q { scope:=scope,locals:=s.heap.objs.size,globals:=env.globals,cells:=cellsFrom (s.heap.objs.size+1) scope.names cl,qual:=env.qual,func:=none,code:=env.code,frame:=env.frame,builtins:=env.builtins }
   { s with heap:=pushCells (s.heap.push { cls:=.type "dict",data:=.dict #[] }) scope.names }) :
  wpAny M A (newFunctionEnv scope env.globals cl [] env.qual none .none (some env)) Q E s:=by
 simp only [newFunctionEnv,Option.isSome_some,if_true];refine vw (wpAny_alloc ?_);refine vw (wpAny_layCells _ (fun name kind cells=>by cases hkc:kind == NameKind.cell <;> simp [hkc]) _ _ _ _ ?_);rw [show ({ s with heap:=s.heap.push { cls:=.type "dict",data:=.dict #[] } }:Shared).heap.objs.size=s.heap.objs.size+1 from Heap.size_push ..]
 simp only [List.forIn_nil,pure_bind];exact vx h
theorem nj:∀ {l:List (Str × NameKind)}{n:Nat}{acc:List (Str × Addr)}{p:Str × Addr},p∈cellsFrom n l acc->p∈acc\/(n<=p.2/\(p.1,NameKind.cell)∈l)
 | [],n,acc,p,h=>.inl h
 | (x,k)::r,n,acc,p,h=>by
  unfold cellsFrom at h;split at h
  .rename_i hk;have hk':k=.cell:=by simpa using hk
   subst hk';rcases nj h with h | h
   .rcases w6.mp h with e | h
    .subst e;exact .inr ⟨v4 _,vz⟩
    .exact .inl h
   .exact .inr ⟨by omega,vy _ h.2⟩
  .rcases nj h with h | h
   .exact .inl h
   .exact .inr ⟨h.1,vy _ h.2⟩
theorem mX:∀ {l:List (Str × NameKind)}{n:Nat}{acc:List (Str × Addr)},(∀ p∈acc,p.2 < n)->(∀ p∈acc,∀ q∈acc,p.2=q.2->p.1=q.1)->∀ p∈cellsFrom n l acc,∀ q∈cellsFrom n l acc,p.2=q.2->p.1=q.1
 | [],n,acc,h1,h2=>h2
 | (x,k)::r,n,acc,h1,h2=>by
  unfold cellsFrom;split
  .refine mX (fun p hp=>?_) fun p hp q hq e=>?_
   .rcases w6.mp hp with e | hp
    .subst e;exact jS _
    .exact Nat.lt_succ_of_lt (h1 p hp)
   .rcases w6.mp hp with e1 | hp
    .rcases w6.mp hq with e2 | hq
     .rw [e1,e2]
     .subst e1;have:=h1 q hq;have e':n=q.2:=e;exact absurd (e' ▸ this) (yv _)
    .rcases w6.mp hq with e2 | hq
     .subst e2;have:=h1 p hp;have e':p.2=n:=e;exact absurd (e' ▸ this) (yv _)
     .exact h2 p hp q hq e
  .exact mX h1 h2
theorem jF {x:Str}:∀ {l:List (Str × NameKind)}{n:Nat}{acc:List (Str × Addr)},(x,NameKind.cell) ∉ l->(cellsFrom n l acc).lookup x=acc.lookup x
 | [],n,acc,h=>rfl
 | (y,k)::r,n,acc,h=>by
  have h':(x,NameKind.cell) ∉ r:=fun z=>h (vy _ z)
  unfold cellsFrom;split
  .rename_i hk;have hk':k=.cell:=by simpa using hk
   subst hk';rw [jF h'];have hne:x≠y:=fun e=>h (by rw [e];exact vz)
   have:(x == y)=false:=beq_eq_false_iff_ne.mpr hne;rw [List.lookup_cons,this]
  .exact jF h'
theorem lH:∀ {l:List (Str × NameKind)}{h:Heap}{acc:List (Str × Addr)}{p:Str × Addr},p∈cellsFrom h.objs.size l acc->p∈acc\/(pushCells h l).IsCell p.2 none
 | [],h,acc,p,q=>.inl q
 | (y,k)::r,h,acc,p,q=>by
  unfold cellsFrom at q;unfold pushCells;split at q
  .rename_i hk;rw [if_pos hk];have e:(h.push { cls:=.type "cell",data:=.cell none }).objs.size=h.objs.size+1:=Heap.size_push ..
   rw [<- e] at q;rcases lH q with q | q
   .rcases w6.mp q with z | q
    .subst z;right;exact Heap.IsCell.keeps ⟨_,vT _ rfl,rfl⟩ (pushCells_keeps r _)
    .exact .inl q
   .exact .inr q
  .rename_i hk;rw [if_neg hk];exact lH q
theorem fU {α:Type}:∀ {l:List (Str × α)}{x:Str}{k:α},(l.map (·.1)).Nodup->(x,k)∈l->l.lookup x=some k
 | (y,j)::r,x,k,nd,h=>by
  rw [List.map_cons,List.nodup_cons] at nd;rcases w6.mp h with e | h
  .cases e;simp [List.lookup_cons]
  .have hne:x≠y:=fun e=>nd.1 (by rw [<- e];exact yo.mpr ⟨_,h,rfl⟩)
   have:(x == y)=false:=beq_eq_false_iff_ne.mpr hne;rw [List.lookup_cons,this];exact fU nd.2 h
theorem Cg {env:Env}{x:Str}:∀ {names:List (Str × NameKind)},
  (names.map fun (n,k)=>if (k == NameKind.free && env.scope.kind == .function && env.kindOf n == some .cell) then (n,NameKind.cell) else (n,k)).lookup x =
   (names.lookup x).map fun k=>if (k == NameKind.free && env.scope.kind == .function && env.kindOf x == some .cell) then NameKind.cell else k
 | []=>rfl
 | (n,k)::r=>by
  have ih:=Cg (env:=env) (x:=x) (names:=r);rw [List.map_cons];cases hx:x == n with
  | true =>
   have e:x=n:=by simpa using hx
   subst e;by_cases hc:(k == NameKind.free && env.scope.kind == .function && env.kindOf x == some .cell)=true
   .simp only [hc,if_true,List.lookup_cons,hx,Option.map_some]
   .simp only [hc,Bool.false_eq_true,if_false,List.lookup_cons,hx,Option.map_some]
  | false =>
   by_cases hc:(k == NameKind.free && env.scope.kind == .function && env.kindOf n == some .cell)=true
   .simp only [hc,if_true,List.lookup_cons,hx];exact ih
   .simp only [hc,Bool.false_eq_true,if_false,List.lookup_cons,hx];exact ih
theorem pC (scope:Scope) (env:Env) (x:Str):(relabel scope env).names.lookup x=(scope.names.lookup x).map fun k=>if (k == NameKind.free && env.scope.kind == .function && env.kindOf x == some .cell) then NameKind.cell else k:=Cg
structure ScOk (around:Scope) (scope:Scope):Prop where
 kind:scope.kind=.function
 nd:(scope.names.map (·.1)).Nodup
 cap:∀ x,scope.names.lookup x=some .free->around.names.lookup x=some .cell\/around.names.lookup x=some .free
noncomputable def cI (N:z0) (scope:Scope):List Bool:=N.map fun x=>decide (scope.names.lookup x=some .free)
noncomputable def bA {α:Type}:List Bool->List (Option α)->List (Option α)
 | b::bs,v::vs=>(if b then v else none)::bA bs vs
 | [],vs=>vs.map fun _=>none
 | _,[]=>[]
theorem jY {α:Type}:∀ (bs:List Bool) (vs:List (Option α)),(bA bs vs).length=vs.length
 | [],vs=>by simp [bA]
 | _::_,[]=>rfl
 | _::bs,_::vs=>by simp [bA,jY bs vs]
theorem rN {α:Type}:∀ {bs:List Bool}{vs:List (Option α)}{i:Nat}{v:α},(bA bs vs)[i]?=some (some v)->bs[i]?=some true/\vs[i]?=some (some v)
 | [],vs,i,v,h=>by
  simp only [bA,List.getElem?_map] at h;cases e:vs[i]? <;> simp [e] at h
 | _::_,[],i,v,h=>by simp [bA] at h
 | b::bs,w::vs,0,v,h=>by
  cases b <;> simp [bA] at h ⊢;exact h
 | b::bs,w::vs,i+1,v,h=>by
  simp only [bA,List.getElem?_cons_succ] at h ⊢;exact rN h
theorem Eb {α:Type}:∀ {bs:List Bool}{vs:List (Option α)}{i:Nat}{v:α},bs[i]?=some true->vs[i]?=some (some v)->(bA bs vs)[i]?=some (some v)
 | b::bs,w::vs,0,v,h,g=>by
  simp at h g;subst h g;simp [bA]
 | b::bs,w::vs,i+1,v,h,g=>by
  simp only [bA,List.getElem?_cons_succ] at h g ⊢;exact Eb h g
 | [],vs,i,v,h,g=>by simp at h
 | _::_,[],i,v,h,g=>by simp at g
def cO (X:Cx) (scope:Scope) (s₃:Shared) (H₃:Hp) (fp:List Addr) (xe:zn):Cx :=
 { X with s₀:=s₃,H₀:=H₃,env:=dI scope s₃.heap.objs.size X.env,outer:=X.stack,stack:=X.stack,ex:=fp,fn:=fun x=>decide (scope.names.lookup x=some .cell),pn:=[],xe:=xe }
variable {fp:List Addr}{xe:zn}{h':Heap}
section
variable {X:Cx}{pins:w4}{σ:St}{H:Hp}{s:Shared}
def Ys (I:Inv X pins σ H s) (S:ScOk X.env.scope scope) (hf:∀ b∈fp,iJ X pins H b) (ho:∀ b∈fp,∃ o,s.heap.get? b=some o) :
  Inv (cO X scope s H fp xe) [] (bA (cI X.N scope) σ) H { s with heap:=pushCells (s.heap.push { cls:=.type "dict",data:=.dict #[] }) scope.names }:=by
 have keep:∀ b o,s.heap.get? b=some o -> (pushCells (s.heap.push { cls:=.type "dict",data:=.dict #[] }) scope.names).get? b=some o:=fun b o e=>pushCells_keeps _ _ b o (vS _ e)
 have hsz:(s.heap.push { cls:=.type "dict",data:=.dict #[] }).objs.size=s.heap.objs.size+1:=Heap.size_push ..
 have clo:∀ p∈iu X.env scope.names [],scope.names.lookup p.1=some .free/\X.env.cells.lookup p.1=some p.2:=fun p hp=>by
  rcases pZ hp with h | h
  .simp at h
  .exact ⟨fU S.nd h.1,h.2⟩
 have clt:∀ p∈iu X.env scope.names [],p.2 < s.heap.objs.size:=fun p hp=>by
  obtain ⟨v,q⟩:=I.cell _ _ (clo p hp).2;exact q.lt
 have memc:∀ {x c},(dI scope s.heap.objs.size X.env).cells.lookup x=some c->(x,c)∈cellsFrom (s.heap.objs.size+1) scope.names (iu X.env scope.names []):=fun h=>mem_of_lookup h
 have cases2:∀ {x c},(dI scope s.heap.objs.size X.env).cells.lookup x=some c->(scope.names.lookup x=some .free/\X.env.cells.lookup x=some c)\/(s.heap.objs.size+1<=c/\scope.names.lookup x=some .cell):=fun {x c} h=>by
  rcases nj (memc h) with q | q
  .exact .inl (clo _ q)
  .exact .inr ⟨q.1,fU S.nd q.2⟩
 have free_has:∀ {x},scope.names.lookup x=some .free->∃ c,X.env.cells.lookup x=some c:=fun {x} h=>I.ok.has x (S.cap x h)
 have lookF:∀ {x c},scope.names.lookup x=some .free->X.env.cells.lookup x=some c->(dI scope s.heap.objs.size X.env).cells.lookup x=some c:=fun {x c} h1 h2=>by
  have ncell:(x,NameKind.cell) ∉ scope.names:=fun z=>by
   have:=fU S.nd z;rw [h1] at this;cases this
  show (cellsFrom (s.heap.objs.size+1) scope.names (iu X.env scope.names [])).lookup x=some c
  rw [jF ncell];exact jZ h2 (.inl (mem_of_lookup h1))
 have kindB:∀ {x},(Env.kindOf (dI scope s.heap.objs.size X.env) x=some .cell\/Env.kindOf (dI scope s.heap.objs.size X.env) x=some .free)->scope.names.lookup x=some .cell\/scope.names.lookup x=some .free:=fun {x} h=>by
  have e:Env.kindOf (dI scope s.heap.objs.size X.env) x=_:=pC scope X.env x;rw [e] at h;cases q:scope.names.lookup x with
  | none=>rw [q] at h;simp at h
  | some k =>
   rw [q] at h;cases k <;> simp at h ⊢
 have ok:(cO X scope s H fp xe).Ok:=by
  refine ⟨I.ok.mod,S.kind,I.ok.glob,I.ok.blt,v4 _,fun x y c h1 h2=>?_,fun x h=>?_,fun x c h1 h2=>?_,I.ok.hd,I.ok.frames,.inl rfl,fun b hb=>⟨?_,fun x c h=>?_⟩,I.bs,yb I.ok.bsz I.sz,fun b o e hb=>?_,fun b hb z=>?_,I.stack,I.stkFree,I.ok.tab.un I.base⟩
  .exact mX (fun p hp=>Nat.lt_succ_of_lt (clt p hp)) (fun p hp q hq e=>I.ok.inj _ _ _ (clo p hp).2 (by rw [e];exact (clo q hq).2)) _ (memc h1) _ (memc h2) rfl
  .rcases kindB h with h | h
   .exact yA.mp (PySem.W.cellsFrom_some scope.names (s.heap.objs.size+1) _ (.inl h))
   .obtain ⟨c,hc⟩:=free_has h;exact ⟨c,lookF h hc⟩
  .rcases cases2 h2 with ⟨q,_⟩ | ⟨q,_⟩
   .have h1':scope.names.lookup x=some .cell:=of_decide_eq_true h1;rw [q] at h1';cases h1'
   .exact Nat.le_of_succ_le q
  .obtain ⟨o,e⟩:=ho b hb;exact v6 (v3 e)
  .rcases cases2 h with ⟨_,q⟩ | ⟨q,_⟩
   .exact (hf b hb).2.2.2.2.1 x c q
   .obtain ⟨o,e⟩:=ho b hb;have:=v3 e;intro z;subst z;exact yv _ (Nat.lt_trans this (Nat.lt_of_succ_le q))
  .obtain ⟨_,_,_,q,_⟩:=hf b hb;rcases q with q | q
   .exact I.ok.noex b o e q
   .exact absurd (yf (v3 e) (yb I.ok.bsz q)) (yv _)
  .obtain ⟨_,q1,q2,_⟩:=hf b hb;rcases w6.mp (I.stkSub b z) with e | e
   .exact q1 e
   .exact q2 e
 refine ⟨ok,rfl,I.bare,Un.kept keep,⟨fun _=>none,(Heap.Ns.new s.heap (.type "dict")).keeps (pushCells_keeps _ _),fun i x v h1 h2 h3=>?_⟩,fun x c h=>?_,I.hok.fresh (v4 _),fun x c h=>?_,fun p hp=>absurd (show p ∈ ([]:w4) from hp) (by simp),I.hok.kept keep,?_⟩
 .obtain ⟨g1,g2⟩:=rN h2;have hx:X.N[i]?=some x:=h1;have hfr:scope.names.lookup x=some .free:=by
   unfold cI at g1;rw [List.getElem?_map,hx] at g1;simpa using g1
  have hcap:=S.cap x hfr;obtain ⟨m,hn,hl⟩:=I.loc;obtain ⟨u,r,l⟩:=hl i x v hx g2 (by rcases hcap with h | h;exact .inr (.inl h);exact .inr (.inr h));refine ⟨u,r,?_⟩;rcases l with ⟨hk,_⟩ | ⟨_,c,hc,hcell⟩
  .have hk':X.env.scope.names.lookup x=some .local:=hk;rcases hcap with h | h <;> rw [hk'] at h <;> cases h
  .refine .inr ⟨?_,c,lookF hfr hc,hcell.keeps keep⟩;have e:Env.kindOf (dI scope s.heap.objs.size X.env) x=_:=pC scope X.env x;show Env.kindOf (dI scope s.heap.objs.size X.env) x=some .cell\/Env.kindOf (dI scope s.heap.objs.size X.env) x=some .free
   rw [e,hfr];simp only [Option.map_some];split
   .exact .inl rfl
   .exact .inr rfl
 .rcases cases2 h with ⟨_,q⟩ | ⟨_,q⟩
  .obtain ⟨v,z⟩:=I.cell x c q;exact ⟨v,z.keeps keep⟩
  .have hm:=memc h;rw [<- hsz] at hm;rcases lH hm with z | z
   .have:=(clo _ z).1;rw [q] at this;cases this
   .exact ⟨none,z⟩
 .rcases cases2 h with ⟨_,q⟩ | ⟨q,_⟩
  .exact I.freeC x c q
  .exact I.hok.fresh (Nat.le_of_succ_le q)
 .rw [jY];exact I.len
def Mt {pins':w4}{σ':St}{H':Hp}{s':Shared} (I:Inv X pins σ H s) (hf:∀ b∈fp,iJ X pins H b)
  (J:Inv (cO X scope s H fp xe) pins' σ' H' s') (hs:Heap.SameBut s.heap.objs.size s'.heap h'):Inv X pins σ H' { s' with heap:=h' }:=by
 have ne:∀ b o,s.heap.get? b=some o->b≠s.heap.objs.size:=fun b o e=>v6 (v3 e)
 have eq:∀ b,b≠s.heap.objs.size->h'.get? b=s'.heap.get? b:=fun b hb=>hs.2 b hb
 have U:Un (frs X.stack) fp H H' s.heap s'.heap:=J.base;have U':Un (frs X.stack) fp H H' s.heap h' :=
  ⟨fun b o e n hb hx=>by rw [eq b (ne b o e)];exact U.keep b o e n hb hx,fun b o e n hb hx=>by rw [eq b (ne b o e)];exact U.slot b o e n hb hx,U.free,fun b o e hx=>by rw [eq b (ne b o e)];exact U.there b o e hx,U.tups,U.frzs,U.tbls⟩
 have hC:H' s.heap.objs.size=none:=J.free;have hok:HOk X.prog X.w H' h':=fun a o e=>by
  have neH:∀ {b u},H' b=some u->b≠s.heap.objs.size:=fun {b u} q z=>by rw [z,hC] at q;cases q
  refine (J.hok a o e).stay (fun b u hb q=>?_) (fun _ q=>q) fun _ _ q=>q
  have hbn:b≠s.heap.objs.size:=by
   rcases hb with rfl | hb
   .exact neH e
   .exact neH hb
  rw [eq b hbn];exact q
 refine I.call' (s':={ s' with heap:=h' }) (ch:=fp) J.os U' hok J.bare fun b hb=>?_
 obtain ⟨_,f1,f2,f3,f4,f5⟩:=hf b hb;exact ⟨f3,f1,f4,f5⟩
end
def PTs (X:Cx) (ifs:ve) (tt:TT):Prop :=
 ∀ (pins:w4) (s:Shared) (σ:St) (H:Hp) (Q:Bool->Hp->Prop),Inv X pins σ H s->tt σ H Q ->
  wpAny (model X.prog X.w) X.A (forIn ifs true fun c r=>if r=true then do let ok <- isTrue c X.env (eval c X.env);pure (ForInStep.yield ok) else pure (ForInStep.yield r)) (TP X pins σ Q) X.xe s
variable {X:Cx}
theorem MF :PTs X [] (fun _ H Q=>Q true H):=fun _ _ _ H _ I h=>wpAny_tests_nil ⟨H,I,h⟩
variable {tt:TT}
theorem Lf {c:Expr} (h:PT X c tt):PTs X [c] tt:=fun pins s σ H Q I q=>wpAny_tests_one (h pins s σ H Q I q)
def aap (a b:St):Prop:=b.length=a.length/\∀ (i:Nat) v,a[i]?=some (some v)->b[i]?=some (some v)
def BL (wi:TI) (g:TG) (tt:TT) (te:TE) (mk:St->St):TE:=fun σ H Q=>wi σ H fun J H1=>∀ D,H1 D=none ->
 ∃ W:Nat->Nat->List V->Hp->Prop,(∃ m,W 0 m [] (upd H1 D (.lst [])))/\∀ i m ys H',W i m ys H' ->
  (J.stop i H'/\Q (.ref D) H')\/(J.go i H'/\∀ x H2,J.yld i H' x H2->g x (mk σ) H2 fun σ2 H3=>aap (mk σ) σ2/\tt σ2 H3 fun b H4 =>
   if b=true then te σ2 H4 fun y H5=>H5 D=some (.lst ys)/\ys.length < sizeLine/\∃ m',m' < m/\W (i+1) m' (ys++[y]) (upd H5 D (.lst (ys++[y])))
   else ∃ m',m' < m/\W (i+1) m' ys H4)
variable {elt tg iter:Expr}{ifs:ve}{pos pos':Pos}{wi:TI}{g:TG}{te:TE}{pins:w4}{σ:St}{H:Hp}
theorem uR {Pb:Cx->Prop}{use:Option (Value->Sem Unit)}{Qv:zn}{Q:VK}
  (I:Inv X pins σ H s) (h:BL wi g tt te (bA (cI X.N scope)) σ H Q)
  (hfin:∀ {s3:Shared}{H3:Hp}{fp:List Addr}{xe:zn}{s6:Shared}{H5:Hp}{D:Addr},Inv X pins σ H3 s3->(∀ b∈fp,iJ X pins H3 b)->Inv (cO X scope s3 H3 fp xe) [] (bA (cI X.N scope) σ) H5 s6->Q (.ref D) H5->compPost (model X.prog X.w) X.A X.xe use Qv (.ref D) s3.heap.objs.size (.ok .next) s6)
  (hc:X.calm=true) (hi:PI X tg iter wi) (S:ScOk X.env.scope scope)
  (hP:∀ s₃ H₃ fp acc,Inv X pins σ H₃ s₃->(∀ b∈fp,iJ X pins H₃ b)->Pb (cO X scope s₃ H₃ fp (fun e s'=>notedBy (model X.prog X.w) X.A (dI scope s₃.heap.objs.size X.env) (fun e s'=>compPost (model X.prog X.w) X.A X.xe use Qv acc s₃.heap.objs.size (.error e) s') e s')))
  (hblk:∀ s₃ H₃ fp xe,Pb (cO X scope s₃ H₃ fp xe)->PG (cO X scope s₃ H₃ fp xe) tg g/\PTs (cO X scope s₃ H₃ fp xe) ifs tt/\PE (cO X scope s₃ H₃ fp xe) elt te)
  (hs:∀ x,foldedSetIterable iter X.env x=pure x:=by intro _;rfl) :
  wpAny (model X.prog X.w) X.A (comprehension (.ListComp elt [⟨tg,iter,ifs,0⟩] scope pos) scope X.env pos' (newList []) false (eval iter X.env) use) Qv X.xe s:=by
 have hcl:=Nv (env:=X.env) (scope:=scope) fun x hx hk=>I.ok.has x.1 (S.cap x.1 (fU S.nd (by rw [<- hk];exact hx)))
 refine wpAny_comprehension_free (use:=use) rfl hs hcl S.kind (fun x hx hk=>fU S.nd (by rw [<- hk];exact hx)) ?_;refine thn (hi pins s σ H _ I h) fun v s1 h1=>thn h1 fun itv s2 h2=>?_
 obtain ⟨it,fp,tn,J,H2,rfl,I2,T,st2,f2,hR⟩:=h2;refine wpAny_newList ?_;have hD:H2 s2.heap.objs.size=none:=I2.hok.fresh (v4 _);obtain ⟨W,⟨m0,w0⟩,turn⟩:=hR s2.heap.objs.size hD;have keep3:∀ b o,s2.heap.get? b=some o -> (s2.heap.push { cls:=.type "list",data:=.seq ([]:zw).toArray }).get? b=some o:=fun b o e=>vS _ e
 have I3:Inv X pins σ (upd H2 s2.heap.objs.size (.lst [])) { s2 with heap:=s2.heap.push { cls:=.type "list",data:=.seq ([]:zw).toArray } } :=
  I2.laid (t':=s2.toks) keep3 (v4 _) ⟨by simp,[],0,.nil,vT _ rfl⟩
 generalize hs3:({ s2 with heap:=s2.heap.push { cls:=.type "list",data:=.seq ([]:zw).toArray } }:Shared)=s3 at I3
 have h3:s3.heap=s2.heap.push { cls:=.type "list",data:=.seq ([]:zw).toArray }:=by rw [<- hs3]
 have obj2:∀ b∈fp,∃ o,s2.heap.get? b=some o:=fun b hb=>by
  obtain ⟨o,e,_⟩:=T.obj 0 _ st2 b hb;exact ⟨o,e⟩
 have obj3:∀ b∈fp,∃ o,s3.heap.get? b=some o:=fun b hb=>by
  obtain ⟨o,e⟩:=obj2 b hb;exact ⟨o,by rw [h3];exact keep3 b o e⟩
 have neD:∀ b∈fp,b≠s2.heap.objs.size:=fun b hb=>by
  obtain ⟨o,e⟩:=obj2 b hb;exact v6 (v3 e)
 have f3:∀ b∈fp,iJ X pins (upd H2 s2.heap.objs.size (.lst [])) b:=fun b hb=>by
  obtain ⟨g0,g1⟩:=f2 b hb;exact ⟨by rw [ao (neD b hb)];exact g0,g1⟩
 refine aaP ?_;have hPb:=hP s3 (upd H2 s2.heap.objs.size (.lst [])) fp (.ref s2.heap.objs.size) I3 f3;generalize hE:(fun e s'=>notedBy (model X.prog X.w) X.A (dI scope s3.heap.objs.size X.env) (fun e s'=>compPost (model X.prog X.w) X.A X.xe use Qv (.ref s2.heap.objs.size) s3.heap.objs.size (.error e) s') e s')=xe at hPb;have J4:Inv (cO X scope s3 (upd H2 s2.heap.objs.size (.lst [])) fp xe) [] (bA (cI X.N scope) σ) (upd H2 s2.heap.objs.size (.lst [])) { s3 with heap:=pushCells (s3.heap.push { cls:=.type "dict",data:=.dict #[] }) scope.names }:=Ys I3 S f3 obj3
 obtain ⟨hg,ht,he⟩:=hblk s3 (upd H2 s2.heap.objs.size (.lst [])) fp xe hPb;generalize hX:cO X scope s3 (upd H2 s2.heap.objs.size (.lst [])) fp xe=X' at J4 hg ht he;have eP:X'.prog=X.prog:=by rw [<- hX];rfl
 have eW:X'.w=X.w:=by rw [<- hX];rfl
 have eK:X'.K=X.K:=by rw [<- hX];rfl
 have eA:X'.A=X.A:=by rw [<- hX];rfl
 have eC:X'.calm=true:=by rw [<- hX];exact hc
 have eEnv:X'.env=dI scope s3.heap.objs.size X.env:=by rw [<- hX];rfl
 have eX:X'.xe=xe:=by rw [<- hX];rfl
 have eFp:∀ {pins':w4}{H':Hp},(∀ b∈fp,H' b=none)->pins'=[]->∀ b∈fp,iJ X' pins' H' b:=fun {pins' H'} hn hp b hb=>by
  subst hp;have q:=(J4.ok.exf b (by rw [<- hX];exact hb));refine ⟨hn b hb,q.1,J4.ok.exfs b (by rw [<- hX];exact hb),.inl (by rw [<- hX];exact hb),q.2,fun p hp=>?_⟩;rw [<- hX] at hp;exact absurd (show p∈([]:w4) from hp) (by simp)
 have tn4:tn 0 (pushCells (s3.heap.push { cls:=.type "dict",data:=.dict #[] }) scope.names):=T.keep _ _ _ st2 fun b hb o e=>pushCells_keeps _ _ b o (vS _ (by rw [h3]; exact keep3 b o e))
 have loop:∀ s5:Shared,s5={ s3 with heap:=pushCells (s3.heap.push { cls:=.type "dict",data:=.dict #[] }) scope.names } ->
   codeAny (model X.prog X.w) X.A (.compLoop (.ListComp elt [⟨tg,iter,ifs,0⟩] scope pos) 0 (.ref it) (.ref s2.heap.objs.size) (dI scope s3.heap.objs.size X.env))
    (compPost (model X.prog X.w) X.A X.xe use Qv (.ref s2.heap.objs.size) s3.heap.objs.size) s5:=by
  rintro s5 rfl;refine codeAny_loop rfl (fun n s'=>∃ i ys H',Inv X' [] (bA (cI X.N scope) σ) H' s'/\tn i s'.heap/\(∀ b∈fp,H' b=none)/\W i n ys H') (fun n s5 hI=>?_) m0
   ⟨0,[],_,J4,tn4,fun b hb=>by rw [ao (neD b hb)];exact (f2 b hb).1,w0⟩
  obtain ⟨i,ys,H5,I5,st5,fr5,w5⟩:=hI;show wpAny _ X.A ((compTurn (.ListComp elt [⟨tg,iter,ifs,0⟩] scope pos) 0 (.ref it) (.ref s2.heap.objs.size) (dI scope s3.heap.objs.size X.env)).onRaise (fun x=>do noteFrame x (dI scope s3.heap.objs.size X.env);theTreesLotGoes x)) _ _ s5
  refine wpAny_noted ?_;rw [compTurn_list];refine vw (wpAny_standAt (vw ?_));have eN:notedBy (model X.prog X.w) X.A (dI scope s3.heap.objs.size X.env) (fun e s'=>compPost (model X.prog X.w) X.A X.xe use Qv (.ref s2.heap.objs.size) s3.heap.objs.size (.error e) s')=X'.xe:=by rw [eX,<- hE]
  rw [eN];rcases turn i n ys H5 w5 with ⟨stop,qn⟩ | ⟨go,step⟩
  .have dn:=T.done X' eP eW eK eC i [] s5 _ H5 X'.xe I5 (eFp fr5 rfl) st5 stop;rw [eA] at dn;refine thn dn fun r s6 ⟨hr,I6⟩=>?_
   subst hr;refine vx ?_;rw [<- hX] at I6;exact hfin I3 f3 I6 qn
  .have itm:=T.item X' eP eW eK eC i [] s5 _ H5 X'.xe I5 (eFp fr5 rfl) st5 go;rw [eA] at itm;refine thn itm fun r s6 ⟨u,hr,h6⟩=>?_
   subst hr;refine vw (thn h6 fun _ s7 ⟨x,H7,I7,r7,y7,st7,fr7⟩=>?_);have I7':=I7.pinned (eFp fr7 rfl) (T.obj _ _ st7);have as7:=hg _ s7 _ H7 x u _ I7' r7 (step x H7 y7);rw [eP,eW,eA,eEnv] at as7;refine vw (thn as7 fun _ s8 ⟨σ8,H8,I8,ex8,q8⟩=>?_);have again:∀ {s9:Shared}{H9:Hp}{ys':List V},Inv X' ([]++vL fp s7.heap) σ8 H9 s9->(∃ m',m' < n/\W (i+1) m' ys' H9) ->
     ∃ m,m < n/\∃ i ys H',Inv X' [] (bA (cI X.N scope) σ) H' s9/\tn i s9.heap/\(∀ b∈fp,H' b=none)/\W i m ys H':=fun {s9 H9 ys'} I9 ⟨m',hm,w9⟩=>by
    refine ⟨m',hm,i+1,ys',H9,?_,T.keep _ _ _ st7 fun b hb o e=>(I9.pin (b,o) (vF _ (vF _ (nU hb e)))).1,fun b hb=>?_,w9⟩
    .exact (I9.weak ex8.1.symm ex8.2).unpinned
    .obtain ⟨o,e,d⟩:=T.obj _ _ st7 b hb;exact (I9.pin (b,o) (vF _ (vF _ (nU hb e)))).2.1
   have te8:=ht _ s8 σ8 H8 _ I8 q8;rw [eP,eW,eA,eEnv] at te8;refine vw (thn te8 fun ok s9 ⟨H9,I9,q9⟩=>?_);cases ok with
   | false =>
    rw [if_neg Bool.false_ne_true] at q9;exact vx ⟨rfl,again I9 q9⟩
   | true =>
    rw [if_pos rfl] at q9;have el9:=he _ s9 σ8 H9 _ I9 q9;rw [eP,eW,eA,eEnv] at el9;refine vw (vw (thn el9 fun y s10 ⟨v10,H10,I10,r10,hl10,hz10,q10⟩=>?_));have ap:=vO (X:=X') _ s10 σ8 H10 (.ref s2.heap.objs.size) [v10] (.ref s2.heap.objs.size) [y] (fun _ H'=>H'=upd H10 s2.heap.objs.size (.lst (ys++[v10]))) I10 rfl (.cons r10 .nil) ⟨s2.heap.objs.size,ys,v10,rfl,rfl,hl10,hz10,rfl⟩;rw [eP,eW,eA] at ap;refine vw (thn ap fun _ s11 ⟨_,H11,I11,_,e11⟩=>?_);subst e11;exact vx (vx ⟨rfl,again I11 q10⟩)
 refine codeAny_compStart_list (loop _ rfl) ?_;have tself:=T.self X.A 0 { s3 with heap:=pushCells (s3.heap.push { cls:=.type "dict",data:=.dict #[] }) scope.names }
  (fun it' s'=>codeAny (model X.prog X.w) X.A (.compLoop (.ListComp elt [⟨tg,iter,ifs,0⟩] scope pos) 0 it' (.ref s2.heap.objs.size) (dI scope s3.heap.objs.size X.env)) (compPost (model X.prog X.w) X.A X.xe use Qv (.ref s2.heap.objs.size) s3.heap.objs.size) s')
 exact tself _ tn4 (loop _ rfl)
def yF 
  (hc:X.calm=true) (hi:PI X tg iter wi) (S:ScOk X.env.scope scope)
  (hblk:∀ s₃ H₃ fp xe,PG (cO X scope s₃ H₃ fp xe) tg g/\PTs (cO X scope s₃ H₃ fp xe) ifs tt/\PE (cO X scope s₃ H₃ fp xe) elt te)
  (hs:∀ x,foldedSetIterable iter X.env x=pure x:=by intro _;rfl) :
  PE X (.ListComp elt [⟨tg,iter,ifs,0⟩] scope pos) (BL wi g tt te (bA (cI X.N scope))):=by
 intro pins s σ H Q I h;rw [eval_ListComp];refine uR (use:=none) I h (fun {s3 H3 fp xe s6 H5 D} I3 f3 I6 qn=>?_) hc hi S (Pb:=fun _=>True) (fun _ _ _ _ _ _=>trivial) (fun s₃ H₃ fp xe _=>hblk s₃ H₃ fp xe) hs;obtain ⟨m,hn,_⟩:=id I6.loc;exact ⟨m,hn,fun h' hsb=>⟨.ref D,H5,Mt I3 f3 I6 hsb,rfl,qn⟩⟩
def WK {C:Addr} (I:Inv X pins σ H s) (hC:H C=none) (hb:X.s₀.heap.objs.size<=C) (hl:C≠X.env.locals) (hcl:∀ x c,X.env.cells.lookup x=some c->c≠C) (hp:∀ p∈X.pn++pins,p.1≠C)
  (hs:Heap.SameBut C s.heap h'):Inv X pins σ H { s with heap:=h' }:=by
 have hok:HOk X.prog X.w H h':=fun b ob e=>by
  refine (I.hok b ob e).stay (fun c w' hc q=>(hs.2 c ?_).trans q) (fun _ q=>q) fun _ _ q=>q
  rintro rfl;rcases hc with rfl | hc
  .rw [hC] at e;cases e
  .rw [hC] at hc;cases hc
 refine I.call' (s':={ s with heap:=h' }) (ch:=[C]) rfl ⟨fun b o e n hb hx=>?_,fun b o e n hb hx=>?_,fun b o e n hx=>n,fun b o e hx=>?_,fun b xs q=>q,fun b o u q=>q,fun b ps q=>⟨#[],by rw [Array.append_empty];exact q⟩⟩ hok I.bare fun b hbm=>?_
 .exact (hs.2 b fun z=>hx (by rw [z];simp)).trans e
 .exact ⟨o.slots,(hs.2 b fun z=>hx (by rw [z];simp)).trans e⟩
 .exact ⟨o,(hs.2 b fun z=>hx (by rw [z];simp)).trans e⟩
 .rw [List.mem_singleton.mp hbm];exact ⟨.inr hb,hl,hcl,hp⟩
variable {x:Str}
def Ol {spos:Pos}{i:Nat}
  (hN:X.N.Nodup) (hi':X.N[i]?=some x) (hx:L2.Loc X.env.scope x) (hf:X.fn x=true\/X.env.scope.names.lookup x=some .local)
  (hsw:X.env.scope.kind=.function->swapsWith (.ListComp elt [⟨tg,iter,ifs,0⟩] scope pos) (some (.Name x pos')) spos.line X.env=pure true)
  (hc:X.calm=true) (hi:PI X tg iter wi) (S:ScOk X.env.scope scope)
  (hblk:∀ s₃ H₃ fp xe,PG (cO X scope s₃ H₃ fp xe) tg g/\PTs (cO X scope s₃ H₃ fp xe) ifs tt/\PE (cO X scope s₃ H₃ fp xe) elt te)
  (hs:∀ x,foldedSetIterable iter X.env x=pure x:=by intro _;rfl) :
  PS X (.Assign [.Name x pos'] (.ListComp elt [⟨tg,iter,ifs,0⟩] scope pos) spos) (Wh (BL wi g tt te (bA (cI X.N scope))) (Bg i)):=by
 intro pins s σ H D I h;rw [exec_Assign_Name_used x pos' _ spos (hsw I.ok.kind)];refine vw (wpAny_standAt (vw ?_));show wpAny _ _ (do let _ <- comprehension (.ListComp elt [⟨tg,iter,ifs,0⟩] scope pos) scope X.env iter.pos (newList []) false (eval iter X.env) (some (assign (.Name x pos') X.env));pure ()) _ _ s
 refine vw (uR (use:=some (assign (.Name x pos') X.env)) I h (fun {s3 H3 fp xe s6 H5 Da} I3 f3 I6 qn=>?_) hc hi S (Pb:=fun _=>True) (fun _ _ _ _ _ _=>trivial) (fun s₃ H₃ fp xe _=>hblk s₃ H₃ fp xe) hs);have I':Inv X pins σ H5 s6:=Mt I3 f3 I6 (h':=s6.heap) ⟨rfl,fun _ _=>rfl⟩;have hlt:X.env.locals < s3.heap.objs.size:=I3.lt;have cells:∀ y c,X.env.cells.lookup y=some c->c < s3.heap.objs.size:=fun y c e=>by
  obtain ⟨v,q⟩:=I3.cell y c e;exact q.lt
 refine wpAny_assign_Name (Ef I' hN hi' hx (v:=.ref Da) rfl (fun s'' I'' ⟨a,sb,ha⟩=>?_) hf);obtain ⟨m,hn,_⟩:=id I6.loc;have hCa:s3.heap.objs.size≠a:=by
  rcases ha with rfl | ha
  .exact ya hlt
  .exact ya (cells x a ha)
 refine ⟨m,hn.sameBut sb hCa,fun h' hsb=>?_⟩;refine vx (vx ⟨_,H5,?_,qn⟩);exact WK I'' (C:=s3.heap.objs.size) I6.free I3.sz (ya hlt) (fun y c e=>v6 (cells y c e)) (fun p hp=>v6 (v3 (I3.pin p hp).1)) hsb
end Mi
namespace Mi
open PySem
variable {h:Heap}{d it:Addr}{es:Array DictEntry}{ep i:Nat}{Q:Option Value->Shared->Prop}
section
variable {prog:Program}{w:World}{A:Around}{E:zn}{s:Shared}
def jz (h:Heap) (d:Addr) (es:Array DictEntry) (ep:Nat):Prop:=∃ o,h.get? d=some o/\o.ExactDict/\o.data=.dict es ep
theorem jz.keep {h':Heap} (x:jz h d es ep) (k:∀ o,h.get? d=some o->h'.get? d=some o):jz h' d es ep :=
 let ⟨o,e,r⟩:=x;⟨o,k o e,r⟩
theorem jz.lt (x:jz h d es ep):d < h.objs.size:=let ⟨_,e,_⟩:=x;v3 e
theorem jz.ty (x:jz s.heap d es ep):s.TypeIs (.ref d) "dict":=let ⟨o,e,c,_⟩:=x; ⟨o,e,c.1⟩
def Jv {Q:zn} (hd:(d == sysModules)=false) (hm:jz s.heap d es ep)
  (hQ:Q (.ref s.heap.objs.size) { s with heap:=s.heap.push { cls:=.type "dict_keyiterator",data:=.fields #[.ref d,.int 0 0,.int es.size 0,.int ep 0] } }) :
  wpAny (model prog w) A (pyIter (.ref d)) Q E s:=by
 have hT:=hm.ty;obtain ⟨o,ho,hc,hdat⟩:=id hm;refine wpAny_pyIter_slot hT F.slot_dict_iter (y4 F.slot_dict_iter hT F.entry_dict_iter ?_ (F.args_dict_iter_1 _));unfold Builtin.«dict.__iter__»;refine vw ?_;unfold Builtin.Dict.dictSlotNone;refine vw (wpAny_notOrdered_dict hT ?_);show wpAny _ _ (pure (Value.ref d)) _ _ s
 refine vx ?_;show wpAny _ _ (Builtin.Dict.showsAll d >>= _) _ _ s
 unfold Builtin.Dict.showsAll;rw [if_neg (by rw [hd];exact Bool.false_ne_true)];refine vw (vx ?_);refine vw (jC ho hdat ?_);refine vw (wpAny_dictEpoch ho hdat ?_);refine vw (jv (vx ⟨_,rfl,"dict_keyiterator",_,⟨_,vT _ rfl,rfl⟩,F.slot_dict_keyiterator_next.lookup,?_⟩))
 simpa [rawInt] using hQ
def JW (hit:s.heap.IsKeyIter it d i es.size ep)
  (hm:jz s.heap d es ep) (hlt':i < es.size)
  (hQ:∀ h',h'.IsKeyIter it d (i+1) es.size ep->Heap.SameBut it s.heap h'->Q (some es[i].key) { s with heap:=h' }) :
  wpAny (model prog w) A (pyNext (.ref it)) Q E s:=by
 obtain ⟨o,ho,hc,hd⟩:=id hit;obtain ⟨od,hod,hcd,hdd⟩:=id hm;unfold pyNext;refine vw (wpAny_attempt (y6 (name:=Str.ofString "__next__") hit.typeIs F.slot_dict_keyiterator_next
  (y4 F.slot_dict_keyiterator_next hit.typeIs F.entry_dict_keyiterator_next ?_ (F.args_dict_keyiterator_next_1 _))))
 refine vw (vx ?_);refine vw ?_;refine vw ?_
 first | refine vw (wpAny_typeNameOfWhole_keyiter hit.typeIs (vx ?_)) | refine vw (wpAny_typeNameOf_keyiter hit.typeIs (vx ?_))
 refine vw (wpAny_fieldsOf ho hd ?_);have hown:Builtin.Dict_items.ownsTuple "dict_keyiterator"=false:=by decide
 simp only [hown,Bool.false_eq_true,if_false];show wpAny _ _ (if (Value.ref d == Value.none)=true then _ else _) _ _ s
 rw [if_neg (show ¬ ((Value.ref d == Value.none)=true) from Bool.false_ne_true)];refine vw (vx ?_);refine vw (jC hod hdd ?_);rw [if_neg (by simp)];refine vw (vx ?_);refine vw (wpAny_dictEpoch hod hdd ?_);rw [if_neg (by simp)];refine vx ?_;simp only [show ¬ ((i:Int) < 0) from by omega,if_false,Int.toNat_natCast,Array.getElem?_eq_getElem hlt'];refine vw ?_
 first | refine vw (wpAny_typeNameOfWhole_keyiter hit.typeIs (vx ?_)) | refine vw (wpAny_typeNameOf_keyiter hit.typeIs (vx ?_))
 refine vw (wpAny_isOneOf_keyiter hit.typeIs ?_);show wpAny _ _ (setField (.ref it) 1 (rawInt ((i:Int)+1)) >>= _) _ _ s
 refine vw (wpAny_setField ho hd (by simp) ?_);have hit':(s.heap.update it (Obj.mapFields (·.setIfInBounds 1 (rawInt ((i:Int)+1))))).IsKeyIter it d (i+1) es.size ep :=
  ⟨_,ym _ ho (Obj.isFreed_of_fields (Obj.data_mapFields hd _)),(Obj.cls_mapFields ..).trans hc,by rw [Obj.data_mapFields hd];simp [rawInt]⟩
 refine vw (wpAny_holding ?_);refine vw (wpAny_isOneOf_keyiter (s:={ s with heap:=s.heap.update it (Obj.mapFields (·.setIfInBounds 1 (rawInt ((i:Int)+1)))) }) hit'.typeIs ?_);show wpAny _ _ (pure es[i].key) _ _ _
 exact vx (vx ⟨_,rfl,vx (hQ _ hit' (jn ..))⟩)
def Lp (hh:A.handled=none) (hit:s.heap.IsKeyIter it d i es.size ep)
  (hm:jz s.heap d es ep) (hge:es.size<=i)
  (hQ:∀ h',Heap.ExtBut it s.heap h'->Q none { s with heap:=h' }):wpAny (model prog w) A (pyNext (.ref it)) Q E s:=by
 obtain ⟨o,ho,hc,hd⟩:=id hit;obtain ⟨od,hod,hcd,hdd⟩:=id hm;unfold pyNext;refine vw (wpAny_attempt (y6 (name:=Str.ofString "__next__") hit.typeIs F.slot_dict_keyiterator_next
  (y4 F.slot_dict_keyiterator_next hit.typeIs F.entry_dict_keyiterator_next ?_ (F.args_dict_keyiterator_next_1 _))))
 refine vw (vx ?_);refine vw ?_;refine vw ?_
 first | refine vw (wpAny_typeNameOfWhole_keyiter hit.typeIs (vx ?_)) | refine vw (wpAny_typeNameOf_keyiter hit.typeIs (vx ?_))
 refine vw (wpAny_fieldsOf ho hd ?_);have hown:Builtin.Dict_items.ownsTuple "dict_keyiterator"=false:=by decide
 simp only [hown,Bool.false_eq_true,if_false];show wpAny _ _ (if (Value.ref d == Value.none)=true then _ else _) _ _ s
 rw [if_neg (show ¬ ((Value.ref d == Value.none)=true) from Bool.false_ne_true)];refine vw (vx ?_);refine vw (jC hod hdd ?_);rw [if_neg (by simp)];refine vw (vx ?_);refine vw (wpAny_dictEpoch hod hdd ?_);rw [if_neg (by simp)];refine vx ?_;simp only [show ¬ ((i:Int) < 0) from by omega,if_false,Int.toNat_natCast,Array.getElem?_eq_none hge];refine vw ?_
 first | refine vw (wpAny_typeNameOfWhole_keyiter hit.typeIs (vx ?_)) | refine vw (wpAny_typeNameOf_keyiter hit.typeIs (vx ?_))
 show wpAny _ _ (setField (.ref it) 0 .none >>= _) _ _ s
 refine vw (wpAny_setField ho hd (by simp) ?_);show wpAny _ _ (newExc (.type "StopIteration") [] >>= _) _ _ _
 refine vw ?_;simp only [newExc,newTuple];refine vw (jv ?_ (by size_fits));refine vw (m:=firstArgMember _ _) (wpAny_of_eq (a:=Value.none) (by first | rfl | (simp only [firstArgMember];rfl)) ?_);refine jv ?_ (by size_fits);simp only [raiseNew];refine vw (wpAny_handled ?_);rw [show A.in1.handled=none from hh];refine vw (vx (wpAny_throw ?_));refine vw (wpAny_isInstance (T:="StopIteration") (b:=true) ⟨_,vT _ rfl,rfl⟩ isSubtype_stop ?_)
 exact vx (hQ _ (((jn ..).extBut.push _).push _))
theorem VB (hh:A.handled=none) (I d:Addr) (hne:d≠I) (es:Array DictEntry) (ep:Nat) :
  Walks prog w A I [I,d] [I] es.size (fun i v=>∃ h:i < es.size,v=es[i].key) (fun i h=>h.IsKeyIter I d i es.size ep/\jz h d es ep) where
 sub:=fun b hb=>by simp at hb;simp [hb]
 frame:=fun _ _ _ st hk=>⟨st.1.at fun o e=>hk I (by simp) o e,st.2.keep fun o e=>hk d (by simp) o e⟩
 item:=fun i s Q E hi st hQ=>by
  refine JW st.1 st.2 hi fun h' hit' hs'=>?_
  exact hQ _ h' s.toks ⟨hi,rfl⟩ ⟨hit',st.2.keep fun o e=>hs'.extBut d o hne e⟩ fun b o hb e=>hs'.extBut b o (fun h=>hb (by simp [h])) e
 done:=fun s Q E st hQ=>Lp hh st.1 st.2 (v4 _) fun h' he'=>hQ h' s.toks fun b o hb e=>he' b o (fun h=>hb (by simp [h])) e
 self:=fun _ _ _ _ st hQ=>wpAny_pyIter_keyiter st.1 hQ
def Mw (lo:(d == sysModules)=false):PySem.W.KdlSrc prog w "dict" d d es.size (fun i v=>∃ h:i < es.size,v=es[i].key) (fun h=>jz h d es ep) where
 type:=fun _ hm=>hm.ty
 there:=fun _ hm=>⟨hm.lt,hm.lt⟩
 keep:=fun _ _ hm hk=>hm.keep fun o e=>hk d (.inl rfl) o e
 notList:=by decide
 notTuple:=by decide
 hint:=fun _ _ _ _ hm hq=>PySem.W.kdl_hint_dict hm.ty hq
 iter:=fun _ _ hh hm=>⟨_,_,(fun _ _ hq=>Jv lo hm hq),VB hh _ d (v6 hm.lt) es ep,⟨⟨_,vT _ rfl,rfl,rfl⟩,hm.keep fun _ e=>vS _ e⟩⟩
end
end Mi
namespace Mi
open PySem L2
open PyProof.Rows hiding St
open PySem.AutoSeq1 (wpAny_loadPart')
variable {it l:Addr}{i:Nat}{Q:zn}
section
variable {prog:Program}{w:World}{A:Around}{E:zn}{s:Shared}
def nM {items}{x:Value} (hit:s.heap.IsTupleIter it l i)
  (hl:s.heap.IsTuple l items) (hx:items[i]?=some x)
  (hQ:∀ h',h'.IsTupleIter it l (i+1)->Heap.SameBut it s.heap h'->Q x { s with heap:=h' }) :
  wpAny (model prog w) A (Builtin.SmallTypes.nextOf (.ref it)) Q E s:=by
 obtain ⟨o,ho,hc,hd⟩:=id hit;obtain ⟨ol,hol,_,nl,hdl⟩:=hl;unfold Builtin.SmallTypes.nextOf;refine vw (y6 (name:=Str.ofString "__next__") hit.typeIs F.slot_tuple_iterator_next
  (y4 F.slot_tuple_iterator_next hit.typeIs F.entry_tuple_iterator_next ?_ (F.args_tuple_iterator_next_1 _)))
 show wpAny _ _ (field (.ref it) 0 >>= _) _ _ s
 refine vw (ja ho hd (x:=.ref l) rfl ?_);show wpAny _ _ (if (Value.ref l == Value.none)=true then _ else _) _ _ s
 rw [if_neg (show ¬ ((Value.ref l == Value.none)=true) from Bool.false_ne_true)];show wpAny _ _ (field (.ref it) 1 >>= _) _ _ s
 refine vw (ja ho hd (x:=.int i 0) rfl ?_);show wpAny _ _ (seqItems? (.ref l) >>= _) _ _ s
 refine vw (wpAny_seqItems hol hdl ?_);simp only [Int.toNat_natCast,hx];refine vw (wpAny_setField ho hd (by simp) (vx ⟨x,rfl,vx (hQ _ ?_ (jn ..))⟩));exact ⟨_,ym _ ho (Obj.isFreed_of_fields (Obj.data_mapFields hd _)),(Obj.cls_mapFields ..).trans hc,by
  rw [Obj.data_mapFields hd];simp [rawInt]⟩
def vA {items} (hh:A.handled=none)
  (hit:s.heap.IsTupleIter it l i) (hl:s.heap.IsTuple l items) (hx:items[i]?=none)
  (hE:∀ h' e,Heap.ExtBut it s.heap h' -> (∃ o,h'.get? e=some o /\ o.cls=.type "StopIteration") -> E (.ref e) { s with heap:=h' }) :
  wpAny (model prog w) A (Builtin.SmallTypes.nextOf (.ref it)) Q E s:=by
 obtain ⟨o,ho,hc,hd⟩:=id hit;obtain ⟨ol,hol,_,nl,hdl⟩:=hl;unfold Builtin.SmallTypes.nextOf;refine vw (y6 (name:=Str.ofString "__next__") hit.typeIs F.slot_tuple_iterator_next
  (y4 F.slot_tuple_iterator_next hit.typeIs F.entry_tuple_iterator_next ?_ (F.args_tuple_iterator_next_1 _)))
 show wpAny _ _ (field (.ref it) 0 >>= _) _ _ s
 refine vw (ja ho hd (x:=.ref l) rfl ?_);show wpAny _ _ (if (Value.ref l == Value.none)=true then _ else _) _ _ s
 rw [if_neg (show ¬ ((Value.ref l == Value.none)=true) from Bool.false_ne_true)];show wpAny _ _ (field (.ref it) 1 >>= _) _ _ s
 refine vw (ja ho hd (x:=.int i 0) rfl ?_);show wpAny _ _ (seqItems? (.ref l) >>= _) _ _ s
 refine vw (wpAny_seqItems hol hdl ?_);simp only [Int.toNat_natCast,hx];refine vw (wpAny_rule (vw (wpAny_setField ho hd (by simp) ?_)));show wpAny _ _ (newExc (.type "StopIteration") [] >>= _) _ _ _
 refine vw ?_;simp only [newExc,newTuple];refine vw (jv ?_ (by size_fits));refine vw (m:=firstArgMember _ _) (wpAny_of_eq (a:=Value.none) (by first | rfl | (simp only [firstArgMember];rfl)) ?_);refine jv ?_ (by size_fits);simp only [raiseNew];refine vw (wpAny_handled ?_)
 first | rw [show A.in1.handled=none from hh] | rw [hh]
 refine vw (vx (wpAny_throw ?_));exact hE _ _ (((jn ..).extBut.push _).push _) ⟨_,vT _ rfl,rfl⟩
theorem G5 (hh:A.handled=none) (it l:Addr) (hne:l≠it) (items:vj) :
  Draws prog w A it [it,l] items.size (fun i v=>items[i]?=some v) (fun i h=>h.IsTupleIter it l i/\h.IsTuple l items) where
 live:=fun _ _ st=>let ⟨o,ho,_⟩:=st.1;⟨o,ho⟩
 frame:=fun _ _ _ st hk=>⟨let ⟨o,e,r⟩:=st.1;⟨o,hk it (by simp) o e,r⟩,let ⟨o,e,r⟩:=st.2;⟨o,hk l (by simp) o e,r⟩⟩
 item:=fun i s Q E hi st hQ=>by
  refine nM st.1 st.2 (x:=items[i]) (by simp [hi]) fun h' hit' hs'=>?_
  exact hQ _ h' s.toks (by simp [hi]) ⟨hit',st.2.extBut hs'.extBut hne⟩ hs'
 done:=fun s Q E st hE=>vA hh st.1 st.2 (by simp) hE
end
theorem Qu (l:Addr) (items:vj) (n:Nat) (dct:vk) (sl:vn) :
  Meets (Builtin.«enumerate.__new__» ⟨[.type "enumerate",.ref l],[]⟩) (fun _ R s=>s.heap.get? l=some { cls:=.type "tuple",dict:=dct,data:=.seq items n,slots:=sl } /\
   R (.ok (.ret (.ref (s.heap.push { cls:=.type "tuple_iterator",data:=.fields #[.ref l,.int 0 0] }).objs.size)))
    { s with heap:=(s.heap.push { cls:=.type "tuple_iterator",data:=.fields #[.ref l,.int 0 0] }).push { cls:=.type "enumerate",data:=.fields #[.none,.bool false,.ref s.heap.objs.size,rawInt 0,.none,.none] } }) :=
 .of_wp fun prog w A R s h=>by
  obtain ⟨hp,g,d,tk,os⟩:=s;obtain ⟨hl,h⟩:=h;have hsub:=sub_enumerate;have hL:Heap.IsTuple (Shared.heap ⟨hp,g,d,tk,os⟩) l items:=⟨_,hl,rfl,n,rfl⟩
  wp_walk using wpAny_loadPart' hl
  refine wpAny_stack_any fun st=>vx ?_
  split
  .rename_i c _ _ _ _ _;cases (c == Value.type "enumerate")
   .wp_walk using wpAny_loadPart' hl,wpAny_pyIter_tuple hL
    exact ⟨_,rfl,h⟩
   .wp_walk using wpAny_loadPart' hl,wpAny_pyIter_tuple hL
    exact ⟨_,rfl,h⟩
  .wp_walk using wpAny_loadPart' hl,wpAny_pyIter_tuple hL
   exact ⟨_,rfl,h⟩
section
variable {prog:Program}{w:World}{A:Around}{E:zn}{s:Shared}
def BJ {items:vj} (hL:s.heap.IsTuple l items)
  (h:∀ h',IsEnum h' (s.heap.objs.size+1) s.heap.objs.size 0 .none->h'.IsTupleIter s.heap.objs.size l 0->h'.objs.size=s.heap.objs.size+2 ->
   (∀ b o,s.heap.get? b=some o->h'.get? b=some o)->Q (.ref (s.heap.objs.size+1)) { s with heap:=h' }) :
  wpAny (model prog w) A (call (.type "enumerate") [.ref l]) Q E s:=by
 obtain ⟨⟨c,dct,dt,sl⟩,hl,hc,n,hd⟩:=hL;replace hc:c=.type "tuple":=hc
 replace hd:dt=.seq items n:=hd;subst hc hd;refine callType_new F.called_enumerate (by decide) (F.typeCall_enumerate_1 _) (F.newCall_enumerate_1 _) (fun obj=>F.args_object_init_2 obj _) F.entry_enumerate_new
  (Qu l items n dct sl) ⟨hl,?_⟩
 have hz:(s.heap.push { cls:=.type "tuple_iterator",data:=.fields #[.ref l,.int 0 0] }).objs.size=s.heap.objs.size+1:=Heap.size_push ..
 show _/\_
 rw [hz];have he:IsEnum ((s.heap.push { cls:=.type "tuple_iterator",data:=.fields #[.ref l,.int 0 0] }).push
   { cls:=.type "enumerate",data:=.fields #[.none,.bool false,.ref s.heap.objs.size,rawInt 0,.none,.none] }) (s.heap.objs.size+1) s.heap.objs.size 0 .none:=by
  have:=vT (s.heap.push { cls:=.type "tuple_iterator",data:=.fields #[.ref l,.int 0 0] })
   (o:={ cls:=.type "enumerate",data:=.fields #[.none,.bool false,.ref s.heap.objs.size,rawInt 0,.none,.none] }) rfl
  rw [hz] at this;exact this
 refine ⟨⟨_,he,rfl⟩,h _ he ⟨_,vS _ (vT _ rfl),rfl,rfl⟩ (by rw [Heap.size_push,hz]) fun b o x=>vS _ (vS _ x)⟩
end
def vB:bootBuiltins "enumerate"=some (.type "enumerate"):=by decide +kernel
def Ite (Sq:Hp->List V->Prop):It :=
 ⟨fun i H=>∃ xs x,Sq H xs/\xs[i]?=some x,
  fun i H x H'=>∃ p y,H p=none/\x=.ref p/\H'=upd H p (.tup [.int i,y])/\∀ xs,Sq H xs->xs[i]?=some y,
  fun i H=>∃ xs,Sq H xs/\xs.length=i⟩
variable {P:Program}{w:World}{K:zt}{els:ve}{x1:Nat}{tpos:Pos}
def Ey {Sq:Hp->List V->Prop}{Ir:Nat->Heap->Prop}{Sh:Heap->vj->Prop} (a e it:Addr) (hei:e≠it)
  (h1:∀ i h,Ir i h->∃ o,h.get? it=some o/\(∀ v,o.data≠.cell v)/\∀ h',h'.get? it=some o->Ir i h')
  (h2:∀ (X:Cx) pins σ H s xs,X.K=K->Inv X pins σ H s->Sq H xs->∃ its:zw,Vals xs its/\Sh s.heap its.toArray/\∀ ys,Sq H ys->ys=xs)
  (h3:∀ i h its old,Ir i h->Sh h its->IsEnum h e it i old->a≠it/\e≠a)
  (h4:∀ (A:Around),A.handled=none->a≠it->∀ its:vj,Draws P w A it [it,a] its.size (fun i v=>its[i]?=some v) (fun i h=>Ir i h/\Sh h its)) :
  Turn P w K (.Tuple els x1 tpos) (Ite Sq) [e,it] e (fun i h=>(∃ old,IsEnum h e it i old)/\Ir i h) where
 mem:=by simp
 obj:=fun i h st b hb=>by
  obtain ⟨⟨old,he⟩,st⟩:=st;obtain ⟨o,e1,d,_⟩:=h1 i h st;rcases w6.mp hb with z | z
  .subst z;exact ⟨_,he,fun v q=>by cases q⟩
  .have z':=yz.mp z;subst z';exact ⟨o,e1,d⟩
 keep:=fun i h h' st k=>by
  obtain ⟨⟨old,he⟩,st⟩:=st;obtain ⟨o,e1,_,d⟩:=h1 i h st;exact ⟨⟨old,k e (by simp) _ he⟩,d _ (k it (by simp) _ e1)⟩
 item:=by
  intro X hP hw hK hc i pins s σ H E I hf st hg;subst hP hw hK;obtain ⟨xs,x,hq,hx⟩:=hg;obtain ⟨its,rv,p',inj⟩:=h2 X pins σ H s xs rfl I hq;obtain ⟨u,hu,ru⟩:=rv.get hx;obtain ⟨⟨old,he⟩,hb⟩:=st;obtain ⟨o1,q1,_,_⟩:=h1 i _ hb;obtain ⟨hai,hea⟩:=h3 i _ _ _ hb p' he;have hil:i < its.toArray.size:=by
   have h1:=(v7.mp hu).1;simpa using h1
  have D:=h4 X.A.in1 (I.ok.hd hc) hai its.toArray;refine wpAny_pyNext_enum_itemD D he ⟨hb,p'⟩ hil hei (by simp [hei,hea]) fun x' h' tk hPx hout hst' hT hsz hk=>?_
  have ex:x'=u:=by
   have z:its.toArray[i]?=some u:=by simpa using hu
   have hPx':its.toArray[i]?=some x':=hPx;rw [z] at hPx';exact (jb hPx').symm
  subst ex;refine ⟨.ref s.heap.objs.size,rfl,wpAny_letOwnedTupleGo_enum (s:={ s with heap:=h',toks:=tk+1 }) hout fun h2 hEn hSame=>?_⟩;have hSame':Heap.SameBut e h' h2:=hSame;have elt:e < s.heap.objs.size:=v3 he;have ilt:it < s.heap.objs.size:=v3 q1;have kp:∀ b o,b≠e->b≠it->s.heap.get? b=some o->h2.get? b=some o:=fun b o n1 n2 q=>hSame'.extBut b o n1 (hk b o n1 n2 q)
  obtain ⟨fe0,fe1,fe2,fe3,fe4,fe5⟩:=hf e (by simp);obtain ⟨fi0,fi1,fi2,fi3,fi4,fi5⟩:=hf it (by simp);have hTn:H s.heap.objs.size=none:=I.hok.fresh (v4 _);have nT:∀ b o,s.heap.get? b=some o->b≠s.heap.objs.size:=fun b o q=>v6 (v3 q)
  have hTo:h2.get? s.heap.objs.size=some { cls:=.type "tuple",data:=.seq #[.int i tk,x'] }:=hSame'.extBut _ _ (ya elt) hT
  have nch:∀ b,b ∉ ([e,it]:List Addr)->b≠e/\b≠it:=fun b hb=>by simp at hb;exact hb
  have I2:Inv X pins σ (upd H s.heap.objs.size (.tup [.int i,x])) { s with heap:=h2,toks:=tk+1 }:=by
   refine I.step (g':=s.gens) (d':=s.drawn) (ch:=[e,it]) (fun b hb=>?_) (fun b o _ _ hc q _=>kp b o (nch b hc).1 (nch b hc).2 q) (fun b o _ _ hc q _=>⟨o.slots,kp b o (nch b hc).1 (nch b hc).2 q⟩) (fun b o _ q n=>by rw [ao (nT b o q)];exact n)
    (fun b o hc q=>⟨o,kp b o (nch b hc).1 (nch b hc).2 q⟩) (fun b ys q=>by rw [ao (ak q hTn)];exact q) (fun b o u q=>by rw [ao (ak q hTn)];exact q) (fun b ps q=>⟨#[],by rw [ao (ak q hTn),q];simp⟩) (fun m hm=>?_) (fun b u q=>?_) I.bare
   .rcases w6.mp hb with z | z
    .subst z;exact ⟨fe3,fe1,fe4,fe5⟩
    .have z':=yz.mp z;subst z';exact ⟨fi3,fi1,fi4,fi5⟩
   .obtain ⟨o,es,ep,ho,r⟩:=hm;exact ⟨o,es,ep,kp _ o (Ne.symm fe1) (Ne.symm fi1) ho,r⟩
   .by_cases hbT:b=s.heap.objs.size
    .subst hbT;rw [aB] at q;cases q;exact ⟨by show 2<=sizeLine;decide,[.int i tk,x'],.cons ⟨tk,rfl⟩ (.cons ru .nil),⟨_,hTo,rfl,_,rfl⟩⟩
    .rw [ao hbT] at q;have nb:∀ c v,H c=some v->c≠e/\c≠it:=fun c v z=>⟨ak z fe0,ak z fi0⟩
     refine (I.hok b u q).stay (fun c v hc r=>?_) (fun c r=>by rw [ao (ak r hTn)];exact r) (fun c ys r=>by rw [ao (ak r hTn)];exact r) (fun c _ r _=>by rw [ao (ak r hTn)];exact r);have nc:c≠e/\c≠it:=by
      rcases hc with z | z
      .rw [z];exact nb b u q
      .exact nb c _ z
     exact kp c v nc.1 nc.2 r
  refine ⟨.ref s.heap.objs.size,_,I2,rfl,⟨s.heap.objs.size,x,hTn,rfl,rfl,fun ys hy=>by rw [inj ys hy];exact hx⟩,⟨⟨x',by simpa using hEn⟩,?_⟩,fun b hb=>?_⟩
  .obtain ⟨o,q,_,k⟩:=h1 _ _ hst'.1;exact k _ (hSame'.extBut _ _ (Ne.symm hei) q)
  .rcases w6.mp hb with z | z
   .subst z;rw [ao (Nat.ne_of_lt elt)];exact fe0
   .have z':=yz.mp z;subst z';rw [ao (Nat.ne_of_lt ilt)];exact fi0
 done:=by
  intro X hP hw hK hc i pins s σ H E I hf st hg;subst hP hw hK;obtain ⟨xs,hq,hx⟩:=hg;obtain ⟨its,rv,p',_⟩:=h2 X pins σ H s xs rfl I hq;obtain ⟨⟨old,he⟩,hb⟩:=st;have hai:=(h3 i _ _ _ hb p' he).1;obtain ⟨fi0,fi1,fi2,fi3,fi4,fi5⟩:=hf it (by simp);have D:=h4 X.A.in1 (I.ok.hd hc) hai its.toArray;have hl:=rv.length;have en:i=its.toArray.size:=by simp;omega
  subst en;exact wpAny_pyNext_enum_endD D he ⟨hb,p'⟩ fun h' eb=>⟨rfl,I.turned (t':=s.toks) (fun b o hb e=>eb b o hb e) fi0 fi1 fi3 fi4 fi5⟩
 self:=fun _ _ _ _ _ st h=>by
  obtain ⟨⟨old,he⟩,_⟩:=st;exact wpAny_pyIter_enum he h
variable {a:Addr}
theorem Cw {e:Addr}{h:Heap}{old:Value}{o1 o2:Obj} (q1:h.get? it=some o1) (q2:h.get? a=some o2) (he:IsEnum h e it i old) (c:o2.cls ≠ o1.cls) (c':o2.cls ≠ .type "enumerate"):a ≠ it /\ e ≠ a :=
 ⟨fun z=>by subst z;rw [q1] at q2;cases q2;exact c rfl,fun z=>by
  subst z;have he':h.get? e=some _:=he;rw [q2] at he';exact c' (congrArg Obj.cls (jb he'))⟩
def Oo (K:zt) (a:Addr):It:=Ite fun H xs=>SqT K H a xs
theorem Ov (a e it:Addr) (hei:e≠it):Turn P w K (.Tuple els x1 tpos) (Oo K a) [e,it] e (fun i h=>(∃ old,IsEnum h e it i old)/\h.IsTupleIter it a i) :=
 Ey (Sh:=fun h its=>h.IsTuple a its) a e it hei (fun i h ⟨o,e1,c,d⟩=>⟨o,e1,fun v q=>(by rw [d] at q;cases q),fun h' z=>⟨o,z,c,d⟩⟩)
  (fun X pins σ H s xs k I q=>by
   subst k;obtain ⟨its,rv,p,_⟩:=I.tuple q;exact ⟨its,rv,p,fun ys z=>I.tuple_inj z q⟩)
  (fun i h its old ⟨o1,q1,c1,_⟩ ⟨o2,q2,c2,_⟩ he=>Cw q1 q2 he (by rw [c1,c2];simp) (by rw [c2];simp))
  fun A hh hai its=>G5 hh it a hai its
variable {pins:w4}{σ:St}{H:Hp}{s:Shared}{xs:List V}{E:zn}{ta:TA}{p pos:Pos}
section
variable {X:Cx}
def aaY (K:zt) (ta:TA):TI:=fun σ H R=>ta σ H fun vs H1=>∃ a xs,vs=[.ref a]/\SqT K H1 a xs/\R (Oo K a) H1
def U0 {R:It->Hp->Prop} (I:Inv X pins σ H s) (hq:SqT X.K H a xs) (q:R (Oo X.K a) H) :
  wpAny (model X.prog X.w) X.A (call (.type "enumerate") [.ref a]) (fun v s1=>wpAny (model X.prog X.w) X.A (pyIter v) (PIE X pins σ (.Tuple els x1 tpos) R) E s1) E s:=by
 obtain ⟨its,rv,p,hz⟩:=I.tuple hq;have p':s.heap.IsTuple a its.toArray:=p;refine BJ p' fun h' he hit hsz hk=>?_
 refine wpAny_pyIter_enum (s:={ s with heap:=h' }) he ?_;have I1:Inv X pins σ H { s with heap:=h' }:=I.kept (t':=s.toks) hk;refine ⟨s.heap.objs.size+1,[s.heap.objs.size+1,s.heap.objs.size],_,_,H,rfl,I1,Ov a (s.heap.objs.size+1) s.heap.objs.size (by exact Nat.succ_ne_self _),⟨⟨_,he⟩,hit⟩,fun b hb=>?_,q⟩;rcases w6.mp hb with z | z
 .subst z;exact I.fpOk (Nat.le_succ _) (I.hok.fresh (Nat.le_succ _))
 .have z':=yz.mp z;subst z';exact I.fpOk (v4 _) (I.hok.fresh (v4 _))
def Vl {a:Expr} (hg:Gl X "enumerate") (hm:X.mg "enumerate"=none) (ha:PA X [a] ta) (hs:starEach [a] X.env=[(false,eval a X.env)]:=by rfl) :
  PI X (.Tuple els x1 tpos) (.Call (.Name "enumerate" p) [a] [] pos) (aaY X.K ta):=by
 intro pins s σ H R I h;refine Call_ (fV I hg hm vB (y8 (thn (ha pos pins s σ H _ I h) fun us s1 ⟨vs,H1,I1,r1,q1⟩=>?_) hs rfl));obtain ⟨b,xs,rfl,hq,q⟩:=q1;obtain ⟨u,rfl,ru⟩:=vals1 r1;cases ru;exact U0 I1 hq q
end
def Oe (K:zt) (a:Addr):It:=Ite fun H xs=>SqL K H a xs
theorem Px (a e it:Addr) (hei:e≠it):Turn P w K (.Tuple els x1 tpos) (Oe K a) [e,it] e (fun i h=>(∃ old,IsEnum h e it i old)/\h.IsListIter it a i) :=
 Ey (Sh:=fun h its=>h.IsList a its) a e it hei (fun i h ⟨o,e1,c,d⟩=>⟨o,e1,fun v q=>(by rw [d] at q;cases q),fun h' z=>⟨o,z,c,d⟩⟩)
  (fun X pins σ H s xs k I q=>by
   subst k;obtain ⟨its,rv,p,_⟩:=I.list q;exact ⟨its,rv,p.isList,fun ys z=>I.list_inj z q⟩)
  (fun i h its old ⟨o1,q1,c1,_⟩ ⟨o2,q2,c2,_⟩ he=>Cw q1 q2 he (by rw [c1,c2];simp) (by rw [c2];simp))
  fun A hh hai its=>PySem.Draws.list hh it a hai its
section
variable {X:Cx}
def abn (K:zt) (ta:TA):TI:=fun σ H R=>ta σ H fun vs H1=>∃ a xs,vs=[.ref a]/\SqL K H1 a xs/\R (Oe K a) H1
def Vt {R:It->Hp->Prop} (I:Inv X pins σ H s) (hq:SqL X.K H a xs) (q:R (Oe X.K a) H) :
  wpAny (model X.prog X.w) X.A (call (.type "enumerate") [.ref a]) (fun v s1=>wpAny (model X.prog X.w) X.A (pyIter v) (PIE X pins σ (.Tuple els x1 tpos) R) E s1) E s:=by
 obtain ⟨its,rv,p,hz⟩:=I.list hq;have p':s.heap.IsList a its.toArray:=p.isList;refine call_enumerate_list p' fun h' he hit hsz hk=>?_
 refine wpAny_pyIter_enum (s:={ s with heap:=h' }) he ?_;have I1:Inv X pins σ H { s with heap:=h' }:=I.kept (t':=s.toks) hk;refine ⟨s.heap.objs.size+1,[s.heap.objs.size+1,s.heap.objs.size],_,_,H,rfl,I1,Px a (s.heap.objs.size+1) s.heap.objs.size (by exact Nat.succ_ne_self _),⟨⟨_,he⟩,hit⟩,fun b hb=>?_,q⟩;rcases w6.mp hb with z | z
 .subst z;exact I.fpOk (Nat.le_succ _) (I.hok.fresh (Nat.le_succ _))
 .have z':=yz.mp z;subst z';exact I.fpOk (v4 _) (I.hok.fresh (v4 _))
def Vj {a:Expr} (hg:Gl X "enumerate") (hm:X.mg "enumerate"=none) (ha:PA X [a] ta) (hs:starEach [a] X.env=[(false,eval a X.env)]:=by rfl) :
  PI X (.Tuple els x1 tpos) (.Call (.Name "enumerate" p) [a] [] pos) (abn X.K ta):=by
 intro pins s σ H R I h;refine Call_ (fV I hg hm vB (y8 (thn (ha pos pins s σ H _ I h) fun us s1 ⟨vs,H1,I1,r1,q1⟩=>?_) hs rfl));obtain ⟨b,xs,rfl,hq,q⟩:=q1;obtain ⟨u,rfl,ru⟩:=vals1 r1;cases ru;exact Vt I1 hq q
end
end Mi
namespace Mi
open PySem L2
open PyProof.Rows hiding St
theorem Km {M:Model}{A:Around}{E:zn}{s:Shared}{a:Addr}{Q:Option Obj->Shared->Prop} (h:Q (s.heap.get? a) s):wpAny M A (loadIfAlive a) Q E s:=fun _ _ _=>h
abbrev gJ (h:Heap) (e it:Addr) (i:Int) (T:Addr) (b:Bool) (old:Value):Prop :=
 h.get? e=some { cls:=.type "enumerate",dict:=none,data:=.fields #[rawInt T,.bool b,.ref it,rawInt i,.none,old],slots:=#[] }
variable {e it T0:Addr}{fp:List Addr}{n i:Nat}{P:Nat->Value->Prop}{Sx:Nat->Heap->Prop}{old:Value}{o0:Obj}{b0:Bool}{Q:Option Value->Shared->Prop}
section
variable {prog:Program}{w:World}{A:Around}{E:zn}{s:Shared}
def Pq {Q:zn}
  (D:Draws prog w A it fp n P Sx) (he:gJ s.heap e it i T0 b0 old) (hT0:s.heap.get? T0=some o0) (nT0e:T0≠e) (nT0i:T0≠it) (hst:Sx i s.heap) (hlt:i < n) (hne:e≠it) (hef:e ∉ fp)
  (hQ:∀ x h' tk,P i x->gJ h' e it ((i:Int)+1) T0 true old->Sx (i+1) h' ->
   h'.get? s.heap.objs.size=some { cls:=.type "tuple",data:=.seq #[.int i tk,x] } -> h'.objs.size=s.heap.objs.size+1 ->
   (∀ b o,b≠e->b≠it->s.heap.get? b=some o->h'.get? b=some o)->Q (.ref s.heap.objs.size) { s with heap:=h',toks:=tk+1 }) :
  wpAny (model prog w) A (Builtin.«enumerate.__next__» ⟨[.ref e],[]⟩) (fun fin s'=>∃ v,fin=.done (.ret v)/\Q v s') E s:=by
 obtain ⟨hp,g,d,tk₀,os⟩:=s;show wpAny _ _ (field (.ref e) 2 >>= _) _ _ _
 refine vw (ja he rfl (x:=.ref it) rfl ?_);refine vw (D.item i _ _ _ hlt hst fun x h₁ tk hPx hit₁ hs₁=>?_);replace hs₁:Heap.SameBut it hp h₁:=hs₁;have he₁:gJ h₁ e it i T0 b0 old:=(hs₁.2 e hne).trans he;show wpAny _ _ (field (.ref e) 3 >>= _) _ _ ⟨h₁,g,d,tk,os⟩
 refine vw (ja he₁ rfl (x:=rawInt i) rfl ?_);show wpAny _ _ (field (.ref e) 4 >>= _) _ _ ⟨h₁,g,d,tk,os⟩
 refine vw (ja he₁ rfl (x:=.none) rfl ?_);show wpAny _ _ (mkInt i >>= _) _ _ ⟨h₁,g,d,tk,os⟩
 refine vw (wpAny_mkInt ?_);show wpAny _ _ (setField (.ref e) 3 (rawInt ((i:Int)+1)) >>= _) _ _ ⟨h₁,g,d,tk+1,os⟩
 refine vw (wpAny_setField_rec he₁ (by simp) fun h₂ he₂ hs₂=>?_);replace hs₂:Heap.SameBut e h₁ h₂:=hs₂;replace he₂:gJ h₂ e it ((i:Int)+1) T0 b0 old:=he₂;show wpAny _ _ (setField (.ref e) 4 .none >>= _) _ _ ⟨h₂,g,d,tk+1,os⟩
 refine vw (wpAny_setField_rec he₂ (by simp) fun h₃ he₃ hs₃=>?_);replace hs₃:Heap.SameBut e h₂ h₃:=hs₃;replace he₃:gJ h₃ e it ((i:Int)+1) T0 b0 old:=he₃;show wpAny _ _ (newTuple [.int i tk,x] >>= _) _ _ ⟨h₃,g,d,tk+1,os⟩
 refine vw (wpAny_newTuple ?_);have he₄:gJ (h₃.push { cls:=.type "tuple",data:=.seq #[.int i tk,x] }) e it ((i:Int)+1) T0 b0 old:=vS _ he₃
 generalize hh₄:h₃.push { cls:=.type "tuple",data:=.seq #[.int i tk,x] }=h₄ at he₄
 have hsz:h₃.objs.size=hp.objs.size:=by rw [hs₃.1,hs₂.1,hs₁.1]
 have hel:e < hp.objs.size:=v3 he;have ht₄:h₄.get? hp.objs.size=some { cls:=.type "tuple",data:=.seq #[.int i tk,x] }:=by rw [<- hh₄,<- hsz]; exact vT _ rfl
 have hz₄:h₄.objs.size=hp.objs.size+1:=by rw [<- hh₄,Heap.size_push,hsz]
 have hk₄:∀ b o,b≠e->b≠it->hp.get? b=some o->h₄.get? b=some o:=fun b o hbe hbi hb=>by
  rw [<- hh₄];exact vS _ (hs₃.extBut b o hbe (hs₂.extBut b o hbe (hs₁.extBut b o hbi hb)))
 have hit₄:Sx (i+1) h₄:=D.frame _ _ _ hit₁ fun b hb o y=>by
  have hbe:b≠e:=fun q=>hef (q ▸ hb)
  rw [<- hh₄];exact vS _ (hs₃.extBut b o hbe (hs₂.extBut b o hbe y))
 show wpAny _ _ (Builtin.SmallTypes.ownedTupleIsFree (.ref e) >>= _) _ _ ⟨h₄,g,d,tk+1,os⟩
 rw [hsz];clear hh₄ he₃ hs₃ he₂ hs₂ he₁ hs₁ hit₁ hsz h₃ h₂ h₁;have alive:h₄.get? T0=some o0:=hk₄ T0 o0 nT0e nT0i hT0;refine vw ?_
 .unfold Builtin.SmallTypes.ownedTupleIsFree;refine vw (ja he₄ rfl (x:=rawInt T0) rfl ?_);show wpAny _ _ (loadIfAlive (Int.toNat (T0:Int)) >>= _) _ _ ⟨h₄,g,d,tk+1,os⟩
  refine vw (Km ?_);rw [show Int.toNat (T0:Int)=T0 from Int.toNat_natCast _];show wpAny _ _ (if (Option.isNone (h₄.get? T0))=true then _ else _) _ _ ⟨h₄,g,d,tk+1,os⟩
  rw [alive,if_neg (by simp)];refine vw (ja he₄ rfl (x:=.bool b0) rfl ?_);cases b0 with
  | true =>
   rw [if_neg (by simp)];refine vx ?_;simp only [Bool.false_eq_true,if_false];exact vx ⟨_,rfl,hQ x h₄ tk hPx he₄ hit₄ ht₄ hz₄ hk₄⟩
  | false =>
   rw [if_pos (by simp)];refine vw (wpAny_setField_rec he₄ (by simp) fun h₅ he₅ hs₅=>?_);replace hs₅:Heap.SameBut e h₄ h₅:=hs₅;replace he₅:gJ h₅ e it ((i:Int)+1) T0 true old:=he₅;refine vx ?_;simp only [Bool.false_eq_true,if_false];refine vx ⟨_,rfl,hQ x h₅ tk hPx he₅ ?_ ?_ ?_ ?_⟩
   .exact D.frame _ _ _ hit₄ fun b hb o y=>hs₅.extBut b o (fun q=>hef (q ▸ hb)) y
   .exact hs₅.extBut _ _ (ya hel) ht₄
   .rw [hs₅.1,hz₄]
   .exact fun b o hbe hbi hb=>hs₅.extBut b o hbe (hk₄ b o hbe hbi hb)
def OD 
  (D:Draws prog w A.in1 it fp n P Sx) (he:gJ s.heap e it i T0 b0 old) (hT0:s.heap.get? T0=some o0) (nT0e:T0≠e) (nT0i:T0≠it) (hst:Sx i s.heap) (hlt:i < n) (hne:e≠it) (hef:e ∉ fp)
  (hQ:∀ x h' tk,P i x->gJ h' e it ((i:Int)+1) T0 true old->Sx (i+1) h' ->
   h'.get? s.heap.objs.size=some { cls:=.type "tuple",data:=.seq #[.int i tk,x] } -> h'.objs.size=s.heap.objs.size+1 ->
   (∀ b o,b≠e->b≠it->s.heap.get? b=some o->h'.get? b=some o)->Q (some (.ref s.heap.objs.size)) { s with heap:=h',toks:=tk+1 }) :
  wpAny (model prog w) A (pyNext (.ref e)) Q E s:=by
 have hT:s.TypeIs (.ref e) "enumerate":=⟨_,he,rfl⟩
 unfold pyNext;exact vw (wpAny_attempt (y6 (name:=Str.ofString "__next__") hT F.slot_enumerate_next
  (y4 F.slot_enumerate_next hT F.entry_enumerate_next
   (Pq D he hT0 nT0e nT0i hst hlt hne hef fun x h' tk a b c d k q=>vx (hQ x h' tk a b c d k q)) (F.args_enumerate_next_1 _))))
def Tc {i:Int}
  (D:Draws prog w A.in1 it fp n P Sx) (he:gJ s.heap e it i T0 b0 old) (hst:Sx n s.heap)
  (hQ:∀ h',Heap.ExtBut it s.heap h'->Q none { s with heap:=h' }):wpAny (model prog w) A (pyNext (.ref e)) Q E s:=by
 have hT:s.TypeIs (.ref e) "enumerate":=⟨_,he,rfl⟩
 unfold pyNext;refine vw (wpAny_attempt (y6 (name:=Str.ofString "__next__") hT F.slot_enumerate_next
  (y4 F.slot_enumerate_next hT F.entry_enumerate_next ?_ (F.args_enumerate_next_1 _))))
 show wpAny _ _ (field (.ref e) 2 >>= _) _ _ _
 refine vw (ja he rfl (x:=.ref it) rfl ?_);refine vw (D.done _ _ _ hst fun h' x he' hx'=>?_);obtain ⟨o,ho,hc⟩:=hx';refine vw (wpAny_isInstance (T:="StopIteration") (b:=true) ⟨o,ho,hc⟩ isSubtype_stop ?_)
 exact vx (hQ _ he')
end
theorem Ks:typeLookup (.type "enumerate") "__len__"=pure none:=by rw [typeLookup_type,builtinLookup_eq_fast]; kernel_rfl
theorem G4:typeLookup (.type "enumerate") "__length_hint__"=pure none:=by rw [typeLookup_type,builtinLookup_eq_fast]; kernel_rfl
end Mi
namespace Mi
open PySem L2
open PyProof.Rows hiding St
variable {e it a:Addr}{xs:List V}
section
variable {X:Cx}{pins:w4}{σ:St}{H:Hp}{s:Shared}
def Wr {h2:Heap}{i:Int}{tk tk':Nat}{x:V}{u:Value} (I:Inv X pins σ H s) (fe:iJ X pins H e) (fi:iJ X pins H it)
  (kp:∀ b o,b ≠ e -> b ≠ it -> s.heap.get? b=some o -> h2.get? b=some o) (hTo:h2.get? s.heap.objs.size=some { cls:=.type "tuple",data:=.seq #[.int i tk,u] }) (ru:RelV x u) :
  Inv X pins σ (upd H s.heap.objs.size (.tup [.int i,x])) { s with heap:=h2,toks:=tk' }:=by
 obtain ⟨fe0,fe1,fe2,fe3,fe4,fe5⟩:=fe;obtain ⟨fi0,fi1,fi2,fi3,fi4,fi5⟩:=fi;have hTn:H s.heap.objs.size=none:=I.hok.fresh (v4 _);have nT:∀ b o,s.heap.get? b=some o->b≠s.heap.objs.size:=fun b o q=>v6 (v3 q)
 have nch:∀ b,b ∉ ([e,it]:List Addr)->b≠e/\b≠it:=fun b hb=>by simp at hb;exact hb
 refine I.step (g':=s.gens) (d':=s.drawn) (ch:=[e,it]) (fun b hb=>?_) (fun b o _ _ hc q _=>kp b o (nch b hc).1 (nch b hc).2 q) (fun b o _ _ hc q _=>⟨o.slots,kp b o (nch b hc).1 (nch b hc).2 q⟩) (fun b o _ q n=>by rw [ao (nT b o q)];exact n)
  (fun b o hc q=>⟨o,kp b o (nch b hc).1 (nch b hc).2 q⟩) (fun b ys q=>by rw [ao (ak q hTn)];exact q) (fun b o u q=>by rw [ao (ak q hTn)];exact q) (fun b ps q=>⟨#[],by rw [ao (ak q hTn),q];simp⟩) (fun m hm=>?_) (fun b u q=>?_) I.bare
 .rcases w6.mp hb with z | z
  .subst z;exact ⟨fe3,fe1,fe4,fe5⟩
  .have z':=yz.mp z;subst z';exact ⟨fi3,fi1,fi4,fi5⟩
 .obtain ⟨o,es,ep,ho,r⟩:=hm;exact ⟨o,es,ep,kp _ o (Ne.symm fe1) (Ne.symm fi1) ho,r⟩
 .by_cases hbT:b=s.heap.objs.size
  .subst hbT;rw [aB] at q;cases q;exact ⟨by show 2<=sizeLine;decide,_,.cons ⟨tk,rfl⟩ (.cons ru .nil),⟨_,hTo,rfl,_,rfl⟩⟩
  .rw [ao hbT] at q;have nb:∀ c v,H c=some v->c≠e/\c≠it:=fun c v z=>⟨ak z fe0,ak z fi0⟩
   refine (I.hok b u q).stay (fun c v hc r=>?_) (fun c r=>by rw [ao (ak r hTn)];exact r) (fun c ys r=>by rw [ao (ak r hTn)];exact r) (fun c _ r _=>by rw [ao (ak r hTn)];exact r);have nc:c≠e/\c≠it:=by
    rcases hc with z | z
    .rw [z];exact nb b u q
    .exact nb c _ z
   exact kp c v nc.1 nc.2 r
def EnS (e it:Addr) (H:Hp) (h:Heap) (i:Nat):Prop:=(∃ old,IsEnum h e it i old)\/∃ T0 b ys old,H T0=some (.tup ys)/\gJ h e it i T0 b old
def Am {K:zt}{H':Hp} (h:SqT K H a xs) (k:∀ o,(∀ ys,o≠.lst ys)->H a=some o->H' a=some o):SqT K H' a xs:=by
 rcases h with (h | ⟨o,h⟩) | h
 .exact .inl (.inl (k _ (by intro ys z;cases z) h))
 .exact .inl (.inr ⟨o,k _ (by intro ys z;cases z) h⟩)
 .exact .inr h
def Gj {A:Around}{R:Result->Shared->Prop}{S:Addr}{res:Value}{n0:Nat} (hA:A.handled=none) (hei:e≠it) :
  ∀ (k i:Nat) (s:Shared) (H:Hp) (ps:List Addr),n0<=s.heap.objs.size->(∀ p∈ps,n0<=p)->xs.length - i=k->i<=xs.length->Inv X pins σ H s->EnS e it H s.heap i->s.heap.IsTupleIter it a i->iJ X pins H e->iJ X pins H it->SqT X.K H a xs ->
   H S=some (.lst (ps.map V.ref))->ps.length=i->(∀ (j:Nat) p x,ps[j]?=some p->xs[j]?=some x->H p=some (.tup [.int j,x])) ->
   (∀ (s':Shared) (H':Hp) (ps':List Addr),Inv X pins σ H' s'->(∀ b o,b≠S->H b=some o->H' b=some o)->H' S=some (.lst (ps'.map V.ref))->ps'.length=xs.length->(∀ (j:Nat) p x,ps'[j]?=some p->xs[j]?=some x->H' p=some (.tup [.int j,x]))->(∀ p∈ps',n0<=p)->R (.ok (.ret res)) s') ->
   codeAny (model X.prog X.w) A (.builtin "list.extend.loop" ⟨[.ref S,.ref e,res],[]⟩) R s:=by
 intro k;induction k with
 | zero =>
  intro i s H ps hn0 hpn hk hi I st hit fe fi hq hS hl hps hR;have hin:i=xs.length:=by omega
  subst hin;refine codeAny_builtin PySem.F.entry_extend_loop ?_;rw [Around.under_plainId PySem.F.plain_extend_loop _];show wpAny _ A.in1 (pyNext (.ref e) >>= _) _ _ s
  obtain ⟨its,rv,p',hz⟩:=I.tuple hq;have p:s.heap.IsTuple a its.toArray:=p';have hlen:=rv.length;obtain ⟨o1,q1,c1,d1⟩:=id hit;obtain ⟨o2,q2,c2,n2,d2⟩:=id p;have hai:a≠it:=fun z=>by
   subst z;rw [q1] at q2;cases q2;rw [c1] at c2;exact absurd c2 (by simp)
  have D:=G5 (prog:=X.prog) (w:=X.w) (A:=A.in1.in1) hA it a hai its.toArray;have hsz:its.toArray.size=xs.length:=by simp;omega
  have hst:s.heap.IsTupleIter it a its.toArray.size/\s.heap.IsTuple a its.toArray:=by rw [hsz];exact ⟨hit,p⟩
  have fin:∀ h',Heap.ExtBut it s.heap h'->R (.ok (.ret res)) { s with heap:=h' }:=fun h' eb=>by
   obtain ⟨fi0,fi1,fi2,fi3,fi4,fi5⟩:=fi;exact hR { s with heap:=h' } H ps (I.turned (t':=s.toks) (fun b o hb e=>eb b o hb e) fi0 fi1 fi3 fi4 fi5) (fun _ _ _ q=>q) hS hl hps hpn
  rcases st with ⟨old,he⟩ | ⟨T0,b,ys,old,hT0,he⟩
  .exact vw (wpAny_pyNext_enum_endD D he hst fun h' eb=>vx (fin h' eb))
  .exact vw (Tc D he hst fun h' eb=>vx (fin h' eb))
 | succ k ih =>
  intro i s H ps hn0 hpn hk hi I st hit fe fi hq hS hl hps hR;have hlt:i < xs.length:=by omega
  refine codeAny_builtin PySem.F.entry_extend_loop ?_;rw [Around.under_plainId PySem.F.plain_extend_loop _];show wpAny _ A.in1 (pyNext (.ref e) >>= _) _ _ s
  obtain ⟨its,rv,p',hz⟩:=I.tuple hq;have p:s.heap.IsTuple a its.toArray:=p';have hlen:=rv.length;obtain ⟨o1,q1,c1,d1⟩:=id hit;obtain ⟨o2,q2,c2,n2,d2⟩:=id p;have hai:a≠it:=fun z=>by
   subst z;rw [q1] at q2;cases q2;rw [c1] at c2;exact absurd c2 (by simp)
  have heo:∃ oe,s.heap.get? e=some oe /\ oe.cls=.type "enumerate":=by
   rcases st with ⟨old,he⟩ | ⟨T0,b,ys,old,hT0,he⟩
   .exact ⟨_,he,rfl⟩
   .exact ⟨_,he,rfl⟩
  obtain ⟨oe,qe,ce⟩:=heo;have hea:e≠a:=fun z=>by
   subst z;rw [qe] at q2;cases q2;rw [ce] at c2;exact absurd c2 (by simp)
  have D:=G5 (prog:=X.prog) (w:=X.w) (A:=A.in1.in1) hA it a hai its.toArray;have hil:i < its.toArray.size:=by simp;omega
  have hx:xs[i]?=some xs[i]:=by simp [hlt]
  obtain ⟨u,hu,ru⟩:=rv.get hx;have hSn:S≠e:=ak hS fe.1;have hSi:S≠it:=ak hS fi.1;have go:∀ (x':Value) (h':Heap) (tk:Nat),its.toArray[i]?=some x'->EnS e it (upd H s.heap.objs.size (.tup [.int i,xs[i]])) h' (i+1)->h'.IsTupleIter it a (i+1) ->
    h'.get? s.heap.objs.size=some { cls:=.type "tuple",data:=.seq #[.int i tk,x'] } -> h'.objs.size=s.heap.objs.size+1 -> (∀ b o,b ≠ e -> b ≠ it -> s.heap.get? b=some o -> h'.get? b=some o) ->
    wpAny (model X.prog X.w) A.in1 (Builtin.List.listUpdate (.ref S) (·.push (.ref s.heap.objs.size)) >>= fun _=>again (.builtin "list.extend.loop" ⟨[.ref S,.ref e,res],[]⟩))
     (fun fin s'=>match fin with | .done f=>R (.ok f) s' | .again c'=>c'.quiet=true/\codeAny (model X.prog X.w) A c' R s') (fun e s'=>R (.error e) s') { s with heap:=h',toks:=tk+1 }:=by
   intro x' h' tk hx' hEn hit' hT hsz' hkp;have ex:x'=u:=by
    have z:its.toArray[i]?=some u:=by simpa using hu
    rw [z] at hx';exact (jb hx').symm
   subst ex;have hTn:H s.heap.objs.size=none:=I.hok.fresh (v4 _);have I2:=Wr (tk':=tk+1) I fe fi hkp hT ru;have hST:S≠s.heap.objs.size:=ak hS hTn;have hS2:(upd H s.heap.objs.size (.tup [.int i,xs[i]])) S=some (.lst (ps.map V.ref)):=by rw [ao hST];exact hS
   obtain ⟨z,its2,n2,r2,hl2,e2⟩:=I2.lstM hS2;refine vw ?_;show wpAny _ _ (updateSeq S (·.push (.ref s.heap.objs.size))) _ _ _
   have lenps:its2.length=i:=by rw [<- hl2,List.length_map];exact hl
   refine wpAny_updateSeq e2 rfl ?_ (by rw [List.size_toArray];omega) (by show (its2.toArray.push _).size<=sizeLine+1;rw [Array.size_push,List.size_toArray];omega);refine vx ⟨plainId_quiet PySem.F.plain_extend_loop _,?_⟩;have I3:=I2.lset (t':=tk+1) (its':=its2++[.ref s.heap.objs.size]) (ys:=(ps++[s.heap.objs.size]).map V.ref) (f:=(·.push (.ref s.heap.objs.size))) hS2 e2 (by simp) (by rw [List.map_append];exact r2.append (.cons rfl .nil)) (by rw [List.length_map,List.length_append,List.length_singleton];omega);have hnS:∀ b,b≠S->(upd (upd H s.heap.objs.size (.tup [.int i,xs[i]])) S (.lst ((ps++[s.heap.objs.size]).map V.ref))) b=(upd H s.heap.objs.size (.tup [.int i,xs[i]])) b:=fun b hb=>ao hb
   have elt:e < s.heap.objs.size:=v3 qe;have ilt:it < s.heap.objs.size:=v3 q1;have oldK:∀ b o,b≠S->H b=some o->(upd (upd H s.heap.objs.size (.tup [.int i,xs[i]])) S (.lst ((ps++[s.heap.objs.size]).map V.ref))) b=some o:=fun b o hb q=>by
    rw [hnS b hb,ao (ak q hTn)];exact q
   refine ih (i+1) _ _ (ps++[s.heap.objs.size]) (by show n0<=(h'.update S _).objs.size;rw [Heap.size_update,hsz'];omega) (fun p hp=>(yy.mp hp).elim (hpn p) fun z=>by rw [List.mem_singleton.mp z];exact hn0) (by omega) hlt I3 ?_ ?_ ?_ ?_ ?_ aB (by rw [List.length_append,List.length_singleton];omega) ?_ fun s' H' ps' I' k' hS' hl' hp' ho'=>?_
   ·-- the enumerate object
    rcases hEn with ⟨old,he⟩ | ⟨T0,b,ys,old,hT0,he⟩
    .exact .inl ⟨old,(yl _ _ hSn).trans he⟩
    .exact .inr ⟨T0,b,ys,old,by rw [ao (Nm hT0 hS2 (by intro z;cases z))];exact hT0,(yl _ _ hSn).trans he⟩
   .obtain ⟨o,q,r⟩:=hit';exact ⟨o,(yl _ _ hSi).trans q,r⟩
   .exact ⟨by rw [hnS e (Ne.symm hSn),ao (Nat.ne_of_lt elt)];exact fe.1,fe.2⟩
   .exact ⟨by rw [hnS it (Ne.symm hSi),ao (Nat.ne_of_lt ilt)];exact fi.1,fi.2⟩
   .refine Am hq fun o hno q=>oldK a o ?_ q
    exact Nm q hS (hno _)
   .intro j pp x hj hxj;by_cases hji:j < ps.length
    .rw [List.getElem?_append_left hji] at hj;have q:=hps j pp x hj hxj;exact oldK pp _ (Nm q hS (by intro z;cases z)) q
    .have hje:j=i:=by
      have:=(v7.mp hj).1;rw [List.length_append,List.length_singleton] at this;omega
     subst hje;rw [List.getElem?_append_right (by omega),hl] at hj;simp at hj;subst hj;rw [hx] at hxj;cases hxj;rw [hnS _ (Ne.symm hST),aB]
   .exact hR s' H' ps' I' (fun b o hb q=>k' b o hb (oldK b o hb q)) hS' hl' hp' ho'
  rcases st with ⟨old,he⟩ | ⟨T0,b,ys,old,hT0,he⟩
  .refine vw (wpAny_pyNext_enum_itemD D he ⟨hit,p⟩ hil hei (by simp [hei,hea]) fun x' h' tk hPx hout hst' hT hsz hk=>?_);exact go x' h' tk hPx (.inr ⟨s.heap.objs.size,false,_,x',aB,by simpa using hout⟩) hst'.1 hT hsz hk
  .obtain ⟨o0,q0⟩:∃ o0,s.heap.get? T0=some o0:=by
    obtain ⟨_,_,_,o0,q0,_⟩:=(show cD X.prog X.w H s.heap T0 (.tup ys) from I.hok T0 _ hT0);exact ⟨o0,q0⟩
   have hTn:H s.heap.objs.size=none:=I.hok.fresh (v4 _);refine vw (OD D he q0 (ak hT0 fe.1) (ak hT0 fi.1) ⟨hit,p⟩ hil hei (by simp [hei,hea]) fun x' h' tk hPx hout hst' hT hsz hk=>?_);exact go x' h' tk hPx (.inr ⟨T0,true,ys,old,by rw [ao (ak hT0 hTn)];exact hT0,by simpa using hout⟩) hst'.1 hT hsz hk
def tLE (K:zt) (ta:TA):TE:=fun σ H Q=>ta σ H fun vs H1=>∃ a xs,vs=[.ref a]/\SqT K H1 a xs /\
 ∀ (S:Addr) (H':Hp) (ps:List Addr),H1 S=none->(∀ p∈ps,H1 p=none)->(∀ b o,H1 b=some o->H' b=some o)->H' S=some (.lst (ps.map V.ref))->ps.length=xs.length ->
  (∀ (j:Nat) p x,ps[j]?=some p->xs[j]?=some x->H' p=some (.tup [.int j,x]))->Q (.ref S) H'
def Ku {a:Expr}{ta:TA}{p pos p2 pos2:Pos} (hc:X.calm=true) (hg:Gl X "enumerate") (hm:X.mg "enumerate"=none) (hgl:Gl X "list") (hml:X.mg "list"=none) (ha:PA X [a] ta) (hs:starEach [a] X.env=[(false,eval a X.env)]:=by rfl) :
  PE X (.Call (.Name "list" p) [.Call (.Name "enumerate" p2) [a] [] pos2] [] pos) (tLE X.K ta):=by
 intro pins s σ H Q I h;refine Call_ (fV I hgl hml boot_list (y8 (Calls.spliced_cons ?_) rfl rfl));refine Call_ (fV I hg hm vB (y8 (thn (ha pos2 pins s σ H _ I h) fun us s1 ⟨vs,H1,I1,r1,q1⟩=>?_) hs rfl));obtain ⟨b,xs,rfl,hq,q⟩:=q1;obtain ⟨u,rfl,ru⟩:=vals1 r1;cases ru;obtain ⟨its,rv,p0,hz⟩:=I1.tuple hq;refine BJ (show s1.heap.IsTuple b its.toArray from p0) fun h' he hit hsz hk=>?_
 refine Calls.spliced_nil ?_;have I2:Inv X pins σ H1 { s1 with heap:=h' }:=I1.kept (t':=s1.toks) hk;have fe:iJ X pins H1 (s1.heap.objs.size+1):=I1.fpOk (Nat.le_succ _) (I1.hok.fresh (Nat.le_succ _));have fi:iJ X pins H1 s1.heap.objs.size:=I1.fpOk (v4 _) (I1.hok.fresh (v4 _));refine callType_codes (Q₁:=fun obj s₁=>obj=.ref h'.objs.size /\ s₁={ s1 with heap:=h'.push { cls:=.type "list",data:=.seq #[] } }) PySem.F.called_list (PySem.F.typeCall_list_1 _) PySem.F.entry_list_init
  (code_list_new _ ⟨rfl,rfl⟩) fun obj s₁ h₁=>?_
 obtain ⟨rfl,rfl⟩:=h₁;have hS:(h'.push { cls:=.type "list",data:=.seq #[] }).get? h'.objs.size=some { cls:=.type "list",data:=.seq #[] }:=vT _ rfl
 have hSn:H1 h'.objs.size=none:=I2.hok.fresh (v4 _);have I3:Inv X pins σ (upd H1 h'.objs.size (.lst [])) { s1 with heap:=h'.push { cls:=.type "list",data:=.seq #[] } } :=
  I2.laid (t':=s1.toks) (fun b o e=>vS _ e) (v4 _) ⟨by simp,[],0,.nil,hS⟩
 refine ⟨⟨_,hS,rfl⟩,PySem.F.args_list_init_2 _ _,?_⟩;have elt:s1.heap.objs.size+1 < h'.objs.size:=by rw [hsz];exact jS _
 have ilt:s1.heap.objs.size < h'.objs.size:=Nat.lt_trans (jS _) elt;have hSe:h'.objs.size≠s1.heap.objs.size+1:=ya elt;have hSi:h'.objs.size≠s1.heap.objs.size:=ya ilt;show wpAny _ _ (do let old <- Builtin.List.listItems (.ref h'.objs.size);Builtin.List.listUpdate (.ref h'.objs.size) (fun _=>#[]);letGo old.toList.reverse;Builtin.List.listExtendWith (.ref h'.objs.size) (.ref (s1.heap.objs.size+1)) .none) _ _ _
 refine vw ?_;unfold Builtin.List.listItems;refine vw (wpAny_seqItems hS rfl (vx ?_));show wpAny _ _ (updateSeq h'.objs.size (fun _=>#[]) >>= fun _=>letGo (#[]:vj).toList.reverse >>= fun _=>Builtin.List.listExtendWith (.ref h'.objs.size) (.ref (s1.heap.objs.size+1)) .none) _ _ _
 refine vw (wpAny_updateSeq hS rfl ?_);have I4:=I3.lset (t':=s1.toks) (its':=[]) (ys:=[]) (f:=fun _=>#[]) aB (its:=[]) hS rfl .nil (by simp);rw [Du] at I4;have hS2:=ym (Obj.mapSeq (fun _=>(#[]:vj))) hS rfl;have he1:IsEnum (h'.push { cls:=.type "list",data:=.seq #[] }) (s1.heap.objs.size+1) s1.heap.objs.size 0 .none:=vS _ he
 have he2:IsEnum ((h'.push { cls:=.type "list",data:=.seq #[] }).update h'.objs.size (Obj.mapSeq (fun _=>(#[]:vj)))) (s1.heap.objs.size+1) s1.heap.objs.size 0 .none:=(yl _ _ hSe).trans he1
 have hit2:((h'.push { cls:=.type "list",data:=.seq #[] }).update h'.objs.size (Obj.mapSeq (fun _=>(#[]:vj)))).IsTupleIter s1.heap.objs.size b 0:=by
  obtain ⟨o,e,r⟩:=hit;exact ⟨o,(yl _ _ hSi).trans (vS _ e),r⟩
 refine vw (wpAny_letGo ?_);unfold Builtin.List.listExtendWith;have hT2:Shared.TypeIs { s1 with heap:=(h'.push { cls:=.type "list",data:=.seq #[] }).update h'.objs.size (Obj.mapSeq (fun _=>(#[]:vj))) } (.ref (s1.heap.objs.size+1)) "enumerate":=⟨_,he2,rfl⟩
 refine vw (wpAny_typeOf hT2 ?_);have h1:Builtin.List.listSameRef (.ref h'.objs.size) (.ref (s1.heap.objs.size+1))=false:=by simp [Builtin.List.listSameRef,hSe]
 have h2:(Value.type "enumerate" == Value.type "list")=false:=by decide
 have h3:(Value.type "enumerate" == Value.type "tuple")=false:=by decide
 simp only [h1,h2,h3,Bool.or_false,Bool.false_eq_true,if_false];refine vw (wpAny_pyIter_enum he2 ?_);refine vw (wpAny_holding ?_);unfold Builtin.List.listLengthHint;refine vw (wpAny_specialOf hT2 Ks ?_);show wpAny _ _ (specialOf (Value.ref (s1.heap.objs.size+1)) (Str.ofString "__length_hint__") >>= _) _ _ _
 refine vw (wpAny_specialOf hT2 G4 ?_);refine vx ?_;simp only [Bool.true_or,if_true];refine vw (wpAny_rule ?_);refine vw ?_;show wpAny _ _ (updateSeq h'.objs.size (·.push .none) >>= fun _=>updateSeq h'.objs.size (·.pop)) _ _ _
 refine vw (wpAny_updateSeq hS2 rfl ?_);have hS3:=ym (Obj.mapSeq (·.push Value.none)) hS2 rfl;refine wpAny_updateSeq (hz:=by seq_fits) hS3 rfl ?_;obtain ⟨z4,its4,n4,r4,hl4,e4⟩:=I4.lstM aB;have en4:its4=[]:=by
  cases its4 with
  | nil=>rfl
  | cons a l=>simp at hl4
 subst en4;have I5:=I4.lset (t':=s1.toks) (its':=[.none]) (ys:=[.non]) (f:=(·.push Value.none)) aB e4 (by simp) (.cons rfl .nil) (by show 1<=sizeLine;decide);rw [Du] at I5;obtain ⟨z5,its5,n5,r5,hl5,e5⟩:=I5.lstM aB;obtain ⟨u5,e5',ru5⟩:=r5.one;subst e5';have I6:=I5.lset (t':=s1.toks) (its':=[]) (ys:=[]) (f:=(·.pop)) aB e5 (by simp) .nil (by simp);rw [Du] at I6;refine vx ⟨plainId_quiet PySem.F.plain_extend_loop _,?_⟩;refine Gj (A:=X.A.in1) (a:=b) (e:=s1.heap.objs.size+1) (it:=s1.heap.objs.size) (S:=h'.objs.size) (xs:=xs) (n0:=s1.heap.objs.size) (I1.ok.hd hc) (Nat.succ_ne_self _) xs.length 0 _ (upd H1 h'.objs.size (.lst [])) [] ?_ (fun _ z=>by simp at z) rfl (ye _) I6 ?_ ?_ ?_ ?_ ?_ aB rfl (fun j p x z=>by simp at z) fun s' H' ps' I' k' hS' hl' hp' hn'=>?_
 .exact Nat.le_of_lt (Nat.lt_trans ilt (v3 (show Heap.get? _ h'.objs.size=some _ from ym (Obj.mapSeq (·.pop)) hS3 rfl)))
 .exact .inl ⟨.none,(yl _ _ hSe).trans ((yl _ _ hSe).trans he2)⟩
 .obtain ⟨o,e,r⟩:=hit2;exact ⟨o,(yl _ _ hSi).trans ((yl _ _ hSi).trans e),r⟩
 .exact ⟨by rw [ao (Ne.symm hSe)];exact fe.1,fe.2⟩
 .exact ⟨by rw [ao (Ne.symm hSi)];exact fi.1,fi.2⟩
 .exact Am hq fun o hno e=>by rw [ao (ak e hSn)];exact e
 .refine ⟨rfl,.ref h'.objs.size,H',I',rfl,q _ H' ps' hSn (fun p hp=>I1.hok.fresh (hn' p hp)) (fun c o e=>k' c o (ak e hSn) (by rw [ao (ak e hSn)];exact e)) hS' hl' hp'⟩
end
end Mi
namespace Mi
open PySem PySem.W PyProof.Rows
def dJ {α:Type} (r:Nat->Int) (N:Nat):KasT α->(α->Prop)->Prop
 | .ret a,Q=>Q a
 | .ask i j k,Q=>i < N/\j < N/\dJ r N (k (decide (r i < r j))) Q
theorem dJ.bind {α β:Type}{r:Nat->Int}{N:Nat}{f:α->KasT β}{Q:β->Prop}:∀ {t:KasT α},dJ r N t (fun a=>dJ r N (f a) Q)->dJ r N (t.bind f) Q
 | .ret a,h=>h
 | .ask i j k,h=>⟨h.1,h.2.1,dJ.bind (t:=k _) h.2.2⟩
theorem dJ.wp {α:Type}{r:Nat->Int}{N:Nat}{cmp:Nat->Nat->(Bool->Shared->Prop)->Shared->Prop}{s:Shared} (hc:∀ i j C,i < N->j < N->C (decide (r i < r j)) s->cmp i j C s) {Q:α->Shared->Prop} :
  ∀ {t:KasT α},dJ r N t (fun a=>Q a s)->t.kasWp cmp Q s
 | .ret a,h=>h
 | .ask i j k,h=>hc i j _ h.1 h.2.1 (dJ.wp hc (t:=k _) h.2.2)
theorem Em {α:Type}{r:Nat->Int}{N:Nat}{Q Q':α->Prop}:∀ {t:KasT α},dJ r N t Q->(∀ a,Q a->Q' a)->dJ r N t Q'
 | .ret a,h,k=>k a h
 | .ask i j f,h,k=>⟨h.1,h.2.1,Em (t:=f _) h.2.2 k⟩
noncomputable def Kp (r:Nat->Int) (p:Array Nat) (i:Nat):Int:=match p[i]? with
 | some x=>r x
 | none=>0
def kO (r:Nat->Int) (p:Array Nat) (k:Nat):Prop:=∀ i j,i<=j->j < k->Kp r p i<=Kp r p j
def Cr (r:Nat->Int) (p:Array Nat) (k:Nat):Prop:=∀ i j,i<=j->j < k->Kp r p j<=Kp r p i
structure PB (N:Nat) (p:Array Nat):Prop where
 perm:p.Perm (List.range N).toArray
variable {N:Nat}{p:Array Nat}
theorem PB.size (h:PB N p):p.size=N:=by rw [h.perm.size_eq];simp
variable {i:Nat}
theorem PB.lt (h:PB N p)  (hi:i < N):p.getD i 0 < N:=by
 have hs:=h.size;have e:p.getD i 0=p[i]:=by simp [Array.getD,hs,hi]
 have hm:p[i]∈(List.range N):=by
  have:=(Array.perm_iff_toList_perm.mp h.perm).mem_iff (a:=p[i]);simp at this;simpa using this
 rw [e];simpa using hm
theorem PB.mir (h:PB N p) (i j d:Nat):PB N (mirror p i j d):=⟨(mirror_perm _ _ _ _).trans h.perm⟩
theorem PB.bub (h:PB N p) (i d:Nat):PB N (bubble p i d):=⟨(bubble_perm _ _ _).trans h.perm⟩
variable {r:Nat->Int}{N:Nat}
def Mh (hi:i < p.size):r (p.getD i 0)=Kp r p i:=by
 unfold Kp;simp [Array.getD,hi]
variable {j:Nat}
def oY {q:Array Nat} (h:p[i]?=q[j]?):Kp r p i=Kp r q j:=by unfold Kp;rw [h]
variable {xs:Array Nat}
def DK {src d:Nat} (hs:src < xs.size) (hd:d<=src) (k:Nat) :
  Kp r (bubble xs src d) k=if k=src - d then Kp r xs src else if src - d < k/\k<=src then Kp r xs (k - 1) else Kp r xs k:=by
 have e:=getElem?_bubble hs d hd k;by_cases h1:k=src - d
 .rw [if_pos h1] at e ⊢;exact oY e
 .rw [if_neg h1] at e ⊢;by_cases h2:src - d < k/\k<=src
  .rw [if_pos h2] at e ⊢;exact oY e
  .rw [if_neg h2] at e ⊢;exact oY e
def u9 (hj:j<=xs.size) (k:Nat) :
  Kp r (mirror xs i j ((j - i) / 2)) k=if i<=k/\k < j then Kp r xs (i+j - 1 - k) else Kp r xs k:=by
 have e:=getElem?_mirror_all (i:=i) hj k;by_cases h1:i<=k/\k < j
 .rw [if_pos h1] at e ⊢;exact oY e
 .rw [if_neg h1] at e ⊢;exact oY e
theorem fY (hj:j<=xs.size) (heq:∀ k,i<=k->k < j->Kp r xs k=Kp r xs (j - 1)) (k:Nat) :
  Kp r (mirror xs i j ((j - i) / 2)) k=Kp r xs k:=by
 rw [u9 hj];split
 .rw [heq _ (by omega) (by omega),heq k (by omega) (by omega)]
 .rfl
def G8 {α:Type}{k:Bool->KasT α}{Q:α->Prop} (hB:PB N p) (hi:i < N) (hj:j < N) (h:dJ r N (k (decide (Kp r p i < Kp r p j))) Q):dJ r N (.ask (p.getD i 0) (p.getD j 0) k) Q:=by
 refine ⟨hB.lt hi,hB.lt hj,?_⟩;rw [Mh (r:=r) (p:=p) (i:=i) (by rw [hB.size];exact hi),Mh (r:=r) (p:=p) (i:=j) (by rw [hB.size];exact hj)];exact h
theorem Vy {p:Array Nat}{nrem:Nat} (hB:PB N p) (hz:nrem<=N):∀ (f a:Nat) {Q:Nat->Prop},nrem - a=f->1<=a->a<=nrem->kO r p a ->
  (∀ n,a<=n->n<=nrem->kO r p n->(n=nrem\/Kp r p n < Kp r p (n - 1))->Q n)->dJ r N (kas_asc p f a) Q
 | 0,a,Q,hf,h1,ha,hs,h=>h a (v4 _) ha hs (.inl (by omega))
 | f+1,a,Q,hf,h1,ha,hs,h=>by
  refine G8 hB (by omega) (by omega) ?_;by_cases hless:Kp r p a < Kp r p (a - 1)
  .simp only [hless,decide_true,if_true];exact h a (v4 _) ha hs (.inr hless)
  .simp only [hless,decide_false,Bool.false_eq_true,if_false];refine Vy hB hz f (a+1) (by omega) (by omega) (by omega) (fun i j hij hj=>?_) fun n h1 h2 h3 h4=>h n (by omega) h2 h3 h4
   by_cases hjx:j < a
   .exact hs i j hij hjx
   .have hj':j=a:=by omega
    subst hj';by_cases hi':i=j
    .subst hi';exact Int.le_refl _
    .exact Int.le_trans (hs i (j - 1) (by omega) (by omega)) (Int.not_lt.mp hless)
variable {n nrem:Nat}{Q:Nat × Array Nat->Prop}
def QC (hB:PB N p) (hz:nrem<=N) (h1:1<=n) (hn:n<=nrem) (hs:Cr r p n)
  (h:∀ m p',PB N p'->1<=m->m<=nrem->kO r p' m->Q (m,p')):dJ r N (kas_tail3 n nrem p) Q:=by
 unfold kas_tail3 kas_rev;have hsz:n<=p.size:=by rw [hB.size];omega
 refine dJ.bind (Vy (hB.mir _ _ _) hz _ n rfl h1 hn (fun i j hij hj=>?_) fun m hm1 hm2 hsm _=>h m _ (hB.mir _ _ _) (by omega) hm2 hsm);rw [u9 hsz,u9 hsz,if_pos (by omega),if_pos (by omega)];exact hs _ _ (by omega) (by omega)
theorem GC {nrem:Nat} (hz:nrem<=N):∀ (f:Nat) (p:Array Nat) (x q:Nat) {Q:Array Nat × Nat × Nat->Prop},PB N p->nrem - x=f->1<=x->x<=nrem->Cr r p x->q+1<=x ->
  (∀ i,x - (q+1)<=i->i < x->Kp r p i=Kp r p (x - 1)) ->
  (∀ p' m neq,PB N p'->x<=m->m<=nrem->Cr r p' m->neq+1<=m->(∀ i,m - (neq+1)<=i->i < m->Kp r p' i=Kp r p' (m - 1))->Q (p',m,neq))->dJ r N (kas_desc f p x q) Q
 | 0,p,x,q,Q,hB,hf,h1,hx,hs,hq,he,h=>h p x q hB (v4 _) hx hs hq he
 | f+1,p,x,q,Q,hB,hf,h1,hx,hs,hq,he,h=>by
  have hsz:x<=p.size:=by rw [hB.size];omega
  refine G8 hB (by omega) (by omega) ?_;by_cases hless:Kp r p x < Kp r p (x - 1)
  .simp only [hless,decide_true,if_true];have step1:∀ xs:Array Nat,(∀ k,Kp r xs k=Kp r p k)->Cr r xs (x+1):=by
    intro xs hk i j hij hj;rw [hk,hk];by_cases hjx:j < x
    .exact hs i j hij hjx
    .have hj':j=x:=by omega
     subst hj';by_cases hi':i=j
     .subst hi';exact Int.le_refl _
     .exact Int.le_trans (Int.le_of_lt hless) (hs i (j - 1) (by omega) (by omega))
   by_cases hneq:q > 0
   .rw [if_pos hneq];refine GC hz f _ (x+1) 0 (hB.mir _ _ _) (by omega) (by omega) (by omega) (step1 _ (fY hsz he)) (by omega) (fun i h1 h2=>by congr 1;omega) fun p' m neq a b c d e g=>h p' m neq a (by omega) c d e g
   .rw [if_neg hneq];exact GC hz f _ (x+1) 0 hB (by omega) (by omega) (by omega) (step1 _ fun _=>rfl) (by omega) (fun i h1 h2=>by congr 1;omega) fun p' m neq a b c d e g=>h p' m neq a (by omega) c d e g
  .simp only [hless,decide_false,Bool.false_eq_true,if_false];refine G8 hB (by omega) (by omega) ?_;by_cases hlarger:Kp r p (x - 1) < Kp r p x
   .simp only [hlarger,decide_true,if_true];exact h p x q hB (v4 _) (by omega) hs hq he
   .simp only [hlarger,decide_false,Bool.false_eq_true,if_false];have heqx:Kp r p x=Kp r p (x - 1):=by omega
    refine GC hz f _ (x+1) (q+1) hB (by omega) (by omega) (by omega) (fun i j hij hj=>?_) (by omega) (fun i h1 h2=>?_) fun p' m neq a b c d e g=>h p' m neq a (by omega) c d e g
    .by_cases hjx:j < x
     .exact hs i j hij hjx
     .have hj':j=x:=by omega
      subst hj';by_cases hi':i=j
      .subst hi';exact Int.le_refl _
      .rw [heqx];exact hs i (j - 1) (by omega) (by omega)
    .rw [show x+1 - 1=x by omega];by_cases hix:i=x
     .subst hix;rfl
     .rw [heqx];exact he i (by omega) (by omega)
def Fv (hB:PB N p) (hz:nrem<=N) (hnn:n+1<=nrem) (hs:Cr r p (n+1))
  (h:∀ m p',PB N p'->1<=m->m<=nrem->kO r p' m->Q (m,p')):dJ r N (kas_descPart n nrem p) Q:=by
 unfold kas_descPart;refine dJ.bind (GC hz _ p (n+1) 0 hB rfl (by omega) hnn hs (by omega) (fun i h1 h2=>by congr 1;omega) fun p' m neq hB' hm1 hm2 hs' hq he=>?_);dsimp only;have hsz:m<=p'.size:=by rw [hB'.size];omega
 by_cases hneq:neq > 0
 .rw [if_pos hneq];refine QC (hB'.mir _ _ _) hz (by omega) hm2 (fun i j hij hj=>?_) h;have e1:=fY (r:=r) hsz he i;have e2:=fY (r:=r) hsz he j;show Kp r (mirror p' _ _ _) j<=Kp r (mirror p' _ _ _) i
  rw [e1,e2];exact hs' i j hij hj
 .rw [if_neg hneq];exact QC hB' hz (by omega) hm2 hs' h
def Z8 (hB:PB N p) (hz:nrem<=N) (h1:1<=nrem)
  (h:∀ m p',PB N p'->1<=m->m<=nrem->kO r p' m->Q (m,p')):dJ r N (kas_count nrem p) Q:=by
 unfold kas_count;refine dJ.bind (Vy hB hz _ 1 rfl (v4 1) h1 (fun i j hij hj=>by have:i=j:=(by omega);subst this;exact Int.le_refl _) fun n hn1 hn2 hsn hor=>?_);by_cases hnn:n=nrem
 .rw [if_pos (by simpa using hnn)];exact h n p hB hn1 hn2 hsn
 .rw [if_neg (by simpa using hnn)];have hlt:Kp r p n < Kp r p (n - 1):=hor.resolve_left hnn;by_cases hgt:n > 1
  .rw [if_pos hgt];refine G8 hB (by omega) (by omega) ?_;by_cases hrose:Kp r p 0 < Kp r p (n - 1)
   .simp only [hrose,decide_true,if_true];exact h n p hB hn1 hn2 hsn
   .simp only [hrose,decide_false,Bool.false_eq_true,if_false];have hsz:n<=p.size:=by rw [hB.size];omega
    have hall:∀ k,0<=k->k < n->Kp r p k=Kp r p (n - 1):=by
     intro k _ hk;have a1:=hsn 0 k (by omega) hk;have a2:=hsn k (n - 1) (by omega) (by omega);omega
    refine Fv (hB.mir _ _ _) hz (by omega) (fun i j hij hj=>?_) h;have e1:=fY (r:=r) hsz hall i;have e2:=fY (r:=r) hsz hall j;show Kp r (mirror p _ _ _) j<=Kp r (mirror p _ _ _) i
    rw [e1,e2];by_cases hjn:j < n
    .rw [hall i (by omega) (by omega),hall j (by omega) hjn];exact Int.le_refl _
    .have hj':j=n:=by omega
     subst hj';by_cases hi':i=j
     .subst hi';exact Int.le_refl _
     .rw [hall i (by omega) (by omega)];exact Int.le_of_lt hlt
  .rw [if_neg hgt];have hn1':n=1:=by omega
   subst hn1';refine Fv hB hz (by omega) (fun i j hij hj=>?_) h;by_cases hi':i=j
   .subst hi';exact Int.le_refl _
   .have hi0:i=0:=by omega
    have hj1:j=1:=by omega
    subst hi0;subst hj1;exact Int.le_of_lt hlt
theorem Jt {p:Array Nat}{k:Nat} (hB:PB N p) (hk:k < N) (hs:kO r p k):∀ (f l rr:Nat) {Q:Nat->Prop},l<=rr->rr<=k->rr - l<=f->(∀ i,i < l->Kp r p i<=Kp r p k)->(∀ i,rr<=i->i < k->Kp r p k < Kp r p i) ->
  (∀ l,l<=k->(∀ i,i < l->Kp r p i<=Kp r p k)->(∀ i,l<=i->i < k->Kp r p k < Kp r p i)->Q l)->dJ r N (kas_place p k f l rr) Q
 | 0,l,rr,Q,hlr,hrk,hm,hlo,hhi,h=>h l (by omega) hlo fun i h1 h2=>hhi i (by omega) h2
 | f+1,l,rr,Q,hlr,hrk,hm,hlo,hhi,h=>by
  unfold kas_place;by_cases hge:l ≥ rr
  .rw [if_pos hge];exact h l (by omega) hlo fun i h1 h2=>hhi i (by omega) h2
  .rw [if_neg hge];refine G8 hB hk (by omega) ?_;by_cases hless:Kp r p k < Kp r p ((l+rr) / 2)
   .simp only [hless,decide_true,if_true];refine Jt hB hk hs f l _ (by omega) (by omega) (by omega) hlo (fun i h1 h2=>?_) h;exact Int.lt_of_lt_of_le hless (hs _ _ h1 h2)
   .simp only [hless,decide_false,Bool.false_eq_true,if_false];refine Jt hB hk hs f _ rr (by omega) (by omega) (by omega) (fun i h1=>?_) hhi h;exact Int.le_trans (hs i ((l+rr) / 2) (by omega) (by omega)) (Int.not_lt.mp hless)
theorem Z2 {nrem:Nat} (hz:nrem<=N):∀ (f:Nat) (p:Array Nat) (k:Nat) {Q:Array Nat->Prop},PB N p->nrem - k=f->k<=nrem->kO r p k->(∀ p',PB N p'->kO r p' nrem->Q p')->dJ r N (kas_bin f p k) Q
 | 0,p,k,Q,hB,hf,hk,hs,h=>h p hB (by rw [show nrem=k by omega];exact hs)
 | f+1,p,k,Q,hB,hf,hk,hs,h=>by
  refine dJ.bind (Jt hB (by omega) hs k 0 k (by omega) (by omega) (by omega) (fun i h=>by omega) (fun i h1 h2=>by omega) fun l hlk hlo hhi=>?_);refine Z2 hz f _ (k+1) (hB.bub _ _) (by omega) (by omega) (fun i j hij hj=>?_) h;have hks:k < p.size:=by rw [hB.size];omega
  rw [DK hks (by omega),DK hks (by omega),show k - (k - l)=l by omega]
  repeat' split
  all_goals first
   | (exfalso;omega)
   | exact Int.le_refl _
   | exact hlo _ (by omega)
   | exact Int.le_of_lt (hhi _ (by omega) (by omega))
   | exact hs _ _ (by omega) (by omega)
def ab6 (h1:1<=N):dJ r N (kas_sort N) (fun p=>PB N p/\kO r p N):=by
 unfold kas_sort;refine dJ.bind (Z8 (p:=(List.range N).toArray) ⟨Array.Perm.refl _⟩ (v4 _) h1 fun m p' hB hm1 hm2 hs=>?_);dsimp only;by_cases hlt:m < N
 .rw [if_pos hlt];rw [show max m 1=m by omega];exact Z2 (v4 _) _ p' m hB rfl (by omega) hs fun p' a b=>⟨a,b⟩
 .rw [if_neg hlt];exact ⟨hB,by rw [show N=m by omega];exact hs⟩
end Mi
namespace Mi
open PySem L2
open PyProof.Rows hiding St
mutual
noncomputable def bH:D->D->Bool
 | .int _,.int _=>true
 | .tup a,.tup b=>dh a b
 | .lst a,.lst b=>dh a b
 | _,_=>false
noncomputable def dh:List D->List D->Bool
 | a::as,b::bs=>if a=b then dh as bs else bH a b
 | [],_=>true
 | _::_,[]=>true
end
theorem jL:∀ {ds:List D}{d:D},bF ds=true->d∈ds->keyOk d=true
 | x::ds,d,h,hd=>by
  rw [bF,Bool.and_eq_true] at h;rcases w6.mp hd with e | hd
  .rw [e];exact h.1
  .exact jL h.2 hd
def QM (A:Around) (s:Shared) (u v:Value) (b:Bool):Prop :=
 ∀ (prog:Program) (w:World) (E:zn) (Q:zn),Q (.bool b) s->wpAny (model prog w) A (richCompare .Lt u v) Q E s
section
open PySem.SeqAt
open PySem.AutoSeq1 (wpAny_loadPart')
open PySem.MeetsSeq PySem.MeetsSeq2 PySem.MeetsSeq3
def RZ (l b:Addr) (items items2:vj) (n n2:Nat) (dd dd2:vk) (sl sl2:vn) (ds es:List D) (hk:bF ds=true) (hk2:bF es=true) (hc:dh ds es=true) :
  Meets (Builtin.«tuple.__lt__» ⟨[.ref l,.ref b],[]⟩)
   (fun A R s=>s.heap.get? l=some { cls:=.type "tuple",dict:=dd,data:=.seq items n,slots:=sl } /\ s.heap.get? b=some { cls:=.type "tuple",dict:=dd2,data:=.seq items2 n2,slots:=sl2 } /\
    aC s.heap ds items.toList/\aC s.heap es items2.toList/\A.units+1+deps ds < cLine/\A.units+1+deps es < cLine /\
    (∀ d∈ds,∀ e∈es,∀ u v,bH d e=true->RpV s.heap d u->RpV s.heap e v->QM A.in1 s u v (ltD d e)) /\
    R (.ok (.ret (.bool (aR ds es)))) s) :=
 .of_wp fun prog w A R s h=>by
  obtain ⟨hp,g,d,tk,os⟩:=s;obtain ⟨hl,hb,hi,hj,hu1,hu2,hrc,h⟩:=h;have f2:=AutoSeq1.sub_tuple_tuple;have z1:items.size=ds.length:=by rw [hi.length];simp
  have z2:items2.size=es.length:=by rw [hj.length];simp
  have hin:A.in1.units=A.units+1:=rfl
  wp_walk using wpAny_loadPart' hl,wpAny_loadPart' hb,wpAny_forIn_list _ (fun rest b s'=>b.1=none/\s'=⟨hp,g,d,tk,os⟩/\∃ (vs ws:zw) (ns' ms':List D),rest=vs.zip ws /\
   aC hp ns' vs/\aC hp ms' ws/\bF ns'=true/\bF ms'=true/\dh ns' ms'=true/\(∀ x∈ns',x∈ds)/\(∀ x∈ms',x∈es)/\ns'.length+items2.size=ms'.length+items.size/\R (.ok (.ret (.bool (aR ns' ms')))) ⟨hp,g,d,tk,os⟩) _
  case turn =>
   rintro ⟨y,x⟩ rest b s' ⟨hb',rfl,vs,ws,ns',ms',hz,hvi,hwi,k1,k2,cc,m1,m2,hlen,hR⟩;cases ns' with
   | nil=>rw [aC] at hvi;subst hvi;rw [List.zip_nil_left] at hz;cases hz
   | cons a as =>
    cases ms' with
    | nil=>rw [aC] at hwi;subst hwi;rw [List.zip_nil_right] at hz;cases hz
    | cons c cs =>
     rw [aC] at hvi hwi;obtain ⟨va,vas,rfl,ra,hvi'⟩:=hvi;obtain ⟨vc,vcs,rfl,rc,hwi'⟩:=hwi;rw [List.zip_cons_cons] at hz;injection hz with hyx hrest;injection hyx with hy hx;subst hy hx;rw [bF,Bool.and_eq_true] at k1 k2;rw [aR] at hR;rw [dh] at cc;simp only [List.length_cons] at hlen;have hda:dep a<=deps ds:=by
      obtain ⟨i,hi2,e⟩:=List.getElem_of_mem (m1 a vz);rw [<- e];exact fD hi2
     have hdc:dep c<=deps es:=by
      obtain ⟨i,hi2,e⟩:=List.getElem_of_mem (m2 c vz);rw [<- e];exact fD hi2
     have he:=mQ a c (A:=A.in1) (s:=⟨hp,g,d,tk,os⟩) ra rc (by omega) (by omega);rw [kY k1.1 k2.1] at he;refine vw (he prog w _ _ ?_);by_cases hac:a=c
     .rw [if_pos hac] at hR cc;rw [decide_eq_true hac]
      wp_walk
      exact ⟨rfl,rfl,_,_,_,_,hrest,hvi',hwi',k1.2,k2.2,cc,fun x hx=>m1 x (vy _ hx),fun x hx=>m2 x (vy _ hx),by omega,hR⟩
     .rw [if_neg hac] at hR cc;rw [decide_eq_false hac];have hri:=hrc a (m1 a vz) c (m2 c vz) _ _ cc ra rc prog w
      wp_walk using hri
      exact ⟨_,rfl,by simpa using hR⟩
  case fin =>
   rintro ⟨b1,b2⟩ s' ⟨hb',rfl,vs,ws,ns',ms',hz,hvi,hwi,k1,k2,cc,m1,m2,hlen,hR⟩;simp only at hb';subst hb';have hv:aR ns' ms'=decide (items.size < items2.size):=by
    cases ns' with
    | nil =>
     cases ms' with
     | nil =>
      simp only [List.length_nil] at hlen;rw [aR];exact (yk (by omega)).symm
     | cons c cs =>
      simp only [List.length_nil,List.length_cons] at hlen;rw [aR];exact (yi (by omega)).symm
    | cons a as =>
     cases ms' with
     | nil =>
      simp only [List.length_nil,List.length_cons] at hlen;rw [aR];exact (yk (by omega)).symm
     | cons c cs =>
      rw [aC] at hvi hwi;obtain ⟨va,vas,rfl,ra,hvi'⟩:=hvi;obtain ⟨vc,vcs,rfl,rc,hwi'⟩:=hwi;rw [List.zip_cons_cons] at hz;cases hz
   rw [hv] at hR
   wp_walk
   exact ⟨_,rfl,by simpa [Builtin.Tuple.tupleCompareSizes] using hR⟩
  case h =>
   exact ⟨rfl,rfl,items.toList,items2.toList,ds,es,rfl,hi,hj,hk,hk2,hc,fun _ x=>x,fun _ x=>x,by omega,h⟩
theorem Js:∀ (d e:D) {A:Around}{s:Shared}{u v:Value},keyOk d=true->keyOk e=true->bH d e=true->RpV s.heap d u->RpV s.heap e v->A.units+dep d < cLine->A.units+dep e < cLine->QM A s u v (ltD d e)
 | .int a,.int b,A,s,u,v,k1,k2,c,r,q,h1,h2=>by
  rw [RpV] at r q;obtain ⟨t,rfl⟩:=r;obtain ⟨t',rfl⟩:=q;rw [ltD];exact fun prog w E Q h=>HT.Wb A s a t b t' prog w E Q h
 | .tup ds,.tup es,A,s,u,v,k1,k2,c,r,q,h1,h2=>by
  rw [RpV] at r q;obtain ⟨l,its,rfl,⟨⟨cls,dd,data,sl⟩,ho,hc,n,hd⟩,rs⟩:=r;obtain ⟨b,its2,rfl,⟨⟨cls2,dd2,data2,sl2⟩,ho2,hc2,n2,hd2⟩,qs⟩:=q;simp only at hc hd hc2 hd2;subst hc hd hc2 hd2;rw [keyOk] at k1 k2;rw [bH] at c;rw [dep] at h1 h2;rw [ltD];intro prog w E Q h;refine richCompare_meets_room (op:=.Lt) ⟨_,ho,rfl⟩ ⟨_,ho2,rfl⟩ PySem.F.slot_tuple_lt PySem.F.entry_tuple_lt (PySem.F.args_tuple_lt_2 _ _) (RZ l b its.toArray its2.toArray n n2 dd dd2 sl sl2 ds es k1 k2 c)
   ⟨ho,ho2,by simpa using rs,by simpa using qs,by omega,by omega,fun d hd e he u v hce rd re=>?_,show Value.bool (aR ds es)≠Value.notImplemented/\Q (.bool (aR ds es)) s from ⟨(fun x=>nomatch x),h⟩⟩ (by omega)
  have hin:A.in1.units=A.units+1:=rfl;have kd:keyOk d=true:=jL k1 hd;have ke:keyOk e=true:=jL k2 he;have s1:=List.sizeOf_lt_of_mem hd;have dd1:dep d<=deps ds:=by
   obtain ⟨i,hi2,e⟩:=List.getElem_of_mem hd;rw [<- e];exact fD hi2
  have dd2:dep e<=deps es:=by
   obtain ⟨i,hi2,e⟩:=List.getElem_of_mem he;rw [<- e];exact fD hi2
  exact Js d e kd ke hce rd re (by show A.units+1+_ < _;omega) (by show A.units+1+_ < _;omega)
 | .non,e,A,s,u,v,k1,k2,c,r,q,h1,h2=>by simp [keyOk] at k1
 | .bl _,e,A,s,u,v,k1,k2,c,r,q,h1,h2=>by simp [keyOk] at k1
 | .lst _,e,A,s,u,v,k1,k2,c,r,q,h1,h2=>by simp [keyOk] at k1
 | .dct _ _,e,A,s,u,v,k1,k2,c,r,q,h1,h2=>by simp [keyOk] at k1
 | .str _,e,A,s,u,v,k1,k2,c,r,q,h1,h2=>by simp [bH] at c
 | .int _,.non,A,s,u,v,k1,k2,c,r,q,h1,h2=>by simp [bH] at c
 | .int _,.bl _,A,s,u,v,k1,k2,c,r,q,h1,h2=>by simp [bH] at c
 | .int _,.str _,A,s,u,v,k1,k2,c,r,q,h1,h2=>by simp [bH] at c
 | .int _,.tup _,A,s,u,v,k1,k2,c,r,q,h1,h2=>by simp [bH] at c
 | .int _,.lst _,A,s,u,v,k1,k2,c,r,q,h1,h2=>by simp [bH] at c
 | .int _,.dct _ _,A,s,u,v,k1,k2,c,r,q,h1,h2=>by simp [bH] at c
 | .tup _,.non,A,s,u,v,k1,k2,c,r,q,h1,h2=>by simp [bH] at c
 | .tup _,.bl _,A,s,u,v,k1,k2,c,r,q,h1,h2=>by simp [bH] at c
 | .tup _,.str _,A,s,u,v,k1,k2,c,r,q,h1,h2=>by simp [bH] at c
 | .tup _,.int _,A,s,u,v,k1,k2,c,r,q,h1,h2=>by simp [bH] at c
 | .tup _,.lst _,A,s,u,v,k1,k2,c,r,q,h1,h2=>by simp [bH] at c
 | .tup _,.dct _ _,A,s,u,v,k1,k2,c,r,q,h1,h2=>by simp [bH] at c
termination_by d=>sizeOf d
decreasing_by
 simp only [D.tup.sizeOf_spec];omega
def U8 (l b:Addr) (items items2:vj) (n n2:Nat) (dd dd2:vk) (sl sl2:vn) (ns:List D) :
  ∀ (ms:List D) (i:Nat),bF ns=true->bF ms=true->dh ns ms=true->i<=items.size->i<=items2.size->Meets (Builtin.«list.__eq__.loop» ⟨[.ref l,.ref b,rawInt i,rawInt 0],[]⟩)
   (fun A R s=>s.heap.get? l=some { cls:=.type "list",dict:=dd,data:=.seq items n,slots:=sl } /\ s.heap.get? b=some { cls:=.type "list",dict:=dd2,data:=.seq items2 n2,slots:=sl2 } /\
    aC s.heap ns (items.toList.drop i)/\aC s.heap ms (items2.toList.drop i)/\A.units+1+deps ns < cLine/\A.units+1+deps ms < cLine /\
    R (.ok (.ret (.bool (aR ns ms)))) s):=by
 induction ns with
 | nil =>
  intro ms i k1 k2 cc i1 i2 prog w A R s h;obtain ⟨hp,g,d,tk,os⟩:=s;obtain ⟨hl,hb,ri,rj,u1,u2,h⟩:=h;have l1:=ri.length;have l2:=rj.length;simp only [List.length_nil,List.length_drop,Array.length_toList] at l1 l2
  wp_walk using wpAny_loadPart' hl,wpAny_loadPart' hb
  have hi1:items[((i:Nat):Int).toNat]?=none:=by simp;omega
  rw [hi1]
  wp_walk using wpAny_loadPart' hl,wpAny_loadPart' hb
  show R (.ok (.ret (.bool (decide (items.size < items2.size))))) _
  have e:decide (items.size < items2.size)=aR [] ms:=by
   cases ms with
   | nil=>rw [aR];exact yk (by simp only [List.length_nil] at l2;omega)
   | cons _ _=>rw [aR];exact yi (by simp only [List.length_cons] at l2;omega)
  rw [e];exact h
 | cons a as ih =>
  intro ms i k1 k2 cc i1 i2 prog w A R s h;obtain ⟨hp,g,d,tk,os⟩:=s;obtain ⟨hl,hb,ri,rj,u1,u2,h⟩:=h;have l1:=ri.length;have l2:=rj.length;simp only [List.length_cons,List.length_drop,Array.length_toList] at l1;simp only [List.length_drop,Array.length_toList] at l2;have hlt:i < items.size:=by omega
  have hi1:items[((i:Nat):Int).toNat]?=some items[i]:=by simp [hlt]
  wp_walk using wpAny_loadPart' hl,wpAny_loadPart' hb
  cases ms with
  | nil =>
   simp only [List.length_nil] at l2;have hi2:items2[((i:Nat):Int).toNat]?=none:=by simp;omega
   rw [hi1,hi2]
   wp_walk using wpAny_loadPart' hl,wpAny_loadPart' hb
   show R (.ok (.ret (.bool (decide (items.size < items2.size))))) _
   have e:decide (items.size < items2.size)=aR (a::as) []:=by
    rw [aR];exact yk (by omega)
   rw [e];exact h
  | cons c cs =>
   simp only [List.length_cons] at l2;have hlt2:i < items2.size:=by omega
   have hi2:items2[((i:Nat):Int).toNat]?=some items2[i]:=by simp [hlt2]
   have hc:((i:Int)+1)=((i+1:Nat):Int):=by push_cast;rfl
   have d1:items.toList.drop i=items[i]::items.toList.drop (i+1):=by rw [List.drop_eq_getElem_cons (by simpa using hlt)];simp
   have d2:items2.toList.drop i=items2[i]::items2.toList.drop (i+1):=by rw [List.drop_eq_getElem_cons (by simpa using hlt2)];simp
   rw [d1,aC] at ri;rw [d2,aC] at rj;obtain ⟨va,vas,ea,ra,rias⟩:=ri;obtain ⟨vc,vcs,ec,rc,rjcs⟩:=rj;injection ea with ea1 ea2;injection ec with ec1 ec2;subst ea1 ea2 ec1 ec2;rw [bF,Bool.and_eq_true] at k1 k2;rw [dh] at cc;rw [deps] at u1 u2;rw [aR] at h;rw [hi1,hi2];have hin:A.in1.units=A.units+1:=rfl;have he:=mQ a c (A:=A.in1) (s:=⟨hp,g,d,tk,os⟩) ra rc (by omega) (by omega);rw [kY k1.1 k2.1] at he;refine vw (he prog w _ _ ?_);by_cases hac:a=c
   .rw [if_pos hac] at h cc;rw [decide_eq_true hac]
    wp_walk
    rw [hc];exact ⟨plainId_quiet plain_eq_loop _,codeAny_builtin entry_eq_loop (by
     rw [Around.under_plainId plain_eq_loop _];exact ih cs (i+1) k1.2 k2.2 cc hlt hlt2 prog w A R _ ⟨hl,hb,rias,rjcs,by omega,by omega,h⟩)⟩
   .rw [if_neg hac] at h cc;rw [decide_eq_false hac];have hri:=Js a c (A:=A.in1) (s:=⟨hp,g,d,tk,os⟩) k1.1 k2.1 cc ra rc (by omega) (by omega) prog w
    wp_walk using wpAny_loadPart' hl,wpAny_loadPart' hb
    rw [hi1,hi2]
    wp_walk using hri
    exact h
def UL (l b:Addr) (items items2:vj) (n n2:Nat) (dd dd2:vk) (sl sl2:vn) (ds es:List D) (k1:bF ds=true) (k2:bF es=true) (cc:dh ds es=true) :
  Meets (Builtin.«list.__lt__» ⟨[.ref l,.ref b],[]⟩)
   (fun A R s=>s.heap.get? l=some { cls:=.type "list",dict:=dd,data:=.seq items n,slots:=sl } /\ s.heap.get? b=some { cls:=.type "list",dict:=dd2,data:=.seq items2 n2,slots:=sl2 } /\
    aC s.heap ds items.toList/\aC s.heap es items2.toList/\A.units+1+deps ds < cLine/\A.units+1+deps es < cLine /\
    R (.ok (.ret (.bool (aR ds es)))) s):=by
 intro prog w A R s h;obtain ⟨hp,g,d,tk,os⟩:=s;obtain ⟨hl,hb,ri,rj,u1,u2,h⟩:=h;have f3:=AutoSeq1.sub_list_list
 wp_walk using wpAny_loadPart' hl,wpAny_loadPart' hb
 exact ⟨plainId_quiet plain_eq_loop _,codeAny_builtin entry_eq_loop (by
  rw [Around.under_plainId plain_eq_loop _];exact U8 l b items items2 n n2 dd dd2 sl sl2 ds es 0 k1 k2 cc (ye _) (ye _) prog w A R _ ⟨hl,hb,by simpa using ri,by simpa using rj,u1,u2,h⟩)⟩
def RV {prog:Program}{w:World}{A:Around}{E:zn}{s:Shared}{ds es:List D}{u v:Value}{Q:Bool->Shared->Prop} (k1:bF ds=true) (k2:bF es=true) (cc:dh ds es=true) (r:RpV s.heap (.lst ds) u) (q:RpV s.heap (.lst es) v)
  (h1:A.units+dep (.lst ds)+2 < cLine) (h2:A.units+dep (.lst es)+2 < cLine) (h:Q (aR ds es) s):wpAny (model prog w) A (oneLt' true u v) Q E s:=by
 rw [RpV] at r q;obtain ⟨l,its,rfl,⟨⟨cls,dd,data,sl⟩,ho,hc,n,hd⟩,rs⟩:=r;obtain ⟨b,its2,rfl,⟨⟨cls2,dd2,data2,sl2⟩,ho2,hc2,n2,hd2⟩,qs⟩:=q;simp only at hc hd hc2 hd2;subst hc hd hc2 hd2;rw [dep] at h1 h2;rw [oneLt'_eq];simp only [if_true];refine vw (PySem.wpAny_cRoomFor (by omega) ?_);refine vw (wpAny_callSpecialIfBound?_slot (T:="list") ⟨_,ho,rfl⟩ PySem.F.slot_list_lt (call_meets PySem.F.slot_list_lt ⟨_,ho,rfl⟩ PySem.F.entry_list_lt (PySem.F.args_list_lt_2 _ _) (UL l b its.toArray its2.toArray n n2 dd dd2 sl sl2 ds es k1 k2 cc)
  ⟨ho,ho2,by simpa using rs,by simpa using qs,by omega,by omega,?_⟩))
 exact y9 h
end
end Mi
namespace Mi
open PySem
mutual
theorem xV:∀ (a:D),ltD a a=false
 | .int a=>by simp [ltD]
 | .tup a=>by rw [ltD];exact Bb a
 | .non=>by simp [ltD]
 | .bl _=>by simp [ltD]
 | .str _=>by simp [ltD]
 | .lst a=>by rw [ltD];exact Bb a
 | .dct _ _=>by simp [ltD]
theorem Bb:∀ (a:List D),aR a a=false
 | []=>by simp [aR]
 | a::as=>by rw [aR,if_pos rfl];exact Bb as
end
mutual
theorem v8:∀ {a b c:D},ltD a b=true->ltD b c=true->ltD a c=true
 | .int a,b,c,h1,h2=>by
  cases b <;> simp [ltD] at h1;cases c <;> simp [ltD] at h2 ⊢;omega
 | .tup a,b,c,h1,h2=>by
  cases b <;> simp [ltD] at h1;cases c <;> simp [ltD] at h2 ⊢;exact Df h1 h2
 | .non,b,c,h1,h2=>by simp [ltD] at h1
 | .bl _,b,c,h1,h2=>by simp [ltD] at h1
 | .str _,b,c,h1,h2=>by simp [ltD] at h1
 | .lst a,b,c,h1,h2=>by
  cases b <;> simp [ltD] at h1;cases c <;> simp [ltD] at h2 ⊢;exact Df h1 h2
 | .dct _ _,b,c,h1,h2=>by simp [ltD] at h1
theorem Df:∀ {a b c:List D},aR a b=true->aR b c=true->aR a c=true
 | [],b,c,h1,h2=>by
  cases c with
  | nil=>cases b <;> simp [aR] at h2
  | cons _ _=>simp [aR]
 | a::as,[],c,h1,h2=>by simp [aR] at h1
 | a::as,b::bs,[],h1,h2=>by simp [aR] at h2
 | a::as,b::bs,c::cs,h1,h2=>by
  rw [aR] at h1 h2 ⊢;by_cases hab:a=b
  .subst hab;rw [if_pos rfl] at h1;by_cases hbc:a=c
   .rw [if_pos hbc] at h2 ⊢;exact Df h1 h2
   .rw [if_neg hbc] at h2 ⊢;exact h2
  .rw [if_neg hab] at h1;by_cases hbc:b=c
   .subst hbc;rw [if_neg hab];exact h1
   .rw [if_neg hbc] at h2;have h3:=v8 h1 h2;by_cases hac:a=c
    .subst hac;rw [xV] at h3;cases h3
    .rw [if_neg hac];exact h3
end
variable {a b:D}
def JG (h:ltD a b=true):ltD b a=false:=by
 cases e:ltD b a with
 | false=>rfl
 | true =>
  have:=v8 h e;rw [xV] at this;cases this
mutual
theorem xZ:∀ {a b:D},bH a b=true->a=b\/ltD a b=true\/ltD b a=true
 | .int a,b,h=>by
  cases b <;> simp [bH] at h;simp [ltD];omega
 | .tup a,b,h=>by
  cases b <;> simp [bH] at h;rcases Bf h with e | e | e
  .exact .inl (by rw [e])
  .exact .inr (.inl (by rw [ltD];exact e))
  .exact .inr (.inr (by rw [ltD];exact e))
 | .non,b,h=>by simp [bH] at h
 | .bl _,b,h=>by simp [bH] at h
 | .str _,b,h=>by simp [bH] at h
 | .lst a,b,h=>by
  cases b <;> simp [bH] at h;rcases Bf h with e | e | e
  .exact .inl (by rw [e])
  .exact .inr (.inl (by rw [ltD];exact e))
  .exact .inr (.inr (by rw [ltD];exact e))
 | .dct _ _,b,h=>by simp [bH] at h
theorem Bf:∀ {a b:List D},dh a b=true->a=b\/aR a b=true\/aR b a=true
 | [],[],h=>.inl rfl
 | [],_::_,h=>.inr (.inl (by simp [aR]))
 | _::_,[],h=>.inr (.inr (by simp [aR]))
 | a::as,b::bs,h=>by
  rw [dh] at h;by_cases hab:a=b
  .subst hab;rw [if_pos rfl] at h;rcases Bf h with e | e | e
   .exact .inl (by rw [e])
   .exact .inr (.inl (by rw [aR,if_pos rfl];exact e))
   .exact .inr (.inr (by rw [aR,if_pos rfl];exact e))
  .rw [if_neg hab] at h;rcases xZ h with e | e | e
   .exact absurd e hab
   .exact .inr (.inl (by rw [aR,if_neg hab];exact e))
   .exact .inr (.inr (by rw [aR,if_neg (Ne.symm hab)];exact e))
end
def jX (ds:List D):Prop:=∀ a∈ds,∀ b∈ds,bH a b=true
def leD (a b:D):Prop:=ltD b a=false
def aaU {c:D} (h:bH b c=true) (h1:leD a b) (h2:leD b c):leD a c:=by
 unfold leD at *
 cases e:ltD c a with
 | false=>rfl
 | true =>
  rcases xZ h with z | z | z
  .subst z;rw [h1] at e;cases e
  .have:=v8 z e;rw [h1] at this;cases this
  .rw [h2] at z;cases z
def Wx (h:bH a b=true) (h1:leD a b) (h2:leD b a):a=b:=by
 unfold leD at *
 rcases xZ h with z | z | z
 .exact z
 .rw [h2] at z;cases z
 .rw [h1] at z;cases z
def Dg (d:D):List D->List D
 | []=>[d]
 | e::es=>if ltD e d=true then e::Dg d es else d::e::es
def nZ:List D->List D
 | []=>[]
 | d::ds=>Dg d (nZ ds)
theorem vP (d:D):∀ (es:List D),(Dg d es).Perm (d::es)
 | []=>List.Perm.refl _
 | e::es=>by
  unfold Dg;split
  .exact ((vP d es).cons e).trans (List.Perm.swap d e es)
  .exact List.Perm.refl _
theorem nH:∀ (ds:List D),(nZ ds).Perm ds
 | []=>List.Perm.refl _
 | d::ds=>(vP d (nZ ds)).trans ((nH ds).cons d)
theorem yQ {d:D}:∀ {es:List D},(∀ a∈d::es,∀ b∈d::es,bH a b=true)->es.Pairwise leD->(Dg d es).Pairwise leD
 | [],_,_=>List.pairwise_singleton _ _
 | e::es,hc,hs=>by
  obtain ⟨h1,h2⟩:=List.pairwise_cons.mp hs;unfold Dg;split
  .rename_i hlt;refine List.pairwise_cons.mpr ⟨fun x hx=>?_,yQ (fun a ha b hb=>hc a ?_ b ?_) h2⟩
   .rcases w6.mp ((vP d es).mem_iff.mp hx) with z | z
    .rw [z];exact JG hlt
    .exact h1 x z
   .rcases w6.mp ha with z | z
    .rw [z];simp
    .simp [z]
   .rcases w6.mp hb with z | z
    .rw [z];simp
    .simp [z]
  .rename_i hlt;have hle:leD d e:=by unfold leD;simpa using hlt
   refine List.pairwise_cons.mpr ⟨fun x hx=>?_,hs⟩;rcases w6.mp hx with z | z
   .rw [z];exact hle
   .exact aaU (hc e (by simp) x (by simp [z])) hle (h1 x z)
theorem xg:∀ {ds:List D},jX ds->(nZ ds).Pairwise leD
 | [],_=>List.Pairwise.nil
 | d::ds,h=>by
  refine yQ (fun a ha b hb=>h a ?_ b ?_) (xg fun a ha b hb=>h a (vy _ ha) b (vy _ hb))
  .rcases w6.mp ha with z | z
   .rw [z];simp
   .exact vy _ ((nH ds).mem_iff.mp z)
  .rcases w6.mp hb with z | z
   .rw [z];simp
   .exact vy _ ((nH ds).mem_iff.mp z)
theorem uW:∀ {as bs:List D},jX as->as.Perm bs->as.Pairwise leD->bs.Pairwise leD->as=bs
 | [],bs,_,p,_,_=>(List.Perm.nil_eq p)
 | a::as,[],_,p,_,_=>absurd p.length_eq (by simp)
 | a::as,b::bs,hc,p,s1,s2=>by
  obtain ⟨h1,h2⟩:=List.pairwise_cons.mp s1;obtain ⟨g1,g2⟩:=List.pairwise_cons.mp s2;have hb:b∈a::as:=p.mem_iff.mpr vz;have ha:a∈b::bs:=p.mem_iff.mp vz;have e:a=b:=by
   rcases w6.mp hb with z | z
   .exact z.symm
   .rcases w6.mp ha with y | y
    .exact y
    .exact Wx (hc a (by simp) b hb) (h1 b z) (g1 a y)
  subst e;rw [uW (fun a ha b hb=>hc a (List.mem_cons_of_mem _ ha) b (List.mem_cons_of_mem _ hb)) (List.Perm.cons_inv p) h2 g2]
variable {ds:List D}
def Hz {es:List D} (hc:jX ds) (p:es.Perm ds) (s:es.Pairwise leD):nZ ds=es:=by
 have hc':jX es:=fun a ha b hb=>hc a (p.mem_iff.mp ha) b (p.mem_iff.mp hb)
 exact (uW hc' (p.trans (nH ds).symm) s (xg hc)).symm
theorem countP_le {α:Type}{p q:α->Bool}:∀ (l:List α),(∀ x∈l,p x=true->q x=true)->l.countP p<=l.countP q
 | [],_=>v4 _
 | x::l,h=>by
  have ih:=countP_le l fun y hy=>h y (vy _ hy)
  have hx:=h x vz;rw [List.countP_cons,List.countP_cons];cases e:p x <;> cases f:q x <;> simp_all <;> omega
theorem Fd {α:Type}{p q:α->Bool}:∀ (l:List α),(∀ x∈l,p x=true->q x=true)->(∃ x∈l,q x=true/\p x=false)->l.countP p < l.countP q
 | [],_,h=>by obtain ⟨x,hx,_⟩:=h;simp at hx
 | x::l,h,⟨y,hy,h1,h2⟩=>by
  rw [List.countP_cons,List.countP_cons];rcases w6.mp hy with e | hy
  .subst e;have:=countP_le l fun z hz=>h z (vy _ hz)
   rw [h1,h2];simp;omega
  .have ih:=Fd l (fun z hz=>h z (vy _ hz)) ⟨y,hy,h1,h2⟩;have hx:=h x vz;cases e:p x <;> cases f:q x <;> simp_all <;> omega
def jj (ds:List D) (i:Nat):Int:=(((List.range ds.length).countP fun k=>ltD (ds.getD k .non) (ds.getD i .non):Nat):Int)
def LK (hc:jX ds) {i j:Nat} (hi:i < ds.length) (hj:j < ds.length):decide (jj ds i < jj ds j)=ltD (ds.getD i .non) (ds.getD j .non):=by
 have mem:∀ {k},k < ds.length->ds.getD k .non∈ds:=fun {k} hk=>by
  have e:ds.getD k .non=ds[k]:=by simp [hk]
  rw [e];exact List.getElem_mem hk
 unfold jj;cases e:ltD (ds.getD i .non) (ds.getD j .non) with
 | true =>
  have:=Fd (p:=fun k=>ltD (ds.getD k .non) (ds.getD i .non)) (q:=fun k=>ltD (ds.getD k .non) (ds.getD j .non)) (List.range ds.length) (fun x _ hx=>v8 hx e) ⟨i,by simpa using hi,e,xV _⟩;exact yi (by omega)
 | false =>
  have:(List.range ds.length).countP (fun k=>ltD (ds.getD k .non) (ds.getD j .non))<=(List.range ds.length).countP (fun k=>ltD (ds.getD k .non) (ds.getD i .non)):=by
   refine countP_le _ fun x hx h=>?_
   rcases xZ (hc _ (mem hi) _ (mem hj)) with z | z | z
   .rw [z];exact h
   .rw [e] at z;cases z
   .exact v8 h z
  exact yk (by omega)
end Mi
namespace Mi
open PySem L2 PySem.W
open PyProof.Rows hiding St
noncomputable def isInt:D->Bool
 | .int _=>true
 | _=>false
noncomputable def sV:D->Bool
 | .tup (.tup _::_)=>true
 | _=>false
def lstK:D->Bool
 | .lst ds=>bF ds
 | _=>false
def sU (ds:List D):Bool :=
 decide (ds.length < 64) && decide (deps ds<=20) && (ds.all fun a=>ds.all fun b=>bH a b) && ((bF ds && (decide (ds.length < 2) || ds.all sV)) || ds.all lstK)
structure SortOk (ds:List D):Prop where
 len:ds.length < 64
 dp:deps ds<=20
 cmp:jX ds
 kind:(bF ds=true/\(ds.length < 2\/ds.all sV=true))\/ds.all lstK=true
variable {ds:List D}
def uK (h:sU ds=true):SortOk ds:=by
 unfold sU at h;simp only [Bool.and_eq_true,Bool.or_eq_true,decide_eq_true_eq] at h;obtain ⟨⟨⟨h1,h3⟩,h4⟩,h5⟩:=h;refine ⟨h1,h3,fun a ha b hb=>?_,?_⟩
 .exact yB.mp (yB.mp h4 a ha) b hb
 .rcases h5 with ⟨k,h5⟩ | h5
  .refine .inl ⟨k,?_⟩;exact h5
  .exact .inr h5
variable {h:Heap}{i:Nat}
theorem aC.getD {us:zw} (r:aC h ds us)  (hi:i < ds.length):RpV h (ds.getD i .non) (us.getD i .none):=by
 have hl:=r.length;have e1:ds.getD i .non=ds[i]:=by simp [hi]
 have e2:us.getD i .none=us[i]:=by simp [show i < us.length by omega]
 rw [e1,e2];exact aC.get hi (by omega) r
def mem_getD (hi:i < ds.length):ds.getD i .non∈ds:=by
 have e1:ds.getD i .non=ds[i]:=by simp [hi]
 rw [e1];exact List.getElem_mem hi
def yc {d:D} (h:d∈ds):dep d<=deps ds:=by
 obtain ⟨i,hi2,e⟩:=List.getElem_of_mem h;rw [<- e];exact fD hi2
variable {vs:zw}{j:Nat}{C:Bool->Shared->Prop}{b:Bool}
section
variable {prog:Program}{w:World}{A:Around}{E:zn}{s:Shared}
theorem JR {b fin:Bool}{Q:Bool->Shared->Prop}:∀ {ds es:List D}{us vs:zw} (i:Nat),aC s.heap ds us->aC s.heap es vs->bF ds=true->bF es=true->dh ds es=true ->
  A.units+deps ds < cLine->A.units+deps es < cLine->(b=true->i=0->∀ d∈ds.head?,isInt d=true)->(b=true->i=0->∀ d∈es.head?,isInt d=true)->(ds=[]\/es=[]->fin=aR ds es)->(∀ ds' es',ds'.length+es.length=es'.length+ds.length->(ds'=[]\/es'=[])->fin=aR ds' es') ->
  Q (aR ds es) s->KatLex prog w A b fin Q (us.zip vs) i s
 | [],es,us,vs,i,r,q,k1,k2,c,h1,h2,f1,f2,hf,hg,h=>by
  rw [aC] at r;subst r;rw [List.zip_nil_left];refine kat_nil ?_;rw [hf (.inl rfl)];exact h
 | d::ds,[],us,vs,i,r,q,k1,k2,c,h1,h2,f1,f2,hf,hg,h=>by
  rw [aC] at q;subst q;rw [List.zip_nil_right];refine kat_nil ?_;rw [hf (.inr rfl)];exact h
 | d::ds,e::es,us,vs,i,r,q,k1,k2,c,h1,h2,f1,f2,hf,hg,h=>by
  rw [aC] at r q;obtain ⟨u,us',rfl,r0,rs⟩:=r;obtain ⟨v,vs',rfl,q0,qs⟩:=q;rw [bF,Bool.and_eq_true] at k1 k2;rw [dh] at c;rw [deps] at h1 h2;rw [aR] at h;rw [List.zip_cons_cons];refine kat_cons ?_;have he:=mQ d e (A:=A) (s:=s) r0 q0 (by omega) (by omega);rw [kY k1.1 k2.1] at he;refine he prog w _ _ ?_;by_cases hde:d=e
  .rw [decide_eq_true hde];rw [if_pos hde] at h c;refine kat_yes (JR (i+1) rs qs k1.2 k2.2 c (by omega) (by omega) (fun _ z=>by omega) (fun _ z=>by omega) (fun z=>hg ds es (by simp only [List.length_cons];omega) z) (fun ds' es' hl z=>hg ds' es' (by simp only [List.length_cons];omega) z) h)
  .rw [decide_eq_false hde];rw [if_neg hde] at h c;refine kat_no ?_;have lt:=Js d e (A:=A) (s:=s) k1.1 k2.1 c r0 q0 (by omega) (by omega);by_cases hb:(b && i == 0)=true
   .rw [hb];rw [Bool.and_eq_true] at hb;have i0:i=0:=by simpa using hb.2
    have d1:=f1 hb.1 i0 d (by simp);have e1:=f2 hb.1 i0 e (by simp);cases d <;> simp [isInt] at d1;cases e <;> simp [isInt] at e1;rw [RpV] at r0 q0;obtain ⟨t,rfl⟩:=r0;obtain ⟨t',rfl⟩:=q0;rw [ltD] at h;exact oneLt_int h
   .have hb':(b && i == 0)=false:=by simpa using hb
    rw [hb'];exact kat_one u v (lt prog w _ (PySem.W.BoolBack Q) h)
def YB (r:aC s.heap ds vs) (hall:ds.all lstK=true) (hc:jX ds) (hu:A.units+deps ds+2 < cLine)  (hi:i < ds.length) (hj:j < ds.length) (h:C (ltD (ds.getD i .non) (ds.getD j .non)) s) :
  kas_ask prog w A oneType' vs i j C s:=by
 unfold kas_ask;have r1:=r.getD hi;have r2:=r.getD hj;have m1:=mem_getD hi;have m2:=mem_getD hj;have t1:=yB.mp hall _ m1;have t2:=yB.mp hall _ m2;have c:=hc _ m1 _ m2;have d1:=yc m1;have d2:=yc m2
 revert r1 r2 t1 t2 c d1 d2 h
 generalize ds.getD i D.non=d;generalize ds.getD j D.non=e;generalize vs.getD i Value.none=u;generalize vs.getD j Value.none=v;intro h r1 r2 t1 t2 c d1 d2;cases d <;> try (cases t1;done)
 cases e <;> try (cases t2;done)
 rw [ltD] at h;rw [bH] at c;rw [keyLt'_oneType];exact RV t1 t2 c r1 r2 (by omega) (by omega) h
def Xp (r:aC s.heap ds vs) (hk:bF ds=true) (hc:jX ds) (hu:A.units+deps ds < cLine) (hall:∀ d∈ds,∃ x xs,d=.tup (x::xs)/\(b=true->isInt x=true))  (hi:i < ds.length) (hj:j < ds.length) (h:C (ltD (ds.getD i .non) (ds.getD j .non)) s) :
  kas_ask prog w A (tuples' b) vs i j C s:=by
 unfold kas_ask;have r1:=r.getD hi;have r2:=r.getD hj;have m1:=mem_getD hi;have m2:=mem_getD hj;have t1:=hall _ m1;have t2:=hall _ m2;have c:=hc _ m1 _ m2;have k1:=jL hk m1;have k2:=jL hk m2;have d1:=yc m1;have d2:=yc m2
 revert r1 r2 t1 t2 c k1 k2 d1 d2 h
 generalize ds.getD i D.non=d;generalize ds.getD j D.non=e;generalize vs.getD i Value.none=u;generalize vs.getD j Value.none=v;intro h r1 r2 t1 t2 c k1 k2 d1 d2;obtain ⟨x,xs,rfl,f1⟩:=t1;obtain ⟨y,ys,rfl,f2⟩:=t2;rw [RpV] at r1 r2;obtain ⟨a,its,rfl,⟨o,ho,_,n,hd⟩,rs⟩:=r1;obtain ⟨a2,its2,rfl,⟨o2,ho2,_,n2,hd2⟩,qs⟩:=r2;rw [keyOk] at k1 k2;rw [bH] at c;rw [dep] at d1 d2;rw [ltD] at h;refine kat_lt ho hd ho2 hd2 ?_;have l1:=rs.length;have l2:=qs.length;have key:∀ ds' es':List D,ds'.length+(y::ys).length=es'.length+(x::xs).length->(ds'=[]\/es'=[])->decide (its.toArray.size < its2.toArray.size)=aR ds' es':=by
  intro ds' es' hl z;have e1:its.toArray.size=(x::xs).length:=by simp only [List.size_toArray];omega
  have e2:its2.toArray.size=(y::ys).length:=by simp only [List.size_toArray];omega
  rw [e1,e2];rcases z with z | z
  .subst z;cases es' with
   | nil=>rw [aR];exact yk (by simp only [List.length_nil] at hl;omega)
   | cons _ _=>rw [aR];exact yi (by simp only [List.length_nil,List.length_cons] at hl ⊢;omega)
  .subst z;cases ds' with
   | nil=>rw [aR];exact yk (by simp only [List.length_nil] at hl;omega)
   | cons _ _=>rw [aR];exact yk (by simp only [List.length_nil,List.length_cons] at hl ⊢;omega)
 exact JR 0 rs qs k1 k2 c (by omega) (by omega) (fun hb _ z hz=>by simp at hz;subst hz;exact f1 hb) (fun hb _ z hz=>by simp at hz;subst hz;exact f2 hb) (fun z=>key _ _ (by omega) z) key h
theorem Ml:∀ {ds:List D}{vs:zw},aC s.heap ds vs->(∀ d∈ds,∃ x xs,d=.tup (x::xs))->∃ fs,KatTups s.heap vs fs/\aC s.heap (ds.map fun d=>match d with | .tup (x::_)=>x | _=>.non) fs
 | [],vs,r,_=>by
  rw [aC] at r;subst r;exact ⟨[],KatTups.nil,by simp [aC]⟩
 | d::ds,vs,r,h=>by
  rw [aC] at r;obtain ⟨y,ys,rfl,r0,rs⟩:=r;obtain ⟨fs,t,q⟩:=Ml rs fun d hd=>h d (vy _ hd)
  obtain ⟨x,xs,rfl⟩:=h d vz;rw [RpV] at r0;obtain ⟨a,its,rfl,⟨o,ho,hc,n,hd⟩,is⟩:=r0;rw [aC] at is;obtain ⟨f,its',rfl,rf,is'⟩:=is;refine ⟨f::fs,KatTups.cons ho hc hd (by simp) t,?_⟩;rw [List.map_cons,aC];exact ⟨f,fs,rfl,rf,q⟩
theorem type_of {M:Model}{h:Heap}{p:D->Bool}{T:Value} (hT:∀ d u,p d=true->RpV h d u->Looks M h (typeOf u) T):∀ {ds:List D}{vs:zw},aC h ds vs->ds.all p=true->∀ v∈vs,Looks M h (typeOf v) T
 | [],vs,r,_,v,hv=>by rw [aC] at r;subst r;simp at hv
 | d::ds,vs,r,hp,v,hv=>by
  rw [aC] at r;obtain ⟨y,ys,rfl,r0,rs⟩:=r;rw [List.all_cons,Bool.and_eq_true] at hp;rcases w6.mp hv with e | hv
  .rw [e];exact hT d y hp.1 r0
  .exact type_of (ds:=ds) (vs:=ys) hT rs hp.2 v hv
noncomputable def isTup:D->Bool
 | .tup _=>true
 | _=>false
def U5 {M:Model} (d:D) (u:Value) (p:isTup d=true) (r:RpV h d u):Looks M h (typeOf u) (.type "tuple"):=by
 cases d <;> simp [isTup] at p;rw [RpV] at r;obtain ⟨a,its,rfl,⟨o,ho,hc,n,hd⟩,is⟩:=r;have l:Looks M h (typeOf (.ref a)) o.cls:=(Looks.ld ho).andThen .now;rw [hc] at l;exact l
def WD {M:Model} (d:D) (u:Value) (p:lstK d=true) (r:RpV h d u):Looks M h (typeOf u) (.type "list"):=by
 cases d <;> try (cases p;done)
 rw [RpV] at r;obtain ⟨a,its,rfl,⟨o,ho,hc,n,hd⟩,is⟩:=r;have l:Looks M h (typeOf (.ref a)) o.cls:=(Looks.ld ho).andThen .now;rw [hc] at l;exact l
def Rh {G:Array Nat->Shared->Prop} (S:SortOk ds) (h2:2<=ds.length) (r:aC s.heap ds vs) (hu:A.units+40 < cLine)
  (hG:∀ p,PB ds.length p->kO (jj ds) p ds.length->G p s) :
  wpAny (model prog w) A (keyKind' vs.toArray) (fun κ s'=>(kas_sort vs.length).kasWp (kas_ask prog w A κ vs) G s') E s:=by
 have hl:=r.length;have fin:∀ κ:SortKind,(∀ (i j:Nat) (C:Bool->Shared->Prop),i < ds.length->j < ds.length->C (ltD (ds.getD i .non) (ds.getD j .non)) s->kas_ask prog w A κ vs i j C s)->(kas_sort vs.length).kasWp (kas_ask prog w A κ vs) G s:=by
  intro κ hk;rw [<- hl];refine dJ.wp (r:=jj ds) (N:=ds.length) (fun i j C hi hj hc=>hk i j C hi hj ?_) (Em (ab6 (by omega)) fun p hp=>hG p hp.1 hp.2);rw [LK S.cmp hi hj] at hc;exact hc
 have hdp:=S.dp;rcases S.kind with ⟨key,k⟩ | k
 rotate_left
 .refine kas_kind (by omega) (type_of (p:=lstK) WD r k) (by decide) (by decide) ?_;exact fin _ fun i j C hi hj hc=>YB r k S.cmp (by omega) hi hj hc
 rcases k with k | k
 .omega
 .have hall:∀ d∈ds,∃ x xs,d=.tup (x::xs)/\isTup x=true:=fun d hd=>by
   have:=yB.mp k d hd;cases d <;> simp [sV] at this;rename_i l;cases l with
   | nil=>simp [sV] at this
   | cons x xs=>exact ⟨x,xs,rfl,by cases x <;> simp [sV,isTup] at this ⊢⟩
  obtain ⟨fs,t,q⟩:=Ml (ds:=ds) (vs:=vs) r fun d hd=>let ⟨x,xs,e,_⟩:=hall d hd;⟨x,xs,e⟩
  have ql:=q.length;rw [List.length_map] at ql;refine kat_kind (T:=.type "tuple") t (by omega) (type_of (p:=isTup) U5 q ?_) (by decide) ?_
  .rw [List.all_map,List.all_eq_true];intro d hd;obtain ⟨x,xs,rfl,hx⟩:=hall d hd;exact hx
  .exact fin _ fun i j C hi hj hc=>Xp r key S.cmp (by omega) (fun d hd=>let ⟨x,xs,e,z⟩:=hall d hd;⟨x,xs,e,fun hb=>by simp at hb⟩) hi hj hc
def Tz {a:Addr}{n:Nat}{P:PySem.Fin -> Shared -> Prop} (ho:s.heap.get? a=some (seqObj "list" vs.toArray n)) (S:SortOk ds) (hkp:∀ h':Heap,(∀ b o,b ≠ a -> s.heap.get? b=some o -> h'.get? b=some o) -> aC h' ds vs) (hu:A.units+40 < cLine)
  (h:∀ p:Array Nat,PB ds.length p->kO (jj ds) p ds.length->P (.done (.ret .none)) { s with heap:=sortedHeap s.heap a vs (List.toArray (p.toList.map fun i=>vs.getD i Value.none)) }) :
  wpAny (model prog w) A (Builtin.«list.sort» ⟨[.ref a],[]⟩) P E s:=by
 have r:=hkp s.heap fun _ _ _ e=>e
 have hl:=r.length;have h64:vs.length < 64:=by have:=S.len;omega
 rw [list_sort_plain];have ha:a < s.heap.objs.size:=v3 ho;refine vw (listItems_at ho rfl ?_);refine vw (listUpdate_at ho rfl ?_ (by rw [List.size_toArray,sizeLine_eq];omega) (ye _));obtain ⟨e1,ho1⟩:∃ e1,(s.heap.update a (Obj.mapSeq fun _=>(#[]:vj))).get? a=some (seqObj "list" #[] e1):=⟨_,get?_update_seq ho fun _=>#[]⟩
 refine vw (seqEpoch_at ho1 rfl ?_);refine vw (wpAny_newTuple ?_ (by show vs.length<=_;rw [sizeLine_eq];omega));refine vw (wpAny_newList ?_ (ye _));refine wpAny_holding ?_;have ho6:(((s.heap.update a (Obj.mapSeq fun _=>(#[]:vj))).push (seqObj "tuple" vs.toArray 0)).push (seqObj "list" #[] 0)).get? a=some (seqObj "list" #[] e1):=by
  rw [Heap.get?_push_ne _ _ _ (by rw [size_push',Heap.size_update];exact Nat.ne_of_lt (Nat.lt_succ_of_lt ha)),Heap.get?_push_ne _ _ _ (by rw [Heap.size_update];exact Nat.ne_of_lt ha)];exact ho1
 show wpAny (model prog w) A _ P E { s with heap:=((s.heap.update a (Obj.mapSeq fun _=>(#[]:vj))).push (seqObj "tuple" vs.toArray 0)).push (seqObj "list" #[] 0) }
 dsimp only;have hsz:vs.toArray.size=vs.length:=by simp
 have tail:∀ (p:Array Nat) (st':SortSt),p.size=vs.length->(arrOf st').map (·.2)=List.toArray (p.toList.map fun i=>vs.getD i Value.none)->failedOf st'=none->PB ds.length p->kO (jj ds) p ds.length ->
   wpAny (model prog w) A (do
    let touched:=(<- seqEpoch a) != e1
    Builtin.List.listUpdate (.ref a) fun _=>(arrOf st').map (·.2)
    if let some e:=failedOf st' then rule "list.sort.comparison-raised"; throw e
    if touched then rule "list.sort.modified"; raiseError "ValueError" "list modified during sort"
    ret .none) P E { s with heap:=((s.heap.update a (Obj.mapSeq fun _=>(#[]:vj))).push (seqObj "tuple" vs.toArray 0)).push (seqObj "list" #[] 0) }:=by
  intro p st' hp hout hf pb so;refine vw (seqEpoch_at ho6 rfl ?_);rw [hout];refine vw (listUpdate_at ho6 rfl ?_ (ye _) (by rw [List.size_toArray,List.length_map,Array.length_toList,hp,sizeLine_eq];omega));rw [hf];simp only [bne_self_eq_false,Bool.false_eq_true,if_false];exact vx (h p pb so)
 by_cases h2:vs.toArray.size < 2
 .rw [if_pos h2,if_pos h2];refine vw (vx ?_);rw [StateT.run_pure];refine vw (vx ?_);dsimp only;have hp:(List.toArray (List.range ds.length)).size=vs.length:=by simp;omega
  refine tail (List.toArray (List.range ds.length)) (SortSt.mk' general' (vs.toArray.zip vs.toArray) #[] 7 none) hp ?_ rfl ⟨Array.Perm.refl _⟩ fun i j hij hj=>?_
  .show (vs.toArray.zip vs.toArray).map (·.2)=_
   rw [hl];apply Array.toList_inj.mp;rw [hsz] at h2
   match vs,h2 with
   | [],_=>simp
   | [v],_=>simp [List.range_succ]
  .have:i=j:=by rw [hsz] at h2;omega
   subst this;exact Int.le_refl _
 .rw [if_neg h2,if_neg h2];have r2:=hkp (((s.heap.update a (Obj.mapSeq fun _=>(#[]:vj))).push (seqObj "tuple" vs.toArray 0)).push (seqObj "list" #[] 0)) fun b o hba q=>vS _ (vS _ ((yl _ _ (Ne.symm hba)).trans q))
  refine vw (wpAny_mono (Rh (E:=fun _ _=>False) (s:={ s with heap:=((s.heap.update a (Obj.mapSeq fun _=>(#[]:vj))).push (seqObj "tuple" vs.toArray 0)).push (seqObj "list" #[] 0) })
   (G:=fun p s'=>(PB ds.length p /\ kO (jj ds) p ds.length) /\ s'={ s with heap:=((s.heap.update a (Obj.mapSeq fun _=>(#[]:vj))).push (seqObj "tuple" vs.toArray 0)).push (seqObj "list" #[] 0) })
   S (by rw [hsz] at h2;omega) r2 hu fun p p1 p2=>⟨⟨p1,p2⟩,rfl⟩) (fun κ s0 hk=>?_) fun _ _ x=>x.elim)
  refine vw (wpAny_mono (kat_run (Q:=fun st' s'=>∃ p:Array Nat,p.size=vs.length /\ arrOf st'=p.map (kas_item (vs.toArray.zip vs.toArray)) /\ failedOf st'=none /\ (PB ds.length p /\ kO (jj ds) p ds.length) /\ s'={ s with heap:=((s.heap.update a (Obj.mapSeq fun _=>(#[]:vj))).push (seqObj "tuple" vs.toArray 0)).push (seqObj "list" #[] 0) })
   rfl (by rw [hsz] at h2;omega) h64 (fun p' st' s' a1 a2 a3 a4=>⟨p',a1,a2,a3,a4⟩) hk) ?_ fun _ _ e=>e)
  rintro ⟨⟨⟩,st'⟩ s' ⟨p,hp,har,hf,⟨pb,so⟩,rfl⟩;dsimp only;exact tail p st' hp (kat_snds rfl har) hf pb so
end
end Mi
namespace Mi
open PySem L2
open PyProof.Rows hiding St
structure G where
 P:Program
 w:World
 K:zt
def DAt (g:G) (a:Addr) (xs:List (D × Addr × Value)) (ys:List V) (ep:Nat) (h:Heap):Prop :=
 (a == sysModules)=false/\xs.length<=sizeLine/\Vals ys (xs.map (·.2.2)) /\
  ∃ o es,h.get? a=some o/\o.ExactDict/\o.data=.dict es ep/\es.toList=xs.map (entryOfKey (gY false g.P g.w))/\(xs.map (·.1)).Nodup
mutual
noncomputable def Rp (g:G) (H:Hp):D->V->Prop
 | .non,v=>v=.non
 | .bl b,v=>v=.bl b
 | .int i,v=>v=.int i
 | .str x,v=>v=.str x
 | .tup ds,v=>∃ a xs,v=.ref a/\SqT g.K H a xs/\Rps g H ds xs
 | .lst ds,v=>∃ a xs,v=.ref a/\SqL g.K H a xs/\Rps g H ds xs
 | .dct ks vs,v=>∃ a xs ys ep,v=.ref a/\H a=some (.ext (DAt g a xs ys ep))/\ks=xs.map (·.1)/\Rps g H ks (xs.map fun x=>V.ref x.2.1)/\Rps g H vs ys
noncomputable def Rps (g:G) (H:Hp):List D->List V->Prop
 | [],xs=>xs=[]
 | d::ds,xs=>∃ y ys,xs=y::ys/\Rp g H d y/\Rps g H ds ys
end
variable {K:zt}{H H':Hp}{a:Addr}{xs:List V}
theorem aN (e:Same H H') (h:SqL K H a xs):SqL K H' a xs:=e.seq h
theorem aP (e:Same H H') (h:SqT K H a xs):SqT K H' a xs:=Am h fun o _ q=>e a o q
mutual
theorem Rp.mono {g:G}{H H':Hp}:∀ {d:D}{v:V},Same H H'->Rp g H d v->Rp g H' d v
 | .non,v,e,r=>by rw [Rp] at r ⊢;exact r
 | .bl _,v,e,r=>by rw [Rp] at r ⊢;exact r
 | .int _,v,e,r=>by rw [Rp] at r ⊢;exact r
 | .str _,v,e,r=>by rw [Rp] at r ⊢;exact r
 | .tup ds,v,e,r=>by
  rw [Rp] at r ⊢;obtain ⟨a,xs,rfl,q,rs⟩:=r;exact ⟨a,xs,rfl,aP e q,Rps.mono e rs⟩
 | .lst ds,v,e,r=>by
  rw [Rp] at r ⊢;obtain ⟨a,xs,rfl,q,rs⟩:=r;exact ⟨a,xs,rfl,aN e q,Rps.mono e rs⟩
 | .dct ks vs,v,e,r=>by
  rw [Rp] at r ⊢;obtain ⟨a,xs,ys,ep,rfl,q,ek,r1,r2⟩:=r;exact ⟨a,xs,ys,ep,rfl,e a _ q,ek,Rps.mono e r1,Rps.mono e r2⟩
theorem Rps.mono {g:G}{H H':Hp}:∀ {ds:List D}{vs:List V},Same H H'->Rps g H ds vs->Rps g H' ds vs
 | [],vs,e,r=>by rw [Rps] at r ⊢;exact r
 | d::ds,vs,e,r=>by
  rw [Rps] at r ⊢;obtain ⟨y,ys,rfl,r0,rs⟩:=r;exact ⟨y,ys,rfl,Rp.mono e r0,Rps.mono e rs⟩
end
theorem Rps.length {g:G}{H:Hp}:∀ {ds:List D}{vs:List V},Rps g H ds vs->ds.length=vs.length
 | [],vs,r=>by rw [Rps] at r;subst r;rfl
 | d::ds,vs,r=>by
  rw [Rps] at r;obtain ⟨y,ys,rfl,_,r⟩:=r;simp [Rps.length r]
theorem Rps.getD {g:G}{H:Hp}:∀ {ds:List D}{vs:List V}{i:Nat}{d:D},Rps g H ds vs->ds[i]?=some d->∃ v,vs[i]?=some v/\Rp g H d v
 | [],vs,i,d,r,h=>by simp at h
 | d0::ds,vs,i,d,r,h=>by
  rw [Rps] at r;obtain ⟨y,ys,rfl,r0,rs⟩:=r;cases i with
  | zero=>simp at h;subst h;exact ⟨y,rfl,r0⟩
  | succ i =>
   simp only [List.getElem?_cons_succ] at h;obtain ⟨v,e,q⟩:=Rps.getD rs h;exact ⟨v,by simpa using e,q⟩
variable {g:G}
theorem Rps.append :∀ {ds es:List D}{vs ws:List V},Rps g H ds vs->Rps g H es ws->Rps g H (ds++es) (vs++ws)
 | [],es,vs,ws,r,q=>by rw [Rps] at r;subst r;exact q
 | d::ds,es,vs,ws,r,q=>by
  rw [Rps] at r;obtain ⟨y,ys,rfl,r0,rs⟩:=r;rw [List.cons_append,Rps];exact ⟨y,ys++ws,rfl,r0,rs.append q⟩
theorem Rps.nil :Rps g H [] []:=by rw [Rps]
variable {d:D}{v:V}{ds:List D}{vs:List V}
theorem Rps.cons (r:Rp g H d v) (rs:Rps g H ds vs):Rps g H (d::ds) (v::vs):=by
 rw [Rps];exact ⟨v,vs,rfl,r,rs⟩
theorem Rps.one (r:Rp g H d v):Rps g H [d] [v]:=Rps.cons r Rps.nil
theorem Rps.cons_inv (r:Rps g H (d::ds) vs):∃ v ws,vs=v::ws/\Rp g H d v/\Rps g H ds ws:=by rw [Rps] at r;exact r
theorem Rps.nil_inv (r:Rps g H [] vs):vs=[]:=by rw [Rps] at r;exact r
theorem Rps.take {g:G}{H:Hp}:∀ {ds:List D}{vs:List V} (n:Nat),Rps g H ds vs->Rps g H (ds.take n) (vs.take n)
 | [],vs,n,r=>by rw [r.nil_inv];simp [Rps]
 | d::ds,vs,0,r=>by simp [Rps]
 | d::ds,vs,n+1,r=>by
  obtain ⟨v,ws,rfl,r0,rs⟩:=r.cons_inv;exact Rps.cons r0 (Rps.take n rs)
theorem Rps.drop {g:G}{H:Hp}:∀ {ds:List D}{vs:List V} (n:Nat),Rps g H ds vs->Rps g H (ds.drop n) (vs.drop n)
 | [],vs,n,r=>by rw [r.nil_inv];simp [Rps]
 | d::ds,vs,0,r=>r
 | d::ds,vs,n+1,r=>by
  obtain ⟨v,ws,rfl,r0,rs⟩:=r.cons_inv;exact Rps.drop n rs
section
variable {X:Cx}{pins:w4}{σ:St}{H:Hp}{s:Shared}
noncomputable abbrev gOf (X:Cx):G:=⟨X.prog,X.w,X.K⟩
mutual
theorem rpV (I:Inv X pins σ H s):∀ {d:D}{v:V}{u:Value},dep d < 1000->Rp (gOf X) H d v->RelV v u->RpV s.heap d u
 | .non,v,u,hd,r,q=>by rw [Rp] at r;subst r;rw [RpV];exact q
 | .bl _,v,u,hd,r,q=>by rw [Rp] at r;subst r;rw [RpV];exact q
 | .int _,v,u,hd,r,q=>by rw [Rp] at r;subst r;rw [RpV];exact q
 | .str _,v,u,hd,r,q=>by rw [Rp] at r;subst r;rw [RpV];exact q
 | .tup ds,v,u,hd,r,q=>by
  rw [Rp] at r;obtain ⟨a,xs,rfl,sq,rs⟩:=r;cases q;obtain ⟨its,rv,p,hz⟩:=I.tuple sq;rw [RpV];rw [dep] at hd;exact ⟨a,its,rfl,p,CK I (by omega) rs rv⟩
 | .lst ds,v,u,hd,r,q=>by
  rw [Rp] at r;obtain ⟨a,xs,rfl,sq,rs⟩:=r;cases q;obtain ⟨its,rv,p,hz⟩:=I.list sq;rw [RpV];rw [dep] at hd;exact ⟨a,its,rfl,p.isList,CK I (by omega) rs rv⟩
 | .dct _ _,v,u,hd,r,q=>by rw [dep] at hd;omega
theorem CK (I:Inv X pins σ H s):∀ {ds:List D}{vs:List V}{us:zw},deps ds < 1000->Rps (gOf X) H ds vs->Vals vs us->aC s.heap ds us
 | [],vs,us,hd,r,q=>by rw [r.nil_inv] at q;cases q;rw [aC]
 | d::ds,vs,us,hd,r,q=>by
  obtain ⟨v,ws,rfl,r0,rs⟩:=r.cons_inv;rw [deps] at hd;cases q with
  | cons q0 qs =>
   rw [aC];exact ⟨_,_,rfl,rpV I (by omega) r0 q0,CK I (by omega) rs qs⟩
end
end
structure Grow (H Hs H' Hs':Hp):Prop where
 keep:∀ a o,H a=some o->H' a=some o
 old:∀ a o,H a=some o->Hs' a=Hs a
 sub:Same Hs' H'
variable {Hs:Hp}
theorem Grow.refl (h:Same Hs H):Grow H Hs H Hs:=⟨fun _ _ q=>q,fun _ _ _=>rfl,h⟩
theorem Grow.trans {H1 Hs1 H2 Hs2:Hp} (a:Grow H Hs H1 Hs1) (b:Grow H1 Hs1 H2 Hs2):Grow H Hs H2 Hs2 :=
 ⟨fun c o q=>b.keep c o (a.keep c o q),fun c o q=>(b.old c o (a.keep c o q)).trans (a.old c o q),b.sub⟩
theorem Grow.same {Hs':Hp} (g:Grow H Hs H' Hs') (h:Same Hs H):Same Hs Hs':=fun a o q=>by rw [g.old a o (h a o q)];exact q
variable {p:Addr}{o:HO}
theorem Grow.new (h:Same Hs H) (hp:H p=none):Grow H Hs (upd H p o) (upd Hs p o):=by
 refine ⟨fun a u q=>by rw [ao (ak q hp)];exact q,fun a u q=>by rw [ao (ak q hp)],fun a u q=>?_⟩;by_cases e:a=p
 .subst e;rw [aB] at q ⊢;exact q
 .rw [ao e] at q ⊢;exact h a u q
theorem Grow.own (h:Same Hs H) (hp:H p=none):Grow H Hs (upd H p o) Hs:=by
 refine ⟨fun a u q=>by rw [ao (ak q hp)];exact q,fun a u q=>rfl,fun a u q=>?_⟩;rw [ao (ak (h a u q) hp)];exact h a u q
end Mi
namespace Mi
open PySem L2
open PyProof.Rows hiding St
variable {h:Heap}{x k v:D}{b:Addr}{H:Hp}{u:Value}{y:V}
section
variable {X:Cx}
def Dz {a b:D} (h:bN a b=true):(dep a<=30/\dep b<=30)/\like a b=true:=by
 unfold bN at h;simpa using h
def aaX (X:Cx):R2:=fun x y H Q=>∃ d e,Rp (gOf X) H d x/\Rp (gOf X) H e y/\bN d e=true/\Q (.bl (aF d e)) H
def aaM (X:Cx):R2:=fun x y H Q=>∃ d e,Rp (gOf X) H d x/\Rp (gOf X) H e y/\bN d e=true/\Q (.bl (!aF d e)) H
def ZG (hu:X.A.units+100 < cLine):OpR X (compareOp .Eq) (aaX X):=by
 intro pins s σ H x y v u Q I rx ry h;obtain ⟨d,e,r1,r2,hf,q⟩:=h;obtain ⟨⟨f1,f2⟩,k⟩:=Dz hf;exact Z6 d e k (rpV I (by omega) r1 rx) (rpV I (by omega) r2 ry) (by omega) (by omega) _ _ _ _ ⟨.bl (aF d e),H,I,rfl,q⟩
def aaV (hu:X.A.units+100 < cLine):OpR X (compareOp .NotEq) (aaM X):=by
 intro pins s σ H x y v u Q I rx ry h;obtain ⟨d,e,r1,r2,hf,q⟩:=h;obtain ⟨⟨f1,f2⟩,k⟩:=Dz hf;exact Xk d e k (rpV I (by omega) r1 rx) (rpV I (by omega) r2 ry) (by omega) (by omega) _ _ _ _ ⟨.bl (!aF d e),H,I,rfl,q⟩
open Classical in
def eOf (h:Heap) (x:D) (y:Value):Bool:=if p:∃ d,RpV h d y then aF (Classical.choose p) x else false
def R0 {d:D}{y:Value} (r:RpV h d y):eOf h x y=aF d x:=by
 unfold eOf;have p:∃ d,RpV h d y:=⟨d,r⟩;rw [dif_pos p,RpV.inj (Classical.choose_spec p) r]
theorem CW {h:Heap}{x:D}:∀ {ds:List D}{us:zw},aC h ds us->us.any (eOf h x)=ds.any fun d=>aF d x
 | [],us,r=>by rw [aC] at r;subst r;rfl
 | d::ds,us,r=>by
  rw [aC] at r;obtain ⟨y,ys,rfl,r0,rs⟩:=r;rw [List.any_cons,List.any_cons,R0 r0,CW rs]
theorem CG {A:Around}{s:Shared}{x:D}{v:Value} (rx:RpV s.heap x v) (hx:A.units+dep x < cLine):∀ {ds:List D}{us:zw},aC s.heap ds us->A.units+deps ds < cLine->∀ y∈us,SeqAt.EqAt A s y v (eOf s.heap x y)
 | [],us,r,_,y,hy=>by rw [aC] at r;subst r;simp at hy
 | d::ds,us,r,hd,y,hy=>by
  rw [aC] at r;obtain ⟨z,ys,rfl,r0,rs⟩:=r;rw [deps] at hd;rcases w6.mp hy with e | hy
  .subst e;rw [R0 r0];exact mQ d x r0 rx (by omega) hx
  .exact CG rx hx rs (by omega) y hy
def Vm {ds:List D}{n:Nat}:(∀ d∈ds,dep d<=n)->deps ds<=n:=by
 induction ds with
 | nil=>intro _;simp [deps]
 | cons d ds ih =>
  intro h;rw [deps];have h1:=h d vz;have h2:=ih fun x hx=>h x (vy _ hx)
  omega
def Ux (X:Cx) (neg:Bool):R2:=fun x y H Q=>∃ d ds p xs,Rp (gOf X) H d x/\y=.ref p/\(SqL X.K H p xs\/SqT X.K H p xs)/\Rps (gOf X) H ds xs/\(ds.all fun e=>bN e d)=true/\dep d<=30 /\
 Q (.bl (if neg then !(ds.any fun e=>aF e d) else ds.any fun e=>aF e d)) H
def Qn (hu:X.A.units+100 < cLine):OpR X (compareOp .NotIn) (Ux X true):=by
 intro pins s σ H x y v u Q I rx ry h;obtain ⟨d,ds,p,xs,r1,rfl,sq,rs,hf,hd,q⟩:=h;cases ry;have dd:deps ds<=30:=Vm fun e he=>(Dz (yB.mp hf e he)).1.1
 have rx':=rpV I (by omega) r1 rx;have hin:X.A.in1.units=X.A.units+1:=rfl;rcases sq with sq | sq
 .obtain ⟨its,rv,pl,hz⟩:=I.list sq;have rs':=CK I (by omega) rs rv;refine SeqAt.notIn_listAt (eOf s.heap d) pl.isList (fun z hz=>CG rx' (by omega) rs' (by omega) z (by simpa using hz)) ?_;refine ⟨.bl _,H,I,rfl,?_⟩;rw [List.any_toArray,CW rs'];exact q
 .obtain ⟨its,rv,pl,hz⟩:=I.tuple sq;have rs':=CK I (by omega) rs rv;refine SeqAt.notIn_tupleAt (eOf s.heap d) pl (fun z hz=>CG rx' (by omega) rs' (by omega) z (by simpa using hz)) ?_;refine ⟨.bl _,H,I,rfl,?_⟩;rw [List.any_toArray,CW rs'];exact q
structure DictR (X:Cx) (H:Hp) (a:Addr) (ks:List D) (xs:List (D × Addr × Value)) (ys:List V):Prop where
 at_:∃ ep,H a=some (.ext (DAt (gOf X) a xs ys ep))
 keys:ks=xs.map (·.1)
 rep:Rps (gOf X) H ks (xs.map fun x=>V.ref x.2.1)
theorem Ju {g:G}{H:Hp}:∀ {xs:List (D × Addr × Value)},Rps g H (xs.map (·.1)) (xs.map fun x=>V.ref x.2.1)->∀ x∈xs,Rp g H x.1 (.ref x.2.1)
 | [],r,x,hx=>by simp at hx
 | y::ys,r,x,hx=>by
  rw [List.map_cons,List.map_cons] at r;obtain ⟨v,ws,e,r0,rs⟩:=r.cons_inv;cases e;rcases w6.mp hx with e | hx
  .rw [e];exact r0
  .exact Ju rs x hx
section
variable {pins:w4}{σ:St}{H:Hp}{s:Shared}{a:Addr}{ks:List D}{xs:List (D × Addr × Value)}{ys:List V}
def JZ (I:Inv X pins σ H s) (d:DictR X H a ks xs ys):s.TypeIs (.ref a) "dict" /\ ∃ o:Obj,s.heap.get? a=some o /\ o.dict=none:=by
 obtain ⟨ep,dat⟩:=d.at_;obtain ⟨⟨h1,h2,h3,o,es,h4,h5,h6,h7,h8⟩,_⟩:=(show cD X.prog X.w H s.heap a (.ext (DAt (gOf X) a xs ys ep)) from I.hok a _ dat);exact ⟨⟨o,h4,h5.1⟩,o,h4,h5.2.1⟩
def dictOf (I:Inv X pins σ H s) (d:DictR X H a ks xs ys) (hk:kOk ks k=true):∃ kb,vW kb k=true/\(a == sysModules)=false/\xs.length<=sizeLine/\Vals ys (xs.map (·.2.2))/\s.heap.DictOfH (gY kb X.prog X.w) a xs:=by
 obtain ⟨ep,dat⟩:=d.at_;obtain ⟨⟨h1,h2,h3,o,es,h4,h5,h6,h7,h8⟩,_⟩:=(show cD X.prog X.w H s.heap a (.ext (DAt (gOf X) a xs ys ep)) from I.hok a _ dat);obtain ⟨kb,hb,hc⟩:=Yh hk;refine ⟨kb,hb,h1,h2,h3,o,es,ep,h4,h5,h6,h7,fun x hx=>?_,h8⟩;have hk:=fX (hc x.1 (by rw [d.keys];exact yo.mpr ⟨x,hx,rfl⟩));have rep:=d.rep;rw [d.keys] at rep;exact ⟨hk.1,hk.2.1,rpV I (by omega) (Ju rep x hx) rfl⟩
def yd {kb:Bool} (I:Inv X pins σ H s) (hk:vW kb k=true) (r:Rp (gOf X) H k (.ref b)):(gY kb X.prog X.w).is s.heap k b:=by
 have h:=fX hk;exact ⟨h.1,h.2.1,rpV I (by omega) r rfl⟩
def Cq :(atKey xs k).isSome=decide (k∈xs.map (·.1)):=by
 unfold atKey;rw [Option.isSome_map,Bool.eq_iff_iff,List.find?_isSome,decide_eq_true_iff,List.mem_map];constructor
 .rintro ⟨x,hx,e⟩;exact ⟨x,hx,of_decide_eq_true e⟩
 .rintro ⟨x,hx,e⟩;exact ⟨x,hx,yi e⟩
end
def OJ (X:Cx) (neg:Bool):R2:=fun x y H Q=>∃ k a ks xs ys,Rp (gOf X) H k x/\kOk ks k=true/\y=.ref a/\DictR X H a ks xs ys/\Q (.bl (if neg then !decide (k∈ks) else decide (k∈ks))) H
def NZ (hu:X.A.units+100 < cLine):OpR X (compareOp .NotIn) (OJ X true):=by
 intro pins s σ H x y v u Q I rx ry h;obtain ⟨k,a,ks,xs,ys,r1,hk,rfl,d,q⟩:=h;cases ry;obtain ⟨kb,hkb,h1,h2,h3,h4⟩:=dictOf I d hk;obtain ⟨_,_,ds,rfl⟩:=fX hkb;rw [Rp] at r1;obtain ⟨b,zs,rfl,sq,rs⟩:=id r1;cases rx;have hin:X.A.in1.units=X.A.units+1:=rfl;refine wpAny_notIn_heap (knd:=gY kb X.prog X.w) (by show X.A.in1.units+10 < cLine;omega) (yd I hkb (by rw [Rp];exact ⟨b,zs,rfl,sq,rs⟩)) h1 h4 ?_;refine ⟨.bl _,H,I.tok _,rfl,?_⟩;rw [Cq,<- d.keys];exact q
noncomputable def iU (ks vs:List D) (k v:D):List D × List D:=if k∈ks then (ks,(ks.zip vs).map fun p=>if p.1=k then v else p.2) else (ks++[k],vs++[v])
noncomputable def lu (xs:List (D × Addr × Value)) (ys:List V) (k:D) (b:Addr) (u:Value) (y:V):List (D × Addr × Value) × List V :=
 if k∈xs.map (·.1) then (xs.map (putAt k u),((xs.map (·.1)).zip ys).map fun p=>if p.1=k then y else p.2) else (xs++[(k,b,u)],ys++[y])
theorem G7 {g:G}{H:Hp}{k:D}{v:D}{y:V} (r:Rp g H v y):∀ {ks vs:List D}{ys:List V},ks.length=vs.length->Rps g H vs ys->Rps g H ((ks.zip vs).map fun p=>if p.1=k then v else p.2) ((ks.zip ys).map fun p=>if p.1=k then y else p.2)
 | [],vs,ys,hl,q=>by simp [Rps]
 | c::ks,[],ys,hl,q=>by simp at hl
 | c::ks,d::vs,ys,hl,q=>by
  obtain ⟨z,zs,rfl,q0,qs⟩:=q.cons_inv;rw [List.zip_cons_cons,List.zip_cons_cons,List.map_cons,List.map_cons];refine Rps.cons ?_ (G7 r (by simpa using hl) qs);dsimp only;split
  .exact r
  .exact q0
theorem BW {k:D}{u:Value}{y:V} (r:RelV y u):∀ {xs:List (D × Addr × Value)}{ys:List V},Vals ys (xs.map (·.2.2))->Vals (((xs.map (·.1)).zip ys).map fun p=>if p.1=k then y else p.2) ((xs.map (putAt k u)).map (·.2.2))
 | [],ys,q=>by cases q;exact .nil
 | x::xs,ys,q=>by
  rw [List.map_cons] at q;cases q with
  | cons q0 qs =>
   rw [List.map_cons,List.zip_cons_cons,List.map_cons,List.map_cons,List.map_cons];refine .cons ?_ (BW r qs);dsimp only;unfold putAt;split
   .exact r
   .exact q0
def W0 (X:Cx):Oi:=fun o i v H Q=>∃ a k ks xs ys,o=.ref a/\Rp (gOf X) H k i/\kOk ks k=true/\DictR X H a ks xs ys/\xs.length < lim /\
 ∀ b u ep,i=.ref b->RelV v u->Q (upd H a (.ext (DAt (gOf X) a (lu xs ys k b u v).1 (lu xs ys k b u v).2 ep)))
def set_dict (hu:X.A.units+100 < cLine):Oj X (W0 X):=by
 intro pins s σ H o i v ov iv u Q I ro ri rv h;obtain ⟨a,k,ks,xs,ys,rfl,r1,hk,d,hl,q⟩:=h;cases ro;obtain ⟨kb,hkb,h1,h2,h3,h4⟩:=dictOf I d hk;obtain ⟨_,_,ds,rfl⟩:=fX hkb;rw [Rp] at r1;obtain ⟨b,zs,rfl,sq,rs⟩:=id r1;cases ri;have hin:X.A.in1.units=X.A.units+1:=rfl;have hlz:=ju;refine wpAny_setItem_heap (hsz:=by omega) (knd:=gY kb X.prog X.w) (by show X.A.in1.units+10 < cLine;omega) (yd I hkb (by rw [Rp];exact ⟨b,zs,rfl,sq,rs⟩)) h4 fun h' hm' hs'=>?_
 obtain ⟨o',es',ep',e1,e2,e3,e4,e5,e6⟩:=id hm';refine ⟨_,?_,q b u ep' rfl rv⟩;have mu:Mut (H a):=by obtain ⟨_,dat⟩:=d.at_;rw [dat];exact trivial
 refine I.write (x:=a) (e:=a) mu (.inl rfl) (fun c w hc hw=>(hs'.2 c hc).trans hw) ⟨_,e1⟩ ?_;have put:storedH xs (.tup ds) b u=(lu xs ys (.tup ds) b u v).1/\Vals (lu xs ys (.tup ds) b u v).2 ((lu xs ys (.tup ds) b u v).1.map (·.2.2))/\(lu xs ys (.tup ds) b u v).1.length<=sizeLine:=by
  unfold lu storedH;rw [Cq];by_cases hm:D.tup ds∈xs.map (·.1)
  .rw [if_pos hm,if_pos (decide_eq_true hm)];exact ⟨rfl,BW rv h3,by rw [List.length_map];omega⟩
  .rw [if_neg hm,if_neg (by simpa using hm)];refine ⟨rfl,?_,by rw [List.length_append,List.length_singleton];omega⟩;rw [List.map_append];exact h3.append (.cons rv .nil)
 rw [put.1] at e4 e6;refine ⟨⟨h1,put.2.2,put.2.1,o',es',e1,e2,e3,e4,e6⟩,⟨_,e1⟩,fun ha hb p kp=>?_⟩;obtain ⟨p1,p2,p3,o2,es2,q1,q2⟩:=p;exact ⟨p1,p2,p3,o2,es2,kp _ q1,q2⟩
def Qx {a:Addr}{ks vs:List D}{xs:List (D × Addr × Value)}{ys:List V} (keys:ks=xs.map (·.1)) (rep:Rps (gOf X) H ks (xs.map fun x=>V.ref x.2.1)) (hv:Rps (gOf X) H vs ys) (rk:Rp (gOf X) H k (.ref b)) (ry:Rp (gOf X) H v y)
  (hl:ks.length=vs.length) :
  (iU ks vs k v).1=(lu xs ys k b u y).1.map (·.1)/\Rps (gOf X) H (iU ks vs k v).1 ((lu xs ys k b u y).1.map fun x=>V.ref x.2.1)/\Rps (gOf X) H (iU ks vs k v).2 (lu xs ys k b u y).2:=by
 unfold iU lu;rw [keys] at rep;rw [keys];by_cases hm:k∈xs.map (·.1)
 .rw [if_pos hm,if_pos hm];refine ⟨(keys_map_putAt xs k u).symm,?_,?_⟩
  .have e:((xs.map (putAt k u)).map fun x=>V.ref x.2.1)=xs.map fun x=>V.ref x.2.1:=by
    rw [List.map_map];refine List.map_congr_left fun x _=>?_
    show V.ref (putAt k u x).2.1=_
    unfold putAt;split <;> rfl
   rw [e];exact rep
  .exact G7 ry (by rw [<- keys];exact hl) hv
 .rw [if_neg hm,if_neg hm];refine ⟨by rw [List.map_append];rfl,?_,hv.append (Rps.one ry)⟩;rw [List.map_append];exact rep.append (Rps.one rk)
def ab1 (X:Cx):TE:=fun _ H Q=>∀ p,H p=none->Q (.ref p) (upd H p (.ext (DAt (gOf X) p [] [] 0)))
theorem LQ {pos:Pos}:PE X (.Dict [] [] pos) (ab1 X):=fun pins s σ H Q I h=>by
 have hb:sysModules < s.heap.objs.size:=I.big;refine wpAny_Dict_empty ⟨.ref s.heap.objs.size,_,I.laid (a:=s.heap.objs.size) (o:=.ext (DAt (gOf X) s.heap.objs.size [] [] 0)) (t':=s.toks) (fun _ _ q=>vS _ q) (v4 _) ?_,rfl,h _ (I.hok.fresh (v4 _))⟩;refine ⟨⟨beq_eq_false_iff_ne.mpr (Ne.symm (v6 hb)),ye _,.nil,_,#[],vT _ rfl,⟨rfl,rfl,rfl⟩,rfl,rfl,List.nodup_nil⟩,⟨_,vT _ rfl⟩,fun h1 h2 p kp=>?_⟩;obtain ⟨p1,p2,p3,o2,es2,q1,q2⟩:=p;exact ⟨p1,p2,p3,o2,es2,kp _ q1,q2⟩
end
end Mi
namespace Mi
open PySem L2
open PyProof.Rows hiding St
variable {pins:w4}{σ:St}{H:Hp}{s:Shared}{A:Around}{E Q:zn}
section
variable {X:Cx}
theorem vI:∀ {bs:List Bool}{us:zw},Vals (bs.map V.bl) us->LSm.BoolsAre us bs
 | [],us,q=>by cases q;exact .nil
 | b::bs,us,q=>by
  rw [List.map_cons] at q;cases q with
  | cons q0 qs=>cases q0;exact .cons b (vI qs)
def ZS (X:Cx):List V->Hp->VK->Prop:=fun xs H Q=>∃ (p:Addr) (bs:List Bool),xs=[.ref p]/\SqL X.K H p (bs.map V.bl)/\Q (.bl (bs.all id)) H
def abv (X:Cx):List V->Hp->VK->Prop:=fun xs H Q=>∃ (p:Addr) (bs:List Bool),xs=[.ref p]/\SqL X.K H p (bs.map V.bl)/\Q (.bl (bs.any id)) H
def RB (hc:X.calm=true):gH X (.builtin "all") (ZS X):=by
 intro pins s σ H xs us Q I r h;obtain ⟨p,bs,rfl,sq,q⟩:=h;obtain ⟨u,rfl,ru⟩:=vals1 r;cases ru;obtain ⟨its,rv,pl,hz⟩:=I.list sq;have hb:=vI rv;have hl:=pl.isList;have hlt:p < s.heap.objs.size:=by obtain ⟨_,e,_⟩:=hl;exact v3 e
 refine call_all_walk (wpAny_pyIter_list hl ?_);refine ⟨s.heap.objs.size,[s.heap.objs.size,p],[s.heap.objs.size],its.toArray.size,_,_,fun i=>(bs[i]?).getD true,rfl,Walks.list (A:=X.A.in1) (I.ok.hd hc) _ p (v6 hlt) its.toArray,
  ⟨⟨_,vT _ rfl,rfl,rfl⟩,hl.push _⟩,fun i v s' Q' E' hP hQ=>?_,fun h' tk hk=>?_⟩
 .obtain ⟨b,e,rfl⟩:=hb.get i v (by simpa using hP);simp only [e,Option.getD_some] at hQ;exact y9 hQ
 .have e:((List.range its.toArray.size).all fun i=>(bs[i]?).getD true)=bs.all id:=by
   rw [List.size_toArray,hb.length];exact LSm.range_all bs
  rw [e];exact ⟨.bl _,H,I.kept (LSm.kept_iter hk),rfl,q⟩
def Ro (hc:X.calm=true):gH X (.builtin "any") (abv X):=by
 intro pins s σ H xs us Q I r h;obtain ⟨p,bs,rfl,sq,q⟩:=h;obtain ⟨u,rfl,ru⟩:=vals1 r;cases ru;obtain ⟨its,rv,pl,hz⟩:=I.list sq;have hb:=vI rv;have hl:=pl.isList;have hlt:p < s.heap.objs.size:=by obtain ⟨_,e,_⟩:=hl;exact v3 e
 refine call_any_walk (wpAny_pyIter_list hl ?_);refine ⟨s.heap.objs.size,[s.heap.objs.size,p],[s.heap.objs.size],its.toArray.size,_,_,fun i=>(bs[i]?).getD false,rfl,Walks.list (A:=X.A.in1) (I.ok.hd hc) _ p (v6 hlt) its.toArray,
  ⟨⟨_,vT _ rfl,rfl,rfl⟩,hl.push _⟩,fun i v s' Q' E' hP hQ=>?_,fun h' tk hk=>?_⟩
 .obtain ⟨b,e,rfl⟩:=hb.get i v (by simpa using hP);simp only [e,Option.getD_some] at hQ;exact y9 hQ
 .have e:((List.range its.toArray.size).any fun i=>(bs[i]?).getD false)=bs.any id:=by
   rw [List.size_toArray,hb.length];exact LSm.range_any bs
  rw [e];exact ⟨.bl _,H,I.kept (LSm.kept_iter hk),rfl,q⟩
noncomputable def Ty.name:Ty->String
 | .int=>"int" | .bool=>"bool" | .str=>"str" | .tuple=>"tuple" | .list=>"list"
noncomputable def tyD:D->String
 | .non=>"NoneType" | .bl _=>"bool" | .int _=>"int" | .str _=>"str" | .tup _=>"tuple" | .lst _=>"list" | .dct _ _=>"dict"
noncomputable def jN (d:D) (t:Ty):Bool:=match t,d with
 | .int,.int _=>true | .int,.bl _=>true | .bool,.bl _=>true | .str,.str _=>true | .tuple,.tup _=>true | .list,.lst _=>true
 | _,_=>false
theorem aat (K:zt) (d:D) (t:Ty):PySem.W.kitOne K (.type (tyD d)) (.type t.name)=some (jN d t):=by
 cases d <;> cases t <;> rfl
def X6 {d:D}{v:V}{u:Value} (t:Ty) (I:Inv X pins σ H s) (r:Rp (gOf X) H d v) (ru:RelV v u)
  (h:∀ tk,Q (.bool (jN d t)) { s with toks:=tk }):wpAny (model X.prog X.w) A (call (.builtin "isinstance") [u,.type t.name]) Q E s:=by
 have e:=aat X.K d t;cases d with
 | non=>rw [Rp] at r;subst r;exact rF I ru .non e h
 | bl b=>rw [Rp] at r;subst r;exact rF I ru (.bl b) e h
 | int b=>rw [Rp] at r;subst r;exact rF I ru (.int b) e h
 | str b=>rw [Rp] at r;subst r;exact rF I ru (.str b) e h
 | tup ds =>
  rw [Rp] at r;obtain ⟨a,xs,rfl,sq,rs⟩:=r;cases ru;obtain ⟨its,rv,⟨o,h1,h2,_⟩,hz⟩:=I.tuple sq;exact PySem.W.kia_one PySem.W.kitx_tuple I.kIn ⟨o,h1,h2⟩ e (fun z=>nomatch z) h
 | lst ds =>
  rw [Rp] at r;obtain ⟨a,xs,rfl,sq,rs⟩:=r;cases ru;obtain ⟨its,rv,pl,hz⟩:=I.list sq;obtain ⟨o,h1,h2,_⟩:=pl.isList;exact PySem.W.kia_one PySem.W.kitx_list I.kIn ⟨o,h1,h2⟩ e (fun z=>nomatch z) h
 | dct ks vs =>
  rw [Rp] at r;obtain ⟨a,xs,ys,ep,rfl,hH,_⟩:=r;cases ru;obtain ⟨⟨_,_,_,o,es,h4,h5,_⟩,_⟩:=(show cD X.prog X.w H s.heap a (.ext (DAt (gOf X) a xs ys ep)) from I.hok a _ hH);exact PySem.W.kia_one PySem.W.kitx_dict I.kIn ⟨o,h4,h5.1⟩ e (fun z=>nomatch z) h
def abF (X:Cx):List V->Hp->VK->Prop:=fun xs H Q=>∃ d v t,xs=[v,.ty t.name]/\Rp (gOf X) H d v/\Q (.bl (jN d t)) H
def Rf:gH X (.builtin "isinstance") (abF X):=by
 intro pins s σ H xs us Q I r h;obtain ⟨d,v,t,rfl,rd,q⟩:=h;obtain ⟨u,w',rfl,ru,rw'⟩:=vals2 r;cases rw';exact X6 t I rd ru fun tk=>⟨.bl _,H,I.tok _,rfl,q⟩
def SrcR (X:Cx) (H:Hp) (p:Addr) (ds:List D) (zs:List V):Prop :=
 Rps (gOf X) H ds zs/\(SqL X.K H p zs\/SqT X.K H p zs\/∃ xs ys,DictR X H p ds xs ys/\zs=xs.map fun x=>V.ref x.2.1)
theorem K9 {p:Addr}{ds:List D}{zs:List V}{Q:zw->Shared->Prop} (hA:A.handled=none) (I:Inv X pins σ H s) (S:SrcR X H p ds zs)
  (h:∀ h' tk us,(∀ b o,s.heap.get? b=some o->h'.get? b=some o)->Vals zs us->Q us { s with heap:=h',toks:=tk }):wpAny (model X.prog X.w) A (collect (.ref p)) Q E s:=by
 rcases S.2 with sq | sq | ⟨xs,ys,d,ez⟩
 .obtain ⟨its,rv,pl,hz⟩:=I.list sq;obtain ⟨o,ho,hc,n,hd⟩:=pl.isList;have hlen:=rv.length;exact wpAny_collect_seq p (.inl rfl) ho hc hd (fun h' kp=>h h' s.toks its kp rv) (by simp only [List.size_toArray];omega)
 .obtain ⟨its,rv,pl,hz⟩:=I.tuple sq;obtain ⟨o,ho,hc,n,hd⟩:=pl;have hlen:=rv.length;exact wpAny_collect_seq p (.inr rfl) ho hc hd (fun h' kp=>h h' s.toks its kp rv) (by simp only [List.size_toArray];omega)
 .subst ez;obtain ⟨ep,dat⟩:=d.at_;obtain ⟨⟨h1,h2,h3,o,es,h4,h5,h6,h7,h8⟩,_⟩:=(show cD X.prog X.w H s.heap p (.ext (DAt (gOf X) p xs ys ep)) from I.hok p _ dat);have hsz:es.size=xs.length:=by rw [<- Array.length_toList,h7,List.length_map]
  refine PySem.W.kdu_collect (Mw (ep:=ep) (es:=es) h1) hA ⟨o,h4,h5,h6⟩ (by omega) fun h' tk acc kp hacc=>h h' tk acc.toList kp ?_
  have key:∀ (l:List (D × Addr × Value)) (us:zw),l.length=us.length->(∀ (j:Nat) u,us[j]?=some u->∃ x,l[j]?=some x/\u=.ref x.2.1)->Vals (l.map fun x=>V.ref x.2.1) us:=by
   intro l;induction l with
   | nil=>intro us hl _;cases us with | nil=>exact .nil | cons _ _=>simp at hl
   | cons x l ih =>
    intro us hl hj;cases us with
    | nil=>simp at hl
    | cons u us =>
     obtain ⟨y,ey,eu⟩:=hj 0 u rfl;simp at ey;subst ey;exact .cons eu (ih us (by simpa using hl) fun j w hw=>by simpa using hj (j+1) w (by simpa using hw))
  refine key xs acc.toList (by have e:=hacc.1;simp only [Array.length_toList];omega) fun j u hu=>?_
  obtain ⟨hj,eu⟩:=hacc.2 j u (by rw [<- Array.getElem?_toList];exact hu);have hjx:j < xs.length:=by omega
  refine ⟨xs[j],by simp [hjx],?_⟩;rw [eu];have e:=entry_at h7 j;rw [Array.getElem?_eq_getElem hj,List.getElem?_eq_getElem hjx] at e;have e':=jb (e.trans (Option.map_some ..));rw [e'];rfl
def Lh (X:Cx):List V->Hp->VK->Prop:=fun vs H Q=>∃ (p:Addr) (ds:List D) (zs:List V),vs=[.ref p]/\SrcR X H p ds zs/\SortOk ds/\∀ S ys,H S=none->(∀ Hs,Rps (gOf X) Hs ds zs->Rps (gOf X) Hs (nZ ds) ys)->Q (.ref S) (upd H S (.lst ys))
def Jq (hc:X.calm=true) (hu:X.A.units+100 < cLine):gH X (.builtin "sorted") (Lh X):=by
 intro pins s σ H xs us Q I r h;obtain ⟨p,ds,zs,rfl,src,S,q⟩:=h;obtain ⟨u,rfl,ru⟩:=vals1 r;cases ru;refine Calls.call_function_entry kind_sorted plain_sorted entry_sorted (args_sorted1 _) ?_;unfold Builtin.«sorted»;refine vw (m:=checkCount "sorted" 1 1 _) (vx ?_)
 refine vw (K9 (A:=X.A.in1) (I.ok.hd hc) I src fun h' tk vs kp rv=>?_);have hlen:=src.1.length;have hlen2:=rv.length;have hS64:=S.len;refine vw (wpAny_newList ?_ (by rw [sizeLine_eq];omega));have hoL:(h'.push (seqObj "list" vs.toArray 0)).get? h'.objs.size=some (seqObj "list" vs.toArray 0):=vT _ rfl
 have I2:Inv X pins σ H { s with heap:=h'.push (seqObj "list" vs.toArray 0),toks:=tk }:=I.kept fun b o e=>vS _ (kp b o e)
 have I1:Inv X pins σ H { s with heap:=h',toks:=tk }:=I.kept kp;have dS:=S.dp;have rs:∀ h'':Heap,(∀ b o,b ≠ h'.objs.size -> (h'.push (seqObj "list" vs.toArray 0)).get? b=some o -> h''.get? b=some o) -> aC h'' ds vs:=fun h'' kk=>(CK I1 (by omega) src.1 rv).keep fun b o e _=>kk b o (v6 (v3 e)) (vS _ e)
 refine vw (wpAny_holding (y4 slot_list_sort (s:={ s with heap:=h'.push (seqObj "list" vs.toArray 0),toks:=tk }) ⟨_,hoL,rfl⟩ entry_list_sort (Tz hoL S rs (by show X.A.units+1+1+40 < cLine; omega) fun pm pb so=>⟨_,rfl,?_⟩) (args_list_sort _)))
 refine vx ⟨_,rfl,?_⟩;have hpsz:=pb.size;have hfresh:H h'.objs.size=none:=I1.hok.fresh (v4 _);obtain ⟨c,hc2⟩:=sortedHeap_at (out:=List.toArray (pm.toList.map fun i=>vs.getD i Value.none)) hoL;have plt:∀ i∈pm.toList,i < ds.length:=fun i hi=>by
  have:=(Array.perm_iff_toList_perm.mp pb.perm).mem_iff (a:=i);simp at this;exact this.mp (by simpa using hi)
 have getV:∀ {i},i < ds.length->RelV (zs.getD i .non) (vs.getD i Value.none):=fun {i} hi=>by
  have e1:zs.getD i .non=zs[i]'(by omega):=by simp [show i < zs.length by omega]
  obtain ⟨u,e2,ru⟩:=rv.get (i:=i) (x:=zs[i]'(by omega)) (by simp [show i < zs.length by omega]);rw [e1];have e3:vs.getD i Value.none=u:=by simp [List.getD,e2]
  rw [e3];exact ru
 have valsP:∀ l:zz,(∀ i∈l,i < ds.length)->Vals (l.map fun i=>zs.getD i .non) (l.map fun i=>vs.getD i Value.none):=by
  intro l;induction l with
  | nil=>intro _;exact .nil
  | cons i l ih=>intro hl;exact .cons (getV (hl i vz)) (ih fun j hj=>hl j (vy _ hj))
 have repsP:∀ Hs,Rps (gOf X) Hs ds zs->∀ l:zz,(∀ i∈l,i < ds.length)->Rps (gOf X) Hs (l.map fun i=>ds.getD i .non) (l.map fun i=>zs.getD i .non):=by
  intro Hs rHs l;induction l with
  | nil=>intro _;exact Rps.nil
  | cons i l ih =>
   intro hl;have hi:=hl i vz;obtain ⟨v,e1,rr⟩:=rHs.getD (i:=i) (d:=ds.getD i .non) (by simp [hi]);have e2:zs.getD i .non=v:=by simp [List.getD,e1]
   rw [List.map_cons,List.map_cons];refine Rps.cons ?_ (ih fun j hj=>hl j (vy _ hj));rw [e2];exact rr
 have perm:(pm.toList.map fun i=>ds.getD i .non).Perm ds:=by
  have h1:(pm.toList.map fun i=>ds.getD i .non).Perm ((List.range ds.length).map fun i=>ds.getD i .non):=((Array.perm_iff_toList_perm.mp pb.perm).map _);have h2:(List.range ds.length).map (fun i=>ds.getD i D.non)=ds:=by
   refine List.ext_getElem (by simp) fun i h1 h2=>?_
   simp at h1;simp [h1]
  rw [h2] at h1;exact h1
 have sorted:(pm.toList.map fun i=>ds.getD i .non).Pairwise leD:=by
  rw [List.pairwise_iff_getElem];intro i j hi hj hij;simp only [List.length_map,Array.length_toList] at hi hj;simp only [List.getElem_map,Array.getElem_toList];have e:=so i j (by omega) (by omega);have ki:Kp (jj ds) pm i=jj ds pm[i]:=by unfold Kp;rw [Array.getElem?_eq_getElem hi]
  have kj:Kp (jj ds) pm j=jj ds pm[j]:=by unfold Kp;rw [Array.getElem?_eq_getElem hj]
  rw [ki,kj] at e;unfold leD;rw [<- LK S.cmp (plt _ (by simp)) (plt _ (by simp))];exact yk (by omega)
 have eS:=Hz S.cmp perm sorted;refine ⟨.ref h'.objs.size,upd H h'.objs.size (.lst (pm.toList.map fun i=>zs.getD i .non)),?_,rfl,q _ _ hfresh (fun Hs rHs=>by rw [eS];exact repsP Hs rHs _ plt)⟩;refine I1.laid (t':=tk) (fun b o e=>?_) (v4 _) ⟨?_,_,c,valsP _ plt,?_⟩
 .have hlt:b < h'.objs.size:=v3 e;rw [sortedHeap_old (Nat.ne_of_lt hlt) (by rw [size_push'];exact Nat.lt_succ_of_lt hlt)];exact vS _ e
 .rw [List.length_map,Array.length_toList,hpsz,sizeLine_eq];omega
 .exact hc2
def Wz {prog:Program}{w:World}{t b:Addr}{ws:zw} (ht:IsTup s.heap t (List.toArray [])) (hb:IsTup s.heap b ws.toArray)
  (h1:Q (.ref b) s):wpAny (model prog w) A (binaryOp .Add (.ref t) (.ref b)) Q E s:=by
 obtain ⟨⟨cls,dd,data,sl⟩,ho,hc,n,hd⟩:=id ht;obtain ⟨⟨cls2,dd2,data2,sl2⟩,ho2,hc2,n2,hd2⟩:=id hb;simp only at hc hd hc2 hd2;subst hc hd hc2 hd2;exact concat_meets ⟨_,ho,rfl⟩ ⟨_,ho2,rfl⟩ noFill_tuple_add seq_tuple_add PySem.F.slot_tuple_add PySem.F.entry_tuple_add (PySem.F.args_tuple_add_2 _ _)
  (tuple_addW0 t b _ ws.toArray n n2 dd dd2 sl sl2 (by simp)) ⟨ho,ho2,h1⟩
def QT (K:zt):R2:=fun x y H Q=>∃ a b ys,x=.ref a/\y=.ref b/\SqT K H a []/\SqT K H b ys/\Q (.ref b) H
def Wu:OpR X (binaryOp .Add) (QT X.K):=by
 intro pins s σ H x y v u Q I rx ry h;obtain ⟨a,b,ys,rfl,rfl,ha,hb,q⟩:=h;cases rx;cases ry;obtain ⟨its,r1,p1,_⟩:=I.tuple ha;obtain ⟨its2,r2,p2,_⟩:=I.tuple hb;cases r1;exact Wz p1 p2 ⟨.ref b,H,I,rfl,q⟩
def Xi (K:zt):R2:=fun x y H Q=>∃ l b xs zs,x=.ref l/\y=.ref b/\SqL K H l xs/\SqL K H b zs/\xs.length+zs.length<=sizeLine/\∀ p,H p=none->Q (.ref p) (upd H p (.lst (xs++zs)))
def ab0 (K:zt):V->List V->Hp->VK->Prop:=fun x vs H Q=>∃ l b xs zs,x=.ref l/\vs=[.ref b]/\H l=some (.lst xs)/\(SqL K H b zs\/SqT K H b zs)/\xs.length+zs.length<=lim/\Q .non (upd H l (.lst (xs++zs)))
def X4:MtM X "list.extend" (ab0 X.K):=by
 intro pins s σ H x vs v us Q I rx rv h;obtain ⟨l,b,xs,zs,rfl,rfl,hH,hB,hz,q⟩:=h;cases rx;obtain ⟨u,rfl,ru⟩:=rv.one;cases ru;have hlim:=ju;obtain ⟨z,its,n,r,hl,e⟩:=I.lstM hH;obtain ⟨T,o,its2,n2,hT,ho,hc,hd,r2⟩:∃ (T:String) (o:Obj) (its2:zw) (n2:Nat),(T="list" \/ T="tuple") /\ s.heap.get? b=some o /\ o.cls=.type T /\ o.data=.seq its2.toArray n2 /\ Vals zs its2:=by
  rcases hB with hB | hB
  .obtain ⟨its2,r2,pl,_⟩:=I.list hB;obtain ⟨o,ho,hc,n2,hd⟩:=pl.isList;exact ⟨"list",o,its2,n2,.inl rfl,ho,hc,hd,r2⟩
  .obtain ⟨its2,r2,⟨o,ho,hc,n2,hd⟩,_⟩:=I.tuple hB;exact ⟨"tuple",o,its2,n2,.inr rfl,ho,hc,hd,r2⟩
 have hl2:=r2.length;refine y4 PySem.F.slot_list_extend ⟨_,e,rfl⟩ PySem.F.entry_list_extend ?_ (PySem.F.args_list_extend_2 _ _);show wpAny _ _ (Builtin.List.listExtendWith (.ref l) (.ref b) .none) _ _ s
 unfold Builtin.List.listExtendWith;refine vw (wpAny_typeOf ⟨o,ho,hc⟩ ?_);have h1:(Builtin.List.listSameRef (.ref l) (.ref b) || Value.type T == Value.type "list" || Value.type T == Value.type "tuple")=true:=by
  rcases hT with rfl | rfl <;> simp
 rw [if_pos h1];refine vw (listItems_at ho hd ?_);refine vw (listItems_at e rfl ?_);have hlong:¬ (!its.toArray.isEmpty && Builtin.List.listTooLong (its.toArray.size+its2.toArray.size))=true:=by
  rw [Wc (by rw [List.size_toArray,List.size_toArray];omega),Bool.and_false];exact js
 rw [if_neg hlong];refine vw (listUpdate_at e rfl ?_ (by rw [List.size_toArray];omega) (by simp only [List.size_toArray,Array.size_append];omega));refine vx ⟨_,rfl,?_⟩;exact ⟨.non,_,I.lset (t':=s.toks) (its':=its++its2) hH e (by simp) (r.append r2) (by rw [List.length_append];omega),rfl,q⟩
end
end Mi
namespace Mi
open PySem L2
open PyProof.Rows hiding St
variable {h h':Heap}{l:Addr}{n:Nat}{Q:zn}
section
variable {prog:Program}{w:World}{A:Around}{E:zn}{s:Shared}{z ti to i1 i2 l1 l2:Addr}{n1 n2:Nat}{us vs:vj}{u v c d:Value}
structure ZAt (z ti to i1 i2 l1 l2:Addr) (f:Value) (us vs:vj) (n1 n2:Nat) (h:Heap):Prop where
 ap:ZipApart z ti to i1 i2 l1 l2
 zr:IsZip h z ti to f
 its:IsPair h ti (.ref i1) (.ref i2)
 out:∃ c d,IsPair h to c d
 one:h.IsTupleIter i1 l1 n1
 two:h.IsTupleIter i2 l2 n2
 src1:h.IsTuple l1 us
 src2:h.IsTuple l2 vs
theorem uo {i:Addr} (x:h.IsTupleIter i l n) (k:∀ o,h.get? i=some o->h'.get? i=some o):h'.IsTupleIter i l n:=let ⟨o,e,r⟩:=x;⟨o,k o e,r⟩
theorem oU (x:h.IsTuple l us) (k:∀ o,h.get? l=some o->h'.get? l=some o):h'.IsTuple l us:=let ⟨o,e,r⟩:=x;⟨o,k o e,r⟩
def RL (S:ZAt z ti to i1 i2 l1 l2 .none us vs n1 n2 s.heap) (hu:us[n1]?=some u) (hv:vs[n2]?=some v)
  (hQ:∀ g,ZAt z ti to i1 i2 l1 l2 (rawInt s.heap.objs.size) us vs (n1+1) (n2+1) g->IsPair g s.heap.objs.size u v->g.objs.size=s.heap.objs.size+1 ->
   (∀ b o,b≠z->b≠to->b≠i1->b≠i2->s.heap.get? b=some o->g.get? b=some o)->Q (.ref s.heap.objs.size) { s with heap:=g }) :
  wpAny (model prog w) A (Builtin.«zip.__next__» ⟨[.ref z],[]⟩) (fun fin s'=>∃ v,fin=.done (.ret v)/\Q v s') E s:=by
 obtain ⟨D,hz,ht,⟨c,d,ho⟩,k1,k2,m1,m2⟩:=S;show wpAny _ _ (field (.ref z) 2 >>= _) _ _ _
 refine vw (ja hz rfl (x:=.bool false) rfl ?_);show wpAny _ _ (field (.ref z) 3 >>= _) _ _ _
 refine vw (ja hz rfl (x:=.ref ti) rfl (vw (wpAny_seqItems ht rfl ?_)));show wpAny _ _ (Builtin.SmallTypes.ownedTupleIsFree (.ref z) >>= _) _ _ _
 refine vw ?_;unfold Builtin.SmallTypes.ownedTupleIsFree;refine vw (ja hz rfl (x:=.none) rfl (vx ?_));simp only [if_true];refine vw (wpAny_rule (vw (ja hz rfl (x:=.ref to) rfl (vw (wpAny_setField_rec hz (by simp) fun g1 z1 e1=>?_)))));replace z1:IsZip g1 z ti to .ellipsis:=z1;refine vw ?_;simp only [List.zipIdx_cons,List.zipIdx_nil,List.forIn_cons,List.forIn_nil];refine vw (vw (wpAny_onRaise ?_));show wpAny _ _ (Builtin.SmallTypes.nextOf (.ref i1) >>= _) _ _ _
 refine vw (nM (k1.extBut e1.extBut D.i1z) (m1.extBut e1.extBut D.l1z) hu fun g2 k12 e2=>vx ?_);have o2:IsPair g2 to c d:=e2.extBut _ _ D.TOi1 (e1.extBut _ _ D.TOz ho);refine vw (wpAny_seqItems o2 rfl (vw (wpAny_updateSeq_pair o2 fun g3 o3 e3=>?_)));replace o3:IsPair g3 to u d:=o3;refine vw (wpAny_letGo (vx (vw (vw (wpAny_onRaise ?_)))));show wpAny _ _ (Builtin.SmallTypes.nextOf (.ref i2) >>= _) _ _ _
 refine vw (nM (((k2.extBut e1.extBut D.i2z).extBut e2.extBut D.i12.symm).extBut e3.extBut D.TOi2.symm) (((m2.extBut e1.extBut D.l2z).extBut e2.extBut D.l2i1).extBut e3.extBut D.l2TO) hv fun g4 k24 e4=>vx ?_);have o4:IsPair g4 to u d:=e4.extBut _ _ D.TOi2 o3;refine vw (wpAny_seqItems o4 rfl (vw (wpAny_updateSeq_pair o4 fun g5 o5 e5=>?_)));replace o5:IsPair g5 to u v:=o5;refine vw (wpAny_letGo (vx (vx (vw (wpAny_seqItems o5 rfl (vw (wpAny_newTuple ?_)))))));have sz:g5.objs.size=s.heap.objs.size:=by rw [e5.1,e4.1,e3.1,e2.1,e1.1]
 have z5:IsZip g5 z ti to .ellipsis:=e5.extBut _ _ D.TOz.symm (e4.extBut _ _ D.i2z.symm (e3.extBut _ _ D.TOz.symm (e2.extBut _ _ D.i1z.symm z1)));have kp:∀ b o,b≠z->b≠to->b≠i1->b≠i2->s.heap.get? b=some o->g5.get? b=some o:=fun b o b1 b2 b3 b4 e=>e5.extBut _ _ b2 (e4.extBut _ _ b4 (e3.extBut _ _ b2 (e2.extBut _ _ b3 (e1.extBut _ _ b1 e))))
 have k15:g5.IsTupleIter i1 l1 (n1+1):=((k12.extBut e3.extBut D.TOi1.symm).extBut e4.extBut D.i12).extBut e5.extBut D.TOi1.symm;have k25:g5.IsTupleIter i2 l2 (n2+1):=k24.extBut e5.extBut D.TOi2.symm;have zlt:z < g5.objs.size:=v3 z5;show wpAny _ _ (Builtin.SmallTypes.ownedTupleHandOut (.ref z) (.ref g5.objs.size) >>= _) _ _ _
 refine vw ?_;unfold Builtin.SmallTypes.ownedTupleHandOut;have z6:IsZip (g5.push { cls:=.type "tuple",data:=.seq #[u,v] }) z ti to .ellipsis:=vS _ z5
 refine vw (wpAny_setField_rec z6 (by simp) fun g7 z7 e7=>?_);replace z7:IsZip g7 z ti to (rawInt g5.objs.size):=z7;refine wpAny_setField_rec z7 (by simp) fun g8 z8 e8=>?_
 replace z8:IsZip g8 z ti to (rawInt g5.objs.size):=z8;have up:∀ b o,b≠z->g5.get? b=some o->g8.get? b=some o:=fun b o b1 e=>e8.extBut _ _ b1 (e7.extBut _ _ b1 (vS _ e))
 have p8:IsPair g8 g5.objs.size u v:=e8.extBut _ _ (ya zlt) (e7.extBut _ _ (ya zlt) (vT _ rfl));have s8:g8.objs.size=g5.objs.size+1:=by rw [e8.1,e7.1,Heap.size_push]
 rw [sz] at z8 p8 s8;refine vx ⟨_,rfl,?_⟩;show Q (.ref g5.objs.size) _
 rw [sz];have kp8:∀ b o,b≠z->b≠to->b≠i1->b≠i2->s.heap.get? b=some o->g8.get? b=some o:=fun b o b1 b2 b3 b4 e=>up b o b1 (kp b o b1 b2 b3 b4 e)
 exact hQ g8 ⟨D,z8,kp8 _ _ D.TIz D.TITO D.TIi1 D.TIi2 ht,⟨_,_,up _ _ D.TOz o5⟩,uo k15 fun o e=>up _ o D.i1z e,uo k25 fun o e=>up _ o D.i2z e,oU m1 fun o e=>kp8 _ o D.l1z D.l1TO D.l1i1 D.l1i2 e,oU m2 fun o e=>kp8 _ o D.l2z D.l2TO D.l2i1 D.l2i2 e⟩ p8 s8 kp8
def VJ {Q:Fin->Shared->Prop} (hh:A.handled=none) (S:ZAt z ti to i1 i2 l1 l2 .none us vs n1 n2 s.heap) (he:us[n1]?=none\/vs[n2]?=none)
  (hE:∀ g e,(∀ b o,b ≠ z -> b ≠ to -> b ≠ i1 -> b ≠ i2 -> s.heap.get? b=some o -> g.get? b=some o) -> (∃ o,g.get? e=some o /\ o.cls=.type "StopIteration") -> E (.ref e) { s with heap:=g }) :
  wpAny (model prog w) A (Builtin.«zip.__next__» ⟨[.ref z],[]⟩) Q E s:=by
 obtain ⟨D,hz,ht,⟨c,d,ho⟩,k1,k2,m1,m2⟩:=S;show wpAny _ _ (field (.ref z) 2 >>= _) _ _ _
 refine vw (ja hz rfl (x:=.bool false) rfl ?_);show wpAny _ _ (field (.ref z) 3 >>= _) _ _ _
 refine vw (ja hz rfl (x:=.ref ti) rfl (vw (wpAny_seqItems ht rfl ?_)));show wpAny _ _ (Builtin.SmallTypes.ownedTupleIsFree (.ref z) >>= _) _ _ _
 refine vw ?_;unfold Builtin.SmallTypes.ownedTupleIsFree;refine vw (ja hz rfl (x:=.none) rfl (vx ?_));simp only [if_true];refine vw (wpAny_rule (vw (ja hz rfl (x:=.ref to) rfl (vw (wpAny_setField_rec hz (by simp) fun g1 z1 e1=>?_)))));replace z1:IsZip g1 z ti to .ellipsis:=z1;refine vw ?_;simp only [List.zipIdx_cons,List.zipIdx_nil,List.forIn_cons,List.forIn_nil];refine vw (vw (wpAny_onRaise ?_));show wpAny _ _ (Builtin.SmallTypes.nextOf (.ref i1) >>= _) _ _ _
 cases hx:us[n1]? with
 | none =>
  refine vw (vA hh (k1.extBut e1.extBut D.i1z) (m1.extBut e1.extBut D.l1z) hx fun g2 e e2 q=>?_);obtain ⟨oe,qo,qc⟩:=q;have z2:IsZip g2 z ti to .ellipsis:=e2 _ _ D.i1z.symm z1;have ez:e≠z:=fun x=>by subst x;rw [z2] at qo;cases qo;simp at qc
  exact wpAny_setField_rec z2 (by simp) fun g3 _ e3=>hE g3 e (fun b o b1 _ b3 _ x=>e3.extBut _ _ b1 (e2 _ _ b3 (e1.extBut _ _ b1 x))) ⟨oe,e3.extBut _ _ ez qo,qc⟩
 | some x =>
  have hy:vs[n2]?=none:=by
   rcases he with q | q
   .rw [hx] at q;cases q
   .exact q
  refine vw (nM (k1.extBut e1.extBut D.i1z) (m1.extBut e1.extBut D.l1z) hx fun g2 k12 e2=>vx ?_);have o2:IsPair g2 to c d:=e2.extBut _ _ D.TOi1 (e1.extBut _ _ D.TOz ho);refine vw (wpAny_seqItems o2 rfl (vw (wpAny_updateSeq_pair o2 fun g3 o3 e3=>?_)));refine vw (wpAny_letGo (vx (vw (vw (wpAny_onRaise ?_)))));show wpAny _ _ (Builtin.SmallTypes.nextOf (.ref i2) >>= _) _ _ _
  refine vw (vA hh (((k2.extBut e1.extBut D.i2z).extBut e2.extBut D.i12.symm).extBut e3.extBut D.TOi2.symm) (((m2.extBut e1.extBut D.l2z).extBut e2.extBut D.l2i1).extBut e3.extBut D.l2TO) hy fun g4 e e4 q=>?_);obtain ⟨oe,qo,qc⟩:=q;have z4:IsZip g4 z ti to .ellipsis:=e4 _ _ D.i2z.symm (e3.extBut _ _ D.TOz.symm (e2.extBut _ _ D.i1z.symm z1));have ez:e≠z:=fun x=>by subst x;rw [z4] at qo;cases qo;simp at qc
  exact wpAny_setField_rec z4 (by simp) fun g5 _ e5=>hE g5 e (fun b o b1 b2 b3 b4 x=>e5.extBut _ _ b1 (e4 _ _ b4 (e3.extBut _ _ b2 (e2.extBut _ _ b3 (e1.extBut _ _ b1 x))))) ⟨oe,e5.extBut _ _ ez qo,qc⟩
def PL {Q:Option Value->Shared->Prop} (S:ZAt z ti to i1 i2 l1 l2 .none us vs n1 n2 s.heap) (hu:us[n1]?=some u) (hv:vs[n2]?=some v)
  (hQ:∀ g,ZAt z ti to i1 i2 l1 l2 (rawInt s.heap.objs.size) us vs (n1+1) (n2+1) g->IsPair g s.heap.objs.size u v->g.objs.size=s.heap.objs.size+1 ->
   (∀ b o,b≠z->b≠to->b≠i1->b≠i2->s.heap.get? b=some o->g.get? b=some o)->Q (some (.ref s.heap.objs.size)) { s with heap:=g }) :
  wpAny (model prog w) A (pyNext (.ref z)) Q E s:=by
 have ty:s.TypeIs (.ref z) "zip":=⟨_,S.zr,rfl⟩
 unfold pyNext;exact vw (wpAny_attempt (y6 (name:=Str.ofString "__next__") ty F.slot_zip_next (y4 F.slot_zip_next ty F.entry_zip_next (RL S hu hv fun g q1 q2 q3 q4=>vx (hQ g q1 q2 q3 q4)) (F.args_zip_next_1 _))))
def RJ {Q:Option Value->Shared->Prop} (hh:A.handled=none) (S:ZAt z ti to i1 i2 l1 l2 .none us vs n1 n2 s.heap) (he:us[n1]?=none\/vs[n2]?=none)
  (hQ:∀ g,(∀ b o,b≠z->b≠to->b≠i1->b≠i2->s.heap.get? b=some o->g.get? b=some o)->Q none { s with heap:=g }):wpAny (model prog w) A (pyNext (.ref z)) Q E s:=by
 have ty:s.TypeIs (.ref z) "zip":=⟨_,S.zr,rfl⟩
 unfold pyNext;refine vw (wpAny_attempt (y6 (name:=Str.ofString "__next__") ty F.slot_zip_next (y4 F.slot_zip_next ty F.entry_zip_next (VJ hh S he fun g e kp q=>?_) (F.args_zip_next_1 _))))
 obtain ⟨o,qo,qc⟩:=q;exact vw (wpAny_isInstance (T:="StopIteration") (b:=true) ⟨o,qo,qc⟩ isSubtype_stop (vx (hQ _ kp)))
noncomputable abbrev zo (l:Addr):Obj:={ cls:=.type "tuple_iterator",data:=.fields #[.ref l,.int 0 0] }
abbrev zh (h:Heap) (l1 l2:Addr):Heap:=((((h.push (zo l1)).push (zo l2)).push { cls:=.type "tuple",data:=.seq #[.ref h.objs.size,.ref (h.push (zo l1)).objs.size] }).push { cls:=.type "tuple",data:=.seq #[.none,.none] }).push
 { cls:=.type "zip",data:=.fields #[.none,.bool false,.bool false,.ref ((h.push (zo l1)).push (zo l2)).objs.size,.ref (((h.push (zo l1)).push (zo l2)).push { cls:=.type "tuple",data:=.seq #[.ref h.objs.size,.ref (h.push (zo l1)).objs.size] }).objs.size] }
theorem Vp (l1 l2:Addr) (us vs:vj):Meets (Builtin.«zip.__new__» ⟨[.type "zip",.ref l1,.ref l2],[]⟩) (fun _ R s=>s.heap.IsTuple l1 us /\ s.heap.IsTuple l2 vs /\
   R (.ok (.ret (.ref ((((s.heap.push (zo l1)).push (zo l2)).push { cls:=.type "tuple",data:=.seq #[.ref s.heap.objs.size,.ref (s.heap.push (zo l1)).objs.size] }).push { cls:=.type "tuple",data:=.seq #[.none,.none] }).objs.size))) { s with heap:=zh s.heap l1 l2 }) :=
 .of_wp fun prog w A R s h=>by
  obtain ⟨hp,g,d,tk,os⟩:=s;obtain ⟨m1,m2,h⟩:=h;have hsub:=sub_zip;have t1:Heap.IsTuple (Shared.heap ⟨hp,g,d,tk,os⟩) l1 us:=m1;have t2:Heap.IsTuple (Shared.heap ⟨hp.push (zo l1),g,d,tk,os⟩) l2 vs:=oU m2 fun o e=>vS _ e
  wp_walk using wpAny_pyIter_tuple t1,wpAny_pyIter_tuple t2
  exact ⟨_,rfl,h⟩
theorem zap {a b:Nat} (h1:a < n) (h2:b < n):ZipApart (n+4) (n+2) (n+3) n (n+1) a b where
 TIz:=show n+2≠n+4 by omega
 TOz:=show n+3≠n+4 by omega
 i1z:=show n≠n+4 by omega
 i2z:=show n+1≠n+4 by omega
 TITO:=show n+2≠n+3 by omega
 TIi1:=show n+2≠n by omega
 TIi2:=show n+2≠n+1 by omega
 TOi1:=show n+3≠n by omega
 TOi2:=show n+3≠n+1 by omega
 i12:=show n≠n+1 by omega
 l1z:=show a≠n+4 by omega
 l1TO:=show a≠n+3 by omega
 l1i1:=show a≠n by omega
 l1i2:=show a≠n+1 by omega
 l2z:=show b≠n+4 by omega
 l2TO:=show b≠n+3 by omega
 l2i1:=show b≠n by omega
 l2i2:=show b≠n+1 by omega
def QW (m1:s.heap.IsTuple l1 us) (m2:s.heap.IsTuple l2 vs)
  (h:∀ g,ZAt (s.heap.objs.size+4) (s.heap.objs.size+2) (s.heap.objs.size+3) s.heap.objs.size (s.heap.objs.size+1) l1 l2 .none us vs 0 0 g->g.objs.size=s.heap.objs.size+5 ->
   (∀ b o,s.heap.get? b=some o->g.get? b=some o)->Q (.ref (s.heap.objs.size+4)) { s with heap:=g }) :
  wpAny (model prog w) A (call (.type "zip") [.ref l1,.ref l2]) Q E s:=by
 refine callType_new F.called_zip (by decide) (F.typeCall_zip_2 _ _) (F.newCall_zip_2 _ _) (fun obj=>F.args_object_init_3 obj _ _) F.entry_zip_new (Vp l1 l2 us vs) ⟨m1,m2,?_⟩;have lt1:l1 < s.heap.objs.size:=by obtain ⟨_,e,_⟩:=m1;exact v3 e
 have lt2:l2 < s.heap.objs.size:=by obtain ⟨_,e,_⟩:=m2;exact v3 e
 have a1:(s.heap.push (zo l1)).objs.size=s.heap.objs.size+1:=Heap.size_push ..;have a2:((s.heap.push (zo l1)).push (zo l2)).objs.size=s.heap.objs.size+2:=by rw [Heap.size_push,a1]
 have a3:(((s.heap.push (zo l1)).push (zo l2)).push { cls:=.type "tuple",data:=.seq #[.ref s.heap.objs.size,.ref (s.heap.push (zo l1)).objs.size] }).objs.size=s.heap.objs.size+3:=by rw [Heap.size_push,a2]
 have a4:((((s.heap.push (zo l1)).push (zo l2)).push { cls:=.type "tuple",data:=.seq #[.ref s.heap.objs.size,.ref (s.heap.push (zo l1)).objs.size] }).push { cls:=.type "tuple",data:=.seq #[.none,.none] }).objs.size=s.heap.objs.size+4:=by rw [Heap.size_push,a3]
 have a5:(zh s.heap l1 l2).objs.size=s.heap.objs.size+5:=by rw [Heap.size_push,a4]
 have b5:(zh s.heap l1 l2).get? ((((s.heap.push (zo l1)).push (zo l2)).push { cls:=.type "tuple",data:=.seq #[.ref s.heap.objs.size,.ref (s.heap.push (zo l1)).objs.size] }).push { cls:=.type "tuple",data:=.seq #[.none,.none] }).objs.size=some _:=vT _ rfl
 have b4:(zh s.heap l1 l2).get? (((s.heap.push (zo l1)).push (zo l2)).push { cls:=.type "tuple",data:=.seq #[.ref s.heap.objs.size,.ref (s.heap.push (zo l1)).objs.size] }).objs.size=some _:=vS _ (vT _ rfl)
 have b3:(zh s.heap l1 l2).get? ((s.heap.push (zo l1)).push (zo l2)).objs.size=some _:=vS _ (vS _ (vT _ rfl));have b2:(zh s.heap l1 l2).get? (s.heap.push (zo l1)).objs.size=some _:=vS _ (vS _ (vS _ (vT _ rfl)));have b1:(zh s.heap l1 l2).get? s.heap.objs.size=some _:=vS _ (vS _ (vS _ (vS _ (vT _ rfl))));have kp:∀ b o,s.heap.get? b=some o->(zh s.heap l1 l2).get? b=some o:=fun b o x=>vS _ (vS _ (vS _ (vS _ (vS _ x))))
 show _/\_
 rw [a2,a3,a4] at b5;rw [a1,a2] at b3;rw [a3] at b4;rw [a1] at b2;rw [a4];exact ⟨⟨_,b5,rfl⟩,h _ ⟨zap lt1 lt2,b5,b3,⟨_,_,b4⟩,⟨_,b1,rfl,rfl⟩,⟨_,b2,rfl,rfl⟩,oU m1 fun o e=>kp _ o e,oU m2 fun o e=>kp _ o e⟩ a5 kp⟩
end
def Itz (K:zt) (a b:Addr):It :=
 ⟨fun i H=>∃ xs ys x y,SqT K H a xs/\SqT K H b ys/\xs[i]?=some x/\ys[i]?=some y,
  fun i H x H'=>∃ p y1 y2,H p=none/\x=.ref p/\H'=upd H p (.tup [y1,y2])/\(∀ xs,SqT K H a xs->xs[i]?=some y1)/\∀ ys,SqT K H b ys->ys[i]?=some y2,
  fun i H=>∃ xs ys,SqT K H a xs/\SqT K H b ys/\(xs[i]?=none\/ys[i]?=none)⟩
def aaC (z ti to i1 i2 a b:Addr) (i:Nat) (h:Heap):Prop:=IsZip h z ti to .none/\IsPair h ti (.ref i1) (.ref i2)/\(∃ c d,IsPair h to c d)/\h.IsTupleIter i1 a i/\h.IsTupleIter i2 b i
variable {z ti to i1 i2 a b:Addr}{us:vj}
theorem LR {i:Nat}{vs:vj} (D:ZipApart z ti to i1 i2 a b) (S:aaC z ti to i1 i2 a b i h) (m1:h.IsTuple a us) (m2:h.IsTuple b vs):ZAt z ti to i1 i2 a b .none us vs i i h :=
 ⟨D,S.1,S.2.1,S.2.2.1,S.2.2.2.1,S.2.2.2.2,m1,m2⟩
def Vv (h:b∈([z,ti,to,i1,i2]:List Addr)):b=z\/b=ti\/b=to\/b=i1\/b=i2:=by simpa using h
variable {P:Program}{w:World}{K:zt}{els:ve}{x1:Nat}{tpos:Pos}
def SX (D:ZipApart z ti to i1 i2 a b) :
  Turn P w K (.Tuple els x1 tpos) (Itz K a b) [z,ti,to,i1,i2] z (aaC z ti to i1 i2 a b) where
 mem:=by simp
 obj:=fun i h st q hq=>by
  obtain ⟨r1,r2,⟨c,d,r3⟩,⟨o4,e4,c4,d4⟩,⟨o5,e5,c5,d5⟩⟩:=st;rcases Vv hq with e | e | e | e | e <;> subst e
  .exact ⟨_,r1,fun v x=>by cases x⟩
  .exact ⟨_,r2,fun v x=>by cases x⟩
  .exact ⟨_,r3,fun v x=>by cases x⟩
  .exact ⟨o4,e4,fun v x=>by rw [d4] at x;cases x⟩
  .exact ⟨o5,e5,fun v x=>by rw [d5] at x;cases x⟩
 keep:=fun i h h' st k=>by
  obtain ⟨r1,r2,⟨c,d,r3⟩,r4,r5⟩:=st;exact ⟨k z (by simp) _ r1,k ti (by simp) _ r2,⟨c,d,k to (by simp) _ r3⟩,uo r4 fun o e=>k i1 (by simp) o e,uo r5 fun o e=>k i2 (by simp) o e⟩
 item:=by
  intro X hP hw hK hc i pins s σ H E I hf st hg;subst hP hw hK;obtain ⟨xs,ys,x,y,hqx,hqy,hx,hy⟩:=hg;obtain ⟨us,rx,p1,_⟩:=I.tuple hqx;obtain ⟨vs,ry,p2,_⟩:=I.tuple hqy;obtain ⟨u,hu,ru⟩:=rx.get hx;obtain ⟨v,hv,rv⟩:=ry.get hy;have S:=LR D st (show s.heap.IsTuple a us.toArray from p1) (show s.heap.IsTuple b vs.toArray from p2);refine PL S (u:=u) (v:=v) (by simpa using hu) (by simpa using hv) fun g S1 hT hsz kp=>?_
  refine ⟨.ref s.heap.objs.size,rfl,wpAny_letOwnedTupleGo_zip (s:={ s with heap:=g }) S1.zr fun g2 hz2 e2=>?_⟩;have e2':Heap.SameBut z g g2:=e2;have lt:∀ q o,s.heap.get? q=some o->q < s.heap.objs.size:=fun q o e=>v3 e
  have zlt:=lt _ _ st.1;have kp2:∀ q o,q≠z->q≠to->q≠i1->q≠i2->s.heap.get? q=some o->g2.get? q=some o:=fun q o n1 n2 n3 n4 e=>e2'.extBut q o n1 (kp q o n1 n2 n3 n4 e)
  have fz:=hf z (by simp);have fo:=hf to (by simp);have f1:=hf i1 (by simp);have f2:=hf i2 (by simp);have zl:=hf ti (by simp);have hTn:H s.heap.objs.size=none:=I.hok.fresh (v4 _);have nT:∀ q o,s.heap.get? q=some o->q≠s.heap.objs.size:=fun q o e=>v6 (v3 e)
  have hTo:g2.get? s.heap.objs.size=some { cls:=.type "tuple",data:=.seq #[u,v] }:=e2'.extBut _ _ (ya zlt) hT
  have nch:∀ q,q ∉ ([z,to,i1,i2]:List Addr)->q≠z/\q≠to/\q≠i1/\q≠i2:=fun q hq=>by simpa using hq
  have I2:Inv X pins σ (upd H s.heap.objs.size (.tup [x,y])) { s with heap:=g2 }:=by
   refine I.step (g':=s.gens) (d':=s.drawn) (t':=s.toks) (ch:=[z,to,i1,i2]) (fun q hq=>?_) (fun q o _ _ hc e _=>kp2 q o (nch q hc).1 (nch q hc).2.1 (nch q hc).2.2.1 (nch q hc).2.2.2 e) (fun q o _ _ hc e _=>⟨o.slots,kp2 q o (nch q hc).1 (nch q hc).2.1 (nch q hc).2.2.1 (nch q hc).2.2.2 e⟩) (fun q o _ e n=>by rw [ao (nT q o e)];exact n)
    (fun q o hc e=>⟨o,kp2 q o (nch q hc).1 (nch q hc).2.1 (nch q hc).2.2.1 (nch q hc).2.2.2 e⟩) (fun q zs e=>by rw [ao (ak e hTn)];exact e) (fun q o u e=>by rw [ao (ak e hTn)];exact e) (fun q ps e=>⟨#[],by rw [ao (ak e hTn),e];simp⟩) (fun m hm=>?_) (fun q u' e=>?_) I.bare
   .have hq':q=z\/q=to\/q=i1\/q=i2:=by simpa using hq
    rcases hq' with e | e | e | e <;> subst e
    .exact ⟨fz.2.2.2.1,fz.2.1,fz.2.2.2.2.1,fz.2.2.2.2.2⟩
    .exact ⟨fo.2.2.2.1,fo.2.1,fo.2.2.2.2.1,fo.2.2.2.2.2⟩
    .exact ⟨f1.2.2.2.1,f1.2.1,f1.2.2.2.2.1,f1.2.2.2.2.2⟩
    .exact ⟨f2.2.2.2.1,f2.2.1,f2.2.2.2.2.1,f2.2.2.2.2.2⟩
   .obtain ⟨o,es,ep,ho,r⟩:=hm;exact ⟨o,es,ep,kp2 _ o (Ne.symm fz.2.1) (Ne.symm fo.2.1) (Ne.symm f1.2.1) (Ne.symm f2.2.1) ho,r⟩
   .by_cases hqT:q=s.heap.objs.size
    .subst hqT;rw [aB] at e;cases e;exact ⟨by show 2<=sizeLine;decide,[u,v],.cons ru (.cons rv .nil),⟨_,hTo,rfl,_,rfl⟩⟩
    .rw [ao hqT] at e;have nb:∀ c v,H c=some v->c≠z/\c≠to/\c≠i1/\c≠i2:=fun c v e=>⟨ak e fz.1,ak e fo.1,ak e f1.1,ak e f2.1⟩
     refine (I.hok q u' e).stay (fun c v hc r=>?_) (fun c r=>by rw [ao (ak r hTn)];exact r) (fun c zs r=>by rw [ao (ak r hTn)];exact r) (fun c _ r _=>by rw [ao (ak r hTn)];exact r);have nc:c≠z/\c≠to/\c≠i1/\c≠i2:=by
      rcases hc with k | k
      .rw [k];exact nb q u' e
      .exact nb c _ k
     exact kp2 c v nc.1 nc.2.1 nc.2.2.1 nc.2.2.2 r
  refine ⟨.ref s.heap.objs.size,_,I2,rfl,⟨s.heap.objs.size,x,y,hTn,rfl,rfl,fun ws hw=>by rw [I.tuple_inj hw hqx];exact hx,fun ws hw=>by rw [I.tuple_inj hw hqy];exact hy⟩,?_,fun q hq=>?_⟩
  .obtain ⟨c,d,ho⟩:=S1.out;exact ⟨hz2,e2'.extBut _ _ D.TIz S1.its,⟨c,d,e2'.extBut _ _ D.TOz ho⟩,S1.one.extBut e2'.extBut D.i1z,S1.two.extBut e2'.extBut D.i2z⟩
  .have hn:∀ {q o},s.heap.get? q=some o->H q=none->upd H s.heap.objs.size (.tup [x,y]) q=none:=fun e n=>by rw [ao (nT _ _ e)];exact n
   obtain ⟨r1,r2,⟨c,d,r3⟩,⟨o4,e4,_⟩,⟨o5,e5,_⟩⟩:=st;rcases Vv hq with e | e | e | e | e <;> subst e
   .exact hn r1 fz.1
   .exact hn r2 zl.1
   .exact hn r3 fo.1
   .exact hn e4 f1.1
   .exact hn e5 f2.1
 done:=by
  intro X hP hw hK hc i pins s σ H E I hf st hg;subst hP hw hK;obtain ⟨xs,ys,hqx,hqy,he⟩:=hg;obtain ⟨us,rx,p1,_⟩:=I.tuple hqx;obtain ⟨vs,ry,p2,_⟩:=I.tuple hqy;have S:=LR D st (show s.heap.IsTuple a us.toArray from p1) (show s.heap.IsTuple b vs.toArray from p2);have l1:=rx.length;have l2:=ry.length;have he':us.toArray[i]?=none\/vs.toArray[i]?=none:=by
   rcases he with e | e
   .left;rw [List.getElem?_eq_none_iff] at e;simp;omega
   .right;rw [List.getElem?_eq_none_iff] at e;simp;omega
  refine RJ (I.ok.hd hc) S he' fun g kp=>⟨rfl,?_⟩
  have fz:=hf z (by simp);have fo:=hf to (by simp);have f1:=hf i1 (by simp);have f2:=hf i2 (by simp);have nch:∀ q,q ∉ ([z,to,i1,i2]:List Addr)->q≠z/\q≠to/\q≠i1/\q≠i2:=fun q hq=>by simpa using hq
  have kc:∀ q o,q ∉ ([z,to,i1,i2]:List Addr)->s.heap.get? q=some o->g.get? q=some o:=fun q o hc e=>kp q o (nch q hc).1 (nch q hc).2.1 (nch q hc).2.2.1 (nch q hc).2.2.2 e
  refine I.step (g':=s.gens) (d':=s.drawn) (t':=s.toks) (ch:=[z,to,i1,i2]) (fun q hq=>?_) (fun q o _ _ hc e _=>kc q o hc e) (fun q o _ _ hc e _=>⟨o.slots,kc q o hc e⟩) (fun _ _ _ _ n=>n) (fun q o hc e=>⟨o,kc q o hc e⟩)
   (fun _ _ e=>e) (fun _ _ _ e=>e) (fun q ps e=>⟨#[],by rw [e];simp⟩) (fun m hm=>?_) (fun q u' e=>?_) I.bare
  .have hq':q=z\/q=to\/q=i1\/q=i2:=by simpa using hq
   rcases hq' with e | e | e | e <;> subst e
   .exact ⟨fz.2.2.2.1,fz.2.1,fz.2.2.2.2.1,fz.2.2.2.2.2⟩
   .exact ⟨fo.2.2.2.1,fo.2.1,fo.2.2.2.2.1,fo.2.2.2.2.2⟩
   .exact ⟨f1.2.2.2.1,f1.2.1,f1.2.2.2.2.1,f1.2.2.2.2.2⟩
   .exact ⟨f2.2.2.2.1,f2.2.1,f2.2.2.2.2.1,f2.2.2.2.2.2⟩
  .obtain ⟨o,es,ep,ho,r⟩:=hm;exact ⟨o,es,ep,kp _ o (Ne.symm fz.2.1) (Ne.symm fo.2.1) (Ne.symm f1.2.1) (Ne.symm f2.2.1) ho,r⟩
  .have nb:∀ c v,H c=some v->c≠z/\c≠to/\c≠i1/\c≠i2:=fun c v e=>⟨ak e fz.1,ak e fo.1,ak e f1.1,ak e f2.1⟩
   refine (I.hok q u' e).stay (fun c v hc r=>?_) (fun c r=>r) fun c zs r=>r
   have nc:c≠z/\c≠to/\c≠i1/\c≠i2:=by
    rcases hc with k | k
    .rw [k];exact nb q u' e
    .exact nb c _ k
   exact kp c v nc.1 nc.2.1 nc.2.2.1 nc.2.2.2 r
 self:=fun _ _ _ _ _ st h=>wpAny_pyIter_zip st.1 h
variable {ta:TA}{p pos:Pos}{tg:Expr}
section
variable {X:Cx}
def boot_zip:bootBuiltins "zip"=some (.type "zip"):=by decide +kernel
def acY (K:zt) (ta:TA):TI:=fun σ H R=>ta σ H fun vs H1=>∃ a xs b ys,vs=[.ref a,.ref b]/\SqT K H1 a xs/\SqT K H1 b ys/\R (Itz K a b) H1
def aar {pins:w4}{σ:St}{H:Hp}{s:Shared}{R:It->Hp->Prop}{xs ys:List V}{E:zn} (I:Inv X pins σ H s) (hx:SqT X.K H a xs) (hy:SqT X.K H b ys) (q:R (Itz X.K a b) H) :
  wpAny (model X.prog X.w) X.A (call (.type "zip") [.ref a,.ref b]) (fun v s1=>wpAny (model X.prog X.w) X.A (pyIter v) (PIE X pins σ (.Tuple els x1 tpos) R) E s1) E s:=by
 obtain ⟨us,rx,p1,_⟩:=I.tuple hx;obtain ⟨vs,ry,p2,_⟩:=I.tuple hy;refine QW (show s.heap.IsTuple a us.toArray from p1) (show s.heap.IsTuple b vs.toArray from p2) fun g S hsz kp=>?_
 refine wpAny_pyIter_zip (s:={ s with heap:=g }) S.zr ?_;have I1:Inv X pins σ H { s with heap:=g }:=I.kept (t':=s.toks) kp;refine ⟨s.heap.objs.size+4,_,_,_,H,rfl,I1,SX S.ap,⟨S.zr,S.its,S.out,S.one,S.two⟩,fun c hc=>?_,q⟩;have hle:s.heap.objs.size<=c:=by
  rcases Vv hc with e | e | e | e | e <;> subst e
  .exact Nat.le_add_right _ _
  .exact Nat.le_add_right _ _
  .exact Nat.le_add_right _ _
  .exact v4 _
  .exact Nat.le_add_right _ _
 exact I.fpOk hle (I.hok.fresh hle)
def aaw {a b:Expr} (hg:Gl X "zip") (hm:X.mg "zip"=none) (ha:PA X [a,b] ta) (hs:starEach [a,b] X.env=[(false,eval a X.env),(false,eval b X.env)]) (hs2:starEach [b] X.env=[(false,eval b X.env)]) :
  PI X (.Tuple els x1 tpos) (.Call (.Name "zip" p) [a,b] [] pos) (acY X.K ta):=by
 intro pins s σ H R I h;refine Call_ (fV I hg hm boot_zip (y8 (thn (ha pos pins s σ H _ I h) fun us s1 ⟨vs,H1,I1,r1,q1⟩=>?_) (by rw [hs,hs2]) (by rw [hs2];rfl)));obtain ⟨c,xs,d,ys,rfl,hx,hy,q⟩:=q1;obtain ⟨u,v,rfl,ru,rv⟩:=vals2 r1;cases ru;cases rv;exact aar I1 hx hy q
def Ho:bootBuiltins "reversed"=some (.type "reversed"):=by decide +kernel
noncomputable def Itv (K:zt) (a:Addr) (n:Nat):It :=
 ⟨fun i H=>∃ xs x,SqL K H a xs/\i < n/\xs[n - 1 - i]?=some x,fun i H x H'=>H'=H/\∀ xs,SqL K H a xs->xs[n - 1 - i]?=some x,fun i _=>i=n⟩
def Ww (a it:Addr) (n:Nat):Turn P w K tg (Itv K a n) [it] it (fun i h=>h.IsRevIter it a ((n:Int) - 1 - (i:Int))) where
 mem:=by simp
 obj:=fun i h st b hb=>by
  obtain ⟨o,e,c,d⟩:=st;rw [List.mem_singleton.mp hb];exact ⟨o,e,fun v z=>by rw [d] at z;cases z⟩
 keep:=fun i h h' st k=>st.at fun o e=>k it (by simp) o e
 item:=by
  intro X hP hw hK hc i pins s σ H E I hf st hg;subst hP hw hK;obtain ⟨xs,x,hq,hi,hx⟩:=hg;obtain ⟨us,rv,p,_⟩:=I.list hq;obtain ⟨u,hu,ru⟩:=rv.get hx;obtain ⟨f0,f1,f2,f3,f4,f5⟩:=hf it (by simp);have e1:(n:Int) - 1 - (i:Int)=((n - 1 - i:Nat):Int):=by omega
  have e2:((n - 1 - i:Nat):Int) - 1=(n:Int) - 1 - ((i+1:Nat):Int):=by omega
  have st1:s.heap.IsRevIter it a ((n - 1 - i:Nat):Int):=e1 ▸ st;refine wpAny_pyNext_rev_item st1 p.isList (x:=u) (by simpa using hu) fun h' st' sb=>?_
  have I1:Inv X pins σ H { s with heap:=h' }:=I.turned (t':=s.toks) (fun b o hb e=>(sb.2 b hb).trans e) f0 f1 f3 f4 f5;have st2:h'.IsRevIter it a ((n:Int) - 1 - ((i+1:Nat):Int)):=e2 ▸ st';obtain ⟨o,e,c,d⟩:=id st';exact ⟨u,rfl,Bk (s:={ s with heap:=h' }) e c d (by decide) ⟨x,H,I1,ru,⟨rfl,fun ys hy=>by rw [I.list_inj hy hq];exact hx⟩,st2,fun b hb=>(hf b hb).1⟩⟩
 done:=by
  intro X hP hw hK hc i pins s σ H E I hf st hg;subst hP hw hK;obtain ⟨f0,f1,f2,f3,f4,f5⟩:=hf it (by simp);have hg':i=n:=hg;subst hg';have st1:s.heap.IsRevIter it a (-1):=(show (i:Int) - 1 - (i:Int)=-1 by omega) ▸ st;exact wpAny_pyNext_rev_end (I.ok.hd hc) st1 fun h' eb=>⟨rfl,I.turned (t':=s.toks) (fun b o hb e=>eb b o hb e) f0 f1 f3 f4 f5⟩
 self:=fun _ _ _ _ _ st h=>wpAny_pyIter_revIter st h
def acM (K:zt) (ta:TA):TI:=fun σ H R=>ta σ H fun vs H1=>∃ a xs,vs=[.ref a]/\SqL K H1 a xs/\R (Itv K a xs.length) H1
def aaJ {a:Expr} (hg:Gl X "reversed") (hm:X.mg "reversed"=none) (ha:PA X [a] ta) (hs:starEach [a] X.env=[(false,eval a X.env)]):PI X tg (.Call (.Name "reversed" p) [a] [] pos) (acM X.K ta):=by
 intro pins s σ H R I h;refine Call_ (fV I hg hm Ho (y8 (thn (ha pos pins s σ H _ I h) fun us s1 ⟨vs,H1,I1,r1,q1⟩=>?_) hs rfl));obtain ⟨b,xs,rfl,hq,q⟩:=q1;obtain ⟨u,rfl,ru⟩:=vals1 r1;cases ru;obtain ⟨ws,rv,p',_⟩:=I1.list hq;refine call_reversed_list p'.isList ?_;have hl:ws.toArray.size=xs.length:=by have:=rv.length;simp;omega
 have hr:(s1.heap.push (revObj b ((ws.toArray.size:Int) - 1))).IsRevIter s1.heap.objs.size b ((ws.toArray.size:Int) - 1):=⟨_,vT _ rfl,rfl,rfl⟩;rw [hl] at hr ⊢;refine wpAny_pyIter_revIter hr ?_;have I2:Inv X pins σ H1 { s1 with heap:=s1.heap.push (revObj b ((xs.length:Int) - 1)) }:=I1.kept (t':=s1.toks) fun c o e=>vS _ e
 refine ⟨s1.heap.objs.size,_,_,_,H1,rfl,I2,Ww b s1.heap.objs.size xs.length,?_,fun c hc=>?_,q⟩
 .have e:(xs.length:Int) - 1 - ((0:Nat):Int)=(xs.length:Int) - 1:=by omega
  show Heap.IsRevIter _ _ _ ((xs.length:Int) - 1 - ((0:Nat):Int))
  rw [e];exact hr
 .rw [List.mem_singleton.mp hc];exact I1.fpOk (v4 _) (I1.hok.fresh (v4 _))
end
end Mi
namespace Mi
open PySem L2
open PyProof.Rows hiding St
noncomputable def atV:List (D × Addr × Value)->List V->D->Option V
 | x::xs,y::ys,k=>if x.1=k then some y else atV xs ys k
 | _,_,_=>none
theorem sS {k:D}:∀ {xs:List (D × Addr × Value)}{ys:List V},Vals ys (xs.map (·.2.2))->(∃ v p,atV xs ys k=some v/\atKey xs k=some p/\RelV v p.2)\/(atV xs ys k=none/\atKey xs k=none)
 | [],[],_=>.inr ⟨rfl,rfl⟩
 | [],_::_,h=>by cases h
 | _::_,[],h=>by cases h
 | x::xs,y::ys,h=>by
  cases h with
  | cons r rs =>
   by_cases e:x.1=k
   .refine .inl ⟨y,x.2,if_pos e,?_,r⟩;unfold atKey;rw [List.find?_cons_of_pos (by simpa using e)];rfl
   .have e1:atV (x::xs) (y::ys) k=atV xs ys k:=if_neg e;have e2:atKey (x::xs) k=atKey xs k:=by
     unfold atKey;rw [List.find?_cons_of_neg (by simpa using e)]
    rw [e1,e2];exact sS rs
section
variable {X:Cx}
def W4 (X:Cx):R2:=fun x y H Q=>∃ k a ks xs ys v,Rp (gOf X) H k y/\kOk ks k=true/\x=.ref a/\DictR X H a ks xs ys/\atV xs ys k=some v/\Q v H
def Yx (hu:X.A.units+100 < cLine):IxR X (W4 X):=by
 intro value slice pins s σ H x y v u Q I rx ry h hs;obtain ⟨k,a,ks,xs,ys,z,r1,hk,rfl,d,hv,q⟩:=h;cases rx;obtain ⟨kb,hkb,h1,h2,h3,h4⟩:=dictOf I d hk;obtain ⟨_,_,ds,rfl⟩:=fX hkb;rw [Rp] at r1;obtain ⟨b,zs,rfl,sq,rs⟩:=id r1;cases ry;have hin:X.A.in1.units=X.A.units+1:=rfl;rcases sS (k:=.tup ds) h3 with ⟨z',p,e1,e2,rp⟩ | ⟨e1,_⟩
 .rw [hv] at e1;cases e1;exact subscriptTail_builtinR (x:=p.2) h4.typeIs slot_dict_getitem.lookup
   (wpAny_getItem_heap (Q:=fun r s'=>r=p.2/\EP X pins σ Q r s') (knd:=gY kb X.prog X.w) (by show X.A.in1.units+10 < cLine;omega) (yd I hkb (by rw [Rp];exact ⟨b,zs,rfl,sq,rs⟩)) h4 e2 ⟨rfl,z,H,I.tok _,rp,q⟩) hs
 .rw [hv] at e1;cases e1
def tDg (X:Cx) (td ty tx:TE):TE:=fun σ H Q=>td σ H fun x H1=>∃ a ks xs ys,x=.ref a/\DictR X H1 a ks xs ys/\ty σ H1 fun y H2=>tx σ H2 fun z H3=>∃ k ks xs ys,Rp (gOf X) H3 k y/\kOk ks k=true/\DictR X H3 a ks xs ys/\Q ((atV xs ys k).getD z) H3
def T7 {o e f:Expr}{td ty tx:TE}{apos cpos:Pos} (hu:X.A.units+100 < cLine) (ho:PE X o td) (he:PE X e ty) (hf:PE X f tx) (m:M2 X o "get" apos e f cpos):PE X (.Call (.Attribute o "get" apos) [e,f] [] cpos) (tDg X td ty tx):=by
 intro pins s σ H Q I h;refine wpAny_Call_method m.base m.few m.line PySem.F.plainAttrs_dict PySem.F.slot_dict_get PySem.F.type_dict_get (thn (ho pins s σ H _ I h) fun u s1 ⟨x,H1,I1,rx,a,ks,xs,ys,ex,d,q1⟩=>?_);subst ex;obtain rfl:u=Value.ref a:=rx;obtain ⟨h4,ob,e1,e2⟩:=JZ I1 d;refine ⟨h4,?_,?_⟩
 .intro c ec;cases ec;exact ⟨ob,e1,e2⟩
 rw [m.trees];refine Calls.callWith_builtin rfl (Calls.evalArgs_plain (Calls.spliced_cons (thn (he pins s1 σ H1 _ I1 q1) fun iv s2 ⟨y,H2,I2,ry,q2⟩ =>
  Calls.spliced_cons (thn (hf pins s2 σ H2 _ I2 q2) fun fv s3 ⟨z,H3,I3,rz,k,ks3,xs3,ys3,r1,hk,d3,q3⟩=>Calls.spliced_nil ?_))))
 obtain ⟨kb,hkb,g1,g2,g3,g4⟩:=dictOf I3 d3 hk;obtain ⟨_,_,ds,rfl⟩:=fX hkb;rw [Rp] at r1;obtain ⟨b,zs,rfl,sq,rs⟩:=id r1;cases ry;have hin:X.A.in1.units=X.A.units+1:=rfl;refine call_meetsIn PySem.F.slot_dict_get g4.typeIs PySem.F.entry_dict_get (PySem.F.args_dict_get_3 _ _ _) (meetsH_dict_get_default (gY kb X.prog X.w) a b g1 fv) ⟨by show X.A.in1.units+10 < cLine;omega,_,xs3,yd I3 hkb (by rw [Rp];exact ⟨b,zs,rfl,sq,rs⟩),g4,?_⟩;refine ⟨_,H3,I3.tok _,?_,q3⟩;rcases sS (k:=.tup ds) g3 with ⟨z',p,e1,e2,rp⟩ | ⟨e1,e2⟩
 .rw [e1,e2];exact rp
 .rw [e1,e2];exact rz
end
end Mi
namespace Mi
open PySem L2
open PyProof.Rows hiding St
theorem O7:typeLookup (.type "list_reverseiterator") "__len__"=pure none:=by rw [typeLookup_type,builtinLookup_eq_fast]; kernel_rfl
theorem U3:typeLookup (.type "list_reverseiterator") "__length_hint__"=pure (some (.builtin "list_reverseiterator.__length_hint__")):=by rw [typeLookup_type,builtinLookup_eq_fast]; kernel_rfl
variable {it l:Addr}{items:vj}
section
variable {prog:Program}{w:World}{A:Around}{E:zn}{s:Shared}
def Uw {Q:Bool->Shared->Prop}{i:Int} (hr:s.heap.IsRevIter it l i) (h:Q false s):wpAny (model prog w) A (Builtin.List.listLengthHint (.ref it)) Q E s:=by
 unfold Builtin.List.listLengthHint;refine vw (wpAny_specialOf hr.typeIs O7 ?_);show wpAny _ _ (specialOf (Value.ref it) (Str.ofString "__length_hint__") >>= _) _ _ _
 refine vw (wpAny_specialOf hr.typeIs U3 ?_);generalize hid:("list_reverseiterator.__length_hint__":String)=id0
 wp_delta
 rw [show splitId id0=some ("list_reverseiterator","__length_hint__") from by subst hid; decide +kernel]
 subst hid;refine vw (wpAny_isInstance (T:="list_reverseiterator") (b:=true) hr.typeIs (by rw [isSubtype_type]; kernel_rfl) ?_)
 refine wpAny_ite_split (fun hab=>absurd hab (by decide)) (fun _=>?_);refine wpAny_ite_split (fun _=>?_) (fun hab=>absurd (by decide +kernel) hab);refine wpAny_ite_split (fun hab=>absurd hab (by decide +kernel)) (fun _=>?_);exact vx h
def Qm {acc:vj} (h:ItemsOf (fun j v=>items[items.size - 1 - j]?=some v) acc items.size):acc.toList=items.toList.reverse:=by
 apply List.ext_getElem?;intro j;by_cases hj:j < items.size
 .have e:acc[j]?=some (acc[j]'(by rw [h.1];exact hj)):=Array.getElem?_eq_getElem _;have q:=h.2 j _ e;rw [List.getElem?_reverse (by simpa using hj)];rw [Array.getElem?_toList,e,Array.getElem?_toList,Array.length_toList];exact q.symm
 .rw [List.getElem?_eq_none (by rw [Array.length_toList,h.1];omega),List.getElem?_eq_none (by rw [List.length_reverse,Array.length_toList];omega)]
def FN {Q:zn} (hh:A.handled=none) (hr:s.heap.IsRevIter it l ((items.size:Int) - 1)) (hl:s.heap.IsList l items) (hlen:items.size<=sizeLine)
  (hQ:∀ g tk acc c,(∀ b o,b ≠ it -> s.heap.get? b=some o -> g.get? b=some o) -> g.get? s.heap.objs.size=some { cls:=.type "list",dict:=none,data:=.seq acc c,slots:=#[] } -> acc.toList=items.toList.reverse -> Q (.ref s.heap.objs.size) { s with heap:=g,toks:=tk }) :
  wpAny (model prog w) A (call (.type "list") [.ref it]) Q E s:=by
 refine callType_codes (Q₁:=fun obj s₁=>obj=.ref s.heap.objs.size /\ s₁={ s with heap:=s.heap.push { cls:=.type "list",data:=.seq #[] } }) PySem.F.called_list (PySem.F.typeCall_list_1 _) PySem.F.entry_list_init (code_list_new _ ⟨rfl,rfl⟩) fun obj s₁ h₁=>?_
 obtain ⟨rfl,rfl⟩:=h₁;have hS:(s.heap.push { cls:=.type "list",data:=.seq #[] }).get? s.heap.objs.size=some { cls:=.type "list",data:=.seq #[] }:=vT _ rfl
 refine ⟨⟨_,hS,rfl⟩,PySem.F.args_list_init_2 _ _,?_⟩;have ilt:it < s.heap.objs.size:=by obtain ⟨_,e,_⟩:=hr;exact v3 e
 have llt:l < s.heap.objs.size:=by obtain ⟨_,e,_⟩:=hl;exact v3 e
 have lit:l≠it:=fun z=>by
  obtain ⟨o1,e1,c1,_⟩:=hr;obtain ⟨o2,e2,c2,_⟩:=hl;rw [z,e1] at e2;cases e2;rw [c1] at c2;exact absurd c2 (by simp)
 have nS:∀ b,b < s.heap.objs.size->s.heap.objs.size≠b:=fun b hb=>ya hb
 show wpAny _ _ (do let old <- Builtin.List.listItems (.ref s.heap.objs.size);Builtin.List.listUpdate (.ref s.heap.objs.size) (fun _=>#[]);letGo old.toList.reverse;Builtin.List.listExtendWith (.ref s.heap.objs.size) (.ref it) .none) _ _ _
 refine vw ?_;unfold Builtin.List.listItems;refine vw (wpAny_seqItems hS rfl (vx ?_));show wpAny _ _ (updateSeq s.heap.objs.size (fun _=>#[]) >>= fun _=>letGo (#[]:vj).toList.reverse >>= fun _=>Builtin.List.listExtendWith (.ref s.heap.objs.size) (.ref it) .none) _ _ _
 refine vw (wpAny_updateSeq hS rfl ?_);have hS2:=ym (Obj.mapSeq (fun _=>(#[]:vj))) hS rfl;have oth:∀ b o,s.heap.get? b=some o -> ((s.heap.push { cls:=.type "list",data:=.seq #[] }).update s.heap.objs.size (Obj.mapSeq (fun _=>(#[]:vj)))).get? b=some o:=fun b o e=>(yl _ _ (nS b (v3 e))).trans (vS _ e)
 refine vw (wpAny_letGo ?_);have hr2:((s.heap.push { cls:=.type "list",data:=.seq #[] }).update s.heap.objs.size (Obj.mapSeq (fun _=>(#[]:vj)))).IsRevIter it l ((items.size:Int) - 1):=hr.at fun o e=>oth it o e
 have hl2:((s.heap.push { cls:=.type "list",data:=.seq #[] }).update s.heap.objs.size (Obj.mapSeq (fun _=>(#[]:vj)))).IsList l items:=hl.at fun o e=>oth l o e
 unfold Builtin.List.listExtendWith;refine vw (wpAny_typeOf (T:="list_reverseiterator") (hr2.typeIs (s:={ s with heap:=(s.heap.push { cls:=.type "list",data:=.seq #[] }).update s.heap.objs.size (Obj.mapSeq (fun _=>(#[]:vj))) })) ?_)
 have h1:Builtin.List.listSameRef (.ref s.heap.objs.size) (.ref it)=false:=by simp [Builtin.List.listSameRef,nS it ilt]
 have h2:(Value.type "list_reverseiterator" == Value.type "list")=false:=by decide
 have h3:(Value.type "list_reverseiterator" == Value.type "tuple")=false:=by decide
 simp only [h1,h2,h3,Bool.or_false,Bool.false_eq_true,if_false];refine vw (wpAny_pyIter_revIter (s:={ s with heap:=(s.heap.push { cls:=.type "list",data:=.seq #[] }).update s.heap.objs.size (Obj.mapSeq (fun _=>(#[]:vj))) }) hr2 ?_)
 refine vw (wpAny_holding (Uw (s:={ s with heap:=(s.heap.push { cls:=.type "list",data:=.seq #[] }).update s.heap.objs.size (Obj.mapSeq (fun _=>(#[]:vj))) }) hr2 ?_))
 refine wpAny_ite_split (fun hab=>absurd hab (by decide +kernel)) (fun _=>vx ⟨plainId_quiet PySem.F.plain_extend_loop _,?_⟩);have W:=(Walks.listRev (prog:=prog) (w:=w) (A:=A.in1.in1) hh it l lit items).toS;refine codeAny_extend_loopS W hlen s.heap.objs.size (fun hm=>?_) .none items.size 0 _ #[] _ rfl (ye _) ⟨ye _,?_,hl2⟩ hS2 (ItemsOf.nil _) fun s' acc' c' hm hS' hacc=>?_
 .rcases w6.mp hm with z | z
  .exact nS it ilt z
  .exact nS l llt (yz.mp z)
 .have e:(items.size:Int) - 1 - ((0:Nat):Int)=(items.size:Int) - 1:=by omega
  rw [e];exact hr2
 .rw [Moved.eq_with hm];refine ⟨rfl,hQ s'.heap s'.toks acc' c' (fun b o hb e=>hm.heap b o (fun hmem=>?_) (oth b o e)) hS' (Qm hacc)⟩;rcases w6.mp hmem with z | z
  .exact nS b (v3 e) z.symm
  .exact hb (yz.mp z)
end
section
variable {X:Cx}
def tLR (K:zt) (ta:TA):TE:=fun σ H Q=>ta σ H fun vs H1=>∃ a xs,vs=[.ref a]/\SqL K H1 a xs/\∀ S:Addr,H1 S=none->Q (.ref S) (upd H1 S (.lst xs.reverse))
def N5 {a:Expr}{ta:TA}{p pos p2 pos2:Pos} (hc:X.calm=true) (hg:Gl X "reversed") (hm:X.mg "reversed"=none) (hgl:Gl X "list") (hml:X.mg "list"=none) (ha:PA X [a] ta) (hs:starEach [a] X.env=[(false,eval a X.env)]) :
  PE X (.Call (.Name "list" p) [.Call (.Name "reversed" p2) [a] [] pos2] [] pos) (tLR X.K ta):=by
 intro pins s σ H Q I h;refine Call_ (fV I hgl hml boot_list (y8 (Calls.spliced_cons ?_) rfl rfl));refine Call_ (fV I hg hm Ho (y8 (thn (ha pos2 pins s σ H _ I h) fun us s1 ⟨vs,H1,I1,r1,q1⟩=>?_) hs rfl));obtain ⟨b,xs,rfl,hq,q⟩:=q1;obtain ⟨u,rfl,ru⟩:=vals1 r1;cases ru;obtain ⟨ws,rv,p',hz⟩:=I1.list hq;have hl:xs.length=ws.length:=rv.length;refine call_reversed_list p'.isList (Calls.spliced_nil ?_);have nit:∀ c o,s1.heap.get? c=some o->(s1.heap.push (revObj b ((ws.toArray.size:Int) - 1))).get? c=some o:=fun c o e=>vS _ e
 refine FN (s:={ s1 with heap:=s1.heap.push (revObj b ((ws.toArray.size:Int) - 1)) }) (it:=s1.heap.objs.size) (l:=b) (items:=ws.toArray) (I1.ok.hd hc) ⟨_,vT _ rfl,rfl,rfl⟩ (p'.isList.at fun o e=>nit b o e) (by rw [List.size_toArray];omega) fun g tk acc c kp hS hacc=>?_
 have hsz:(s1.heap.push (revObj b ((ws.toArray.size:Int) - 1))).objs.size=s1.heap.objs.size+1:=Heap.size_push ..;have hle:s1.heap.objs.size<=(s1.heap.push (revObj b ((ws.toArray.size:Int) - 1))).objs.size:=by rw [hsz];exact Nat.le_succ _
 have hacc':acc=ws.reverse.toArray:=by
  apply Array.ext';rw [hacc]
 subst hacc';refine ⟨.ref _,_,I1.laid (t':=tk) (o:=.lst xs.reverse) (fun d o e=>kp d o (v6 (v3 e)) (nit d o e)) hle ⟨by rw [List.length_reverse];omega,ws.reverse,c,rv.reverse,hS⟩,rfl,q _ (I1.hok.fresh hle)⟩
end
end Mi
namespace Mi
open PySem L2
open PyProof.Rows hiding St
section
variable {prog:Program}{w:World}{knd:HeapKind prog w D}{A:Around}{E:zn}{s:Shared}
def Tf {d a:Addr}{xs:List (D × Addr × Value)}{k:D}{dflt:Value}{Q:zn} (hu:knd.room A) (hkey:knd.is s.heap k a) (hm:s.heap.DictOfH knd d xs)
  (h1:∀ p,atKey xs k=some p->Q p.2 { s with toks:=s.toks+knd.draws k })
  (h2:atKey xs k=none->∀ h',h'.DictOfH knd d (storedH xs k a dflt)->Heap.SameBut d s.heap h'->Q dflt { s with heap:=h',toks:=s.toks+knd.draws k })
  (hsz:xs.length<=sizeLine):wpAny (model prog w) A (dictSetDefault d (.ref a) dflt) Q E s:=by
 obtain ⟨o,es,ep,ho,hc,hd,he,his,hn⟩:=hm;unfold dictSetDefault
 try with_reducible refine wpAny_holding ?_
 refine vw (knd.pyHash hu hkey ?_);refine vw (wpAny_dictFind_heap (s:={ s with toks:=s.toks+knd.draws k }) hu hkey ho hd he his hn ?_ ?_)
 .intro hno;have hnot:k ∉ xs.map (·.1):=not_mem_keys_of_get hno;refine vw (wpAny_rule (vw (wpAny_updateDictKeys (hz:=by have e:=size_of_entries he;omega) (s:={ s with toks:=s.toks+knd.draws k }) ho hd (vx (h2 (atKey_none_of_get hno) _ ⟨_,_,ep+1,ym _ ho (Obj.isFreed_of_dict (Obj.data_mapDictKeys hd _)),
   hc.mapDictKeys _,Obj.data_mapDictKeys hd _,?_,?_,?_⟩ (jn ..))))))
  .rw [storedH_new (atKey_none_of_get hno)];simp [he,entryOfKey]
  .rw [storedH_new (atKey_none_of_get hno)];intro x hx;rcases yy.mp hx with hx | hx
   .exact knd.keeps (his x hx) ho hd (jn ..)
   .simp only [List.mem_singleton] at hx;subst hx;exact knd.keeps hkey ho hd (jn ..)
  .rw [storedH_new (atKey_none_of_get hno)];rw [List.map_append,List.nodup_append];refine ⟨hn,by simp,?_⟩;intro x hx y hy;simp only [List.map_cons,List.map_nil,List.mem_singleton] at hy;subst hy;exact fun e=>hnot (e ▸ hx)
 .intro j p hj;refine vw (jC (s:={ s with toks:=s.toks+knd.draws k }) ho hd ?_);rw [entry_at he j,hj];exact vw (wpAny_rule (vx (h1 p (atKey_of_get hn hj))))
theorem KN (knd:HeapKind prog w D) (d a:Addr) (hd:(d == sysModules)=false) (dflt:Value) :
  MeetsIn prog w (Builtin.«dict.setdefault» ⟨[.ref d,.ref a,dflt],[]⟩) (fun A R s=>knd.room A.in1/\∃ k xs,knd.is s.heap k a/\s.heap.DictOfH knd d xs/\xs.length<=sizeLine /\
   (∀ p,atKey xs k=some p->R (.ok (.ret p.2)) { s with toks:=s.toks+knd.draws k }) /\
   (atKey xs k=none->∀ h',h'.DictOfH knd d (storedH xs k a dflt)->Heap.SameBut d s.heap h'->R (.ok (.ret dflt)) { s with heap:=h',toks:=s.toks+knd.draws k })) :=
 .of_wp fun A R s ⟨hu,k,xs,hkey,hm,hz,h1,h2⟩=>by
  unfold Builtin.«dict.setdefault»;refine vw ?_;unfold Builtin.Dict.keyAndDefault;refine vw (wpAny_notOrdered_dict hm.typeIs ?_);show wpAny _ _ (pure (d,Value.ref a,some dflt)) _ _ s
  refine vx ?_;show wpAny _ _ (if (d == sysModules)=true then _ else (dictSetDefault d (.ref a) dflt >>= _)) _ _ s
  rw [if_neg (by rw [hd];exact Bool.false_ne_true)];exact vw (Tf hu hkey hm (fun p hp=>vx ⟨p.2,rfl,h1 p hp⟩) (fun hn h' hm' hs'=>vx ⟨dflt,rfl,h2 hn h' hm' hs'⟩) hz)
end
variable {tg:Expr}
section
variable {X:Cx}
def tSd (X:Cx) (td ty tx:TE):TE:=fun σ H Q=>td σ H fun x H1=>∃ a ks xs ys,x=.ref a/\DictR X H1 a ks xs ys/\ty σ H1 fun y H2=>tx σ H2 fun z H3=>∃ k ks xs ys,Rp (gOf X) H3 k y/\kOk ks k=true/\DictR X H3 a ks xs ys/\xs.length < lim /\
 (∀ v,atV xs ys k=some v->Q v H3)/\(atV xs ys k=none->∀ b u ep,y=.ref b->RelV z u->Q z (upd H3 a (.ext (DAt (gOf X) a (xs++[(k,b,u)]) (ys++[z]) ep))))
def YQ {o e f:Expr}{td ty tx:TE}{apos cpos:Pos} (hu:X.A.units+100 < cLine) (ho:PE X o td) (he:PE X e ty) (hf:PE X f tx) (m:M2 X o "setdefault" apos e f cpos):PE X (.Call (.Attribute o "setdefault" apos) [e,f] [] cpos) (tSd X td ty tx):=by
 intro pins s σ H Q I h;refine wpAny_Call_method m.base m.few m.line PySem.F.plainAttrs_dict PySem.F.slot_dict_setdefault PySem.F.type_dict_setdefault (thn (ho pins s σ H _ I h) fun u s1 ⟨x,H1,I1,rx,a,ks,xs,ys,ex,d,q1⟩=>?_);subst ex;obtain rfl:u=Value.ref a:=rx;obtain ⟨h4,ob,e1,e2⟩:=JZ I1 d;refine ⟨h4,?_,?_⟩
 .intro c ec;cases ec;exact ⟨ob,e1,e2⟩
 rw [m.trees];refine Calls.callWith_builtin rfl (Calls.evalArgs_plain (Calls.spliced_cons (thn (he pins s1 σ H1 _ I1 q1) fun iv s2 ⟨y,H2,I2,ry,q2⟩ =>
  Calls.spliced_cons (thn (hf pins s2 σ H2 _ I2 q2) fun fv s3 ⟨z,H3,I3,rz,k,ks3,xs3,ys3,r1,hk,d3,hl,q3,q4⟩=>Calls.spliced_nil ?_))))
 obtain ⟨kb,hkb,g1,g2,g3,g4⟩:=dictOf I3 d3 hk;obtain ⟨_,_,ds,rfl⟩:=fX hkb;rw [Rp] at r1;obtain ⟨b,zs,rfl,sq,rs⟩:=id r1;cases ry;have hin:X.A.in1.units=X.A.units+1:=rfl;have hlz:=ju;refine call_meetsIn PySem.F.slot_dict_setdefault g4.typeIs PySem.F.entry_dict_setdefault (PySem.F.args_dict_setdefault_3 _ _ _) (KN (gY kb X.prog X.w) a b g1 fv)
  ⟨by show X.A.in1.units+10 < cLine;omega,_,xs3,yd I3 hkb (by rw [Rp];exact ⟨b,zs,rfl,sq,rs⟩),g4,g2,fun p hp=>?_,fun hno h' hm' hs'=>?_⟩
 .rcases sS (k:=.tup ds) g3 with ⟨z',p',e1,e2,rp⟩ | ⟨e1,e2⟩
  .rw [hp] at e2;cases e2;exact ⟨_,H3,I3.tok _,rp,q3 _ e1⟩
  .rw [hp] at e2;cases e2
 .have hv:atV xs3 ys3 (.tup ds)=none:=by
   rcases sS (k:=.tup ds) g3 with ⟨z',p',e1,e2,rp⟩ | ⟨e1,e2⟩
   .rw [hno] at e2;cases e2
   .exact e1
  obtain ⟨o',es',ep',e1,e2,e3,e4,e5,e6⟩:=id hm';rw [storedH_new hno] at e4 e6;refine ⟨_,_,?_,rz,q4 hv b fv ep' rfl rz⟩;have mu:Mut (H3 a):=by obtain ⟨_,dat⟩:=d3.at_;rw [dat];exact trivial
  refine I3.write (x:=a) (e:=a) mu (.inl rfl) (fun c w hc hw=>(hs'.2 c hc).trans hw) ⟨_,e1⟩ ?_;refine ⟨⟨g1,by rw [List.length_append,List.length_singleton];omega,by rw [List.map_append];exact g3.append (.cons rz .nil),o',es',e1,e2,e3,e4,e6⟩,⟨_,e1⟩,fun ha hb p kp=>?_⟩;obtain ⟨p1,p2,p3,o2,es2,q1,q2⟩:=p;exact ⟨p1,p2,p3,o2,es2,kp _ q1,q2⟩
noncomputable def Itk (g:G) (a:Addr) (xs:List (D × Addr × Value)) (ys:List V) (ep:Nat):It :=
 ⟨fun i H=>H a=some (.ext (DAt g a xs ys ep))/\i < xs.length,fun i H x H'=>H'=H/\∃ e,xs[i]?=some e/\x=.ref e.2.1,fun i H=>H a=some (.ext (DAt g a xs ys ep))/\xs.length<=i⟩
def SN {P:Program}{w:World}{K:zt} (a it:Addr) (xs:List (D × Addr × Value)) (ys:List V) (ep:Nat):Turn P w K tg (Itk ⟨P,w,K⟩ a xs ys ep) [it] it (fun i h=>h.IsKeyIter it a i xs.length ep) where
 mem:=by simp
 obj:=fun i h st b hb=>by
  have e:b=it:=by simpa using hb
  subst e;obtain ⟨o,e,c,d⟩:=st;exact ⟨o,e,fun v z=>by rw [d] at z;cases z⟩
 keep:=fun i h h' st k=>st.at fun o e=>k it (by simp) o e
 item:=by
  intro X hP hw hK hc i pins s σ H E I hf st hg;subst hP hw hK;obtain ⟨hq,hx⟩:=hg;obtain ⟨⟨h1,h2,h3,o',es,h4,h5,h6,h7,h8⟩,_⟩:=(show cD X.prog X.w H s.heap a (.ext (DAt (gOf X) a xs ys ep)) from I.hok a _ hq);have hsz:es.size=xs.length:=by rw [<- Array.length_toList,h7,List.length_map]
  obtain ⟨f0,f1,f2,f3,f4,f5⟩:=hf it (by simp);have hi:i < es.size:=by omega
  have ek:es[i].key=.ref xs[i].2.1:=by
   have e:=entry_at h7 i;rw [Array.getElem?_eq_getElem hi,List.getElem?_eq_getElem hx] at e;have e':=jb (e.trans (Option.map_some ..));rw [e'];rfl
  refine JW (es:=es) (ep:=ep) (by rw [hsz];exact st) ⟨o',h4,h5,h6⟩ hi fun h' st' sb=>?_
  have I1:Inv X pins σ H { s with heap:=h' }:=I.turned (t':=s.toks) (fun b o hb e=>(sb.2 b hb).trans e) f0 f1 f3 f4 f5;rw [hsz] at st';obtain ⟨o,e,c,d⟩:=id st';exact ⟨_,rfl,Bk (s:={ s with heap:=h' }) e c d (by decide) ⟨.ref xs[i].2.1,H,I1,by rw [ek];rfl,⟨rfl,xs[i],by simp,rfl⟩,st',fun b hb=>(hf b hb).1⟩⟩
 done:=by
  intro X hP hw hK hc i pins s σ H E I hf st hg;subst hP hw hK;obtain ⟨hq,hx⟩:=hg;obtain ⟨⟨h1,h2,h3,o',es,h4,h5,h6,h7,h8⟩,_⟩:=(show cD X.prog X.w H s.heap a (.ext (DAt (gOf X) a xs ys ep)) from I.hok a _ hq);have hsz:es.size=xs.length:=by rw [<- Array.length_toList,h7,List.length_map]
  obtain ⟨f0,f1,f2,f3,f4,f5⟩:=hf it (by simp);exact Lp (es:=es) (ep:=ep) (I.ok.hd hc) (by rw [hsz];exact st) ⟨o',h4,h5,h6⟩ (by omega) fun h' eb=>⟨rfl,I.turned (t':=s.toks) (fun b o hb e=>eb b o hb e) f0 f1 f3 f4 f5⟩
 self:=fun _ _ _ _ _ st h=>wpAny_pyIter_keyiter st h
def acL (X:Cx) (tl:TE):TI:=fun σ H R=>tl σ H fun x H1=>∃ a xs ys ep,x=.ref a/\H1 a=some (.ext (DAt (gOf X) a xs ys ep))/\R (Itk (gOf X) a xs ys ep) H1
def aaq {l:Expr}{tl:TE} (hl:PE X l tl):PI X tg l (acL X tl):=by
 intro pins s σ H R I h;refine thn (hl pins s σ H _ I h) fun v s1 ⟨x,H1,I1,r1,q1⟩=>?_
 obtain ⟨a,xs,ys,ep,e,hq,q⟩:=q1;subst e;cases r1;obtain ⟨⟨h1,h2,h3,o',es,h4,h5,h6,h7,h8⟩,_⟩:=(show cD X.prog X.w H1 s1.heap a (.ext (DAt (gOf X) a xs ys ep)) from I1.hok a _ hq);have hsz:es.size=xs.length:=by rw [<- Array.length_toList,h7,List.length_map]
 refine Jv h1 ⟨o',h4,h5,h6⟩ ?_;refine ⟨s1.heap.objs.size,[s1.heap.objs.size],_,_,H1,rfl,I1.kept (t':=s1.toks) fun b o e=>vS _ e,SN a _ xs ys ep,⟨_,vT _ rfl,rfl,by rw [hsz];rfl⟩,fun b hb=>?_,q⟩;have e:b=s1.heap.objs.size:=by simpa using hb
 subst e;exact I1.fpOk (v4 _) (I1.hok.fresh (v4 _))
end
end Mi
set_option maxHeartbeats 400000
namespace Mi
open PySem L2
open PyProof.Rows hiding St
theorem je {α β:Type} (f:α->β):∀ (l:List α) (j:Nat),(l.map f).eraseIdx j=(l.eraseIdx j).map f
 | [],_=>rfl
 | _::_,0=>rfl
 | a::l,j+1=>by rw [List.map_cons,List.eraseIdx_cons_succ,List.eraseIdx_cons_succ,List.map_cons,je f l j]
section
variable {prog:Program}{w:World}{knd:HeapKind prog w D}{A:Around}{E:zn}{s:Shared}
def R7 {d a:Addr}{xs:List (D × Addr × Value)}{k:D}{Q:Option DictEntry->Shared->Prop} (hu:knd.room A) (hkey:knd.is s.heap k a) (hm:s.heap.DictOfH knd d xs)
  (h1:k ∉ xs.map (·.1)->Q none { s with toks:=s.toks+knd.draws k })
  (h2:∀ (j:Nat) (p:Addr × Value),xs[j]?=some (k,p)->∀ e:DictEntry,e.val=p.2->∀ h',h'.DictOfH knd d (xs.eraseIdx j)->Heap.SameBut d s.heap h'->Q (some e) { s with heap:=h',toks:=s.toks+knd.draws k })
  (hsz:xs.length<=sizeLine):wpAny (model prog w) A (Builtin.Dict.takeOut d (.ref a)) Q E s:=by
 obtain ⟨o,es,ep,ho,hc,hd,he,his,hn⟩:=hm;unfold Builtin.Dict.takeOut
 try with_reducible refine wpAny_holding ?_
 refine vw (knd.pyHash hu hkey ?_);refine vw (wpAny_dictFind_heap (s:={ s with toks:=s.toks+knd.draws k }) hu hkey ho hd he his hn ?_ ?_)
 .intro hno;exact vx (h1 (not_mem_keys_of_get hno))
 .intro j p hj;refine vw (jC (s:={ s with toks:=s.toks+knd.draws k }) ho hd ?_);rw [entry_at he j,hj];refine vw (wpAny_updateDictKeys (hz:=by have e:=size_of_entries he;omega) (s:={ s with toks:=s.toks+knd.draws k }) ho hd (vx (h2 j p hj _ rfl _ ⟨_,_,ep+1,ym _ ho (Obj.isFreed_of_dict (Obj.data_mapDictKeys hd _)),hc.mapDictKeys _,Obj.data_mapDictKeys hd _,?_,?_,?_⟩ (jn ..))))
  .have e1:(es.eraseIdxIfInBounds j).toList=es.toList.eraseIdx j:=by obtain ⟨l⟩:=es;simp
   rw [e1,he,je]
  .intro x hx;exact knd.keeps (his x (List.mem_of_mem_eraseIdx hx)) ho hd (jn ..)
  .exact hn.sublist ((List.eraseIdx_sublist xs j).map _)
def Ob (knd:HeapKind prog w D) (d a:Addr) (hd:(d == sysModules)=false) (dflt:Value) :
  MeetsIn prog w (Builtin.«dict.pop» ⟨[.ref d,.ref a,dflt],[]⟩) (fun A R s=>knd.room A.in1/\∃ k xs,knd.is s.heap k a/\s.heap.DictOfH knd d xs/\xs.length<=sizeLine /\
   (∀ (j:Nat) (p:Addr × Value),xs[j]?=some (k,p)->∀ h',h'.DictOfH knd d (xs.eraseIdx j)->Heap.SameBut d s.heap h'->R (.ok (.ret p.2)) { s with heap:=h',toks:=s.toks+knd.draws k }) /\
   (k ∉ xs.map (·.1)->∀ tk,R (.ok (.ret dflt)) { s with toks:=tk })) :=
 .of_wp fun A R s ⟨hu,k,xs,hkey,hm,hz,h1,h2⟩=>by
  obtain ⟨o,es,ep,ho,hc,hdat,he,his,hn⟩:=id hm;unfold Builtin.«dict.pop»;refine vw ?_;unfold Builtin.Dict.keyAndDefault;refine vw (wpAny_notOrdered_dict hm.typeIs ?_);show wpAny _ _ (pure (d,Value.ref a,some dflt)) _ _ s
  refine vx ?_;have hp:(keyPart (Value.ref a)).isSome=false:=rfl;simp only [hp,Bool.false_eq_true,if_false];refine vw (jC ho hdat (vw (vx ?_)));cases hE:es.isEmpty with
  | true =>
   have hno:k ∉ xs.map (·.1):=by
    have e0:es=#[]:=by simpa using hE
    rw [e0] at he;have:xs=[]:=by cases xs with | nil=>rfl | cons _ _=>simp at he
    rw [this];simp
   simp only [if_true];refine vw (wpAny_rule (vw (vx ?_)));simp only [Option.isNone_none,if_true];refine vw (wpAny_missedRemoval_other hd ?_);exact vw (wpAny_rule (vx ⟨dflt,rfl,h2 hno s.toks⟩))
  | false =>
   simp only [Bool.false_eq_true,if_false];refine vw (R7 hu hkey hm (fun hno=>?_) (fun j p hj e ev h' hm' hs'=>?_) hz)
   .simp only [Option.isNone_none,if_true];refine vw (wpAny_missedRemoval_other hd ?_);exact vw (wpAny_rule (vx ⟨dflt,rfl,h2 hno _⟩))
   .simp only [Option.isNone_some,Bool.false_eq_true,if_false];exact vw (wpAny_letGo (vx ⟨e.val,rfl,by rw [ev];exact h1 j p hj h' hm' hs'⟩))
end
variable {e:Expr}
section
variable {X:Cx}
def tDp (X:Cx) (td ty tx:TE):TE:=fun σ H Q=>td σ H fun x H1=>∃ a ks xs ys,x=.ref a/\DictR X H1 a ks xs ys/\ty σ H1 fun y H2=>tx σ H2 fun z H3=>∃ k ks xs ys,Rp (gOf X) H3 k y/\kOk ks k=true/\DictR X H3 a ks xs ys /\
 (∀ (j:Nat) v,(xs.map (·.1)).Nodup->(xs.map (·.1))[j]?=some k->ys[j]?=some v->∀ ep,Q v (upd H3 a (.ext (DAt (gOf X) a (xs.eraseIdx j) (ys.eraseIdx j) ep))))/\(k ∉ xs.map (·.1)->Q z H3)
def V7 {o f:Expr}{td ty tx:TE}{apos cpos:Pos} (hu:X.A.units+100 < cLine) (ho:PE X o td) (he:PE X e ty) (hf:PE X f tx) (m:M2 X o "pop" apos e f cpos):PE X (.Call (.Attribute o "pop" apos) [e,f] [] cpos) (tDp X td ty tx):=by
 intro pins s σ H Q I h;refine wpAny_Call_method m.base m.few m.line PySem.F.plainAttrs_dict PySem.F.slot_dict_pop PySem.F.type_dict_pop (thn (ho pins s σ H _ I h) fun u s1 ⟨x,H1,I1,rx,a,ks,xs,ys,ex,d,q1⟩=>?_);subst ex;obtain rfl:u=Value.ref a:=rx;obtain ⟨h4,ob,e1,e2⟩:=JZ I1 d;refine ⟨h4,?_,?_⟩
 .intro c ec;cases ec;exact ⟨ob,e1,e2⟩
 rw [m.trees];refine Calls.callWith_builtin rfl (Calls.evalArgs_plain (Calls.spliced_cons (thn (he pins s1 σ H1 _ I1 q1) fun iv s2 ⟨y,H2,I2,ry,q2⟩ =>
  Calls.spliced_cons (thn (hf pins s2 σ H2 _ I2 q2) fun fv s3 ⟨z,H3,I3,rz,k,ks3,xs3,ys3,r1,hk,d3,q3,q4⟩=>Calls.spliced_nil ?_))))
 obtain ⟨kb,hkb,g1,g2,g3,g4⟩:=dictOf I3 d3 hk;obtain ⟨_,_,ds,rfl⟩:=fX hkb;rw [Rp] at r1;obtain ⟨b,zs,rfl,sq,rs⟩:=id r1;cases ry;have hin:X.A.in1.units=X.A.units+1:=rfl;refine call_meetsIn PySem.F.slot_dict_pop g4.typeIs PySem.F.entry_dict_pop (PySem.F.args_dict_pop_3 _ _ _) (Ob (gY kb X.prog X.w) a b g1 fv)
  ⟨by show X.A.in1.units+10 < cLine;omega,_,xs3,yd I3 hkb (by rw [Rp];exact ⟨b,zs,rfl,sq,rs⟩),g4,g2,fun j p hj h' hm' hs'=>?_,fun hno tk=>⟨_,H3,I3.tok _,rz,q4 hno⟩⟩
 obtain ⟨o',es',ep',e1,e2,e3,e4,e5,e6⟩:=id hm';have hjl:j < xs3.length:=(v7.mp hj).1;have hl3:=g3.length;rw [List.length_map] at hl3;obtain ⟨w,hw⟩:∃ w,ys3[j]?=some w:=⟨ys3[j]'(by omega),List.getElem?_eq_getElem _⟩;obtain ⟨u,hu',ru⟩:=g3.get hw;rw [List.getElem?_map,hj] at hu';cases hu';refine ⟨w,_,?_,ru,q3 j w (by obtain ⟨_,_,_,_,_,_,_,_,hn⟩:=g4;exact hn) (by rw [List.getElem?_map,hj];rfl) hw ep'⟩;have mu:Mut (H3 a):=by obtain ⟨_,dat⟩:=d3.at_;rw [dat];exact trivial
 refine I3.write (x:=a) (e:=a) mu (.inl rfl) (fun c w hc hw=>(hs'.2 c hc).trans hw) ⟨_,e1⟩ ?_;refine ⟨⟨g1,yb (Ed xs3 j) g2,by rw [<- je];exact g3.eraseIdx j,o',es',e1,e2,e3,e4,e6⟩,⟨_,e1⟩,fun ha hb p kp=>?_⟩;obtain ⟨p1,p2,p3,o2,es2,q1,q2⟩:=p;exact ⟨p1,p2,p3,o2,es2,kp _ q1,q2⟩
def aa8 (K:zt):V->List V->Hp->VK->Prop:=fun x vs H Q=>∃ (l:Addr) (ns:List Int) (k:Int) (j:Nat),x=.ref l/\vs=[.int k]/\SqL K H l (ns.map V.int)/\ns.findIdx? (fun a=>decide (a=k))=some j/\Q (.int j) H
noncomputable def isV (k:Int):Value->Bool
 | .int a _=>a == k
 | _=>false
def WM:MtM X "list.index" (aa8 X.K):=by
 intro pins s σ H x vs v us Q I rx rv h;obtain ⟨l,ns,k,j,rfl,rfl,hl,hj,q⟩:=h;cases rx;obtain ⟨u,rfl,ru⟩:=rv.one;obtain ⟨t,rfl⟩:=ru;obtain ⟨its,r,pl,hz⟩:=I.list hl;obtain ⟨⟨cls,dd,data,sl⟩,ho,hc,n,hd⟩:=pl.isList;simp only at hc hd;subst hc hd;have hlen:=r.length;rw [List.length_map] at hlen hz;have at_:∀ (i:Nat) (hi:i < ns.length),∃ t',its[i]?=some (.int ns[i] t'):=fun i hi=>by
  obtain ⟨u,hu,ru⟩:=r.get (i:=i) (x:=.int ns[i]) (by rw [List.getElem?_map,List.getElem?_eq_getElem hi];rfl);obtain ⟨t',rfl⟩:=ru;exact ⟨t',hu⟩
 have isAt:∀ (i:Nat) (hi:i < its.toArray.size),isV k its.toArray[i]=decide (ns[i]'(by rw [hlen];simpa using hi)=k):=fun i hi=>by
  obtain ⟨t',e⟩:=at_ i (by rw [hlen];simpa using hi);have:its.toArray[i]=.int (ns[i]'(by rw [hlen];simpa using hi)) t':=by
   have:=(v7.mp e).2;simpa using this
  rw [this];show ((ns[i]'_) == k)=_
  rw [Bool.eq_iff_iff];simp
 obtain ⟨hjl,hj1,hj2⟩:=List.findIdx?_eq_some_iff_getElem.mp hj;have hjs:j < its.toArray.size:=by rw [List.size_toArray,<- hlen];exact hjl
 have hn:=tH;refine call_meets F.slot_list_index ⟨_,ho,rfl⟩ F.entry_list_index (F.args_list_index_2 _ _) (SeqAt.list_indexAt l its.toArray n dd sl (.int k t) (isV k) j hjs (by omega) (by rw [isAt j hjs];exact hj1) (fun m hm hmj=>?_)) ⟨ho,fun y hy=>?_,?_⟩
 .rw [isAt m hm];have:=hj2 m hmj;simpa using this
 .obtain ⟨i,hi,rfl⟩:=Array.getElem_of_mem hy;obtain ⟨t',e⟩:=at_ i (by rw [hlen];simpa using hi);have e2:its.toArray[i]=.int (ns[i]'(by rw [hlen];simpa using hi)) t':=by
   have:=(v7.mp e).2;simpa using this
  rw [e2];exact aaR (y:=.int _) (x:=.int k) ⟨t',rfl⟩ ⟨t,rfl⟩ rfl rfl
 .exact ⟨.int j,H,I.tok _,⟨_,rfl⟩,q⟩
def Bv (hc:X.calm=true):gH X (.type "list") (fun vs H Q=>∃ a ks xs ys,vs=[.ref a] /\ DictR X H a ks xs ys /\ ∀ S,H S=none -> Q (.ref S) (upd H S (.lst (xs.map fun x=>V.ref x.2.1)))):=by
 intro pins s σ H vs us Q I rv h;obtain ⟨a,ks,xs,ys,rfl,d,q⟩:=h;obtain ⟨u,rfl,ru⟩:=vals1 rv;obtain rfl:u=Value.ref a:=ru;obtain ⟨ep,dat⟩:=d.at_;obtain ⟨⟨h1,h2,h3,o',es,h4,h5,h6,h7,h8⟩,_⟩:=(show cD X.prog X.w H s.heap a (.ext (DAt (gOf X) a xs ys ep)) from I.hok a _ dat);have hsz:es.size=xs.length:=by rw [<- Array.length_toList,h7,List.length_map]
 refine PySem.W.kdl_call (Mw (ep:=ep) (es:=es) h1) (I.ok.hd hc) ⟨o',h4,h5,h6⟩ (by omega) fun h' tk acc c kp hS hacc=>?_
 have hv:Vals (xs.map fun x=>V.ref x.2.1) acc.toList:=by
  have key:∀ (l:List (D × Addr × Value)) (us:zw),l.length=us.length->(∀ (j:Nat) u,us[j]?=some u->∃ x,l[j]?=some x/\u=.ref x.2.1)->Vals (l.map fun x=>V.ref x.2.1) us:=by
   intro l;induction l with
   | nil=>intro us hl _;cases us with | nil=>exact .nil | cons _ _=>simp at hl
   | cons x l ih =>
    intro us hl hj;cases us with
    | nil=>simp at hl
    | cons u us =>
     obtain ⟨y,ey,eu⟩:=hj 0 u rfl;simp at ey;subst ey;subst eu;exact .cons rfl (ih us (by simpa using hl) fun j w hw=>by simpa using hj (j+1) w (by simpa using hw))
  refine key xs acc.toList (by have e:=hacc.1;simp only [Array.length_toList];omega) fun j u hu=>?_
  obtain ⟨hj,eu⟩:=hacc.2 j u (by rw [<- Array.getElem?_toList];exact hu);have hjx:j < xs.length:=by omega
  refine ⟨xs[j],by simp [hjx],?_⟩;rw [eu];have e:=entry_at h7 j;rw [Array.getElem?_eq_getElem hj,List.getElem?_eq_getElem hjx] at e;have e':=jb (e.trans (Option.map_some ..));rw [e'];rfl
 have hlen:=hv.length;refine ⟨.ref _,_,I.laid (t':=tk) (o:=.lst (xs.map fun x=>V.ref x.2.1)) (fun d o e=>kp d o e) (v4 _) ⟨by rw [List.length_map];omega,acc.toList,c,hv,by simpa using hS⟩,rfl,q _ (I.hok.fresh (v4 _))⟩
end
theorem Sy (a v:Value):argsOk "max" ⟨[a],[(Str.ofString "default",v)]⟩:=by unfold argsOk; kernel_rfl
variable {its:zw}{ns:List Int}{s:Shared}{Q:Value -> Shared -> Prop}
section
variable {prog:Program}{w:World}{A:Around}{E:zn}{R:Result->Shared->Prop}{I l S:Addr}{kw:List (Str × Value)}
def Yi (hh:A.handled=none) (hlI:l≠I) (hSI:S≠I) (hSl:S≠l)  (hv:Vals (ns.map V.int) its) :
  ∀ (r j:Nat) (s:Shared) (b:Int) (tb:Tok) (c:Nat),ns.length - j=r->j<=ns.length->s.heap.IsListIter I l j->s.heap.IsList l its.toArray ->
  s.heap.get? S=some { cls:=.type "list",dict:=none,data:=.seq #[.int b tb,.int b tb] c,slots:=#[] } ->
  (∀ t h' tk,(∀ x o,x≠I->x≠S->s.heap.get? x=some o->h'.get? x=some o)->R (.ok (.ret (.int (mxI b (ns.drop j)) t))) { s with heap:=h',toks:=tk }) ->
  codeAny (model prog w) A (.builtin "max.loop" ⟨[.ref I,.none,.ref S],kw⟩) R s:=by
 have hname:(toString "max" ++ toString ".loop":String)="max.loop":=by decide
 have W:=Walks.list (prog:=prog) (w:=w) (A:=A.in1) hh I l hlI its.toArray;have hlen:=hv.length;rw [List.length_map] at hlen;have hsz:its.toArray.size=ns.length:=by rw [List.size_toArray];exact hlen.symm
 intro r;induction r with
 | zero =>
  intro j s b tb c hr hj hi hl hS hR;have hjn:j=ns.length:=by omega
  refine codeAny_builtin PySem.F.entry_max_loop ?_;rw [Around.under_plainId PySem.F.plain_max_loop _];show wpAny _ A.in1 (seqItems? (.ref S) >>= _) _ _ s
  refine vw (wpAny_seqItems hS rfl ?_);show wpAny _ A.in1 (tryCatch (pyNext (.ref I)) _ >>= _) _ _ s
  refine vw (wpAny_tryCatch (W.done s _ _ ⟨by rw [hsz,<- hjn];exact hi,hl⟩ fun h' tk hk'=>?_));have hS':=hk' S _ (by simpa using hSI) hS;show wpAny _ A.in1 (updateSeq S (fun _=>#[]) >>= _) _ _ _
  refine vw (wpAny_updateSeq hS' rfl (vw (wpAny_letGo (vx ?_))));have:=hR tb (h'.update S (Obj.mapSeq fun _=>#[])) tk fun x o hx1 hx2 e=>(yl _ _ (Ne.symm hx2)).trans (hk' x o (by simpa using hx1) e)
  rw [hjn,List.drop_length] at this;exact this
 | succ r ih =>
  intro j s b tb c hr hj hi hl hS hR;have hlt:j < ns.length:=by omega
  refine codeAny_builtin PySem.F.entry_max_loop ?_;rw [Around.under_plainId PySem.F.plain_max_loop _];show wpAny _ A.in1 (seqItems? (.ref S) >>= _) _ _ s
  refine vw (wpAny_seqItems hS rfl ?_);show wpAny _ A.in1 (tryCatch (pyNext (.ref I)) _ >>= _) _ _ s
  refine vw (wpAny_tryCatch (W.item j s _ _ (by rw [hsz];exact hlt) ⟨hi,hl⟩ fun v h' tk hP hst' hk'=>?_));have hS':=hk' S _ (by simpa using hSI) hS;obtain ⟨u,hu,ru⟩:=hv.get (i:=j) (x:=.int ns[j]) (by rw [List.getElem?_map,List.getElem?_eq_getElem hlt];rfl);obtain ⟨t2,rfl⟩:=ru;have ev:v=.int ns[j] t2:=by
   have h1:its[j]?=some v:=by simpa using hP
   rw [hu] at h1;exact (jb h1).symm
  subst ev;have hdr:ns.drop j=ns[j]::ns.drop (j+1):=List.drop_eq_getElem_cons hlt;rw [hdr] at hR;show wpAny _ A.in1 (tryCatch (holding [.int ns[j] t2,.int ns[j] t2] (richCompare .Gt (.int ns[j] t2) (.int b tb) >>= _)) _ >>= _) _ _ _
  refine vw (wpAny_tryCatch (wpAny_holding (vw (CmpOf.ints_gt (prog:=prog) (w:=w) (A:=A.in1) (P:=fun i v=>∃ t,v=.int (if i=0 then ns[j] else b) t) (fun i=>if i=0 then ns[j] else b) (fun i v h=>h) 0 1 _ _ _ _ _ ⟨t2,rfl⟩ ⟨tb,rfl⟩ ?_))));refine vw (wpAny_holding (y9 ?_));refine vw (wpAny_letGo (vx ?_));show wpAny _ A.in1 (if decide (ns[j] > b)=true then _ else _) _ _ _
  by_cases hb:b < ns[j]
  .rw [if_pos (by simpa using hb)];have hR':∀ t h' tk,(∀ x o,x≠I->x≠S->s.heap.get? x=some o->h'.get? x=some o)->R (.ok (.ret (.int (mxI ns[j] (ns.drop (j+1))) t))) { s with heap:=h',toks:=tk }:=fun t h2 tk2 k2=>by
    have:=hR t h2 tk2 k2;rw [mxI,if_pos hb] at this;exact this
   refine vw ?_;refine wpAny_updateSeq hS' rfl (vw (wpAny_letGo ?_));rw [hname];refine vx ⟨plainId_quiet PySem.F.plain_max_loop _,ih (j+1) _ ns[j] t2 _ (by omega) hlt ?_ ?_ (ym _ hS' rfl) fun t h2 tk2 k2=>hR' t h2 tk2 fun x o hx1 hx2 e=>k2 x o hx1 hx2 ((yl _ _ (Ne.symm hx2)).trans (hk' x o (by simpa using hx1) e))⟩
   .exact hst'.1.at fun o e=>(yl _ _ hSI).trans e
   .exact hst'.2.at fun o e=>(yl _ _ hSl).trans e
  .rw [if_neg (by simpa using hb)];have hR':∀ t h' tk,(∀ x o,x≠I->x≠S->s.heap.get? x=some o->h'.get? x=some o)->R (.ok (.ret (.int (mxI b (ns.drop (j+1))) t))) { s with heap:=h',toks:=tk }:=fun t h2 tk2 k2=>by
    have:=hR t h2 tk2 k2;rw [mxI,if_neg hb] at this;exact this
   refine vw (wpAny_letGo ?_);rw [hname];exact vx ⟨plainId_quiet PySem.F.plain_max_loop _,ih (j+1) _ b tb c (by omega) hlt hst'.1 hst'.2 hS' fun t h2 tk2 k2=>hR' t h2 tk2 fun x o hx1 hx2 e=>k2 x o hx1 hx2 (hk' x o (by simpa using hx1) e)⟩
def MK (hkw:kw=[] \/ ∃ d,kw=[(Str.ofString "default",d)]) (hl:s.heap.IsList l its.toArray)
  (h:∀ I S h₂,l ≠ I -> S ≠ I -> S ≠ l -> (∀ b o,s.heap.get? b=some o -> h₂.get? b=some o /\ b ≠ I /\ b ≠ S) -> h₂.IsListIter I l 0 -> h₂.IsList l its.toArray -> h₂.get? S=some { cls:=.type "list",dict:=none,data:=.seq #[] 0,slots:=#[] } ->
   codeAny (model prog w) A (.builtin "max.loop" ⟨[.ref I,.none,.ref S],kw⟩) (fun r s'=>match r with | .ok (.ret v)=>Q v s' | .ok _=>False | .error e=>E e s') { s with heap:=h₂ }) :
  wpAny (model prog w) A (call (.builtin "max") [.ref l] kw) Q E s:=by
 have hname:(toString "max" ++ toString ".loop":String)="max.loop":=by decide
 have hargs:argsOk "max" ⟨[.ref l],kw⟩:=by
  rcases hkw with rfl | ⟨d,rfl⟩
  .exact PySem.F.args_max1 _
  .exact Sy _ _
 refine kmk_tree PySem.F.kind_max PySem.F.plain_max PySem.F.entry_max hargs ?_;have hb:∃ dv:Option Value,Builtin.Builtins.bindParams "max" ["key","default"] 0 ⟨[],kw⟩=pure [none,dv] /\ (dv.toList.map fun d=>(Str.ofString "default",d))=kw:=by
  rcases hkw with rfl | ⟨d,rfl⟩
  .exact ⟨none,rfl,rfl⟩
  .exact ⟨some d,rfl,rfl⟩
 obtain ⟨dv,hb,hk⟩:=hb;show wpAny _ A.in1 (Builtin.Builtins.bindParams "max" ["key","default"] 0 ⟨[],kw⟩ >>= _) _ _ s
 refine vw (wpAny_of_eq hb ?_);refine vw (vx ?_);refine vw (wpAny_pyIter_list hl ?_);refine vw (wpAny_newList ?_ (ye _));rw [hname];have e0:(dv.toList.map fun d=>(("default":Str),d))=kw:=hk
 have hll:l < s.heap.objs.size:=by obtain ⟨_,e,_⟩:=hl;exact v3 e
 have hS:(s.heap.push { cls:=.type "list_iterator",data:=.fields #[.ref l,.int 0 0] }).objs.size=s.heap.objs.size+1:=Heap.size_push ..
 have:=h s.heap.objs.size (s.heap.push { cls:=.type "list_iterator",data:=.fields #[.ref l,.int 0 0] }).objs.size ((s.heap.push { cls:=.type "list_iterator",data:=.fields #[.ref l,.int 0 0] }).push { cls:=.type "list",dict:=none,data:=.seq #[] 0,slots:=#[] })
  (v6 hll) (by rw [hS];exact ya (jS _)) (by rw [hS];exact ya (Nat.lt_succ_of_lt hll)) (fun b o e=>⟨vS _ (vS _ e),v6 (v3 e),by rw [hS];exact v6 (Nat.lt_succ_of_lt (v3 e))⟩)
  (by exact ⟨_,vS _ (vT _ rfl),rfl,rfl⟩) ((hl.push _).push _) (vT _ rfl)
 rw [<- e0] at this;exact vx ⟨plainId_quiet PySem.F.plain_max_loop _,this⟩
def Mq {n:Int} (hh:A.handled=none) (hkw:kw=[] \/ ∃ d,kw=[(Str.ofString "default",d)]) (hl:s.heap.IsList l its.toArray) (hv:Vals ((n::ns).map V.int) its)
  (h:∀ t h' tk,(∀ b o,s.heap.get? b=some o->h'.get? b=some o)->Q (.int (mxI n ns) t) { s with heap:=h',toks:=tk }) :
  wpAny (model prog w) A (call (.builtin "max") [.ref l] kw) Q E s:=by
 refine MK hkw hl fun I S h₂ hlI hSI hSl kp hi hl2 hS=>?_
 have hname:(toString "max" ++ toString ".loop":String)="max.loop":=by decide
 have W:=Walks.list (prog:=prog) (w:=w) (A:=A.in1) hh I l hlI its.toArray;have hlen:=hv.length;rw [List.length_map,List.length_cons] at hlen;refine codeAny_builtin PySem.F.entry_max_loop ?_;rw [Around.under_plainId PySem.F.plain_max_loop _];show wpAny _ A.in1 (seqItems? (.ref S) >>= _) _ _ _
 refine vw (wpAny_seqItems hS rfl ?_);show wpAny _ A.in1 (tryCatch (pyNext (.ref I)) _ >>= _) _ _ _
 refine vw (wpAny_tryCatch (W.item 0 _ _ _ (by rw [List.size_toArray];omega) ⟨hi,hl2⟩ fun v h' tk hP hst' hk'=>?_));have hS':=hk' S _ (by simpa using hSI) hS;obtain ⟨u,hu,ru⟩:=hv.get (i:=0) (x:=.int n) rfl;obtain ⟨t2,rfl⟩:=ru;have ev:v=.int n t2:=by
  have h1:its[0]?=some v:=by simpa using hP
  rw [hu] at h1;exact (jb h1).symm
 subst ev;show wpAny _ A.in1 (updateSeq S (fun _=>#[.int n t2,.int n t2]) >>= _) _ _ _
 refine vw (wpAny_updateSeq hS' rfl ?_);rw [hname];refine vx ⟨plainId_quiet PySem.F.plain_max_loop _,Yi hh hlI hSI hSl hv _ 1 _ n t2 _ rfl (by rw [List.length_cons];omega) ?_ ?_ (ym _ hS' rfl) fun t h3 tk3 k3=>?_⟩
 .exact hst'.1.at fun o e=>(yl _ _ hSI).trans e
 .exact hst'.2.at fun o e=>(yl _ _ hSl).trans e
 .exact h t h3 tk3 fun b o e=>k3 b o (kp b o e).2.1 (kp b o e).2.2 ((yl _ _ (Ne.symm (kp b o e).2.2)).trans (hk' b o (by simpa using (kp b o e).2.1) (kp b o e).1))
def Yt {Q:zn}{d:Value} (hh:A.handled=none) (hl:s.heap.IsList l ([]:zw).toArray) (h:∀ h' tk,(∀ b o,s.heap.get? b=some o->h'.get? b=some o)->Q d { s with heap:=h',toks:=tk }) :
  wpAny (model prog w) A (call (.builtin "max") [.ref l] [(Str.ofString "default",d)]) Q E s:=by
 refine MK (.inr ⟨d,rfl⟩) hl fun I S h₂ hlI hSI hSl kp hi hl2 hS=>?_
 have W:=Walks.list (prog:=prog) (w:=w) (A:=A.in1) hh I l hlI ([]:zw).toArray;refine codeAny_builtin PySem.F.entry_max_loop ?_;rw [Around.under_plainId PySem.F.plain_max_loop _];show wpAny _ A.in1 (seqItems? (.ref S) >>= _) _ _ _
 refine vw (wpAny_seqItems hS rfl ?_);show wpAny _ A.in1 (tryCatch (pyNext (.ref I)) _ >>= _) _ _ _
 refine vw (wpAny_tryCatch (W.done _ _ _ ⟨hi,hl2⟩ fun h' tk hk'=>?_));show wpAny _ A.in1 (rule _ >>= _) _ _ _
 exact vw (wpAny_rule (vx (h h' tk fun b o e=>hk' b o (by simpa using (kp b o e).2.1) (kp b o e).1)))
end
section
variable {X:Cx}
def Rj (hc:X.calm=true):gH X (.builtin "max") (fun vs H Q=>∃ (a:Addr) (n:Int) (ns:List Int),vs=[.ref a] /\ SqL X.K H a ((n::ns).map V.int) /\ Q (.int (mxI n ns)) H):=by
 intro pins s σ H vs us Q I rv h;obtain ⟨a,n,ns,rfl,hx,q⟩:=h;obtain ⟨u,rfl,ru⟩:=vals1 rv;obtain rfl:u=Value.ref a:=ru;obtain ⟨its,r,pl,hz⟩:=I.list hx;exact Mq (I.ok.hd hc) (.inl rfl) pl.isList r fun t h' tk kp=>⟨.int (mxI n ns),H,I.kept kp,⟨t,rfl⟩,q⟩
def acH (X:Cx) (k:Int):List V->Hp->VK->Prop:=fun vs H Q=>∃ (a:Addr) (ns:List Int),vs=[.ref a]/\SqL X.K H a (ns.map V.int)/\Q (.int (match ns with | []=>k | n::l=>mxI n l)) H
def Zi:bootBuiltins "max"=some (.builtin "max"):=by decide +kernel
def Zh {te:TE}{k:Int}{j:Nat}{p q r pos:Pos} (hc:X.calm=true) (hg:Gl X "max") (hm:X.mg "max"=none) (he:PE X e te) (hn:starEach [e] X.env=(false,eval e X.env)::starEach [] X.env) :
  PE X (.Call (.Name "max" p) [e] [⟨some "default",.Constant (.int k) j q,r⟩] pos) (tCB (acH X k) (Ni te Nb)):=by
 intro pins s σ H Q I h;refine wpAny_Call_Name_kw (fV I hg hm Zi ?_ (by decide) (by decide));refine PyProof.Rows.callWith_kw ?_ (by rw [hn];rfl) (by rw [hn];rfl) rfl rfl;refine thn (dD he gK hn pos pins s σ H _ I h) fun us s1 ⟨vs,H1,I1,r1,a,ns,e1,hx,q⟩=>?_
 subst e1;obtain ⟨u,rfl,ru⟩:=vals1 r1;obtain rfl:u=Value.ref a:=ru;refine PyProof.Rows.kws_cons (wpAny_Constant_int (PyProof.Rows.kws_nil ?_));obtain ⟨its,rr,pl,hz⟩:=(I1.tok (s1.toks+1)).list hx;cases ns with
 | nil =>
  have e0:its=[]:=by
   have:=rr.length;cases its with | nil=>rfl | cons _ _=>simp at this
  subst e0;exact Yt (I1.ok.hd hc) pl.isList fun h' tk kp=>⟨.int k,H1,(I1.tok (s1.toks+1)).kept kp,⟨_,rfl⟩,q⟩
 | cons n ns=>exact Mq (I1.ok.hd hc) (.inr ⟨_,rfl⟩) pl.isList rr fun t h' tk kp=>⟨.int (mxI n ns),H1,(I1.tok (s1.toks+1)).kept kp,⟨t,rfl⟩,q⟩
end
end Mi
namespace PySem
open Builtin
end PySem
namespace HT
open PySem PyProof.Rows
end HT
namespace L2
open PySem PySem.Spec PyProof.Rows
end L2
set_option maxHeartbeats 1000000
namespace Mi
open PySem L2
inductive M where
 | var (i:Nat) | con (d:D)
 | tup (es:List M) | lst (es:List M) | dct0
 | bin (op:BO) (a b:M) | cmp (op:CO) (a b:M) | chain (p q:CO) (a b c:M)
 | and (es:List M) | or (es:List M) | not (a:M) | neg (a:M)
 | ix (a b:M) | slc (a lo hi:M)
 | dget (a k d:M) | maxd (a:M) (k:Int) | idx (i:Nat) (e:M)
 | call (f:Nat) (es:List M) | blt (f:BI) (es:List M) | isin (a:M) (t:Ty)
 | comp (elt:M) (tg:Tg) (k:IK) (src:List M) (hc:Bool) (c:M) (cap:List Bool)
noncomputable def cJ:D->R Bool
 | .bl b=>.ok b
 | _=>.stuck
noncomputable def tK:M->Bool
 | .comp ..=>true
 | _=>false
def jw (c:M):D->R Bool
 | .bl b=>.ok b
 | .lst ds=>if tK c=true then .ok (!ds.isEmpty) else .stuck
 | _=>.stuck
noncomputable def mq:D->R (Option Int)
 | .int i=>.ok (some i)
 | _=>.stuck
noncomputable def dB:M->Bool
 | .con .non=>true
 | _=>false
noncomputable def cutD (ds:List D) (lo hi:Option Int):List D:=(ds.drop (HT.sIx ds.length 0 lo)).take (HT.sIx ds.length ds.length hi - HT.sIx ds.length 0 lo)
def slD (d:D) (lo hi:Option Int):R D:=match d with
 | .lst ds=>.ok (.lst (cutD ds lo hi))
 | _=>.stuck
noncomputable def vd:D->R D
 | .lst ds=>.ok (.int ds.length)
 | .tup ds=>.ok (.int ds.length)
 | _=>.stuck
def tQ (d:D):R D:=do
 let ds <- GJ d
 if sU ds then .ok (.lst (nZ ds)) else .stuck
def xM:D->R D
 | .lst ds=>(match intsOf ds with | some (i::is)=>.ok (.int (mxI i is)) | _=>.stuck)
 | _=>.stuck
def Gw (k:Int):D->R D
 | .lst []=>.ok (.int k)
 | d=>xM d
def PJ:D->D->R D
 | .lst ds,.int k=>(match intsOf ds with
   | some is=>(match is.findIdx? (fun a=>decide (a=k)) with | some j=>.ok (.int j) | none=>.stuck)
   | none=>.stuck)
 | _,_=>.stuck
def fM:BI->List D->R D
 | .len,[d]=>vd d
 | .min2,[.int a,.int b]=>.ok (.int (if b < a then b else a))
 | .all,[.lst ds]=>(match boolsOf ds with | some bs=>.ok (.bl (bs.all id)) | none=>.stuck)
 | .any,[.lst ds]=>(match boolsOf ds with | some bs=>.ok (.bl (bs.any id)) | none=>.stuck)
 | .sorted,[d]=>tQ d
 | .list,[.lst ds]=>.ok (.lst ds)
 | .list,[.tup ds]=>.ok (.lst ds)
 | .list,[.dct ks _]=>.ok (.lst ks)
 | .tuple,[.lst ds]=>.ok (.tup ds)
 | .tuple,[.tup ds]=>.ok (.tup ds)
 | .listEnum,[.tup ds]=>.ok (.lst (aY 0 ds))
 | .listRev,[.lst ds]=>.ok (.lst ds.reverse)
 | .maxl,[d]=>xM d
 | _,_=>.stuck
def uL:D->D->D->R D
 | .dct ks vs,k,z=>if kOk ks k then .ok ((cW ks vs k).getD z) else .stuck
 | _,_,_=>.stuck
noncomputable def dw:Tg->D->En->R En
 | .one i,d,ρ=>.ok (ρ.set i (some d))
 | .two i j,.tup [a,b],ρ=>.ok ((ρ.set i (some a)).set j (some b))
 | _,_,_=>.stuck
noncomputable def iz (f:D->R (Option D)):List D->R (List D)
 | []=>.ok []
 | d::ds=>do
  let y <- f d
  let ys <- iz f ds
  .ok (match y with | some y=>y::ys | none=>ys)
noncomputable def bO (ρ:En) (i:Nat):R D:=match ρ[i]? with | some (some d)=>.ok d | _=>.stuck
mutual
noncomputable def evE (cl:Nat->List D->R D):M->En->R D
 | .var i,ρ=>bO ρ i
 | .con d,_=>.ok d
 | .tup es,ρ=>do let ds <- cB cl es ρ;if ds.length<=lim then .ok (.tup ds) else .stuck
 | .lst es,ρ=>do let ds <- cB cl es ρ;if ds.length<=lim then .ok (.lst ds) else .stuck
 | .dct0,_=>.ok (.dct [] [])
 | .bin op a b,ρ=>do let x <- evE cl a ρ;let y <- evE cl b ρ;jD op x y
 | .cmp op a b,ρ=>do let x <- evE cl a ρ;let y <- evE cl b ρ;let r <- bQ op x y;.ok (.bl r)
 | .chain p q a b c,ρ=>do
  let x <- evE cl a ρ
  let y <- evE cl b ρ
  let r <- bQ p x y
  if r then do let z <- evE cl c ρ;let r2 <- bQ q y z;.ok (.bl r2) else .ok (.bl false)
 | .and es,ρ=>jl cl es ρ
 | .or es,ρ=>uE cl es ρ
 | .not a,ρ=>do let x <- evE cl a ρ;let t <- cJ x;.ok (.bl (!t))
 | .neg a,ρ=>do let x <- evE cl a ρ;(match x with | .int i=>.ok (.int (-i)) | _=>.stuck)
 | .ix a b,ρ=>do let x <- evE cl a ρ;let y <- evE cl b ρ;ixD x y
 | .slc a lo hi,ρ=>do
  let x <- evE cl a ρ
  let l <- (if dB lo then .ok none else (do let d <- evE cl lo ρ;mq d))
  let h <- (if dB hi then .ok none else (do let d <- evE cl hi ρ;mq d))
  slD x l h
 | .dget a k d,ρ=>do let x <- evE cl a ρ;let y <- evE cl k ρ;let z <- evE cl d ρ;uL x y z
 | .maxd a k,ρ=>do let x <- evE cl a ρ;Gw k x
 | .idx i e,ρ=>do let x <- bO ρ i;let y <- evE cl e ρ;PJ x y
 | .call f es,ρ=>do let ds <- cB cl es ρ;cl f ds
 | .blt f es,ρ=>do let ds <- cB cl es ρ;fM f ds
 | .isin a t,ρ=>do let x <- evE cl a ρ;.ok (.bl (jN x t))
 | .comp elt tg k src hc c cap,ρ=>do
  let ss <- cB cl src ρ
  let items <- itemsOf k ss
  let ys <- iz (fun d=>do
   let ρ' <- dw tg d (bA cap ρ)
   let t <- (if hc then (do let x <- evE cl c ρ';cJ x) else .ok true)
   if t then do let y <- evE cl elt ρ';.ok (some y) else .ok none) items
  if ys.length<=lim then .ok (.lst ys) else .stuck
noncomputable def cB (cl:Nat->List D->R D):List M->En->R (List D)
 | [],_=>.ok []
 | e::es,ρ=>do let d <- evE cl e ρ;let ds <- cB cl es ρ;.ok (d::ds)
noncomputable def jl (cl:Nat->List D->R D):List M->En->R D
 | [],_=>.stuck
 | [e],ρ=>do let x <- evE cl e ρ;let t <- cJ x;.ok (.bl t)
 | e::e'::es,ρ=>do let x <- evE cl e ρ;let t <- cJ x;if t then jl cl (e'::es) ρ else .ok (.bl false)
noncomputable def uE (cl:Nat->List D->R D):List M->En->R D
 | [],_=>.stuck
 | [e],ρ=>do let x <- evE cl e ρ;let t <- jw e x;.ok (.bl t)
 | e::e'::es,ρ=>do let x <- evE cl e ρ;let t <- jw e x;if t then .ok (.bl true) else uE cl (e'::es) ρ
end
inductive GS where
 | sda (k v:M) | forr (t:Tg) (k:IK) (src:List M) (b:GS)
noncomputable def aK:Tg->zz
 | .one i=>[i]
 | .two i j=>[i,j]
def tgG:GS->zz
 | .sda _ _=>[]
 | .forr t _ _ b=>aK t++tgG b
noncomputable def fO:En->zz->En
 | ρ,[]=>ρ
 | ρ,i::U=>fO (ρ.set i none) U
inductive MS where
 | set (t:Tg) (e:M) | app (i:Nat) (e:M) | ext (i:Nat) (e:M)
 | expr (e:M) | ret (e:M) | ifs (c:M) (a b:List MS) | forr (t:Tg) (k:IK) (src:List M) (b:List MS)
 | rai
 | chk (j:Nat) (e:M)
 | grp (i:Nat) (g:GS)
 | dpop (t i:Nat) (k:M) | lset (i:Nat) (k v:M) | whl (c:M) (b:List MS) | call2 (i j f:Nat) (e:M)
 | retO (i:Nat) | setF (i f:Nat) (es:List M) | setB (t:Tg) (e:M) | setC (i:Nat) (e:M)
inductive Out where
 | nx (ρ:En) | rt (d:D) | ro (d:D)
noncomputable def aM:En->En->En
 | a::as,b::bs=>(if a.isSome then b else none)::aM as bs
 | [],bs=>bs.map fun _=>none
 | _,[]=>[]
def jm (f:D->En->R Out) (ρ₀:En):List D->En->R Out
 | [],ρ=>.ok (.nx ρ)
 | d::ds,ρ=>do
  let o <- f d ρ
  match o with
  | .nx ρ'=>jm f ρ₀ ds (aM ρ₀ ρ')
  | o=>.ok o
def uF (c:En->R Bool) (f:En->R Out) (ρ₀:En):Nat->En->R Out
 | 0,_=>.stuck
 | n+1,ρ=>do
  let t <- c ρ
  if t then do
   let o <- f ρ
   match o with
   | .nx ρ'=>uF c f ρ₀ n (aM ρ₀ ρ')
   | o=>.ok o
  else .ok (.nx ρ)
noncomputable def wfu:Nat:=1000
def yX:D->D->R D
 | .lst ds,d=>if ds.length < lim then .ok (.lst (ds++[d])) else .stuck
 | _,_=>.stuck
def Jg:D->D->R D
 | .lst ds,.lst es=>if ds.length+es.length<=lim then .ok (.lst (ds++es)) else .stuck
 | _,_=>.stuck
def putD:D->D->D->R D
 | .dct ks vs,k,v=>if kOk ks k/\ks.length < lim/\ks.length=vs.length then .ok (.dct (iU ks vs k v).1 (iU ks vs k v).2) else .stuck
 | _,_,_=>.stuck
mutual
noncomputable def lfD:D->Bool
 | .tup ds=>Ai ds
 | .lst _=>false
 | .dct _ _=>false
 | _=>true
noncomputable def Ai:List D->Bool
 | []=>true
 | d::ds=>lfD d && Ai ds
end
def lfL:D->Bool
 | .lst ds=>Ai ds
 | _=>false
mutual
noncomputable def ndD:D->Bool
 | .tup ds=>gR ds
 | .lst ds=>gR ds
 | .dct _ _=>false
 | _=>true
noncomputable def gR:List D->Bool
 | []=>true
 | d::ds=>ndD d && gR ds
end
def ndC:D->Bool
 | .dct ks vs=>gR ks && gR vs
 | _=>false
def GR:D->D->R (D × D)
 | .dct ks vs,k=>if kOk ks k/\ks.length=vs.length then (match ks.findIdx? (fun c=>decide (c=k)) with
   | some j=>(match vs[j]? with | some v=>.ok (v,.dct (ks.eraseIdx j) (vs.eraseIdx j)) | none=>.stuck)
   | none=>.ok (.lst [],.dct ks vs)) else .stuck
 | _,_=>.stuck
def tY:D->D->D->R D
 | .lst ds,.int k,v=>(match ixN ds.length k with | some j=>if lfD v then .ok (.lst (ds.set j v)) else .stuck | none=>.stuck)
 | .dct ks vs,k,v=>if lfD v && lfD k then putD (.dct ks vs) k v else .stuck
 | _,_,_=>.stuck
noncomputable def Dq:D->R (D × D)
 | .tup [a,b]=>.ok (a,b)
 | _=>.stuck
noncomputable def Wd (ρ:En):D->R Out
 | .bl true=>.ok (.nx ρ)
 | _=>.stuck
def Aj:D->D->D->R D
 | .dct ks vs,k,v=>if kOk ks k/\ks.length < lim/\ks.length=vs.length then (match cW ks vs k with
   | some (.lst l)=>if l.length < lim then .ok (.dct (iU ks vs k (.lst (l++[v]))).1 (iU ks vs k (.lst (l++[v]))).2) else .stuck
   | some _=>.stuck
   | none=>.ok (.dct (ks++[k]) (vs++[.lst [v]]))) else .stuck
 | _,_,_=>.stuck
noncomputable def nG (f:D->D->R D):List D->D->R D
 | [],d=>.ok d
 | x::xs,d=>do let d' <- f x d;nG f xs d'
def lD (cl:Nat->List D->R D):GS->En->D->R D
 | .sda k v,ρ,d=>do let kk <- evE cl k ρ;let vv <- evE cl v ρ;Aj d kk vv
 | .forr t ik src b,ρ,d=>do
  let ss <- cB cl src ρ
  let items <- itemsOf ik ss
  nG (fun x d=>do let ρ1 <- dw t x (fO ρ (aK t++tgG b));lD cl b ρ1 d) items d
noncomputable def Iz:D->R Unit
 | .dct [] []=>.ok ()
 | _=>.stuck
mutual
noncomputable def bC (cl:Nat->List D->R D):MS->En->R Out
 | .set t e,ρ=>do let d <- evE cl e ρ;let ρ' <- dw t d ρ;.ok (.nx ρ')
 | .app i e,ρ=>do let l <- bO ρ i;let d <- evE cl e ρ;let l' <- yX l d;.ok (.nx (ρ.set i (some l')))
 | .ext i e,ρ=>do let l <- bO ρ i;let d <- evE cl e ρ;let l' <- Jg l d;.ok (.nx (ρ.set i (some l')))
 | .expr e,ρ=>do let _ <- evE cl e ρ;.ok (.nx ρ)
 | .ret e,ρ=>do let d <- evE cl e ρ;.ok (.rt d)
 | .ifs c a b,ρ=>do
  let x <- evE cl c ρ
  let t <- jw c x
  if t then cj cl a ρ else cj cl b ρ
 | .forr t k src b,ρ=>do
  let ss <- cB cl src ρ
  let items <- itemsOf k ss
  jm (fun d ρ=>do let ρ1 <- dw t d ρ;cj cl b ρ1) ρ items ρ
 | .dpop t i k,ρ=>do
  let d <- bO ρ i
  let kk <- evE cl k ρ
  let r <- GR d kk
  .ok (.nx ((ρ.set i (some r.2)).set t (some r.1)))
 | .lset i k v,ρ=>do
  let vv <- evE cl v ρ
  let d <- bO ρ i
  let kk <- evE cl k ρ
  let d' <- tY d kk vv
  .ok (.nx (ρ.set i (some d')))
 | .whl c b,ρ=>uF (fun ρ=>do let x <- evE cl c ρ;cJ x) (fun ρ=>cj cl b ρ) ρ wfu ρ
 | .call2 i j f e,ρ=>do
  let d <- evE cl e ρ
  let a <- bO ρ i
  let b <- bO ρ j
  let r <- cl (1000+f) (if i=j then [d,a] else [d,a,b])
  let r <- Dq r
  .ok (.nx ((ρ.set i (some r.1)).set j (some r.2)))
 | .retO i,ρ=>do let d <- bO ρ i;.ok (.ro d)
 | .setF i f es,ρ=>do let ds <- cB cl es ρ;let d <- cl (2000+f) ds;if ndC d then .ok (.nx (ρ.set i (some d))) else .stuck
 | .setB t e,ρ=>do let d <- evE cl e ρ;if lfD d then (do let ρ' <- dw t d ρ;.ok (.nx ρ')) else .stuck
 | .setC i e,ρ=>do let d <- evE cl e ρ;if lfL d then .ok (.nx (ρ.set i (some d))) else .stuck
 | .grp i g,ρ=>do
  let d <- bO ρ i
  let _ <- Iz d
  let d' <- lD cl g (fO ρ (i::tgG g)) d
  .ok (.nx ((fO ρ (i::tgG g)).set i (some d')))
 | .rai,ρ=>.stuck
 | .chk _ e,ρ=>do let d <- evE cl e ρ;let r <- cl 5000 [d];Wd ρ r
noncomputable def cj (cl:Nat->List D->R D):List MS->En->R Out
 | [],ρ=>.ok (.nx ρ)
 | m::ms,ρ=>do
  let o <- bC cl m ρ
  match o with
  | .nx ρ'=>cj cl ms ρ'
  | o=>.ok o
end
mutual
noncomputable def aD:M->zz
 | .var i=>[i]
 | .con _=>[]
 | .tup es=>aZ es
 | .lst es=>aZ es
 | .dct0=>[]
 | .bin _ a b=>aD a++aD b
 | .cmp _ a b=>aD a++aD b
 | .chain _ _ a b c=>aD a++(aD b++aD c)
 | .and es=>aZ es
 | .or es=>aZ es
 | .not a=>aD a
 | .neg a=>aD a
 | .ix a b=>aD a++aD b
 | .slc a b c=>aD a++(aD b++aD c)
 | .dget a b c=>aD a++(aD b++aD c)
 | .maxd a _=>aD a
 | .idx i e=>i::aD e
 | .call _ es=>aZ es
 | .blt _ es=>aZ es
 | .isin a _=>aD a
 | .comp elt _ _ src _ c _=>aZ src++(aD c++aD elt)
noncomputable def aZ:List M->zz
 | []=>[]
 | e::es=>aD e++aZ es
end
noncomputable def without (O U:zz):zz:=O.filter fun i=>!U.contains i
noncomputable def Qz:M->Bool
 | .lst _=>true
 | .blt .list _=>true
 | .dct0=>true
 | _=>false
abbrev Ow:=Option (zz)
noncomputable def jy:Ow->Ow->Ow
 | none,b=>b
 | a,none=>a
 | some a,some b=>some (a.filter fun i=>b.contains i)
mutual
noncomputable def vC (inv:zz):MS->zz->Option Ow
 | .set (.one i) e,O=>some (some (if Qz e then i::without (without O (aD e)) [i] else without (without O (aD e)) [i]))
 | .set (.two i j) e,O=>some (some (without (without O (aD e)) [i,j]))
 | .app i e,O=>if (without O (aD e)).contains i then some (some (without O (aD e))) else none
 | .ext i e,O=>if (without O (aD e)).contains i then some (some (without O (aD e))) else none
 | .expr e,O=>some (some (without O (aD e)))
 | .ret e,O=>some none
 | .ifs c a b,O=>do
  let x <- cZ inv a O
  let y <- cZ inv b O
  some (jy x y)
 | .forr t k src b,O=>do
  let O1:=without (without O (aZ src)) (aK t)
  let x <- cZ O1 b O1
  let O2:=(jy (some O1) x).getD []
  let y <- cZ O2 b O2
  match y with
  | none=>some (some O2)
  | some O3=>if O2.all (fun i=>O3.contains i) then some (some O2) else none
 | .rai,O=>some none
 | .chk _ e,O=>some (some (without O (aD e)))
 | .dpop t i k,O=>if (without O (aD k)).contains i && !(t == i) then some (some (without (without O (aD k)) [t])) else none
 | .lset i k v,O=>if O.contains i then some (some O) else none
 | .whl c b,O=>do
  let x <- cZ O b O
  let O2:=(jy (some O) x).getD []
  let y <- cZ O2 b O2
  match y with
  | none=>some (some O2)
  | some O3=>if O2.all (fun i=>O3.contains i) then some (some O2) else none
 | .call2 i j f e,O=>if (without O (aD e)).contains i && (without O (aD e)).contains j then some (some (without O (aD e))) else none
 | .retO i,O=>if O.contains i then some none else none
 | .setF i f es,O=>some (some (i::without (without O (aZ es)) [i]))
 | .setB t e,O=>some (some (without O (aK t)))
 | .setC i e,O=>some (some (i::without O [i]))
 | .grp i g,O=>if O.contains i && !(tgG g).contains i then some (some [i]) else none
noncomputable def cZ (inv:zz):List MS->zz->Option Ow
 | [],O=>some (some O)
 | m::ms,O=>do
  let x <- vC inv m O
  match x with
  | none=>some none
  | some O1=>cZ inv ms O1
end
mutual
noncomputable def Vb:MS->zz
 | .set t _=>aK t
 | .grp _ g=>tgG g
 | .ifs _ a b=>mW a++mW b
 | .forr t _ _ b=>aK t++mW b
 | .whl _ b=>mW b
 | .dpop t _ _=>[t]
 | .setF i _ _=>[i]
 | .setB t _=>aK t
 | .setC i _=>[i]
 | _=>[]
noncomputable def mW:List MS->zz
 | []=>[]
 | m::ms=>Vb m++mW ms
end
structure Def where
 np:Nat
 nn:Nat
 body:List MS
 nrm:Bool
def zq (d:Def):Bool:=!(mW d.body).contains 1 && !(mW d.body).contains (d.np - 1) && (match cZ [] d.body [1,d.np - 1] with | some (some O)=>O.contains 1 && O.contains (d.np - 1) | _=>false)
variable {α β:Type}
section eqs
variable (cl:Nat->List D->R D) (ρ:En)
theorem wJ (i:Nat):evE cl (.var i) ρ=bO ρ i:=rfl
theorem wK (d:D):evE cl (.con d) ρ=.ok d:=rfl
theorem wL (es:List M):evE cl (.tup es) ρ=(do let ds <- cB cl es ρ;if ds.length<=lim then .ok (.tup ds) else .stuck):=rfl
theorem wM (es:List M):evE cl (.lst es) ρ=(do let ds <- cB cl es ρ;if ds.length<=lim then .ok (.lst ds) else .stuck):=rfl
theorem wN:evE cl .dct0 ρ=.ok (.dct [] []):=rfl
theorem wO (op:BO) (a b:M):evE cl (.bin op a b) ρ=(do let x <- evE cl a ρ;let y <- evE cl b ρ;jD op x y):=rfl
theorem wP (op:CO) (a b:M):evE cl (.cmp op a b) ρ=(do let x <- evE cl a ρ;let y <- evE cl b ρ;let r <- bQ op x y;.ok (.bl r)):=rfl
theorem qJ (p q:CO) (a b c:M):evE cl (.chain p q a b c) ρ=(do
  let x <- evE cl a ρ
  let y <- evE cl b ρ
  let r <- bQ p x y
  if r then do let z <- evE cl c ρ;let r2 <- bQ q y z;.ok (.bl r2) else .ok (.bl false)):=rfl
theorem wQ (es:List M):evE cl (.and es) ρ=jl cl es ρ:=rfl
theorem wr (es:List M):evE cl (.or es) ρ=uE cl es ρ:=rfl
theorem wR (a:M):evE cl (.not a) ρ=(do let x <- evE cl a ρ;let t <- cJ x;.ok (.bl (!t))):=rfl
theorem wt (a b:M):evE cl (.ix a b) ρ=(do let x <- evE cl a ρ;let y <- evE cl b ρ;ixD x y):=rfl
theorem wT (a lo hi:M):evE cl (.slc a lo hi) ρ=(do
  let x <- evE cl a ρ
  let l <- (if dB lo then .ok none else (do let d <- evE cl lo ρ;mq d))
  let h <- (if dB hi then .ok none else (do let d <- evE cl hi ρ;mq d))
  slD x l h):=rfl
theorem qW (a k d:M):evE cl (.dget a k d) ρ=(do let x <- evE cl a ρ;let y <- evE cl k ρ;let z <- evE cl d ρ;uL x y z):=rfl
theorem qX (f:Nat) (es:List M):evE cl (.call f es) ρ=(do let ds <- cB cl es ρ;cl f ds):=rfl
theorem wU (f:BI) (es:List M):evE cl (.blt f es) ρ=(do let ds <- cB cl es ρ;fM f ds):=rfl
theorem qY (a:M) (t:Ty):evE cl (.isin a t) ρ=(do let x <- evE cl a ρ;.ok (.bl (jN x t))):=rfl
theorem qZ (elt:M) (tg:Tg) (k:IK) (src:List M) (hc:Bool) (c:M) (cap:List Bool):evE cl (.comp elt tg k src hc c cap) ρ=(do
  let ss <- cB cl src ρ
  let items <- itemsOf k ss
  let ys <- iz (fun d=>do
   let ρ' <- dw tg d (bA cap ρ)
   let t <- (if hc then (do let x <- evE cl c ρ';cJ x) else .ok true)
   if t then do let y <- evE cl elt ρ';.ok (some y) else .ok none) items
  if ys.length<=lim then .ok (.lst ys) else .stuck):=rfl
theorem qa:cB cl [] ρ=.ok []:=rfl
theorem qK (e:M) (es:List M):cB cl (e::es) ρ=(do let d <- evE cl e ρ;let ds <- cB cl es ρ;.ok (d::ds)):=rfl
theorem qb (e:M):jl cl [e] ρ=(do let x <- evE cl e ρ;let t <- cJ x;.ok (.bl t)):=rfl
theorem qL (e e':M) (es:List M):jl cl (e::e'::es) ρ=(do let x <- evE cl e ρ;let t <- cJ x;if t then jl cl (e'::es) ρ else .ok (.bl false)):=rfl
theorem wV (e:M):uE cl [e] ρ=(do let x <- evE cl e ρ;let t <- jw e x;.ok (.bl t)):=rfl
theorem qd (e e':M) (es:List M):uE cl (e::e'::es) ρ=(do let x <- evE cl e ρ;let t <- jw e x;if t then .ok (.bl true) else uE cl (e'::es) ρ):=rfl
theorem wC (t:Tg) (e:M):bC cl (.set t e) ρ=(do let d <- evE cl e ρ;let ρ' <- dw t d ρ;.ok (.nx ρ')):=rfl
theorem wD (i:Nat) (e:M):bC cl (.app i e) ρ=(do let l <- bO ρ i;let d <- evE cl e ρ;let l' <- yX l d;.ok (.nx (ρ.set i (some l')))):=rfl
theorem wE (i:Nat) (e:M):bC cl (.ext i e) ρ=(do let l <- bO ρ i;let d <- evE cl e ρ;let l' <- Jg l d;.ok (.nx (ρ.set i (some l')))):=rfl
theorem qV (e:M):bC cl (.expr e) ρ=(do let _ <- evE cl e ρ;.ok (.nx ρ)):=rfl
theorem wF (e:M):bC cl (.ret e) ρ=(do let d <- evE cl e ρ;.ok (.rt d)):=rfl
theorem wG (c:M) (a b:List MS):bC cl (.ifs c a b) ρ=(do
  let x <- evE cl c ρ
  let t <- jw c x
  if t then cj cl a ρ else cj cl b ρ):=rfl
theorem wH (t:Tg) (k:IK) (src:List M) (b:List MS):bC cl (.forr t k src b) ρ=(do
  let ss <- cB cl src ρ
  let items <- itemsOf k ss
  jm (fun d ρ=>do let ρ1 <- dw t d ρ;cj cl b ρ1) ρ items ρ):=rfl
theorem qu (a:M) (k:Int):evE cl (.maxd a k) ρ=(do let x <- evE cl a ρ;Gw k x):=rfl
theorem wq (i:Nat) (e:M):evE cl (.idx i e) ρ=(do let x <- bO ρ i;let y <- evE cl e ρ;PJ x y):=rfl
theorem qv (t i:Nat) (k:M):bC cl (.dpop t i k) ρ=(do
  let d <- bO ρ i
  let kk <- evE cl k ρ
  let r <- GR d kk
  .ok (.nx ((ρ.set i (some r.2)).set t (some r.1)))):=rfl
theorem qw (i:Nat) (k v:M):bC cl (.lset i k v) ρ=(do
  let vv <- evE cl v ρ
  let d <- bO ρ i
  let kk <- evE cl k ρ
  let d' <- tY d kk vv
  .ok (.nx (ρ.set i (some d')))):=rfl
theorem Te (c:M) (b:List MS):bC cl (.whl c b) ρ=uF (fun ρ=>do let x <- evE cl c ρ;cJ x) (fun ρ=>cj cl b ρ) ρ wfu ρ:=rfl
theorem qQ (i j f:Nat) (e:M):bC cl (.call2 i j f e) ρ=(do
  let d <- evE cl e ρ
  let a <- bO ρ i
  let b <- bO ρ j
  let r <- cl (1000+f) (if i=j then [d,a] else [d,a,b])
  let r <- Dq r
  .ok (.nx ((ρ.set i (some r.1)).set j (some r.2)))):=rfl
theorem qx (i:Nat):bC cl (.retO i) ρ=(do let d <- bO ρ i;.ok (.ro d)):=rfl
theorem qy (i f:Nat) (es:List M):bC cl (.setF i f es) ρ=(do let ds <- cB cl es ρ;let d <- cl (2000+f) ds;if ndC d then .ok (.nx (ρ.set i (some d))) else .stuck):=rfl
theorem qz (t:Tg) (e:M):bC cl (.setB t e) ρ=(do let d <- evE cl e ρ;if lfD d then (do let ρ' <- dw t d ρ;.ok (.nx ρ')) else .stuck):=rfl
theorem wA (i:Nat) (e:M):bC cl (.setC i e) ρ=(do let d <- evE cl e ρ;if lfL d then .ok (.nx (ρ.set i (some d))) else .stuck):=rfl
theorem wk (i:Nat) (g:GS):bC cl (.grp i g) ρ=(do
  let d <- bO ρ i
  let _ <- Iz d
  let d' <- lD cl g (fO ρ (i::tgG g)) d
  .ok (.nx ((fO ρ (i::tgG g)).set i (some d')))):=rfl
theorem wl (k v:M) (d:D):lD cl (.sda k v) ρ d=(do let kk <- evE cl k ρ;let vv <- evE cl v ρ;Aj d kk vv):=rfl
theorem wm (t:Tg) (ik:IK) (src:List M) (b:GS) (d:D):lD cl (.forr t ik src b) ρ d=(do
  let ss <- cB cl src ρ
  let items <- itemsOf ik ss
  nG (fun x d=>do let ρ1 <- dw t x (fO ρ (aK t++tgG b));lD cl b ρ1 d) items d):=rfl
theorem wn (k v:M):tgG (.sda k v)=[]:=rfl
theorem wo (t:Tg) (ik:IK) (src:List M) (b:GS):tgG (.forr t ik src b)=aK t++tgG b:=rfl
theorem zj (i:Nat):aK (.one i)=[i]:=rfl
theorem zk (i j:Nat):aK (.two i j)=[i,j]:=rfl
theorem zQ:fO ρ []=ρ:=rfl
theorem zR (i:Nat) (U:zz):fO ρ (i::U)=fO (ρ.set i none) U:=rfl
theorem wI:bC cl .rai ρ=.stuck:=rfl
theorem Q6 (j:Nat) (e:M):bC cl (.chk j e) ρ=(do let d <- evE cl e ρ;let r <- cl 5000 [d];Wd ρ r):=rfl
theorem wB:cj cl [] ρ=.ok (.nx ρ):=rfl
def uz (ms:List MS):Out->R Out
 | .nx ρ'=>cj cl ms ρ'
 | o=>.ok o
theorem qU (m:MS) (ms:List MS):cj cl (m::ms) ρ=(bC cl m ρ >>= uz cl ms):=rfl
theorem qG (ms:List MS):uz cl ms (.nx ρ)=cj cl ms ρ:=rfl
theorem qI (ms:List MS) (d:D):uz cl ms (.ro d)=.ok (.ro d):=rfl
theorem qH (ms:List MS) (d:D):uz cl ms (.rt d)=.ok (.rt d):=rfl
theorem wu (d:D):bO (some d::ρ) 0=.ok d:=rfl
theorem wv (o:Option D) (i:Nat):bO (o::ρ) (i+1)=bO ρ i:=rfl
theorem qf (b:Bool):cJ (.bl b)=.ok b:=rfl
theorem wW (i:Int):mq (.int i)=.ok (some i):=rfl
theorem wX (i:Nat) (d:D):dw (.one i) d ρ=.ok (ρ.set i (some d)):=rfl
theorem wY (i j:Nat) (a b:D):dw (.two i j) (.tup [a,b]) ρ=.ok ((ρ.set i (some a)).set j (some b)):=rfl
theorem wZ (d:D) (b:Option D) (as bs:En):aM (some d::as) (b::bs)=b::aM as bs:=rfl
theorem wa (b:Option D) (as bs:En):aM (none::as) (b::bs)=none::aM as bs:=rfl
theorem wb:aM [] []=[]:=rfl
theorem ww:dB (.con .non)=true:=rfl
theorem wx (i:Int):dB (.con (.int i))=false:=rfl
theorem wy (i:Nat):dB (.var i)=false:=rfl
theorem wz (op:BO) (a b:M):dB (.bin op a b)=false:=rfl
theorem wc (a b:α):(if true=true then a else b)=a:=rfl
theorem wd (a b:α):(if false=true then a else b)=b:=rfl
theorem zB (f:α->β) (a:α) (l:List α):List.map f (a::l)=f a::List.map f l:=rfl
theorem zC (f:α->β):List.map f []=[]:=rfl
theorem wS (i:Int):evE cl (.neg (.con (.int i))) ρ=.ok (.int (-i)):=rfl
theorem zG (a:α):List.replicate 0 a=[]:=rfl
theorem zH (n:Nat) (a:α):List.replicate (n+1) a=a::List.replicate n a:=rfl
theorem zI:(!true)=false:=rfl
theorem zJ:(!false)=true:=rfl
theorem zD (a:α) (l m:List α):(a::l)++m=a::(l++m):=rfl
theorem zE (m:List α):([]:List α)++m=m:=rfl
theorem wf (bs:List Bool) (v:Option D) (vs:En):bA (true::bs) (v::vs)=v::bA bs vs:=rfl
theorem wg (bs:List Bool) (v:Option D) (vs:En):bA (false::bs) (v::vs)=none::bA bs vs:=rfl
theorem wj:bA [] ([]:En)=[]:=rfl
theorem zb (a:α) (l:List α):(a::l).length=l.length+1:=rfl
theorem zd :([]:List α).length=0:=rfl
theorem ze (a:α) (l:List α):(a::l)[0]?=some a:=rfl
theorem zf (a:α) (l:List α) (i:Nat):(a::l)[i+1]?=l[i]?:=rfl
theorem zg (a b:α) (l:List α):(a::l).set 0 b=b::l:=rfl
theorem zi (a b:α) (l:List α) (i:Nat):(a::l).set (i+1) b=a::l.set i b:=rfl
theorem zF (l:List α):l++[]=l:=List.append_nil l
theorem zl:(false=true)=False:=Bool.false_eq_true
theorem Vq (f:Nat) (es:List M):aD (.call f es)=aZ es:=rfl
theorem J3:aZ []=[]:=rfl
theorem Td (e:M) (es:List M):aZ (e::es)=aD e++aZ es:=rfl
end eqs
end Mi
set_option maxHeartbeats 1000000
namespace Mi
open PySem L2
open PyProof.Rows hiding St
variable {i:Nat}
def bD {O U:zz}:i∈without O U↔i∈O/\i ∉ U:=by
 unfold without;rw [List.mem_filter];simp
def cP (g:G) (H Hs:Hp) (a:Addr):D->Prop
 | .lst ds=>∃ xs,H a=some (.lst xs)/\Rps g Hs ds xs
 | .dct ks vs=>∃ xs ys ep,H a=some (.ext (DAt g a xs ys ep))/\ks=xs.map (·.1)/\Rps g Hs ks (xs.map fun x=>V.ref x.2.1)/\Rps g Hs vs ys
 | _=>False
variable {g:G}{H Hs:Hp}{a:Addr}{d:D}
theorem cP.obj (h:cP g H Hs a d):∃ o,H a=some o:=by
 cases d <;> simp only [cP] at h
 .obtain ⟨xs,h,_⟩:=h;exact ⟨_,h⟩
 .obtain ⟨xs,ys,_,h,_⟩:=h;exact ⟨_,h⟩
theorem cP.mono {H' Hs':Hp} (h:cP g H Hs a d) (k:∀ o,H a=some o->H' a=some o) (m:Same Hs Hs'):cP g H' Hs' a d:=by
 cases d <;> simp only [cP] at h ⊢
 .obtain ⟨xs,h,r⟩:=h;exact ⟨xs,k _ h,r.mono m⟩
 .obtain ⟨xs,ys,ep,h,e,r1,r2⟩:=h;exact ⟨xs,ys,ep,k _ h,e,r1.mono m,r2.mono m⟩
variable {o:HO}
theorem cP.pub (h:cP g H Hs a d) (ho:H a=some o) (m:Same Hs (upd Hs a o)):Rp g (upd Hs a o) d (.ref a):=by
 cases d <;> simp only [cP] at h
 .obtain ⟨xs,h,r⟩:=h;rw [ho] at h;cases h;rw [Rp];exact ⟨a,xs,rfl,SqL.of aB,r.mono m⟩
 .obtain ⟨xs,ys,ep,h,e,r1,r2⟩:=h;rw [ho] at h;cases h;rw [Rp];exact ⟨a,xs,ys,ep,rfl,aB,e,r1.mono m,r2.mono m⟩
noncomputable def WR:HO->Bool
 | .ext _=>true | _=>false
noncomputable def sX:HO->Bool
 | .lst _=>true | .ext _=>true | _=>false
def gW (Hs Hs':Hp):Prop:=∀ b o,Hs' b=some o->Hs b=some o\/sX o=true
theorem gW.refl (Hs:Hp):gW Hs Hs:=fun _ _ q=>.inl q
variable {Hs1 Hs2:Hp}
theorem gW.trans (a:gW Hs Hs1) (b:gW Hs1 Hs2):gW Hs Hs2:=fun c o q=>by
 rcases b c o q with z | z
 .exact a c o z
 .exact .inr z
theorem cP.onlyM (h:cP g H Hs a d) (ho:H a=some o):gW Hs (upd Hs a o):=fun b u q=>by
 by_cases e:b=a
 .subst e;rw [aB] at q;cases q;right;cases d <;> simp only [cP] at h
  .obtain ⟨xs,h,_⟩:=h;rw [ho] at h;cases h;rfl
  .obtain ⟨xs,ys,_,h,_⟩:=h;rw [ho] at h;cases h;rfl
 .rw [ao e] at q;exact .inl q
structure Ent where
 hp:Hp
 pins:List (Nat × Addr)
structure FR (g:G) (E:Ent) (Es:Hp) (O:zz) (ρ:En) (σ:St) (H Hs:Hp):Prop where
 grow:Grow E.hp Es H Hs
 len:ρ.length=σ.length
 val:∀ (i:Nat) d,ρ[i]?=some (some d)->i ∉ O->∃ v,σ[i]?=some (some v)/\Rp g Hs d v
 own:∀ i∈O,∀ d,ρ[i]?=some (some d)->∃ a,σ[i]?=some (some (.ref a))/\E.hp a=none/\Hs a=none/\cP g H Hs a d
 apart:∀ i∈O,∀ j∈O,i≠j->∀ d e a,ρ[i]?=some (some d)->ρ[j]?=some (some e)->σ[i]?=some (some (.ref a))->σ[j]?≠some (some (.ref a))
 pin:∀ q∈E.pins,σ[q.1]?=some (some (.ref q.2))
variable {p b:Addr}{Hs3:Hp}
section
variable {g:G}{E:Ent}{Es:Hp}{O O':zz}{ρ:En}{σ:St}{H Hs H' Hs':Hp}
theorem FR.grown (F:FR g E Es O ρ σ H Hs) (w:Grow H Hs H' Hs'):FR g E Es O ρ σ H' Hs':=by
 have m:=w.same F.grow.sub;refine ⟨F.grow.trans w,F.len,fun i d h hi=>?_,fun i hi d h=>?_,F.apart,F.pin⟩
 .obtain ⟨v,e,r⟩:=F.val i d h hi;exact ⟨v,e,r.mono m⟩
 .obtain ⟨a,e,e0,e1,o⟩:=F.own i hi d h;obtain ⟨ob,ho⟩:=o.obj;exact ⟨a,e,e0,by rw [w.old a ob ho];exact e1,o.mono (fun u q=>w.keep a u q) m⟩
theorem FR.sub (F:FR g E Es O ρ σ H Hs):Same Hs H:=F.grow.sub
theorem FR.pub1 (F:FR g E Es O ρ σ H Hs) (i:Nat):∃ Hs',FR g E Es (O.filter fun j=>j != i) ρ σ H Hs'/\Same Hs Hs'/\gW Hs Hs':=by
 have memf:∀ {j},j∈(O.filter fun j=>j != i)↔j∈O/\j≠i:=by intro j;rw [List.mem_filter];simp
 by_cases hi:i∈O
 .cases hd:ρ[i]? with
  | none =>
   refine ⟨Hs,⟨F.grow,F.len,fun j d h hj=>F.val j d h fun z=>hj (memf.mpr ⟨z,?_⟩),fun j hj d h=>F.own j (memf.mp hj).1 d h,fun j hj k hk=>F.apart j (memf.mp hj).1 k (memf.mp hk).1,F.pin⟩,fun _ _ q=>q,gW.refl _⟩;rintro rfl;rw [hd] at h;cases h
  | some x =>
   cases x with
   | none =>
    refine ⟨Hs,⟨F.grow,F.len,fun j d h hj=>F.val j d h fun z=>hj (memf.mpr ⟨z,?_⟩),fun j hj d h=>F.own j (memf.mp hj).1 d h,fun j hj k hk=>F.apart j (memf.mp hj).1 k (memf.mp hk).1,F.pin⟩,fun _ _ q=>q,gW.refl _⟩;rintro rfl;rw [hd] at h;cases h
   | some d0 =>
    obtain ⟨a,e,e0,e1,o⟩:=F.own i hi d0 hd;obtain ⟨ob,ho⟩:=o.obj;have m:Same Hs (upd Hs a ob):=fun b u q=>by
     have:b≠a:=ak q e1;rw [ao this];exact q
    refine ⟨upd Hs a ob,⟨⟨F.grow.keep,fun b u q=>?_,fun b u q=>?_⟩,F.len,fun j d h hj=>?_,fun j hj d h=>?_,fun j hj k hk=>F.apart j (memf.mp hj).1 k (memf.mp hk).1,F.pin⟩,m,o.onlyM ho⟩
    .rw [ao (ak q e0)];exact F.grow.old b u q
    .by_cases hb:b=a
     .subst hb;rw [aB] at q;cases q;exact ho
     .rw [ao hb] at q;exact F.grow.sub b u q
    .by_cases hji:j=i
     .subst hji;rw [hd] at h;cases h;exact ⟨.ref a,e,o.pub ho m⟩
     .obtain ⟨v,ev,r⟩:=F.val j d h fun z=>hj (memf.mpr ⟨z,hji⟩)
      exact ⟨v,ev,r.mono m⟩
    .obtain ⟨hjO,hji⟩:=memf.mp hj;obtain ⟨b,eb,b0,b1,ob'⟩:=F.own j hjO d h;have hba:b≠a:=fun z=>by
      subst z;exact F.apart i hi j hjO (Ne.symm hji) d0 d b hd h e eb
     exact ⟨b,eb,b0,by rw [ao hba];exact b1,ob'.mono (fun _ q=>q) m⟩
 .refine ⟨Hs,⟨F.grow,F.len,fun j d h hj=>F.val j d h fun z=>hj (memf.mpr ⟨z,fun q=>hi (q ▸ z)⟩),fun j hj d h=>F.own j (memf.mp hj).1 d h,fun j hj k hk=>F.apart j (memf.mp hj).1 k (memf.mp hk).1,F.pin⟩,fun _ _ q=>q,gW.refl _⟩
theorem FR.congrO (F:FR g E Es O ρ σ H Hs) (h:∀ i,i∈O'↔i∈O):FR g E Es O' ρ σ H Hs :=
 ⟨F.grow,F.len,fun i d q hi=>F.val i d q fun z=>hi ((h i).mpr z),fun i hi d q=>F.own i ((h i).mp hi) d q,fun i hi j hj=>F.apart i ((h i).mp hi) j ((h j).mp hj),F.pin⟩
theorem FR.pubs:∀ (U:zz) {Hs:Hp}{O:zz},FR g E Es O ρ σ H Hs->∃ Hs',FR g E Es (without O U) ρ σ H Hs'/\Same Hs Hs'/\gW Hs Hs'
 | [],Hs,O,F=>⟨Hs,F.congrO fun i=>by rw [bD];simp,fun _ _ q=>q,gW.refl _⟩
 | u::U,Hs,O,F=>by
  obtain ⟨H1,F1,m1,w1⟩:=F.pub1 u;obtain ⟨H2,F2,m2,w2⟩:=FR.pubs U F1;refine ⟨H2,F2.congrO fun i=>?_,fun a o q=>m2 a o (m1 a o q),w1.trans w2⟩;rw [bD,bD,List.mem_filter];simp;constructor
  .rintro ⟨a,b,c⟩;exact ⟨⟨a,b⟩,c⟩
  .rintro ⟨⟨a,b⟩,c⟩;exact ⟨a,b,c⟩
theorem FR.fewer (F:FR g E Es O ρ σ H Hs) (h:∀ i∈O',i∈O):∃ Hs',FR g E Es O' ρ σ H Hs'/\Same Hs Hs':=by
 obtain ⟨H1,F1,m1,_⟩:=FR.pubs (O.filter fun i=>!O'.contains i) F;refine ⟨H1,F1.congrO fun i=>?_,m1⟩;rw [bD,List.mem_filter];simp;constructor
 .intro hi;exact ⟨h i hi,fun _=>hi⟩
 .rintro ⟨a,b⟩;exact b a
theorem FR.setS {v:V} (F:FR g E Es O ρ σ H Hs) (hq:∀ q∈E.pins,q.1≠i) (r:Rp g Hs d v):FR g E Es (without O [i]) (ρ.set i (some d)) (σ.set i (some v)) H Hs:=by
 have memw:∀ {j},j∈without O [i]↔j∈O/\j≠i:=by intro j;rw [bD];simp
 refine ⟨F.grow,by rw [List.length_set,List.length_set];exact F.len,fun j e h hj=>?_,fun j hj e h=>?_,fun j hj k hk hjk e f a h1 h2 h3=>?_,fun q hp'=>by rw [List.getElem?_set_ne (Ne.symm (hq q hp'))];exact F.pin q hp'⟩
 .by_cases hji:j=i
  .subst hji;have hl:j < ρ.length:=by
    have:=(v7.mp h).1;simpa using this
   rw [List.getElem?_set_self hl] at h;cases h;exact ⟨v,by rw [List.getElem?_set_self (by rw [<- F.len];exact hl)],r⟩
  .rw [List.getElem?_set_ne (Ne.symm hji)] at h;obtain ⟨w,ew,rw'⟩:=F.val j e h fun z=>hj (memw.mpr ⟨z,hji⟩)
   exact ⟨w,by rw [List.getElem?_set_ne (Ne.symm hji)];exact ew,rw'⟩
 .obtain ⟨hjO,hji⟩:=memw.mp hj;rw [List.getElem?_set_ne (Ne.symm hji)] at h;obtain ⟨a,ea,q⟩:=F.own j hjO e h;exact ⟨a,by rw [List.getElem?_set_ne (Ne.symm hji)];exact ea,q⟩
 .obtain ⟨hjO,hji⟩:=memw.mp hj;obtain ⟨hkO,hki⟩:=memw.mp hk;rw [List.getElem?_set_ne (Ne.symm hji)] at h1 h3;rw [List.getElem?_set_ne (Ne.symm hki)] at h2;rw [List.getElem?_set_ne (Ne.symm hki)];exact F.apart j hjO k hkO hjk e f a h1 h2 h3
theorem FR.adopt (F:FR g E Es O ρ σ H Hs) (hq:∀ q∈E.pins,q.1≠i) (w:Grow H Hs H' Hs') (hp:H p=none) (Hsp:Hs' p=none) (r:cP g H' Hs' p d):FR g E Es (i::without O [i]) (ρ.set i (some d)) (σ.set i (some (.ref p))) H' Hs':=by
 have memw:∀ {j},j∈without O [i]↔j∈O/\j≠i:=by intro j;rw [bD];simp
 have Ep:E.hp p=none:=by
  cases q:E.hp p with
  | none=>rfl
  | some u=>rw [F.grow.keep p u q] at hp;cases hp
 have F':=F.grown w;refine ⟨F'.grow,by rw [List.length_set,List.length_set];exact F.len,fun j e h hj=>?_,fun j hj e h=>?_,fun j hj k hk hjk e f a h1 h2 h3=>?_,fun q hp'=>by rw [List.getElem?_set_ne (Ne.symm (hq q hp'))];exact F.pin q hp'⟩
 .have hji:j≠i:=fun z=>hj (by rw [z];exact vz)
  rw [List.getElem?_set_ne (Ne.symm hji)] at h;obtain ⟨w,ew,rw'⟩:=F'.val j e h fun z=>hj (vy _ (memw.mpr ⟨z,hji⟩))
  exact ⟨w,by rw [List.getElem?_set_ne (Ne.symm hji)];exact ew,rw'⟩
 .by_cases hji:j=i
  .subst hji;have hl:j < ρ.length:=by
    have:=(v7.mp h).1;simpa using this
   rw [List.getElem?_set_self hl] at h;cases h;exact ⟨p,by rw [List.getElem?_set_self (by rw [<- F.len];exact hl)],Ep,Hsp,r⟩
  .have hjO:j∈O:=by
    rcases w6.mp hj with z | z
    .exact absurd z hji
    .exact (memw.mp z).1
   rw [List.getElem?_set_ne (Ne.symm hji)] at h;obtain ⟨a,ea,q⟩:=F'.own j hjO e h;exact ⟨a,by rw [List.getElem?_set_ne (Ne.symm hji)];exact ea,q⟩
 .have inO:∀ {k},k∈i::without O [i]->k≠i->k∈O:=fun {k} hk hki=>by
   rcases w6.mp hk with z | z
   .exact absurd z hki
   .exact (memw.mp z).1
  have neP:∀ {k e a},k∈O->ρ[k]?=some (some e)->σ[k]?=some (some (.ref a))->a≠p:=fun {k e a} hk h1 h2=>by
   obtain ⟨b,eb,_,_,ob⟩:=F.own k hk e h1;rw [h2] at eb;cases eb;obtain ⟨u,hu⟩:=ob.obj;exact ak hu hp
  have setSelf:∀ {v:V},(σ.set i (some v))[i]?=some (some v)\/i ≥ σ.length:=fun {v}=>by
   by_cases hl:i < σ.length
   .left;rw [List.getElem?_set_self hl]
   .right;omega
  by_cases hji:j=i
  .subst hji;have hkj:k≠j:=Ne.symm hjk;have hlj:j < σ.length:=by
    have:=(v7.mp h3).1;simpa using this
   rw [List.getElem?_set_self hlj] at h3;cases h3;rw [List.getElem?_set_ne (Ne.symm hkj)] at h2;rw [List.getElem?_set_ne (Ne.symm hkj)];intro z;exact neP (inO hk hkj) h2 z rfl
  .rw [List.getElem?_set_ne (Ne.symm hji)] at h1 h3;by_cases hki:k=i
   .subst hki;intro z;have hlk:k < σ.length:=by
     have:=(v7.mp z).1;simpa using this
    rw [List.getElem?_set_self hlk] at z;cases z;exact neP (inO hj hji) h1 h3 rfl
   .rw [List.getElem?_set_ne (Ne.symm hki)] at h2;rw [List.getElem?_set_ne (Ne.symm hki)];exact F.apart j (inO hj hji) k (inO hk hki) hjk e f a h1 h2 h3
theorem FR.setO (F:FR g E Es O ρ σ H Hs) (hq:∀ q∈E.pins,q.1≠i) (hp:H p=none) (r:cP g (upd H p o) Hs p d):FR g E Es (i::without O [i]) (ρ.set i (some d)) (σ.set i (some (.ref p))) (upd H p o) Hs:=by
 refine F.adopt hq (Grow.own F.sub hp) hp ?_ r;cases q:Hs p with
 | none=>rfl
 | some u=>rw [F.sub p u q] at hp;cases hp
theorem FR.mut {i:Nat}{d d':D}{a:Addr}{o:HO} (F:FR g E Es O ρ σ H Hs) (hi:i∈O) (hd:ρ[i]?=some (some d)) (ha:σ[i]?=some (some (.ref a))) (r:cP g (upd H a o) Hs a d'):FR g E Es O (ρ.set i (some d')) σ (upd H a o) Hs:=by
 obtain ⟨b,eb,b0,b1,ob⟩:=F.own i hi d hd;rw [ha] at eb;cases eb;refine ⟨⟨fun c u q=>?_,F.grow.old,fun c u q=>?_⟩,by rw [List.length_set];exact F.len,fun j e h hj=>?_,fun j hj e h=>?_,fun j hj k hk hjk e f c h1 h2 h3=>?_,F.pin⟩
 .rw [ao (ak q b0)];exact F.grow.keep c u q
 .rw [ao (ak q b1)];exact F.grow.sub c u q
 .have hji:j≠i:=fun z=>hj (z ▸ hi)
  rw [List.getElem?_set_ne (Ne.symm hji)] at h;exact F.val j e h hj
 .by_cases hji:j=i
  .subst hji;have hl:j < ρ.length:=by
    have:=(v7.mp h).1;simpa using this
   rw [List.getElem?_set_self hl] at h;cases h;exact ⟨a,ha,b0,b1,r⟩
  .rw [List.getElem?_set_ne (Ne.symm hji)] at h;obtain ⟨c,ec,c0,c1,oc⟩:=F.own j hj e h;have hca:c≠a:=fun z=>by
    subst z;exact F.apart i hi j hj (Ne.symm hji) d e c hd h ha ec
   exact ⟨c,ec,c0,c1,oc.mono (fun u q=>by rw [ao hca];exact q) fun _ _ q=>q⟩
 .have some1:∀ {k e},(ρ.set i (some d'))[k]?=some (some e)->∃ e',ρ[k]?=some (some e'):=fun {k e} h=>by
   by_cases hki:k=i
   .subst hki;exact ⟨d,hd⟩
   .rw [List.getElem?_set_ne (Ne.symm hki)] at h;exact ⟨e,h⟩
  obtain ⟨e',h1'⟩:=some1 h1;obtain ⟨f',h2'⟩:=some1 h2;exact F.apart j hj k hk hjk e' f' c h1' h2' h3
noncomputable def hole (H:Hp) (a:Addr):Hp:=fun b=>if b=a then none else H b
theorem eO (h:b≠a):hole H a b=H b:=if_neg h
theorem iD :hole H a a=none:=if_pos rfl
theorem FR.lend2 {i j:Nat}{d d' e e':D}{a b:Addr} (F:FR g E Es O ρ σ H Hs) (hi:i∈O) (hj:j∈O) (hd:ρ[i]?=some (some d)) (he:ρ[j]?=some (some e)) (ha:σ[i]?=some (some (.ref a))) (hb:σ[j]?=some (some (.ref b))) (w:Grow (hole (hole H a) b) Hs H' Hs') (na:Hs' a=none) (nb:Hs' b=none) (ra:cP g H' Hs' a d') (rb:cP g H' Hs' b e'):FR g E Es O ((ρ.set i (some d')).set j (some e')) σ H' Hs'/\Same Hs Hs':=by
 obtain ⟨a',ea,a0,a1,oa⟩:=F.own i hi d hd;rw [ha] at ea;cases ea;obtain ⟨b',eb,b0,b1,ob⟩:=F.own j hj e he;rw [hb] at eb;cases eb;have up:∀ c o,c≠a->c≠b->H c=some o->H' c=some o/\Hs' c=Hs c:=fun c o hc hc2 q=>by
  have q':hole (hole H a) b c=some o:=by rw [eO hc2,eO hc];exact q
  exact ⟨w.keep c o q',w.old c o q'⟩
 have sm:Same Hs Hs':=fun c o q=>by
  rw [(up c o (ak q a1) (ak q b1) (F.sub c o q)).2];exact q
 have back:∀ {k f},((ρ.set i (some d')).set j (some e'))[k]?=some (some f)->k≠i->k≠j->ρ[k]?=some (some f):=fun {k f} h h1 h2=>by
  rw [List.getElem?_set_ne (Ne.symm h2),List.getElem?_set_ne (Ne.symm h1)] at h;exact h
 refine ⟨⟨⟨fun c u q=>?_,fun c u q=>?_,w.sub⟩,by rw [List.length_set,List.length_set];exact F.len,fun k f h hk=>?_,fun k hk f h=>?_,fun k hk l hl hkl f f2 c h1 h2 h3=>?_,F.pin⟩,sm⟩
 .exact (up c u (ak q a0) (ak q b0) (F.grow.keep c u q)).1
 .exact ((up c u (ak q a0) (ak q b0) (F.grow.keep c u q)).2).trans (F.grow.old c u q)
 .obtain ⟨v,ev,rv⟩:=F.val k f (back h (fun z=>hk (z ▸ hi)) (fun z=>hk (z ▸ hj))) hk;exact ⟨v,ev,rv.mono sm⟩
 .by_cases hkj:k=j
  .subst hkj;have hl:k < (ρ.set i (some d')).length:=by
    have:=(v7.mp h).1;simpa using this
   rw [List.getElem?_set_self hl] at h;cases h;exact ⟨b,hb,b0,nb,rb⟩
  .by_cases hki:k=i
   .subst hki;rw [List.getElem?_set_ne (Ne.symm hkj)] at h;have hl:k < ρ.length:=by
     have:=(v7.mp h).1;simpa using this
    rw [List.getElem?_set_self hl] at h;cases h;exact ⟨a,ha,a0,na,ra⟩
   .have h':=back h hki hkj;obtain ⟨c,ec,c0,c1,oc⟩:=F.own k hk f h';have hca:c≠a:=fun z=>by
     subst z;exact F.apart i hi k hk (Ne.symm hki) d f c hd h' ha ec
    have hcb:c≠b:=fun z=>by
     subst z;exact F.apart j hj k hk (Ne.symm hkj) e f c he h' hb ec
    obtain ⟨u,hu⟩:=oc.obj;exact ⟨c,ec,c0,by rw [(up c u hca hcb hu).2];exact c1,oc.mono (fun u q=>(up c u hca hcb q).1) sm⟩
 .have some1:∀ {k f},((ρ.set i (some d')).set j (some e'))[k]?=some (some f)->∃ f',ρ[k]?=some (some f'):=fun {k f} h=>by
   by_cases hkj:k=j
   .subst hkj;exact ⟨e,he⟩
   .by_cases hki:k=i
    .subst hki;exact ⟨d,hd⟩
    .exact ⟨f,back h hki hkj⟩
  obtain ⟨f',h1'⟩:=some1 h1;obtain ⟨g',h2'⟩:=some1 h2;exact F.apart k hk l hl hkl f' g' c h1' h2' h3
theorem vG:∀ {a b:En}{i:Nat}{d:D},(aM a b)[i]?=some (some d)->b[i]?=some (some d)
 | [],b,i,d,h=>by
  simp only [aM,List.getElem?_map] at h;cases e:b[i]? <;> simp [e] at h
 | _::_,[],i,d,h=>by simp [aM] at h
 | x::as,y::bs,0,d,h=>by
  simp only [aM,List.getElem?_cons_zero] at h ⊢;split at h
  .exact h
  .cases h
 | x::as,y::bs,i+1,d,h=>by
  simp only [aM,List.getElem?_cons_succ] at h ⊢;exact vG h
theorem vg:∀ (a b:En),(aM a b).length=b.length
 | [],b=>by simp [aM]
 | _::_,[]=>rfl
 | _::as,_::bs=>by simp [aM,vg as bs]
theorem FR.less {ρ':En} (F:FR g E Es O ρ σ H Hs) (hl:ρ'.length=ρ.length) (h:∀ (i:Nat) d,ρ'[i]?=some (some d)->ρ[i]?=some (some d)):FR g E Es O ρ' σ H Hs :=
 ⟨F.grow,hl.trans F.len,fun i d q hi=>F.val i d (h i d q) hi,fun i hi d q=>F.own i hi d (h i d q),fun i hi j hj hij d e a q1 q2=>F.apart i hi j hj hij d e a (h i d q1) (h j e q2),F.pin⟩
theorem rH {H1:Hp} (hs:Same Hs H) (hw:gW Hs Hs1) (g2:Grow H Hs1 H1 Hs2):∃ Hs3,Grow H Hs H1 Hs3/\(∀ t o,Hs2 t=some o->sX o=false->Hs3 t=some o)/\∀ t,H t=none->Hs3 t=Hs2 t:=by
 classical
 refine ⟨fun b=>if (H b).isSome then Hs b else Hs2 b,⟨g2.keep,fun a o q=>?_,fun a o q=>?_⟩,fun t o q hm=>?_,fun t ht=>?_⟩
 .show (if (H a).isSome then Hs a else Hs2 a)=_
  rw [q];rfl
 .by_cases e:(H a).isSome=true
  .have q':Hs a=some o:=by rw [<- q];exact (if_pos e).symm
   exact g2.keep a o (hs a o q')
  .have q':Hs2 a=some o:=by rw [<- q];exact (if_neg e).symm
   exact g2.sub a o q'
 .show (if (H t).isSome then Hs t else Hs2 t)=_
  by_cases e:(H t).isSome=true
  .rw [if_pos e];obtain ⟨u,hu⟩:=yA.mp e;have h1:Hs1 t=some o:=by rw [<- g2.old t u hu];exact q
   rcases hw t o h1 with z | z
   .exact z
   .rw [hm] at z;cases z
  .rw [if_neg e];exact q
 .show (if (H t).isSome then Hs t else Hs2 t)=_
  rw [ht];rfl
def Tt {K:zt}{xs:List V} (h:∀ t o,Hs2 t=some o->sX o=false->Hs3 t=some o) (q:SqT K Hs2 a xs):SqT K Hs3 a xs:=by
 rcases q with (q | ⟨o,q⟩) | q
 .exact .inl (.inl (h _ _ q rfl))
 .exact .inl (.inr ⟨o,h _ _ q rfl⟩)
 .exact .inr q
mutual
theorem oM {Hs2 Hs3:Hp} (h:∀ t o,Hs2 t=some o->sX o=false->Hs3 t=some o):∀ {d:D}{v:V},lfD d=true->Rp g Hs2 d v->Rp g Hs3 d v
 | .non,v,_,r=>by rw [Rp] at r ⊢;exact r
 | .bl _,v,_,r=>by rw [Rp] at r ⊢;exact r
 | .int _,v,_,r=>by rw [Rp] at r ⊢;exact r
 | .str _,v,_,r=>by rw [Rp] at r ⊢;exact r
 | .tup ds,v,l,r=>by
  rw [Rp] at r ⊢;obtain ⟨a,xs,e,s,rs⟩:=r;rw [lfD] at l;exact ⟨a,xs,e,Tt h s,vD h l rs⟩
 | .lst _,v,l,r=>by rw [lfD] at l;cases l
 | .dct _ _,v,l,r=>by rw [lfD] at l;cases l
theorem vD {Hs2 Hs3:Hp} (h:∀ t o,Hs2 t=some o->sX o=false->Hs3 t=some o):∀ {ds:List D}{vs:List V},Ai ds=true->Rps g Hs2 ds vs->Rps g Hs3 ds vs
 | [],vs,_,r=>by rw [Rps] at r ⊢;exact r
 | d::ds,vs,l,r=>by
  rw [Rps] at r ⊢;rw [Ai,Bool.and_eq_true] at l;obtain ⟨y,ys,e,r1,r2⟩:=r;exact ⟨y,ys,e,oM h l.1 r1,vD h l.2 r2⟩
end
mutual
theorem YZ {Hs2:Hp}{b:Addr}{P:Heap->Prop} (hb:Hs2 b=some (.ext P)):∀ {d:D}{v:V},ndD d=true->Rp g Hs2 d v->Rp g (hole Hs2 b) d v
 | .non,v,_,r=>by rw [Rp] at r ⊢;exact r
 | .bl _,v,_,r=>by rw [Rp] at r ⊢;exact r
 | .int _,v,_,r=>by rw [Rp] at r ⊢;exact r
 | .str _,v,_,r=>by rw [Rp] at r ⊢;exact r
 | .tup ds,v,l,r=>by
  rw [Rp] at r ⊢;obtain ⟨a,xs,e,s,rs⟩:=r;rw [ndD] at l;refine ⟨a,xs,e,?_,pA hb l rs⟩;have ne:∀ o,Hs2 a=some o->WR o=false->hole Hs2 b a=some o:=fun o q h=>by
   rw [eO (fun z=>by rw [z,hb] at q;cases q;cases h)];exact q
  rcases s with (q | ⟨o,q⟩) | q
  .exact .inl (.inl (ne _ q rfl))
  .exact .inl (.inr ⟨o,ne _ q rfl⟩)
  .exact .inr q
 | .lst ds,v,l,r=>by
  rw [Rp] at r ⊢;obtain ⟨a,xs,e,s,rs⟩:=r;rw [ndD] at l;refine ⟨a,xs,e,?_,pA hb l rs⟩;have ne:∀ o,Hs2 a=some o->WR o=false->hole Hs2 b a=some o:=fun o q h=>by
   rw [eO (fun z=>by rw [z,hb] at q;cases q;cases h)];exact q
  rcases s with (q | ⟨o,q⟩) | q
  .exact .inl (.inl (ne _ q rfl))
  .exact .inl (.inr ⟨o,ne _ q rfl⟩)
  .exact .inr q
 | .dct _ _,v,l,r=>by rw [ndD] at l;cases l
theorem pA {Hs2:Hp}{b:Addr}{P:Heap->Prop} (hb:Hs2 b=some (.ext P)):∀ {ds:List D}{vs:List V},gR ds=true->Rps g Hs2 ds vs->Rps g (hole Hs2 b) ds vs
 | [],vs,_,r=>by rw [Rps] at r ⊢;exact r
 | d::ds,vs,l,r=>by
  rw [Rps] at r ⊢;rw [gR,Bool.and_eq_true] at l;obtain ⟨y,ys,e,r1,r2⟩:=r;exact ⟨y,ys,e,YZ hb l.1 r1,pA hb l.2 r2⟩
end
end
end Mi
set_option maxHeartbeats 1000000
namespace Mi
open PySem L2
open PyProof.Rows hiding St
def aj {α β:Type}{r:R α}{f:α->R β}{b:β} (h:(r >>= f)=.ok b):∃ a,r=.ok a/\f a=.ok b:=by
 cases r with
 | ok a=>exact ⟨a,rfl,h⟩
 | exc x=>rw [T5] at h;cases h
 | stuck=>rw [Nj] at h;cases h
theorem QJ {α:Type}{a b:α} (h:(R.ok a)=.ok b):a=b:=by cases h;rfl
def bW {α:Type}{c:Prop} [Decidable c] {a:R α}{b:α} (h:(if c then a else .stuck)=.ok b):c/\a=.ok b:=by
 by_cases hc:c
 .rw [if_pos hc] at h;exact ⟨hc,h⟩
 .rw [if_neg hc] at h;cases h
variable {X:Cx}{e:Expr}
theorem bw {t t':TE} (h:PE X e t) (i:∀ σ H Q,t' σ H Q->t σ H Q):PE X e t':=fun pins s σ H Q I hq=>h pins s σ H Q I (i σ H Q hq)
theorem vQ {t t':TT} (h:PT X e t) (i:∀ σ H Q,t' σ H Q->t σ H Q):PT X e t':=fun pins s σ H Q I hq=>h pins s σ H Q I (i σ H Q hq)
theorem Rm {e:ve}{t t':TA} (h:PA X e t) (i:∀ σ H Q,t' σ H Q->t σ H Q):PA X e t':=fun pos pins s σ H Q I hq=>h pos pins s σ H Q I (i σ H Q hq)
variable {g:G}{i:Int}{ds:List D}{xs:List V}{x:V}{z:D}
section
variable {X:Cx}{H Hs H1 Hs1:Hp}{Q:VK}{d:D}{v:V}
def aU :Rp g H (.int i) v↔v=.int i:=by rw [Rp]
def nQ {i:Bool}:Rp g H (.bl i) v↔v=.bl i:=by rw [Rp]
def Bo :Rp g H .non v↔v=.non:=by rw [Rp]
def Sg {i:Str}:Rp g H (.str i) v↔v=.str i:=by rw [Rp]
def cV :Rp g H (.tup ds) v↔∃ a xs,v=.ref a/\SqT g.K H a xs/\Rps g H ds xs:=by rw [Rp]
def bT :Rp g H (.lst ds) v↔∃ a xs,v=.ref a/\SqL g.K H a xs/\Rps g H ds xs:=by rw [Rp]
def kJ {ks vs:List D}:Rp g H (.dct ks vs) v↔∃ a xs ys ep,v=.ref a/\H a=some (.ext (DAt g a xs ys ep))/\ks=xs.map (·.1)/\Rps g H ks (xs.map fun x=>V.ref x.2.1)/\Rps g H vs ys:=by rw [Rp]
def XD (X:Cx) (H Hs:Hp) (Q:VK) (d:D):Prop:=∀ v H' Hs',Grow H Hs H' Hs'->Rp (gOf X) Hs' d v->Q v H'
theorem XD.grow (h:XD X H Hs Q d) (w:Grow H Hs H1 Hs1):XD X H1 Hs1 Q d:=fun v H' Hs' g r=>h v H' Hs' (w.trans g) r
theorem XD.here (h:XD X H Hs Q d) (hs:Same Hs H) (r:Rp (gOf X) Hs d v):Q v H:=h v H Hs (Grow.refl hs) r
theorem XD.int (h:XD X H Hs Q (.int i)) (hs:Same Hs H):Q (.int i) H:=h.here hs (aU.mpr rfl)
theorem XD.bl {i:Bool} (h:XD X H Hs Q (.bl i)) (hs:Same Hs H):Q (.bl i) H:=h.here hs (nQ.mpr rfl)
theorem XD.non (h:XD X H Hs Q .non) (hs:Same Hs H):Q .non H:=h.here hs (Bo.mpr rfl)
theorem oN {p:Addr}{o:HO} (hs:Same Hs H) (hp:H p=none):Same Hs (upd Hs p o):=(Grow.new (o:=o) hs hp).same hs
theorem XD.newL (h:XD X H Hs Q (.lst ds)) (hs:Same Hs H) (r:Rps (gOf X) Hs ds xs):∀ p,H p=none->Q (.ref p) (upd H p (.lst xs)):=fun p hp =>
 h _ _ _ (Grow.new (o:=.lst xs) hs hp) (bT.mpr ⟨p,xs,rfl,SqL.of aB,r.mono (oN hs hp)⟩)
theorem XD.newT (h:XD X H Hs Q (.tup ds)) (hs:Same Hs H) (r:Rps (gOf X) Hs ds xs):∀ p,H p=none->Q (.ref p) (upd H p (.tup xs)):=fun p hp =>
 h _ _ _ (Grow.new (o:=.tup xs) hs hp) (cV.mpr ⟨p,xs,rfl,SqT.of aB,r.mono (oN hs hp)⟩)
def Op2 (X:Cx) (r:R2) (op:D->D->R D):Prop:=∀ x y d e z H Hs Q,Same Hs H->Rp (gOf X) Hs d x->Rp (gOf X) Hs e y->op d e=.ok z->XD X H Hs Q z->r x y H Q
def YW:OpR X (binaryOp .Add) (Xi X.K):=by
 intro pins s σ H x y v u Q I rx ry h;obtain ⟨l,b,xs,zs,rfl,rfl,hH,hB,hz,q⟩:=h;cases rx;cases ry;obtain ⟨its,r,pl,_⟩:=I.list hH;obtain ⟨its2,r2,pl2,_⟩:=I.list hB;obtain ⟨⟨cls,dd,data,sl⟩,ho,hc,n,hd⟩:=pl.isList;obtain ⟨⟨cls2,dd2,data2,sl2⟩,ho2,hc2,n2,hd2⟩:=pl2.isList;simp only at hc hd hc2 hd2;subst hc hd hc2 hd2;have hl:=r.length;have hl2:=r2.length;have e:its.toArray++its2.toArray=(its++its2).toArray:=by simp
 refine concat_meets ⟨_,ho,rfl⟩ ⟨_,ho2,rfl⟩ noFill_list_add seq_list_add PySem.F.slot_list_add PySem.F.entry_list_add (PySem.F.args_list_add_2 _ _) (list_addW l b its.toArray its2.toArray n n2 dd dd2 sl sl2 (by simp only [List.size_toArray];omega)) ⟨ho,ho2,?_⟩;rw [e];exact ⟨.ref _,_,I.lnew (t':=s.toks) (r.append r2) (by rw [List.length_append];omega),rfl,q _ I.fresh⟩
def Nr (X:Cx):R2:=fun x y H Q=>rI0 (fun i j=>.int (i+j)) x y H Q\/(QT X.K x y H Q\/(Xh X.K x y H Q\/Xi X.K x y H Q))
theorem Za:OpR X (binaryOp .Add) (Nr X):=abl.or (Wu.or (Yc.or YW))
def Zg:Op2 X (Nr X) mY:=by
 intro x y d e z H Hs Q hs rx ry h k;have hlim:=ju;cases d <;> cases e <;> simp only [mY] at h <;> try (cases h;done)
 .cases h;exact .inl ⟨_,_,aU.mp rx,aU.mp ry,k.int hs⟩
 .obtain ⟨hl,h⟩:=bW h;cases h;obtain ⟨a,xs,rfl,s1,r1⟩:=cV.mp rx;obtain ⟨b,ys,rfl,s2,r2⟩:=cV.mp ry;have l1:=r1.length;have l2:=r2.length;by_cases hx:xs=[]
  .subst hx;refine .inr (.inl ⟨a,b,ys,rfl,rfl,aP hs s1,aP hs s2,k.here hs ?_⟩);rename_i as bs;have:as=[]:=by cases as with | nil=>rfl | cons _ _=>simp at l1
   subst this;exact ry
  .refine .inr (.inr (.inl ⟨a,b,xs,ys,rfl,rfl,aP hs s1,aP hs s2,hx,by omega,fun hy=>?_,fun _=>k.newT hs (r1.append r2)⟩));subst hy;rename_i as bs;have:bs=[]:=by cases bs with | nil=>rfl | cons _ _=>simp at l2
   subst this;rw [List.append_nil] at k;exact k.here hs rx
 .obtain ⟨hl,h⟩:=bW h;cases h;obtain ⟨a,xs,rfl,s1,r1⟩:=bT.mp rx;obtain ⟨b,ys,rfl,s2,r2⟩:=bT.mp ry;have l1:=r1.length;have l2:=r2.length;exact .inr (.inr (.inr ⟨a,b,xs,ys,rfl,rfl,aN hs s1,aN hs s2,by omega,k.newL hs (r1.append r2)⟩))
noncomputable def U4:BO->Operator
 | .add=>.Add | .sub=>.Sub | .mul=>.Mult | .mod=>.Mod
def Z4 (X:Cx):BO->R2
 | .add=>Nr X
 | .sub=>rI0 fun i j=>.int (i - j)
 | .mul=>rI Oq fun i j=>.int (i * j)
 | .mod=>rI (fun _ j=>0 < j) fun i j=>.int (i % j)
def aav (o:BO):OpR X (binaryOp (U4 o)) (Z4 X o):=by
 cases o
 .exact Za
 .exact aaf
 .exact ZJ
 .exact aaT
def Cd (h:j9 i=true):-(2 ^ 64) < i/\i < 2 ^ 64:=by
 cases i with
 | ofNat n =>
  have:=Nat.le_of_ble_eq_true h;rw [Int.ofNat_eq_natCast];exact ⟨by omega,by omega⟩
 | negSucc n =>
  have:=Nat.le_of_ble_eq_true h;exact ⟨by omega,by omega⟩
def Xx (o:BO):Op2 X (Z4 X o) (jD o):=by
 cases o
 .intro x y d e z H Hs Q hs rx ry h k;exact Zg x y d e z H Hs Q hs rx ry (by simpa only [jD] using h) k
 all_goals
  intro x y d e z H Hs Q hs rx ry h k;cases d <;> cases e <;> simp only [jD] at h <;> try (cases h;done)
 .cases h;exact ⟨_,_,aU.mp rx,aU.mp ry,k.int hs⟩
 .obtain ⟨c,h⟩:=bW h;cases h;refine ⟨_,_,aU.mp rx,aU.mp ry,?_,k.int hs⟩;simp only [Bool.or_eq_true] at c;rcases c with c | c
  .exact .inl (Cd c)
  .exact .inr (Cd c)
 .obtain ⟨c,h⟩:=bW h;cases h;exact ⟨_,_,aU.mp rx,aU.mp ry,c,k.int hs⟩
noncomputable def rC:CO->CmpOp
 | .eq=>.Eq | .ne=>.NotEq | .lt=>.Lt | .le=>.LtE | .gt=>.Gt | .ge=>.GtE | .notin=>.NotIn
def Og (X:Cx):CO->R2
 | .eq=>aaX X
 | .ne=>aaM X
 | .lt=>rI0 fun i j=>.bl (decide (i < j))
 | .le=>rI0 fun i j=>.bl (decide (i<=j))
 | .gt=>rI0 fun i j=>.bl (decide (j < i))
 | .ge=>rI0 fun i j=>.bl (decide (j<=i))
 | .notin=>fun x y H Q=>Ux X true x y H Q\/OJ X true x y H Q
def tL (hu:X.A.units+100 < cLine) (o:CO):OpR X (compareOp (rC o)) (Og X o):=by
 cases o
 .exact ZG hu
 .exact aaV hu
 .exact acw
 .exact abM
 .exact acs
 .exact abW
 .exact (Qn hu).or (NZ hu)
def T6 {b:Bool}{y:V}{e:D} (hs:Same Hs H) (rx:Rp (gOf X) Hs d x) (ry:Rp (gOf X) Hs e y) (h:inD d e=.ok b) (k:Q (.bl (!b)) H):Ux X true x y H Q\/OJ X true x y H Q:=by
 cases e <;> simp only [inD] at h <;> try (cases h;done)
 .obtain ⟨c,h⟩:=bW h;cases h;obtain ⟨p,xs,rfl,s1,r1⟩:=cV.mp ry;simp only [Bool.and_eq_true,decide_eq_true_eq] at c;exact .inl ⟨d,_,p,xs,rx.mono hs,rfl,.inr (aP hs s1),r1.mono hs,c.1,c.2,k⟩
 .obtain ⟨c,h⟩:=bW h;cases h;obtain ⟨p,xs,rfl,s1,r1⟩:=bT.mp ry;simp only [Bool.and_eq_true,decide_eq_true_eq] at c;exact .inl ⟨d,_,p,xs,rx.mono hs,rfl,.inl (aN hs s1),r1.mono hs,c.1,c.2,k⟩
 .obtain ⟨c,h⟩:=bW h;cases h;obtain ⟨a,xs,ys,ep,rfl,ha,e1,r1,r2⟩:=kJ.mp ry;exact .inr ⟨d,a,_,xs,ys,rx.mono hs,c,rfl,⟨⟨ep,hs _ _ ha⟩,e1,r1.mono hs⟩,k⟩
def yh (o:CO):Op2 X (Og X o) (fun d e=>do let r <- bQ o d e;.ok (.bl r)):=by
 intro x y d e z H Hs Q hs rx ry h0 k;obtain ⟨b,h,hz⟩:=aj h0;clear h0;cases hz;cases o
 .simp only [bQ] at h;obtain ⟨c,h⟩:=bW h;cases h;exact ⟨d,e,rx.mono hs,ry.mono hs,c,k.bl hs⟩
 .simp only [bQ] at h;obtain ⟨c,h⟩:=bW h;cases h;exact ⟨d,e,rx.mono hs,ry.mono hs,c,k.bl hs⟩
 .cases d <;> cases e <;> simp only [bQ] at h <;> try (cases h;done)
  cases h;exact ⟨_,_,aU.mp rx,aU.mp ry,k.bl hs⟩
 .cases d <;> cases e <;> simp only [bQ] at h <;> try (cases h;done)
  cases h;exact ⟨_,_,aU.mp rx,aU.mp ry,k.bl hs⟩
 .cases d <;> cases e <;> simp only [bQ] at h <;> try (cases h;done)
  cases h;exact ⟨_,_,aU.mp rx,aU.mp ry,k.bl hs⟩
 .cases d <;> cases e <;> simp only [bQ] at h <;> try (cases h;done)
  cases h;exact ⟨_,_,aU.mp rx,aU.mp ry,k.bl hs⟩
 .simp only [bQ] at h;obtain ⟨c,h1,h2⟩:=aj h;clear h;cases h2;exact T6 hs rx ry h1 (k.bl hs)
def Z9 (X:Cx):R2:=fun x y H Q=>(aah X.K x y H Q\/abu X.K x y H Q)\/W4 X x y H Q
theorem ac5 (hu:X.A.units+100 < cLine):IxR X (Z9 X):=(Zr.or aaD).or (Yx hu)
theorem gets {g:G}{k:D}:∀ {xs:List (D × Addr × Value)}{vs:List D}{ys:List V},Rps g H vs ys->(∃ z v,cW (xs.map (·.1)) vs k=some z/\atV xs ys k=some v/\Rp g H z v)\/(cW (xs.map (·.1)) vs k=none/\atV xs ys k=none)
 | [],_,_,_=>.inr ⟨rfl,rfl⟩
 | x::xs,[],ys,r=>by
  obtain rfl:=r.nil_inv;exact .inr ⟨rfl,rfl⟩
 | x::xs,z::vs,ys,r=>by
  obtain ⟨v,ys',rfl,r0,rs⟩:=r.cons_inv;by_cases e:x.1=k
  .exact .inl ⟨z,v,if_pos e,if_pos e,r0⟩
  .have e1:cW ((x::xs).map (·.1)) (z::vs) k=cW (xs.map (·.1)) vs k:=if_neg e;have e2:atV (x::xs) (v::ys') k=atV xs ys' k:=if_neg e;rw [e1,e2];exact gets rs
def QB (r:Rps g Hs ds xs) (h:(match ixN ds.length i with | some k=>(match ds[k]? with | some d=>R.ok d | none=>.stuck) | none=>.stuck)=.ok z):∃ v,atI xs i=some v/\Rp g Hs z v:=by
 cases e:ixN ds.length i with
 | none=>rw [e] at h;cases h
 | some k =>
  rw [e] at h;cases e2:ds[k]? with
  | none=>simp only [e2] at h;cases h
  | some d =>
   simp only [e2] at h;cases h;obtain ⟨v,ev,rv⟩:=r.getD e2;refine ⟨v,?_,rv⟩;unfold atI;rw [<- r.length,e];exact ev
def abp:Op2 X (Z9 X) ixD:=by
 intro x y d e z H Hs Q hs rx ry h k;cases d <;> try (cases h;done)
 .cases e <;> try (cases h;done)
  obtain ⟨a,xs,rfl,s1,r1⟩:=cV.mp rx;obtain ⟨v,e1,r2⟩:=QB r1 h;exact .inl (.inr ⟨a,xs,_,v,rfl,aU.mp ry,aP hs s1,e1,k.here hs r2⟩)
 .cases e <;> try (cases h;done)
  obtain ⟨a,xs,rfl,s1,r1⟩:=bT.mp rx;obtain ⟨v,e1,r2⟩:=QB r1 h;exact .inl (.inl ⟨a,xs,_,v,rfl,aU.mp ry,aN hs s1,e1,k.here hs r2⟩)
 .rename_i ks vs;obtain ⟨hk,h⟩:=bW h;obtain ⟨a,xs,ys,ep,rfl,ha,e1,r1,r2⟩:=kJ.mp rx;subst e1;rcases gets (k:=e) (xs:=xs) r2 with ⟨z',v,g1,g2,g3⟩ | ⟨g1,g2⟩
  .rw [g1] at h;cases h;exact .inr ⟨e,a,_,xs,ys,v,ry.mono hs,hk,rfl,⟨⟨ep,hs _ _ ha⟩,rfl,r1.mono hs⟩,g2,k.here hs g3⟩
  .rw [g1] at h;cases h
def abh (X:Cx):V->Option Int->Option Int->Hp->VK->Prop:=fun x lo hi H Q=>abf X.K x lo hi H Q
theorem acU:SlR X (abh X):=Ym
def T8 {lo hi:Option Int} (hs:Same Hs H) (rx:Rp (gOf X) Hs d x) (h:slD d lo hi=.ok z) (k:XD X H Hs Q z):abh X x lo hi H Q:=by
 cases d <;> simp only [slD] at h <;> try (cases h;done)
 .cases h;obtain ⟨a,xs,rfl,s1,r1⟩:=bT.mp rx;have l1:=r1.length;refine ⟨a,xs,rfl,aN hs s1,k.newL hs ?_⟩;unfold cutD J9;rw [<- l1];exact (r1.drop _).take _
end
end Mi
set_option maxHeartbeats 1000000
namespace Mi
open PySem L2
open PyProof.Rows hiding St
noncomputable def Q0:M->Bool
 | .var _=>true | _=>false
noncomputable def aci:M->Nat
 | .var i=>i | _=>0
structure Tx where
 F:z0
 gl:List (Str × D)
noncomputable def fu (sc:Scope) (x:Str):Bool:=match sc.names.lookup x with
 | some .local=>true | some .cell=>true | some .free=>true | _=>false
noncomputable def kI (sc:Scope) (x:Str):Bool:=match sc.names.lookup x with
 | some .local=>true | some .cell=>true | _=>false
noncomputable def eV (sc:Scope) (x:Str):Bool:=match sc.names.lookup x with
 | some .globalImplicit=>true | _=>false
noncomputable def aJ (x:Str):Bool:=!(x == ("__debug__":Str)) && !(x == ("__classdict__":Str)) && !(x == ("__name__":Str))
noncomputable def boB:BO->Operator->Bool
 | .add,.Add=>true | .sub,.Sub=>true | .mul,.Mult=>true | .mod,.Mod=>true | _,_=>false
def aaA {o:BO}{p:Operator} (h:boB o p=true):p=U4 o:=by cases o <;> cases p <;> first | rfl | cases h
noncomputable def coB:CO->CmpOp->Bool
 | .eq,.Eq=>true | .ne,.NotEq=>true | .lt,.Lt=>true | .le,.LtE=>true | .gt,.Gt=>true | .ge,.GtE=>true | .notin,.NotIn=>true | _,_=>false
variable {o:CO}{p:CmpOp}
def JD (h:coB o p=true):p=rC o:=by cases o <;> cases p <;> first | rfl | cases h
noncomputable def V5:D->Const->Bool
 | .int i,.int j=>decide (i=j)
 | .bl i,.bool j=>decide (i=j)
 | .non,.none=>true
 | .str x,.str y=>decide (x=y)
 | _,_=>false
noncomputable def Ql:BI->Str
 | .len=>"len" | .min2=>"min" | .all=>"all" | .any=>"any" | .sorted=>"sorted" | .list=>"list" | .tuple=>"tuple" | .listEnum=>"list" | .listRev=>"list" | .maxl=>"max"
noncomputable def glB:Option D->D->Bool
 | some (.int i),.int j=>decide (i=j)
 | some (.str i),.str j=>decide (i=j)
 | _,_=>false
variable {d:D}
def ZP {o:Option D} (h:glB o d=true):o=some d:=by
 unfold glB at h;split at h
 .rw [of_decide_eq_true h]
 .rw [of_decide_eq_true h]
 .cases h
noncomputable def Ty.nm:Ty->Str
 | .int=>"int" | .bool=>"bool" | .str=>"str" | .tuple=>"tuple" | .list=>"list"
noncomputable def lA:z0:=["len","min","max","all","any","sorted","list","tuple","isinstance","int","bool","str","range","enumerate","zip","reversed"]
noncomputable def scB (around scope:Scope):Bool :=
 decide (scope.kind=.function) && decide ((scope.names.map (·.1)).Nodup) && scope.names.all fun p=>decide (p.2≠.free) || decide (around.names.lookup p.1=some .cell) || decide (around.names.lookup p.1=some .free)
noncomputable def isK (k:Nat) (e:Expr):Bool:=Nat.beq e.ctorIdx k
noncomputable def isS (k:Nat) (s:Stmt):Bool:=Nat.beq s.ctorIdx k
variable {k:Nat}{e:Expr}{b:Bool}
theorem fW (h:(isK k e && b)=true):e.ctorIdx=k:=Nat.eq_of_beq_eq_true (Bool.and_eq_true_iff.mp h).1
theorem tE {s:Stmt} (h:(isS k s && b)=true):s.ctorIdx=k:=Nat.eq_of_beq_eq_true (Bool.and_eq_true_iff.mp h).1
section
variable {e:Expr}{s:Stmt}{b:Bool}
theorem eY (h:(isK 23 e && b)=true):∃ x p,e=.Name x p:=Expr.Name.elim (motive_1:=fun e=>∃ x p,e=.Name x p) e (fW h) fun _ _=>⟨_,_,rfl⟩
theorem Ek (h:(isK 25 e && b)=true):∃ x k p,e=.Tuple x k p:=Expr.Tuple.elim (motive_1:=fun e=>∃ x k p,e=.Tuple x k p) e (fW h) fun _ _ _=>⟨_,_,_,rfl⟩
theorem tX (h:(isK 24 e && b)=true):∃ x p,e=.List x p:=Expr.List.elim (motive_1:=fun e=>∃ x p,e=.List x p) e (fW h) fun _ _=>⟨_,_,rfl⟩
theorem Iv (h:(isK 6 e && b)=true):∃ x y p,e=.Dict x y p:=Expr.Dict.elim (motive_1:=fun e=>∃ x y p,e=.Dict x y p) e (fW h) fun _ _ _=>⟨_,_,_,rfl⟩
theorem Tw (h:(isK 2 e && b)=true):∃ x o y p,e=.BinOp x o y p:=Expr.BinOp.elim (motive_1:=fun e=>∃ x o y p,e=.BinOp x o y p) e (fW h) fun _ _ _ _=>⟨_,_,_,_,rfl⟩
theorem yE (h:(isK 15 e && b)=true):∃ x o y p,e=.Compare x o y p:=Expr.Compare.elim (motive_1:=fun e=>∃ x o y p,e=.Compare x o y p) e (fW h) fun _ _ _ _=>⟨_,_,_,_,rfl⟩
theorem uM (h:(isK 0 e && b)=true):∃ o y p,e=.BoolOp o y p:=Expr.BoolOp.elim (motive_1:=fun e=>∃ o y p,e=.BoolOp o y p) e (fW h) fun _ _ _=>⟨_,_,_,rfl⟩
theorem yH (h:(isK 3 e && b)=true):∃ o y p,e=.UnaryOp o y p:=Expr.UnaryOp.elim (motive_1:=fun e=>∃ o y p,e=.UnaryOp o y p) e (fW h) fun _ _ _=>⟨_,_,_,rfl⟩
theorem m9 (h:(isK 21 e && b)=true):∃ x y p,e=.Subscript x y p:=Expr.Subscript.elim (motive_1:=fun e=>∃ x y p,e=.Subscript x y p) e (fW h) fun _ _ _=>⟨_,_,_,rfl⟩
theorem PX (h:(isK 26 e && b)=true):∃ x y z p,e=.Slice x y z p:=Expr.Slice.elim (motive_1:=fun e=>∃ x y z p,e=.Slice x y z p) e (fW h) fun _ _ _ _=>⟨_,_,_,_,rfl⟩
theorem pq (h:(isK 8 e && b)=true):∃ x y z p,e=.ListComp x y z p:=Expr.ListComp.elim (motive_1:=fun e=>∃ x y z p,e=.ListComp x y z p) e (fW h) fun _ _ _ _=>⟨_,_,_,_,rfl⟩
theorem lJ (h:(isK 16 e && b)=true):∃ x y z p,e=.Call x y z p:=Expr.Call.elim (motive_1:=fun e=>∃ x y z p,e=.Call x y z p) e (fW h) fun _ _ _ _=>⟨_,_,_,_,rfl⟩
theorem jx (h:(isK 20 e && b)=true):∃ x y p,e=.Attribute x y p:=Expr.Attribute.elim (motive_1:=fun e=>∃ x y p,e=.Attribute x y p) e (fW h) fun _ _ _=>⟨_,_,_,rfl⟩
theorem jo (h:(isS 5 s && b)=true):∃ x y p,s=.Assign x y p:=Stmt.Assign.elim s (tE h) fun _ _ _=>⟨_,_,_,rfl⟩
theorem uh (h:(isS 24 s && b)=true):∃ x p,s=.Expr x p:=Stmt.Expr.elim s (tE h) fun _ _=>⟨_,_,rfl⟩
theorem BK (h:(isS 3 s && b)=true):∃ x p,s=.Return x p:=Stmt.Return.elim s (tE h) fun _ _=>⟨_,_,rfl⟩
theorem ZR (h:(isS 12 s && b)=true):∃ x y z p,s=.If x y z p:=Stmt.If.elim s (tE h) fun _ _ _ _=>⟨_,_,_,_,rfl⟩
theorem Mr (h:(isS 9 s && b)=true):∃ x y z w p,s=.For x y z w p:=Stmt.For.elim s (tE h) fun _ _ _ _ _=>⟨_,_,_,_,_,rfl⟩
theorem P0 (h:(isS 11 s && b)=true):∃ x y z p,s=.While x y z p:=Stmt.While.elim s (tE h) fun _ _ _ _=>⟨_,_,_,_,rfl⟩
end
def iT (e:Expr) (f:Str->ve->Bool):Bool:=isK 16 e && match e with
 | .Call g es ks _=>isK 23 g && (match g,ks with | .Name x _,[]=>f x es | _,_=>false)
 | _=>false
def cN {f:Str->ve->Bool} (h:iT e f=true):∃ x p es q,e=.Call (.Name x p) es [] q/\f x es=true:=by
 obtain ⟨g,es,ks,q,rfl⟩:=lJ h;have h2:(isK 23 g && _)=true:=h;obtain ⟨x,p,rfl⟩:=eY h2;cases ks with
 | nil=>exact ⟨x,p,es,q,rfl,h⟩
 | cons _ _=>cases h
def tgB (N:z0) (sc:Scope):Tg->Expr->Bool
 | .one i,e=>isK 23 e && match e with | .Name x _=>kI sc x && decide (N[i]?=some x) | _=>false
 | .two i j,e=>isK 25 e && match e with
  | .Tuple es _ _=>(match es with
   | [a,b]=>isK 23 a && (isK 23 b && match a,b with | .Name x _,.Name y _=>kI sc x && kI sc y && decide (N[i]?=some x) && decide (N[j]?=some y) && decide (i≠j) | _,_=>false)
   | _=>false)
  | _=>false
variable {N:z0}{sc:Scope}{i:Nat}
def sZ (h:tgB N sc (.one i) e=true):∃ x p,e=.Name x p/\kI sc x=true/\N[i]?=some x:=by
 obtain ⟨x,p,rfl⟩:=eY h;have h2:(kI sc x && decide (N[i]?=some x))=true:=h;simp only [Bool.and_eq_true,decide_eq_true_eq] at h2;exact ⟨x,p,rfl,h2⟩
def sI {j:Nat} (h:tgB N sc (.two i j) e=true):∃ x p y q k r,e=.Tuple [.Name x p,.Name y q] k r/\((((kI sc x=true/\kI sc y=true)/\N[i]?=some x)/\N[j]?=some y)/\i≠j):=by
 obtain ⟨es,k,r,rfl⟩:=Ek h;rcases es with _ | ⟨a,_ | ⟨b,_ | ⟨c,es⟩⟩⟩ <;> try (cases h;done)
 obtain ⟨x,p,rfl⟩:=eY (show (isK 23 a && _)=true from h);obtain ⟨y,q,rfl⟩:=eY (show (isK 23 b && _)=true from h);have h2:(kI sc x && kI sc y && decide (N[i]?=some x) && decide (N[j]?=some y) && decide (i≠j))=true:=h;simp only [Bool.and_eq_true,decide_eq_true_eq] at h2;exact ⟨x,p,y,q,k,r,rfl,h2⟩
noncomputable def Ik:Expr->Bool
 | .Tuple ..=>true | _=>false
noncomputable def lM:Expr->Bool
 | .Slice ..=>false | _=>true
noncomputable def noStar:Expr->Bool
 | .Starred ..=>false | _=>true
noncomputable def fJ:Expr->Bool
 | .Set ..=>false | _=>true
noncomputable def Gs:Expr->ve
 | .Call _ es _ _=>es
 | _=>[]
def iY:IK->Expr->ve
 | .seq,e=>[e]
 | .rng,e=>Gs e
 | .enum,e=>Gs e
 | .zip,e=>Gs e
 | .rev,e=>Gs e
def iB (sc:Scope):IK->Expr->Expr->Bool
 | .seq,_,e=>fJ e
 | .rng,_,e=>iT e fun f es=>decide (f="range") && eV sc f && (decide (es.length=1) || decide (es.length=2)) && es.all noStar
 | .enum,tg,e=>iT e fun f es=>decide (f="enumerate") && eV sc f && decide (es.length=1) && es.all noStar && Ik tg
 | .zip,tg,e=>iT e fun f es=>decide (f="zip") && eV sc f && decide (es.length=2) && es.all noStar && Ik tg
 | .rev,_,e=>iT e fun f es=>decide (f="reversed") && eV sc f && decide (es.length=1) && es.all noStar
def Jb (nm:Str) (e:Expr) (f:Str->Expr->Expr->Bool):Bool:=isK 16 e && match e with
 | .Call g es ks cp=>isK 20 g && (match g with
  | .Attribute o m ap=>isK 23 o && (match o,es,ks with | .Name x _,[y,z],[]=>decide (m=nm) && (ap.endLine == cp.line) && f x y z | _,_,_=>false)
  | _=>false)
 | _=>false
def M5 {nm:Str}{f:Str->Expr->Expr->Bool} (h:Jb nm e f=true):∃ x p ap y z cp,e=.Call (.Attribute (.Name x p) nm ap) [y,z] [] cp/\(ap.endLine == cp.line)=true/\f x y z=true:=by
 obtain ⟨g,es,ks,cp,rfl⟩:=lJ h;obtain ⟨o,m,ap,rfl⟩:=jx (show (isK 20 g && _)=true from h);obtain ⟨x,p,rfl⟩:=eY (show (isK 23 o && _)=true from h);rcases es with _ | ⟨y,_ | ⟨z,_ | ⟨w,es⟩⟩⟩ <;> try (cases h;done)
 rcases ks with _ | ⟨k,ks⟩ <;> try (cases h;done)
 have h2:(decide (m=nm) && (ap.endLine == cp.line) && f x y z)=true:=h;simp only [Bool.and_eq_true,decide_eq_true_eq] at h2;obtain ⟨⟨rfl,h3⟩,h4⟩:=h2;exact ⟨x,p,ap,y,z,cp,rfl,h3,h4⟩
def GX (e:Expr) (f:Str->Str->Expr->Bool->Bool):Bool:=isK 16 e && match e with
 | .Call g es ks cp=>isK 20 g && (match g with
  | .Attribute o m ap=>isK 23 o && (match o,es,ks with | .Name x _,[v],[]=>f x m v (ap.endLine == cp.line) | _,_,_=>false)
  | _=>false)
 | _=>false
def Hf {f:Str->Str->Expr->Bool->Bool} (h:GX e f=true):∃ x p m ap v cp,e=.Call (.Attribute (.Name x p) m ap) [v] [] cp/\f x m v (ap.endLine == cp.line)=true:=by
 obtain ⟨g,es,ks,cp,rfl⟩:=lJ h;obtain ⟨o,m,ap,rfl⟩:=jx (show (isK 20 g && _)=true from h);obtain ⟨x,p,rfl⟩:=eY (show (isK 23 o && _)=true from h);rcases es with _ | ⟨v,_ | ⟨v2,es⟩⟩ <;> try (cases h;done)
 rcases ks with _ | ⟨k,ks⟩ <;> try (cases h;done)
 exact ⟨x,p,m,ap,v,cp,rfl,h⟩
def aaH (e:Expr) (k:Int) (f:Str->Expr->Bool):Bool:=isK 16 e && match e with
 | .Call g es ks _=>isK 23 g && (match g,es,ks with
  | .Name x _,[a],[⟨some n,v,_⟩]=>isK 19 v && (match v with | .Constant (.int i) _ _=>decide (n="default") && decide (i=k) && f x a | _=>false)
  | _,_,_=>false)
 | _=>false
theorem Rq (h:(isK 19 e && b)=true):∃ x y p,e=.Constant x y p:=Expr.Constant.elim (motive_1:=fun e=>∃ x y p,e=.Constant x y p) e (fW h) fun _ _ _=>⟨_,_,_,rfl⟩
def X8 {k:Int}{f:Str -> Expr -> Bool} (h:aaH e k f=true):∃ x p a j q r cp,e=.Call (.Name x p) [a] [⟨some "default",.Constant (.int k) j q,r⟩] cp /\ f x a=true:=by
 obtain ⟨g,es,ks,cp,rfl⟩:=lJ h;obtain ⟨x,p,rfl⟩:=eY (show (isK 23 g && _)=true from h);rcases es with _ | ⟨a,_ | ⟨a2,es⟩⟩ <;> try (cases h;done)
 rcases ks with _ | ⟨⟨_ | n,v,r⟩,_ | ⟨k2,ks⟩⟩ <;> try (cases h;done)
 .obtain ⟨c,j,q,rfl⟩:=Rq (show (isK 19 v && _)=true from h);cases c <;> try (cases h;done)
  rename_i i;have h2:(decide (n="default") && decide (i=k) && f x a)=true:=h
  simp only [Bool.and_eq_true,decide_eq_true_eq] at h2;obtain ⟨⟨rfl,rfl⟩,h3⟩:=h2;exact ⟨x,p,a,j,q,r,cp,rfl,h3⟩
mutual
noncomputable def okE (T:Tx) (N:z0):M->Scope->Expr->Bool
 | .var i,sc,e=>isK 23 e && match e with | .Name x _=>aJ x && fu sc x && decide (N[i]?=some x) | _=>false
 | .con d,sc,e=>match e with
  | .Constant c _ _=>V5 d c
  | .Name x _=>aJ x && eV sc x && glB (T.gl.lookup x) d
  | _=>false
 | .tup ms,sc,e=>isK 25 e && match e with | .Tuple es _ _=>bI T N ms sc es && es.all noStar | _=>false
 | .lst ms,sc,e=>isK 24 e && match e with | .List es _=>bI T N ms sc es && es.all noStar | _=>false
 | .dct0,sc,e=>isK 6 e && match e with | .Dict [] [] _=>true | _=>false
 | .bin o a b,sc,e=>isK 2 e && match e with | .BinOp x p y _=>boB o p && okE T N a sc x && okE T N b sc y | _=>false
 | .cmp o a b,sc,e=>isK 15 e && match e with | .Compare x [p] [y] _=>coB o p && fJ y && okE T N a sc x && okE T N b sc y | _=>false
 | .chain o o' a b c,sc,e=>isK 15 e && match e with | .Compare x [p,p'] [y,z] _=>coB o p && coB o' p' && fJ y && fJ z && okE T N a sc x && okE T N b sc y && okE T N c sc z | _=>false
 | .and ms,sc,e=>isK 0 e && match e with | .BoolOp .And es _=>bI T N ms sc es && !ms.isEmpty | _=>false
 | .or ms,sc,e=>isK 0 e && match e with | .BoolOp .Or es _=>bI T N ms sc es && !ms.isEmpty && ms.all (fun m=>!tK m) | _=>false
 | .not a,sc,e=>isK 3 e && match e with | .UnaryOp .Not x _=>okE T N a sc x | _=>false
 | .neg a,sc,e=>isK 3 e && match e with | .UnaryOp .USub x _=>okE T N a sc x | _=>false
 | .ix a b,sc,e=>isK 21 e && match e with | .Subscript x y _=>lM y && okE T N a sc x && okE T N b sc y | _=>false
 | .slc a lo hi,sc,e=>isK 21 e && match e with
  | .Subscript x s _=>isK 26 s && (match s with | .Slice l h st _=>st.isNone && (okE T N a sc x && (match l with | none=>dB lo | some y=>!dB lo && okE T N lo sc y) && (match h with | none=>dB hi | some y=>!dB hi && okE T N hi sc y)) | _=>false)
  | _=>false
 | .dget a k d,sc,e=>Q0 a && Jb "get" e fun x y z=>fu sc x && aJ x && decide (N[aci a]?=some x) && okE T N k sc y && okE T N d sc z && noStar y && noStar z
 | .maxd a k,sc,e=>aaH e k fun x y=>decide (x="max") && eV sc x && okE T N a sc y && noStar y
 | .idx i m,sc,e=>GX e fun x n v b=>decide (n="index") && b && fu sc x && aJ x && decide (N[i]?=some x) && okE T N m sc v && noStar v
 | .call f ms,sc,e=>iT e fun x es=>aJ x && eV sc x && decide (T.F[f]?=some x) && bI T N ms sc es && es.all noStar
 | .blt b ms,sc,e=>iT e fun x es=>decide (x=Ql b) && eV sc x && !es.isEmpty && es.all noStar && (match b,es with
   | .listEnum,[e']=>iT e' fun y es'=>decide (y="enumerate") && eV sc y && bI T N ms sc es' && es'.all noStar && decide (es'.length=1)
   | .listEnum,_=>false
   | .listRev,[e']=>iT e' fun y es'=>decide (y="reversed") && eV sc y && bI T N ms sc es' && es'.all noStar && decide (es'.length=1)
   | .listRev,_=>false
   | _,_=>bI T N ms sc es)
 | .isin a t,sc,e=>iT e fun x es=>match es with
  | [y,z']=>isK 23 z' && (match z' with | .Name z _=>decide (x="isinstance") && eV sc x && okE T N a sc y && noStar y && decide (z=t.nm) && eV sc z | _=>false)
  | _=>false
 | .comp elt tg k src hc c cap,sc,e=>isK 8 e && match e with
  | .ListComp elt' [⟨tg',iter,ifs,as⟩] scope _=>decide (as=0) && scB sc scope && tgB N scope tg tg' && iB sc k tg' iter && bI T N src sc (iY k iter) &&
   (match hc,ifs with | true,[c']=>okE T N c scope c' | false,[]=>true | _,_=>false) && okE T N elt scope elt' && decide (cap=cI N scope)
  | _=>false
noncomputable def bI (T:Tx) (N:z0):List M->Scope->ve->Bool
 | [],_,es=>es.isEmpty
 | m::ms,sc,es=>match es with | e::es=>okE T N m sc e && bI T N ms sc es | []=>false
end
def okC (T:Tx) (N:z0):M->Scope->Expr->Bool
 | .or ms,sc,e=>isK 0 e && match e with | .BoolOp .Or es _=>bI T N ms sc es && !ms.isEmpty | _=>false
 | m,sc,e=>okE T N m sc e
section
variable {T:Tx}{N:z0}{sc:Scope}{a b c:M}{ms:List M}{x y z:Expr}{es:ve}{pos p2 p3:Pos}{s f:Str}{k:Nat}
theorem Y9 :okE T N (.var i) sc (.Name s pos)=(aJ s && fu sc s && decide (N[i]?=some s)):=rfl
theorem Wy :okE T N (.con d) sc (.Name s pos)=(aJ s && eV sc s && glB (T.gl.lookup s) d):=rfl
theorem Xl:okE T N (.tup ms) sc (.Tuple es k pos)=(bI T N ms sc es && es.all noStar):=rfl
theorem Lj:okE T N (.lst ms) sc (.List es pos)=(bI T N ms sc es && es.all noStar):=rfl
theorem Xo {o:BO}{p:Operator}:okE T N (.bin o a b) sc (.BinOp x p y pos)=(boB o p && okE T N a sc x && okE T N b sc y):=rfl
theorem Zq :okE T N (.cmp o a b) sc (.Compare x [p] [y] pos)=(coB o p && fJ y && okE T N a sc x && okE T N b sc y):=rfl
theorem RG {o':CO}{p':CmpOp}:okE T N (.chain o o' a b c) sc (.Compare x [p,p'] [y,z] pos)=(coB o p && coB o' p' && fJ y && fJ z && okE T N a sc x && okE T N b sc y && okE T N c sc z):=rfl
theorem Yr:okE T N (.and ms) sc (.BoolOp .And es pos)=(bI T N ms sc es && !ms.isEmpty):=rfl
theorem aaG:okE T N (.or ms) sc (.BoolOp .Or es pos)=(bI T N ms sc es && !ms.isEmpty && ms.all (fun m=>!tK m)):=rfl
theorem abC:okE T N (.ix a b) sc (.Subscript x y pos)=(lM y && okE T N a sc x && okE T N b sc y):=rfl
theorem Ze {l h:Option Expr}:okE T N (.slc a b c) sc (.Subscript x (.Slice l h none p2) pos)=(okE T N a sc x && (match l with | none=>dB b | some y=>!dB b && okE T N b sc y) && (match h with | none=>dB c | some y=>!dB c && okE T N c sc y)):=rfl
theorem Hv {elt:M}{tg:Tg}{ik:IK}{hc:Bool}{cap:List Bool}{elt' tg' iter:Expr}{ifs:ve}{as:Int}{scope:Scope}:okE T N (.comp elt tg ik ms hc c cap) sc (.ListComp elt' [⟨tg',iter,ifs,as⟩] scope pos)=(decide (as=0) && scB sc scope && tgB N scope tg tg' && iB sc ik tg' iter && bI T N ms sc (iY ik iter) &&
   (match hc,ifs with | true,[c']=>okE T N c scope c' | false,[]=>true | _,_=>false) && okE T N elt scope elt' && decide (cap=cI N scope)):=rfl
theorem pF:bI T N [] sc es=es.isEmpty:=rfl
theorem CZ:bI T N (a::ms) sc []=false:=rfl
theorem bZ:bI T N (a::ms) sc (x::es)=(okE T N a sc x && bI T N ms sc es):=rfl
end
end Mi
set_option maxHeartbeats 1000000
namespace Mi
open PySem L2
open PyProof.Rows hiding St
def Vs (g:G) (ρ:En) (σ:St) (Hs:Hp) (U:zz):Prop:=ρ.length=σ.length/\∀ i∈U,∀ d,ρ[i]?=some (some d)->∃ v,σ[i]?=some (some v)/\Rp g Hs d v
section
variable {g:G}{ρ:En}{σ:St}{Hs Hs':Hp}{U U':zz}
theorem Vs.mono (h:Vs g ρ σ Hs U) (m:Same Hs Hs'):Vs g ρ σ Hs' U:=⟨h.1,fun i hi d e=>let ⟨v,a,r⟩:=h.2 i hi d e;⟨v,a,r.mono m⟩⟩
theorem Vs.sub (h:Vs g ρ σ Hs U) (hs:∀ i∈U',i∈U):Vs g ρ σ Hs U':=⟨h.1,fun i hi d e=>h.2 i (hs i hi) d e⟩
theorem Vs.l (h:Vs g ρ σ Hs (U++U')):Vs g ρ σ Hs U:=h.sub fun _ hi=>vE _ hi
theorem Vs.r (h:Vs g ρ σ Hs (U++U')):Vs g ρ σ Hs U':=h.sub fun _ hi=>vF _ hi
end
def tM (X:Cx) (U:zz) (r:En->R D):TE:=fun σ H Q=>∃ ρ Hs d,Same Hs H/\Vs (gOf X) ρ σ Hs U/\r ρ=.ok d/\XD X H Hs Q d
def XDs (X:Cx) (H Hs:Hp) (Q:List V->Hp->Prop) (ds:List D):Prop:=∀ vs H' Hs',Grow H Hs H' Hs'->Rps (gOf X) Hs' ds vs->Q vs H'
def tMs (X:Cx) (U:zz) (r:En->R (List D)):TA:=fun σ H Q=>∃ ρ Hs ds,Same Hs H/\Vs (gOf X) ρ σ Hs U/\r ρ=.ok ds/\XDs X H Hs Q ds
def tMT (X:Cx) (U:zz) (r:En->R D):TT:=fun σ H Q=>∃ ρ Hs b,Same Hs H/\Vs (gOf X) ρ σ Hs U/\r ρ=.ok (.bl b)/\∀ H' Hs',Grow H Hs H' Hs'->Q b H'
section
variable {X:Cx}{σ:St}{H Hs:Hp}{Q:VK}{U Ua Ub Uc:zz}{r ra rb rc:En->R D}
def Gy {rr:R2}{op:D->D->R D} (o:Op2 X rr op):tM X (Ua++Ub) (fun ρ=>do let x <- ra ρ;let y <- rb ρ;op x y) σ H Q->tOp rr (tM X Ua ra) (tM X Ub rb) σ H Q:=by
 rintro ⟨ρ,Hs,z,hs,hv,h,k⟩;obtain ⟨x,hx,h⟩:=aj h;obtain ⟨y,hy,h⟩:=aj h;refine ⟨ρ,Hs,x,hs,hv.l,hx,fun v H1 Hs1 g1 r1=>?_⟩;refine ⟨ρ,Hs1,y,g1.sub,hv.r.mono (g1.same hs),hy,fun u H2 Hs2 g2 r2=>?_⟩;exact o v u x y z H2 Hs2 Q g2.sub (r1.mono (g2.same g1.sub)) r2 h (k.grow (g1.trans g2))
def DG {Q:Bool->Hp->Prop}:tMT X U r σ H Q->tM X U r σ H fun x H1=>∃ c,x=.bl c/\Q c H1:=by
 rintro ⟨ρ,Hs,b,hs,hv,h,k⟩;exact ⟨ρ,Hs,.bl b,hs,hv,h,fun v H1 Hs1 g1 r1=>⟨b,nQ.mp r1,k H1 Hs1 g1⟩⟩
end
structure ScRel (sc:Scope) (X:Cx):Prop where
 glb:∀ x,eV sc x=true->Gl X x
 vis:∀ x,fu sc x=true->Vis X.env.scope x
 cf:∀ x,sc.names.lookup x=some .cell\/sc.names.lookup x=some .free->X.env.scope.names.lookup x=some .cell\/X.env.scope.names.lookup x=some .free
 own:∀ x,kI sc x=true->L2.Loc X.env.scope x/\(X.fn x=true\/X.env.scope.names.lookup x=some .local)
def spD (g:G) (c:List D->R D) (np:Nat):Sp:=fun vs H Q _=>∃ ds Hs d,vs.length=np/\Same Hs H/\Rps g Hs ds vs/\c ds=.ok d/\∀ v H' Hs',Grow H Hs H' Hs'->Rp g Hs' d v->Q v H'
def Oh (g:G) (c:List D->R D) (np:Nat):Sp:=fun vs H Q _=>∃ d0 d e d' e' v0 a b Hs,((vs=[v0,.ref a,.ref b]/\a≠b/\c [d0,d,e]=.ok (.tup [d',e']))\/(vs=[v0,.ref a]/\a=b/\d=e/\c [d0,d]=.ok (.tup [d',e'])))/\vs.length=np/\Same Hs H/\Rp g Hs d0 v0/\Hs a=none/\Hs b=none/\cP g H Hs a d/\cP g H Hs b e/\∀ H' Hs',Grow (hole (hole H a) b) Hs H' Hs'->Hs' a=none->Hs' b=none->cP g H' Hs' a d'->cP g H' Hs' b e'->Q .non H'
def spF (g:G) (c:List D->R D) (np:Nat):Sp:=fun vs H Q _=>∃ ds Hs d,vs.length=np/\Same Hs H/\Rps g Hs ds vs/\c ds=.ok d/\∀ v H' Hs',Grow H Hs H' Hs'->Rp g Hs' d v->(∀ a,v=.ref a->H a=none)->Q v H'
def GlV:D->Option Value->Prop
 | .int i,o=>∃ t,o=some (.int i t)
 | .str z,o=>∃ t,o=some (.str z t)
 | _,_=>False
structure Cok (T:Tx) (cl:Nat->List D->R D) (X:Cx):Prop where
 calm:X.calm=true
 nd:X.N.Nodup
 un:X.A.units+100 < cLine
 blt:∀ f∈lA,X.mg f=none
 gl:∀ x d,T.gl.lookup x=some d->GlV d (X.mg x)
 fns:∀ f x,T.F[f]?=some x->∃ k a fd ps,FnOk X.prog X.w X.K X.mg X.base CX0 k a fd ps (spD (gOf X) (cl f) ps.length)/\Room k X.A/\X.mg x=some (.ref a)/\PySem.W.keepIn X.K (.ref a)=true/\Binds X.K fd ps []/\(∀ ds d,cl f ds=.ok d->ds.length=ps.length)/\FnOk X.prog X.w X.K X.mg X.base CX0 k a fd ps (Oh (gOf X) (cl (1000+f)) ps.length)/\(∀ ds d,cl (1000+f) ds=.ok d->ds.length=ps.length)/\FnOk X.prog X.w X.K X.mg X.base CX0 k a fd ps (spF (gOf X) (cl (2000+f)) ps.length)/\∀ ds d,cl (2000+f) ds=.ok d->ds.length=ps.length
variable {cl:Nat->List D->R D}{X:Cx}
theorem Cok.blk {T:Tx} (C:Cok T cl X) (scope:Scope) (s:Shared) (H:Hp) (fp:List Addr) (xe:zn):Cok T cl (cO X scope s H fp xe) :=
 ⟨C.calm,C.nd,C.un,C.blt,C.gl,C.fns⟩
variable {sc scope:Scope}
def Ih (h:scB sc scope=true) (S:ScRel sc X):ScOk X.env.scope scope:=by
 unfold scB at h;simp only [Bool.and_eq_true,decide_eq_true_eq,List.all_eq_true,Bool.or_eq_true] at h;refine ⟨h.1.1,h.1.2,fun x hx=>?_⟩;have:=h.2 (x,.free) (jp hx);rcases this with (q | q) | q
 .exact absurd rfl q
 .exact S.cf x (.inl q)
 .exact S.cf x (.inr q)
variable {x:Str}
def ug (h:fu sc x=true):Vis sc x:=by
 unfold fu at h;unfold Vis;split at h <;> simp_all
def lB (h:kI sc x=true):L2.Loc sc x:=by
 unfold kI at h;unfold L2.Loc;split at h <;> simp_all
def ud (h:eV sc x=true):sc.names.lookup x=some .globalImplicit:=by
 unfold eV at h;split at h <;> simp_all
variable {H:Hp}
def Fo {s:Shared}{fp:List Addr}{xe:zn} (S:ScRel sc X):ScRel scope (cO X scope s H fp xe):=by
 have look:∀ x,(cO X scope s H fp xe).env.scope.names.lookup x=(scope.names.lookup x).map fun k=>if (k == NameKind.free && X.env.scope.kind == .function && X.env.kindOf x == some .cell) then NameKind.cell else k:=fun x=>pC scope X.env x
 refine ⟨fun x h=>?_,fun x h=>?_,fun x h=>?_,fun x h=>?_⟩
 .show (cO X scope s H fp xe).env.scope.names.lookup x=_
  rw [look,ud h];rfl
 .unfold Vis;rw [look];rcases ug h with e | e | e <;> rw [e]
  .exact .inl rfl
  .exact .inr (.inl rfl)
  .simp only [Option.map_some];split
   .exact .inr (.inl rfl)
   .exact .inr (.inr rfl)
 .rw [look];rcases h with e | e <;> rw [e]
  .exact .inl rfl
  .simp only [Option.map_some];split
   .exact .inl rfl
   .exact .inr rfl
 .unfold L2.Loc;rw [look];rcases lB h with e | e <;> rw [e]
  .exact ⟨.inl rfl,.inr rfl⟩
  .exact ⟨.inr rfl,.inl (by show decide (scope.names.lookup x=some .cell)=true;rw [e];rfl)⟩
variable {e:Expr}{env:Env}
def aA {es:ve} (h:noStar e=true):starEach (e::es) env=(false,eval e env)::starEach es env:=by
 cases e <;> first | rfl | cases h
theorem eZ {env:Env}{pos:Pos}:∀ {es:ve},es.all noStar=true->(backTo pos (starEach es env)).any (·.1)=false
 | [],_=>rfl
 | e::es,h=>by
  simp only [List.all_cons,Bool.and_eq_true] at h;rw [aA h.1];show (false || (backTo pos (starEach es env)).any (·.1))=false
  rw [eZ h.2];rfl
variable {i f:Nat}{d z:D}{p:Pos}{bs:List Bool}
section
variable {X:Cx}{σ:St}{H Hs:Hp}{Q:VK}{U Ua Ub Uc:zz}{r ra rb rc:En->R D}{e:Expr}{es:ve}{rs:En->R (List D)}
theorem YC:PA X [] (tMs X [] fun _=>.ok []):=Rm gK fun σ H Q=>by
 rintro ⟨ρ,Hs,ds,hs,hv,h,k⟩;cases h;exact k [] H Hs (Grow.refl hs) .nil
theorem V2 (ha:PE X e (tM X Ua ra)) (hr:PA X es (tMs X Ub rs)) (hn:noStar e=true):PA X (e::es) (tMs X (Ua++Ub) fun ρ=>do let d <- ra ρ;let ds <- rs ρ;.ok (d::ds)) :=
 Rm (dD ha hr (aA hn)) fun σ H Q=>by
  rintro ⟨ρ,Hs,zs,hs,hv,h,k⟩;obtain ⟨x,hx,h⟩:=aj h;obtain ⟨ys,hy,h⟩:=aj h;cases h;refine ⟨ρ,Hs,x,hs,hv.l,hx,fun v H1 Hs1 g1 r1=>?_⟩;refine ⟨ρ,Hs1,ys,g1.sub,hv.r.mono (g1.same hs),hy,fun us H2 Hs2 g2 r2=>?_⟩;exact k (v::us) H2 Hs2 (g1.trans g2) (Rps.cons (r1.mono (g2.same g1.sub)) r2)
variable {pos:Pos}
def HB (hN:X.N[i]?=some x) (hv:Vis X.env.scope x) (ho:aJ x=true):PE X (.Name x pos) (tM X [i] fun ρ=>bO ρ i):=by
 unfold aJ at ho;simp only [Bool.and_eq_true,Bool.not_eq_true'] at ho;refine bw (gM hN hv ho.1.1 ho.1.2) fun σ H Q=>?_
 rintro ⟨ρ,Hs,d,hs,hv,h,k⟩;dsimp only [bO] at h;split at h
 .cases h;rename_i e;obtain ⟨v,ev,rv⟩:=hv.2 i (yz.mpr rfl) d e;exact ⟨v,ev,k.here hs rv⟩
 .cases h
theorem aaO {c:Const}{j:Nat} (h:V5 d c=true):PE X (.Constant c j pos) (tM X [] fun _=>.ok d):=by
 cases d <;> cases c <;> simp only [V5] at h <;> try (cases h;done)
 .refine bw aai fun σ H Q=>?_
  rintro ⟨ρ,Hs,d,hs,hv,h,k⟩;cases h;exact k.non hs
 .simp only [decide_eq_true_eq] at h;subst h;refine bw acg fun σ H Q=>?_
  rintro ⟨ρ,Hs,d,hs,hv,h,k⟩;cases h;exact k.bl hs
 .simp only [decide_eq_true_eq] at h;subst h;refine bw aa7 fun σ H Q=>?_
  rintro ⟨ρ,Hs,d,hs,hv,h,k⟩;cases h;exact k.int hs
 .simp only [decide_eq_true_eq] at h;subst h;refine bw Z7 fun σ H Q=>?_
  rintro ⟨ρ,Hs,d,hs,hv,h,k⟩;cases h;exact k.here hs (Sg.mpr rfl)
theorem Xm {T:Tx} (C:Cok T cl X) (hg:Gl X x) (ho:aJ x=true) (h:T.gl.lookup x=some d):PE X (.Name x pos) (tM X [] fun _=>.ok d):=by
 unfold aJ at ho;simp only [Bool.and_eq_true,Bool.not_eq_true'] at ho;have g:=C.gl x d h;cases d <;> try exact g.elim
 .obtain ⟨t,e⟩:=g;refine bw (Lw hg e (v:=.int _) ⟨t,rfl⟩ ho.1.1) fun σ H Q=>?_
  rintro ⟨ρ,Hs,d,hs,hv,h,k⟩;cases h;exact k.int hs
 .obtain ⟨t,e⟩:=g;refine bw (Lw hg e (v:=.str _) ⟨t,rfl⟩ ho.1.1) fun σ H Q=>?_
  rintro ⟨ρ,Hs,d,hs,hv,h,k⟩;cases h;exact k.here hs (Sg.mpr rfl)
theorem aa6 {k:Nat} (h:PA X es (tMs X U rs)):PE X (.Tuple es k pos) (tM X U fun ρ=>do let ds <- rs ρ;if ds.length<=lim then .ok (.tup ds) else .stuck) :=
 bw (abD h) fun σ H Q=>by
  rintro ⟨ρ,Hs,d,hs,hv,h,k⟩;obtain ⟨ds,hd,h⟩:=aj h;obtain ⟨hl,h⟩:=bW h;cases h;refine ⟨ρ,Hs,ds,hs,hv,hd,fun vs H1 Hs1 g1 r1=>⟨?_,(k.grow g1).newT g1.sub r1⟩⟩;rw [<- r1.length];exact yb hl ju
theorem abB (h:PA X es (tMs X U rs)):PE X (.List es pos) (tM X U fun ρ=>do let ds <- rs ρ;if ds.length<=lim then .ok (.lst ds) else .stuck) :=
 bw (Bs h) fun σ H Q=>by
  rintro ⟨ρ,Hs,d,hs,hv,h,k⟩;obtain ⟨ds,hd,h⟩:=aj h;obtain ⟨hl,h⟩:=bW h;cases h;refine ⟨ρ,Hs,ds,hs,hv,hd,fun vs H1 Hs1 g1 r1=>⟨?_,(k.grow g1).newL g1.sub r1⟩⟩;rw [<- r1.length];exact yb hl ju
theorem XD.newD (k:XD X H Hs Q (.dct [] [])) (hs:Same Hs H):∀ p,H p=none->Q (.ref p) (upd H p (.ext (DAt (gOf X) p [] [] 0))):=fun p hp =>
 k _ _ _ (Grow.new (o:=.ext (DAt (gOf X) p [] [] 0)) hs hp) (kJ.mpr ⟨p,[],[],0,rfl,aB,rfl,Rps.nil,Rps.nil⟩)
theorem abr:PE X (.Dict [] [] pos) (tM X [] fun _=>.ok (.dct [] [])):=bw LQ fun σ H Q=>by
 rintro ⟨ρ,Hs,d,hs,hv,h,k⟩;cases h;exact k.newD hs
variable {a b c:Expr}
theorem aa4 (o:BO) (ha:PE X a (tM X Ua ra)) (hb:PE X b (tM X Ub rb)):PE X (.BinOp a (U4 o) b pos) (tM X (Ua++Ub) fun ρ=>do let x <- ra ρ;let y <- rb ρ;jD o x y) :=
 bw (aco (aav o) ha hb) fun σ H Q h=>Gy (Xx o) h
def zy {p:CmpOp} (h:fJ b=true):behindInMarks p b=false:=by cases b <;> first | rfl | cases h
theorem aad (hu:X.A.units+100 < cLine) (o:CO) (ha:PE X a (tM X Ua ra)) (hb:PE X b (tM X Ub rb)) (hn:fJ b=true) :
  PE X (.Compare a [rC o] [b] pos) (tM X (Ua++Ub) fun ρ=>do let x <- ra ρ;let y <- rb ρ;let r <- bQ o x y;.ok (.bl r)) :=
 bw (Zo (tL hu o) ha hb (zy hn)) fun σ H Q h=>Gy (yh o) h
theorem aao (hu:X.A.units+100 < cLine) (o:CO) (ha:PE X a (tM X Ua ra)) (hb:PE X b (tM X Ub rb)) (hn:fJ b=true) :
  PT X (.Compare a [rC o] [b] pos) (tMT X (Ua++Ub) fun ρ=>do let x <- ra ρ;let y <- rb ρ;let r <- bQ o x y;.ok (.bl r)) :=
 vQ (Yk (tL hu o) ha hb (zy hn)) fun σ H Q h=>Gy (yh o) (DG h)
def Jp (o o':CO):tM X (Ua++(Ub++Uc)) (fun ρ=>do let x <- ra ρ;let y <- rb ρ;let r <- bQ o x y;if r then do let z <- rc ρ;let r2 <- bQ o' y z;.ok (.bl r2) else .ok (.bl false)) σ H Q ->
  Hj (Og X o) (Og X o') (tM X Ua ra) (tM X Ub rb) (tM X Uc rc) σ H Q:=by
 rintro ⟨ρ,Hs,z,hs,hv,h,k⟩;obtain ⟨x,hx,h⟩:=aj h;obtain ⟨y,hy,h⟩:=aj h;obtain ⟨t,ht,h⟩:=aj h;refine ⟨ρ,Hs,x,hs,hv.l,hx,fun v H1 Hs1 g1 r1=>?_⟩;refine ⟨ρ,Hs1,y,g1.sub,hv.r.l.mono (g1.same hs),hy,fun u H2 Hs2 g2 r2=>?_⟩;have hv2:=hv.r.r.mono ((g1.trans g2).same hs);refine yh o v u x y (.bl t) H2 Hs2 _ g2.sub (r1.mono (g2.same g1.sub)) r2 (by show (bQ o x y >>= fun r=>R.ok (D.bl r))=_;rw [ht];rfl) fun w H3 Hs3 g3 r3=>⟨t,nQ.mp r3,?_⟩
 have k3:=(k.grow (g1.trans g2)).grow g3;cases t with
 | false=>rw [if_neg (by decide)];rw [if_neg (by decide)] at h;cases h;exact k3.bl g3.sub
 | true =>
  rw [if_pos rfl];rw [if_pos rfl] at h;obtain ⟨zc,hc,h⟩:=aj h;refine ⟨ρ,Hs3,zc,g3.sub,hv2.mono (g3.same g2.sub),hc,fun q H4 Hs4 g4 r4=>?_⟩;exact yh o' u q y zc z H4 Hs4 Q g4.sub (r2.mono ((g3.trans g4).same g2.sub)) r4 h (k3.grow g4)
def Lk {p p':CmpOp} (h:fJ c=true):lastMarks [p,p'] [b,c]=false:=by
 show behindInMarks p' c=false
 exact zy h
theorem U6 (hu:X.A.units+100 < cLine) (o o':CO) (ha:PE X a (tM X Ua ra)) (hb:PE X b (tM X Ub rb)) (hc:PE X c (tM X Uc rc)) (hn:fJ c=true) :
  PE X (.Compare a [rC o,rC o'] [b,c] pos) (tM X (Ua++(Ub++Uc)) fun ρ=>do let x <- ra ρ;let y <- rb ρ;let r <- bQ o x y;if r then do let z <- rc ρ;let r2 <- bQ o' y z;.ok (.bl r2) else .ok (.bl false)) :=
 bw (TY (tL hu o) (tL hu o') ha hb hc (Lk hn)) fun σ H Q h=>Jp o o' h
theorem V8 (hu:X.A.units+100 < cLine) (o o':CO) (ha:PE X a (tM X Ua ra)) (hb:PE X b (tM X Ub rb)) (hc:PE X c (tM X Uc rc)) (hn:fJ c=true) :
  PT X (.Compare a [rC o,rC o'] [b,c] pos) (tMT X (Ua++(Ub++Uc)) fun ρ=>do let x <- ra ρ;let y <- rb ρ;let r <- bQ o x y;if r then do let z <- rc ρ;let r2 <- bQ o' y z;.ok (.bl r2) else .ok (.bl false)) :=
 vQ (Vn (tL hu o) (tL hu o') ha hb hc (Lk hn)) fun σ H Q h=>Jp o o' (DG h)
theorem Z0 (ha:PE X a (tM X Ua ra)):PE X (.UnaryOp .Not a pos) (tM X Ua fun ρ=>do let x <- ra ρ;let t <- cJ x;.ok (.bl (!t))) :=
 bw (aaZ ha) fun σ H Q=>by
  rintro ⟨ρ,Hs,z,hs,hv,h,k⟩;obtain ⟨x,hx,h⟩:=aj h;obtain ⟨t,ht,h⟩:=aj h;cases h;cases x <;> simp only [cJ] at ht <;> try (cases ht;done)
  cases ht;exact ⟨ρ,Hs,_,hs,hv,hx,fun v H1 Hs1 g1 r1=>⟨t,nQ.mp r1,(k.grow g1).bl g1.sub⟩⟩
def iZ {t:Bool} (h:cJ d=.ok t):d=.bl t:=by
 cases d <;> simp only [cJ] at h <;> first | (cases h;rfl) | cases h
theorem abq (ha:PT X a (tMT X Ua ra)):PT X (.UnaryOp .Not a pos) (tMT X Ua fun ρ=>do let x <- ra ρ;let t <- cJ x;.ok (.bl (!t))) :=
 vQ (Ru ha) fun σ H Q=>by
  rintro ⟨ρ,Hs,z,hs,hv,h,k⟩;obtain ⟨x,hx,h1⟩:=aj h;obtain ⟨t,ht,h2⟩:=aj h1;clear h h1;cases iZ ht;cases h2;exact ⟨ρ,Hs,t,hs,hv,hx,k⟩
theorem aau (ha:PE X a (tM X Ua ra)):PE X (.UnaryOp .USub a pos) (tM X Ua fun ρ=>do let x <- ra ρ;(match x with | .int i=>.ok (.int (-i)) | _=>.stuck)) :=
 bw (ab4 aaz ha) fun σ H Q=>by
  rintro ⟨ρ,Hs,z,hs,hv,h,k⟩;obtain ⟨x,hx,h⟩:=aj h;cases x <;> simp only at h <;> try (cases h;done)
  cases h;exact ⟨ρ,Hs,_,hs,hv,hx,fun v H1 Hs1 g1 r1=>⟨_,aU.mp r1,(k.grow g1).int g1.sub⟩⟩
def WL (h:lM b=true):Ls b:=by
 intro o i;cases b <;> first | rfl | cases h
theorem ach (hu:X.A.units+100 < cLine) (ha:PE X a (tM X Ua ra)) (hb:PE X b (tM X Ub rb)) (hp:lM b=true):PE X (.Subscript a b pos) (tM X (Ua++Ub) fun ρ=>do let x <- ra ρ;let y <- rb ρ;ixD x y) :=
 bw (abL (ac5 hu) ha hb (WL hp)) fun σ H Q h=>Gy abp h
def Zt {ap cp:Pos}{f:Expr}{Ue Uf:zz}{re rf:En->R D} (hu:X.A.units+100 < cLine) (hN:X.N[i]?=some x) (hv:Vis X.env.scope x) (ho:aJ x=true) (he:PE X e (tM X Ue re)) (hf:PE X f (tM X Uf rf)) (n1:noStar e=true) (n2:noStar f=true) (hl:(ap.endLine == cp.line)=true) :
  PE X (.Call (.Attribute (.Name x p) "get" ap) [e,f] [] cp) (tM X ([i] ++ (Ue ++ Uf)) fun ρ=>do let x <- bO ρ i; let y <- re ρ; let z <- rf ρ; uL x y z):=by
 have hx:PE X (.Name x p) (tM X [i] fun ρ=>bO ρ i):=HB hN hv ho;refine bw (T7 hu hx he hf ⟨rfl,by rw [aA n1,aA n2];rfl,hl,by rw [aA n1,aA n2];rfl⟩) fun σ H Q=>?_
 rintro ⟨ρ,Hs,z,hs,hv,h,k⟩;obtain ⟨dx,hdx,h⟩:=aj h;obtain ⟨dy,hdy,h⟩:=aj h;obtain ⟨dz,hdz,h⟩:=aj h;cases dx <;> try (cases h;done)
 rename_i ks vs;obtain ⟨hk,h⟩:=bW h;cases h;refine ⟨ρ,Hs,_,hs,hv.l,hdx,fun v H1 Hs1 g1 r1=>?_⟩;obtain ⟨a,xs,ys,ep,rfl,ha,e1,r2,r3⟩:=kJ.mp r1;subst e1;refine ⟨a,_,xs,ys,rfl,⟨⟨ep,g1.sub _ _ ha⟩,rfl,r2.mono g1.sub⟩,ρ,Hs1,dy,g1.sub,hv.r.l.mono (g1.same hs),hdy,fun u H2 Hs2 g2 q2=>?_⟩;refine ⟨ρ,Hs2,dz,g2.sub,hv.r.r.mono ((g1.trans g2).same hs),hdz,fun w H3 Hs3 g3 q3=>?_⟩;have m:=(g2.trans g3).same g1.sub;have m3:=m.trans g3.sub;refine ⟨dy,_,xs,ys,(q2.mono (g3.same g2.sub)).mono g3.sub,hk,⟨⟨ep,m3 _ _ ha⟩,rfl,r2.mono m3⟩,?_⟩;rcases gets (k:=dy) (xs:=xs) (r3.mono m) with ⟨z',v,j1,j2,j3⟩ | ⟨j1,j2⟩
 .rw [j2,Option.getD_some];rw [j1,Option.getD_some] at k;exact (k.grow ((g1.trans g2).trans g3)).here g3.sub j3
 .rw [j2,Option.getD_none];rw [j1,Option.getD_none] at k;exact (k.grow ((g1.trans g2).trans g3)).here g3.sub q3
def tPo (X:Cx) (U:zz) (r:En->R (Option Int)):TO:=fun σ H Q=>∃ ρ Hs o,Same Hs H/\Vs (gOf X) ρ σ Hs U/\r ρ=.ok o/\∀ H' Hs',Grow H Hs H' Hs'->Q o H'
theorem Qd {e:Option Expr}{t t':TO} (h:PO X e t) (i:∀ σ H Q,t' σ H Q->t σ H Q):PO X e t':=fun pins s σ H Q I hq=>h pins s σ H Q I (i σ H Q hq)
theorem acS:PO X none (tPo X U fun _=>.ok none):=Qd YM fun σ H Q=>by
 rintro ⟨ρ,Hs,z,hs,hv,h,k⟩;cases h;exact k H Hs (Grow.refl hs)
theorem acD (ha:PE X a (tM X U ra)):PO X (some a) (tPo X U fun ρ=>do let d <- ra ρ;mq d):=Qd (XM ha) fun σ H Q=>by
 rintro ⟨ρ,Hs,z,hs,hv,h,k⟩;obtain ⟨x,hx,h⟩:=aj h;cases x <;> simp only [mq] at h <;> try (cases h;done)
 cases h;exact ⟨ρ,Hs,_,hs,hv,hx,fun v H1 Hs1 g1 r1=>⟨_,aU.mp r1,k H1 Hs1 g1⟩⟩
theorem aam {lo hi:Option Expr}{rl rh:En->R (Option Int)}{p2:Pos} (ha:PE X a (tM X Ua ra)) (hl:PO X lo (tPo X Ub rl)) (hh:PO X hi (tPo X Uc rh)) :
  PE X (.Subscript a (.Slice lo hi none p2) pos) (tM X (Ua++(Ub++Uc)) fun ρ=>do let x <- ra ρ;let l <- rl ρ;let h <- rh ρ;slD x l h) :=
 bw (TQ acU ha hl hh) fun σ H Q=>by
  rintro ⟨ρ,Hs,z,hs,hv,h,k⟩;obtain ⟨x,hx,h⟩:=aj h;obtain ⟨l,h1,h⟩:=aj h;obtain ⟨u,h2,h⟩:=aj h;refine ⟨ρ,Hs,x,hs,hv.l,hx,fun v H1 Hs1 g1 r1=>?_⟩;refine ⟨ρ,Hs1,l,g1.sub,hv.r.l.mono (g1.same hs),h1,fun H2 Hs2 g2=>?_⟩;refine ⟨ρ,Hs2,u,g2.sub,hv.r.r.mono ((g1.trans g2).same hs),h2,fun H3 Hs3 g3=>?_⟩;exact T8 g3.sub (r1.mono ((g2.trans g3).same g1.sub)) h (k.grow ((g1.trans g2).trans g3))
theorem Um (ha:PE X a (tM X Ua ra)) (he:∀ whole,isTrue a X.env whole=(do let v <- whole;standAt a.pos;holding [v] (truthy v))):PT X a (tMT X Ua ra) :=
 vQ (Sv ha he) fun σ H Q h=>DG h
def Yn {T:Tx} (C:Cok T cl X) (hg:Gl X x) (ho:aJ x=true) (hF:T.F[f]?=some x) (ha:PA X (e::es) (tMs X U rs)) (hn:(e::es).all noStar=true) :
  PE X (.Call (.Name x p) (e::es) [] pos) (tM X U fun ρ=>do let ds <- rs ρ;cl f ds):=by
 unfold aJ at ho;simp only [Bool.and_eq_true,Bool.not_eq_true',List.all_cons] at ho hn;obtain ⟨k,a,fd,ps,F,hr,hm,hk,hb,hlen,_⟩:=C.fns f x hF;refine bw (xX F hr hg hm hk hb .nil Cv ha ho.1.1 (aA hn.1) (eZ hn.2)) fun σ H Q=>?_
 rintro ⟨ρ,Hs,z,hs,hv,h,k⟩;obtain ⟨ds,hd,h⟩:=aj h;refine ⟨ρ,Hs,ds,hs,hv,hd,fun vs H1 Hs1 g1 r1=>?_⟩;show spD (gOf X) (cl f) ps.length (vs++[]) H1 Q E0
 rw [List.append_nil];exact ⟨ds,Hs1,z,by rw [<- r1.length];exact hlen ds z h,g1.sub,r1,h,fun v H2 Hs2 g2 r2=>k v H2 Hs2 (g1.trans g2) r2⟩
def Wq {T:Tx} (C:Cok T cl X) (hg:Gl X x) (ho:aJ x=true) (hF:T.F[f]?=some x) :
  PE X (.Call (.Name x p) [] [] pos) (tM X [] fun ρ=>cl f []):=by
 unfold aJ at ho;simp only [Bool.and_eq_true,Bool.not_eq_true'] at ho;obtain ⟨k,a,fd,ps,F,hr,hm,hk,hb,hlen,_⟩:=C.fns f x hF;refine bw (Va F hr hg hm hk hb .nil Cv ho.1.1) fun σ H Q=>?_
 rintro ⟨ρ,Hs,z,hs,hv,h,k⟩;exact ⟨[],Hs,z,hlen [] z h,hs,Rps.nil,h,fun v H2 Hs2 g2 r2=>k v H2 Hs2 g2 r2⟩
noncomputable def Dn:BI->Bool
 | .listEnum=>false | .listRev=>false | _=>true
def acz (X:Cx):List V->Hp->VK->Prop:=fun xs H Q=>(∃ p ys,xs=[.ref p]/\(SqL X.K H p ys\/SqT X.K H p ys)/\∀ l,H l=none->Q (.ref l) (upd H l (.lst ys)))\/(∃ a ks zs ys,xs=[.ref a]/\DictR X H a ks zs ys/\∀ S,H S=none->Q (.ref S) (upd H S (.lst (zs.map fun x=>V.ref x.2.1))))
def UW (X:Cx):BI->List V->Hp->VK->Prop
 | .len=>fun xs H Q=>∃ p ys,xs=[.ref p]/\(SqL X.K H p ys\/SqT X.K H p ys)/\Q (.int ys.length) H
 | .min2=>fun xs H Q=>∃ i j,xs=[.int i,.int j]/\Q (.int (if j < i then j else i)) H
 | .all=>ZS X
 | .any=>abv X
 | .sorted=>Lh X
 | .list=>acz X
 | .maxl=>fun xs H Q=>∃ (a:Addr) (n:Int) (ns:List Int),xs=[.ref a]/\SqL X.K H a ((n::ns).map V.int)/\Q (.int (mxI n ns)) H
 | .tuple=>fun xs H Q=>∃ p ys,xs=[.ref p]/\((SqL X.K H p ys/\∀ l,H l=none->Q (.ref l) (upd H l (.tup ys)))\/(SqT X.K H p ys/\Q (.ref p) H))
 | .listEnum=>fun _ _ _=>False
 | .listRev=>fun _ _ _=>False
theorem zm {g:G}{Hs:Hp}:∀ {ds:List D}{xs:List V}{bs:List Bool},Rps g Hs ds xs->boolsOf ds=some bs->xs=bs.map V.bl
 | [],xs,bs,r,h=>by
  simp only [boolsOf] at h;cases h;exact r.nil_inv
 | d::ds,xs,bs,r,h=>by
  obtain ⟨v,ws,rfl,r1,r2⟩:=r.cons_inv;cases d <;> simp only [boolsOf] at h <;> try (cases h;done)
  cases e:boolsOf ds with
  | none=>rw [e] at h;cases h
  | some cs =>
   rw [e] at h;cases h;rw [zm r2 e,nQ.mp r1];rfl
theorem xY {g:G}{Hs:Hp}:∀ {ds:List D}{xs:List V}{is:List Int},Rps g Hs ds xs->intsOf ds=some is->xs=is.map V.int
 | [],xs,is,r,h=>by
  simp only [intsOf] at h;cases h;exact r.nil_inv
 | d::ds,xs,is,r,h=>by
  obtain ⟨v,ws,rfl,r1,r2⟩:=r.cons_inv;cases d <;> simp only [intsOf] at h <;> try (cases h;done)
  cases e:intsOf ds with
  | none=>rw [e] at h;cases h
  | some cs =>
   rw [e] at h;cases h;rw [xY r2 e,aU.mp r1];rfl
theorem Ec {g:G}{H:Hp}:∀ (ns:List Int),Rps g H (ns.map D.int) (ns.map V.int)
 | []=>Rps.nil
 | n::ns=>Rps.cons (aU.mpr rfl) (Ec ns)
def LC (h:xM d=.ok z):∃ ds i is,d=.lst ds/\intsOf ds=some (i::is)/\z=.int (mxI i is):=by
 cases d <;> try (cases h;done)
 rename_i ds;replace h:(match intsOf ds with | some (i::is)=>R.ok (D.int (mxI i is)) | _=>.stuck)=.ok z:=h;split at h
 .cases h;exact ⟨ds,_,_,rfl,‹_›,rfl⟩
 .cases h
def T4 {es:List D} (e:boolsOf es=none):fM .all [.lst es]=.stuck:=by
 show (match boolsOf es with | some bs=>R.ok (D.bl (bs.all id)) | none=>.stuck)=_
 rw [e]
def Ja {es:List D} (e:boolsOf es=some bs):fM .all [.lst es]=.ok (.bl (bs.all id)):=by
 show (match boolsOf es with | some bs=>R.ok (D.bl (bs.all id)) | none=>.stuck)=_
 rw [e]
def Ut {es:List D} (e:boolsOf es=none):fM .any [.lst es]=.stuck:=by
 show (match boolsOf es with | some bs=>R.ok (D.bl (bs.any id)) | none=>.stuck)=_
 rw [e]
def HN {es:List D} (e:boolsOf es=some bs):fM .any [.lst es]=.ok (.bl (bs.any id)):=by
 show (match boolsOf es with | some bs=>R.ok (D.bl (bs.any id)) | none=>.stuck)=_
 rw [e]
def Ug (b:BI) {ds:List D}{vs:List V} (hs:Same Hs H) (r:Rps (gOf X) Hs ds vs) (h:fM b ds=.ok z) (k:XD X H Hs Q z) (hb:Dn b=true):UW X b vs H Q:=by
 have one:∀ {d:D},Rps (gOf X) Hs [d] vs->∃ v,vs=[v]/\Rp (gOf X) Hs d v:=fun r=>by
  obtain ⟨v,ws,rfl,r1,r2⟩:=r.cons_inv;cases r2.nil_inv;exact ⟨v,rfl,r1⟩
 have two:∀ {d e:D},Rps (gOf X) Hs [d,e] vs->∃ v w,vs=[v,w]/\Rp (gOf X) Hs d v/\Rp (gOf X) Hs e w:=fun r=>by
  obtain ⟨v,ws,rfl,r1,r2⟩:=r.cons_inv;obtain ⟨w,ws,rfl,r3,r4⟩:=r2.cons_inv;cases r4.nil_inv;exact ⟨v,w,rfl,r1,r3⟩
 rcases ds with _ | ⟨d,_ | ⟨e,_ | ⟨f,fs⟩⟩⟩
 .cases b <;> cases h
 .obtain ⟨v,rfl,r1⟩:=one r;cases b
  case listEnum=>cases hb
  case listRev=>cases hb
  all_goals dsimp only [UW]
  case min2=>cases d <;> cases h
  case len =>
   cases d <;> try (cases h;done)
   .obtain ⟨a,xs,rfl,s1,r2⟩:=cV.mp r1;cases h;exact ⟨a,xs,rfl,.inr (aP hs s1),by rw [<- r2.length];exact k.int hs⟩
   .obtain ⟨a,xs,rfl,s1,r2⟩:=bT.mp r1;cases h;exact ⟨a,xs,rfl,.inl (aN hs s1),by rw [<- r2.length];exact k.int hs⟩
  case all =>
   cases d <;> try (cases h;done)
   rename_i es;cases e:boolsOf es with
   | none=>rw [T4 e] at h;cases h
   | some bs =>
    rw [Ja e] at h;cases h;obtain ⟨a,xs,rfl,s1,r2⟩:=bT.mp r1;cases zm r2 e;exact ⟨a,bs,rfl,aN hs s1,k.bl hs⟩
  case any =>
   cases d <;> try (cases h;done)
   rename_i es;cases e:boolsOf es with
   | none=>rw [Ut e] at h;cases h
   | some bs =>
    rw [HN e] at h;cases h;obtain ⟨a,xs,rfl,s1,r2⟩:=bT.mp r1;cases zm r2 e;exact ⟨a,bs,rfl,aN hs s1,k.bl hs⟩
  case sorted =>
   obtain ⟨es,he,h1⟩:=aj (show (GJ d >>= fun ds=>if sU ds then R.ok (.lst (nZ ds)) else .stuck)=.ok z from h);clear h;obtain ⟨hs1,h2⟩:=bW h1;clear h1;cases h2;cases d <;> simp only [GJ] at he <;> try (cases he;done)
   .cases he;obtain ⟨a,xs,rfl,s1,r2⟩:=cV.mp r1;exact ⟨a,es,xs,rfl,⟨r2.mono hs,.inr (.inl (aP hs s1))⟩,uK hs1,fun S ys hS rS=>k.newL hs (rS Hs r2) S hS⟩
   .cases he;obtain ⟨a,xs,rfl,s1,r2⟩:=bT.mp r1;exact ⟨a,es,xs,rfl,⟨r2.mono hs,.inl (aN hs s1)⟩,uK hs1,fun S ys hS rS=>k.newL hs (rS Hs r2) S hS⟩
   .cases he;obtain ⟨a,xs,ys0,ep,rfl,ha,e1,r2,r3⟩:=kJ.mp r1;exact ⟨a,_,_,rfl,⟨r2.mono hs,.inr (.inr ⟨xs,ys0,⟨⟨ep,hs _ _ ha⟩,e1,r2.mono hs⟩,rfl⟩)⟩,uK hs1,fun S ys hS rS=>k.newL hs (rS Hs r2) S hS⟩
  case list =>
   cases d <;> try (cases h;done)
   .cases h;obtain ⟨a,xs,rfl,s1,r2⟩:=cV.mp r1;exact .inl ⟨a,xs,rfl,.inr (aP hs s1),k.newL hs r2⟩
   .cases h;obtain ⟨a,xs,rfl,s1,r2⟩:=bT.mp r1;exact .inl ⟨a,xs,rfl,.inl (aN hs s1),k.newL hs r2⟩
   .cases h;obtain ⟨a,xs,ys,ep,rfl,ha,e1,r2,r3⟩:=kJ.mp r1;exact .inr ⟨a,_,xs,ys,rfl,⟨⟨ep,hs _ _ ha⟩,e1,r2.mono hs⟩,k.newL hs r2⟩
  case maxl =>
   obtain ⟨ds,i,is,rfl,e1,rfl⟩:=LC h;obtain ⟨a,xs,rfl,s1,r2⟩:=bT.mp r1;cases xY r2 e1;exact ⟨a,i,is,rfl,aN hs s1,k.int hs⟩
  case tuple =>
   cases d <;> try (cases h;done)
   .cases h;obtain ⟨a,xs,rfl,s1,r2⟩:=cV.mp r1;exact ⟨a,xs,rfl,.inr ⟨aP hs s1,k.here hs r1⟩⟩
   .cases h;obtain ⟨a,xs,rfl,s1,r2⟩:=bT.mp r1;exact ⟨a,xs,rfl,.inl ⟨aN hs s1,k.newT hs r2⟩⟩
 .obtain ⟨v,w,rfl,r1,r2⟩:=two r;cases b
  case listEnum=>cases hb
  case listRev=>cases hb
  case min2 =>
   cases d <;> cases e <;> try (cases h;done)
   cases h;cases aU.mp r1;cases aU.mp r2;exact ⟨_,_,rfl,k.int hs⟩
  all_goals (first | (cases h;done) | (cases d <;> cases h))
 .have e0:fM b (d::e::f::fs)=.stuck:=by cases b <;> first | rfl | (cases d <;> first | rfl | (cases e <;> rfl))
  rw [e0] at h;cases h
def boot_max:bootBuiltins "max"=some (.builtin "max"):=by decide +kernel
def Rk:bootBuiltins "any"=some (.builtin "any"):=by decide +kernel
def Q7:bootBuiltins "int"=some (.type "int"):=by decide +kernel
def Qk:bootBuiltins "str"=some (.type "str"):=by decide +kernel
def yD:bootBuiltins "tuple"=some (.type "tuple"):=by decide +kernel
def uH:bootBuiltins "list"=some (.type "list"):=by decide +kernel
def abA {T:Tx} (b:BI)  (C:Cok T cl X) (hx:x=Ql b) (hg:Gl X x) (ha:PA X (e::es) (tMs X U rs)) (hn:(e::es).all noStar=true) (hb:Dn b=true) :
  PE X (.Call (.Name x p) (e::es) [] pos) (tM X U fun ρ=>do let ds <- rs ρ;fM b ds):=by
 simp only [List.all_cons,Bool.and_eq_true] at hn;have key:PE X (.Call (.Name x p) (e::es) [] pos) (tCB (UW X b) (tMs X U rs)):=by
  subst hx;cases b
  case listEnum=>cases hb
  case listRev=>cases hb
  case len=>exact jE Hr hg (C.blt _ (by decide +kernel)) PySem.boot_len ha (by decide +kernel) (by decide +kernel) (aA hn.1) (eZ hn.2)
  case min2=>exact jE (RN C.calm) hg (C.blt _ (by decide +kernel)) boot_min ha (by decide +kernel) (by decide +kernel) (aA hn.1) (eZ hn.2)
  case all=>exact jE (RB C.calm) hg (C.blt _ (by decide +kernel)) boot_all ha (by decide +kernel) (by decide +kernel) (aA hn.1) (eZ hn.2)
  case any=>exact jE (Ro C.calm) hg (C.blt _ (by decide +kernel)) Rk ha (by decide +kernel) (by decide +kernel) (aA hn.1) (eZ hn.2)
  case sorted=>exact jE (Jq C.calm C.un) hg (C.blt _ (by decide +kernel)) boot_sorted ha (by decide +kernel) (by decide +kernel) (aA hn.1) (eZ hn.2)
  case maxl=>exact jE (Rj C.calm) hg (C.blt _ (by decide +kernel)) boot_max ha (by decide +kernel) (by decide +kernel) (aA hn.1) (eZ hn.2)
  case list=>exact vZ (xH.or (Bv C.calm)) hg (C.blt _ (by decide +kernel)) uH ha (by decide +kernel) (by decide +kernel) (aA hn.1) (eZ hn.2)
  case tuple=>exact vZ FW hg (C.blt _ (by decide +kernel)) yD ha (by decide +kernel) (by decide +kernel) (aA hn.1) (eZ hn.2)
 refine bw key fun σ H Q=>?_
 rintro ⟨ρ,Hs,z,hs,hv,h,k⟩;obtain ⟨ds,hd,h⟩:=aj h;exact ⟨ρ,Hs,ds,hs,hv,hd,fun vs H1 Hs1 g1 r1=>Ug b g1.sub r1 h (k.grow g1) hb⟩
end
end Mi
set_option maxHeartbeats 1000000
namespace Mi
open PySem L2
open PyProof.Rows hiding St
variable {g:G}{d:D}{vs zs ys:List V}{p p2 pos2 cp tpos:Pos}{ds:List D}{els:ve}{x1:Nat}
section
variable {X:Cx}{σ:St}{H Hs:Hp}{Q:VK}{U Ua Ub Uc:zz}{r ra rb rc:En->R D}{e a:Expr}{es:ve}{rs:En->R (List D)}{pos:Pos}{T:Tx}{cl:Nat->List D->R D}
def oG (r:Rps g Hs [d] vs):∃ v,vs=[v]/\Rp g Hs d v:=by
 obtain ⟨v,ws,rfl,r1,r2⟩:=r.cons_inv;cases r2.nil_inv;exact ⟨v,rfl,r1⟩
def Di {e:D} (r:Rps g Hs [d,e] vs):∃ v w,vs=[v,w]/\Rp g Hs d v/\Rp g Hs e w:=by
 obtain ⟨v,ws,rfl,r1,r2⟩:=r.cons_inv;obtain ⟨w,ws,rfl,r3,r4⟩:=r2.cons_inv;cases r4.nil_inv;exact ⟨v,w,rfl,r1,r3⟩
def PK:bootBuiltins "bool"=some (.type "bool"):=by decide +kernel
def abP (C:Cok T cl X) (t:Ty) (hg:Gl X t.nm):PE X (.Name t.nm p) (tC (.ty t.name)):=by
 cases t
 .exact tU hg (C.blt _ (by decide +kernel)) Q7 rfl (by decide +kernel) (by decide +kernel)
 .exact tU hg (C.blt _ (by decide +kernel)) PK rfl (by decide +kernel) (by decide +kernel)
 .exact tU hg (C.blt _ (by decide +kernel)) Qk rfl (by decide +kernel) (by decide +kernel)
 .exact tU hg (C.blt _ (by decide +kernel)) yD rfl (by decide +kernel) (by decide +kernel)
 .exact tU hg (C.blt _ (by decide +kernel)) uH rfl (by decide +kernel) (by decide +kernel)
def YH (C:Cok T cl X) (t:Ty) (hg:Gl X "isinstance") (hg2:Gl X t.nm) (ha:PE X a (tM X U ra)) (hn:noStar a=true) :
  PE X (.Call (.Name "isinstance" p) [a,.Name t.nm p2] [] pos) (tM X U fun ρ=>do let x <- ra ρ; .ok (.bl (jN x t))):=by
 refine bw (jE Rf hg (C.blt _ (by decide +kernel)) boot_isinstance (dD ha (dD (abP C t hg2) gK (aA rfl)) (aA hn)) (by decide +kernel) (by decide +kernel) (aA hn) rfl) fun σ H Q=>?_
 rintro ⟨ρ,Hs,z,hs,hv,h,k⟩;obtain ⟨x,hx,h1⟩:=aj h;clear h;cases h1;exact ⟨ρ,Hs,x,hs,hv,hx,fun v H1 Hs1 g1 r1=>⟨x,v,t,rfl,r1.mono g1.sub,(k.grow g1).bl g1.sub⟩⟩
theorem Ei {g:G}{Hs1 Hs':Hp} (m:Same Hs1 Hs'):∀ (n:Nat) {ds:List D}{xs:List V}{ps:List Addr},Rps g Hs1 ds xs->ps.length=xs.length ->
  (∀ (j:Nat) p x,ps[j]?=some p->xs[j]?=some x->Hs' p=some (.tup [.int ((n+j:Nat):Int),x]))->Rps g Hs' (aY n ds) (ps.map V.ref)
 | n,[],xs,ps,r,hl,h=>by
  cases r.nil_inv;cases ps with
  | nil=>exact Rps.nil
  | cons _ _=>simp at hl
 | n,d::ds,xs,ps,r,hl,h=>by
  obtain ⟨v,ws,rfl,r1,r2⟩:=r.cons_inv;cases ps with
  | nil=>simp at hl
  | cons p ps =>
   have h0:=h 0 p v rfl rfl;refine Rps.cons (cV.mpr ⟨p,_,rfl,SqT.of h0,Rps.cons (aU.mpr (by simp)) (Rps.one (r1.mono m))⟩) (Ei m (n+1) r2 (by simpa using hl) fun j q x e1 e2=>?_);have:=h (j+1) q x (by simpa using e1) (by simpa using e2);rw [this,show n+(j+1)=n+1+j by omega]
def Ko (C:Cok T cl X) (hg:Gl X "enumerate") (hg2:Gl X "list") (ha:PA X [a] (tMs X U rs)) (hn:noStar a=true) :
  PE X (.Call (.Name "list" p) [.Call (.Name "enumerate" p2) [a] [] pos2] [] pos) (tM X U fun ρ=>do let ds <- rs ρ; fM .listEnum ds):=by
 refine bw (Ku C.calm hg (C.blt _ (by decide +kernel)) hg2 (C.blt _ (by decide +kernel)) ha (aA hn)) fun σ H Q=>?_
 rintro ⟨ρ,Hs,z,hs,hv,h,k⟩;obtain ⟨ds,hd,h1⟩:=aj h;clear h;refine ⟨ρ,Hs,ds,hs,hv,hd,fun vs H1 Hs1 g1 r1=>?_⟩;rcases ds with _ | ⟨d,_ | ⟨d2,ds⟩⟩
 .cases h1
 .cases d <;> try (cases h1;done)
  cases h1;obtain ⟨v,rfl,r2⟩:=oG r1;obtain ⟨b,xs,rfl,s1,r3⟩:=cV.mp r2;refine ⟨b,xs,rfl,aP g1.sub s1,fun S H' ps hS hps kp hH' hl ht=>?_⟩
  classical
  let Hs':Hp:=fun b=>if b=S\/b∈ps then H' b else Hs1 b
  have old:∀ c o,H1 c=some o->Hs' c=Hs1 c:=fun c o q=>by
   have:¬ (c=S\/c∈ps):=by
    rintro (rfl | z)
    .rw [hS] at q;cases q
    .rw [hps c z] at q;cases q
   show (if c=S\/c∈ps then H' c else Hs1 c)=_
   rw [if_neg this]
  have g2:Grow H1 Hs1 H' Hs':=⟨kp,old,fun c o q=>by
   by_cases z:c=S\/c∈ps
   .have e:Hs' c=H' c:=if_pos z;rw [e] at q;exact q
   .have e:Hs' c=Hs1 c:=if_neg z;rw [e] at q;exact kp c o (g1.sub c o q)⟩
  have eS:Hs' S=some (.lst (ps.map V.ref)):=by
   have e:Hs' S=H' S:=if_pos (.inl rfl);rw [e];exact hH'
  refine k _ _ _ (g1.trans g2) (bT.mpr ⟨S,_,rfl,SqL.of eS,Ei (g2.same g1.sub) 0 r3 hl fun j p x e1 e2=>?_⟩);have hp:p∈ps:=List.mem_of_getElem? e1;have e:Hs' p=H' p:=if_pos (.inr hp);rw [e,ht j p x e1 e2];simp
 .cases d <;> cases h1
theorem Rps.reverse {g:G}{H:Hp}:∀ {ds:List D}{vs:List V},Rps g H ds vs->Rps g H ds.reverse vs.reverse
 | [],vs,r=>by cases r.nil_inv;exact Rps.nil
 | d::ds,vs,r=>by
  obtain ⟨v,ws,rfl,r0,rs⟩:=r.cons_inv;rw [List.reverse_cons,List.reverse_cons];exact (Rps.reverse rs).append (Rps.one r0)
def Zc {cl:Nat -> List D -> R D}{ra:En -> R D}{k:Int}{q r2:Pos}{j:Nat} (C:Cok T cl X) (hg:Gl X "max") (ha:PE X a (tM X Ua ra)) (hn:noStar a=true) :
  PE X (.Call (.Name "max" p) [a] [⟨some "default",.Constant (.int k) j q,r2⟩] cp) (tM X Ua fun ρ=>do let d <- ra ρ; Gw k d):=by
 refine bw (Zh C.calm hg (C.blt _ (by decide +kernel)) ha (aA hn)) fun σ H Q=>?_
 rintro ⟨ρ,Hs,z,hs,hv,h,kk⟩;obtain ⟨d,hd,h⟩:=aj h;refine ⟨ρ,Hs,d,hs,hv,hd,fun v H1 Hs1 g1 r1=>?_⟩;by_cases e0:d=.lst []
 .subst e0;cases h;obtain ⟨a,xs,rfl,s1,r2⟩:=bT.mp r1;cases r2.nil_inv;exact ⟨a,[],rfl,aN g1.sub s1,(kk.grow g1).int g1.sub⟩
 .have h':xM d=.ok z:=by
   cases d <;> try exact h
   rename_i ds;cases ds with
   | nil=>exact absurd rfl e0
   | cons _ _=>exact h
  obtain ⟨ds,i,is,rfl,e1,rfl⟩:=LC h';obtain ⟨a,xs,rfl,s1,r2⟩:=bT.mp r1;cases xY r2 e1;exact ⟨a,i::is,rfl,aN g1.sub s1,(kk.grow g1).int g1.sub⟩
def aaB {i:Nat}{x:Str}{ap:Pos} (hN:X.N[i]?=some x) (hv:Vis X.env.scope x) (ho:aJ x=true) (ha:PE X a (tM X Ua ra)) (hn:noStar a=true) (hl:(ap.endLine == cp.line)=true) :
  PE X (.Call (.Attribute (.Name x p) "index" ap) [a] [] cp) (tM X (i::Ua) fun ρ=>do let d <- bO ρ i; let e <- ra ρ; PJ d e):=by
 refine bw (Gv PySem.F.plainAttrs_list PySem.F.slot_list_index PySem.F.type_list_index WM (HB hN hv ho) (dD ha gK (aA hn)) rfl (by rw [aA hn];rfl) hl (aA hn) rfl) fun σ H Q=>?_
 rintro ⟨ρ,Hs,z,hs,hv,h,kk⟩;obtain ⟨d,hd,h1⟩:=aj h;clear h;obtain ⟨e,he,h⟩:=aj h1;clear h1;cases d <;> try (cases h;done)
 rename_i ds;cases e <;> try (cases h;done)
 rename_i k;replace h:(match intsOf ds with | some is=>(match is.findIdx? (fun a=>decide (a=k)) with | some j=>R.ok (D.int j) | none=>.stuck) | none=>.stuck)=.ok z:=h;split at h <;> try (cases h;done)
 rename_i is e1;split at h <;> try (cases h;done)
 rename_i j e2;cases h;refine ⟨ρ,Hs,_,hs,hv.sub (fun j hj=>by rw [List.mem_singleton.mp hj];exact vz),hd,fun v H1 Hs1 g1 r1=>?_⟩;obtain ⟨a,xs,rfl,s1,r2⟩:=bT.mp r1;cases xY r2 e1;refine ⟨.inl ⟨rfl,_,aN g1.sub s1⟩,ρ,Hs1,_,g1.sub,(hv.sub (fun j hj=>vy _ hj)).mono (g1.same hs),he,fun u H2 Hs2 g2 r3=>?_⟩;cases aU.mp r3;exact ⟨a,is,k,j,rfl,rfl,aN ((g2.same g1.sub).trans g2.sub) s1,e2,((kk.grow g1).grow g2).int g2.sub⟩
def Ox {cl:Nat -> List D -> R D} (C:Cok T cl X) (hg:Gl X "reversed") (hgl:Gl X "list") (ha:PA X [a] (tMs X U rs)) (hn:noStar a=true) :
  PE X (.Call (.Name "list" p) [.Call (.Name "reversed" p2) [a] [] pos2] [] pos) (tM X U fun ρ=>do let ds <- rs ρ; fM .listRev ds):=by
 refine bw (N5 C.calm hg (C.blt _ (by decide +kernel)) hgl (C.blt _ (by decide +kernel)) ha (aA hn)) fun σ H Q=>?_
 rintro ⟨ρ,Hs,z,hs,hv,h,k⟩;obtain ⟨ds,hd,h1⟩:=aj h;refine ⟨ρ,Hs,ds,hs,hv,hd,fun vs H1 Hs1 g1 r1=>?_⟩;rcases ds with _ | ⟨d,_ | ⟨d2,ds⟩⟩
 .cases h1
 .obtain ⟨v,rfl,r2⟩:=oG r1;cases d <;> try (cases h1;done)
  cases h1;obtain ⟨b,zs,rfl,s1,r3⟩:=bT.mp r2;exact ⟨b,zs,rfl,aN g1.sub s1,(k.grow g1).newL g1.sub r3.reverse⟩
 .cases d <;> cases h1
structure Src (g:G) (J:It) (Hs:Hp) (ds:List D):Prop where
 go:∀ i H,Same Hs H->i < ds.length->J.go i H
 yld:∀ i H x H' Hs1 d,Same Hs Hs1->Same Hs1 H->ds[i]?=some d->J.yld i H x H'->∃ Hs2,Grow H Hs1 H' Hs2/\Rp g Hs2 d x
 stop:∀ H,Same Hs H->J.stop ds.length H
theorem src_list {a:Addr} (h:SqL X.K Hs a zs) (r:Rps (gOf X) Hs ds zs):Src (gOf X) (Itl X.K a) Hs ds where
 go:=fun i H hs hi=>⟨zs,zs[i]'(by rw [<- r.length];exact hi),aN hs h,by simp⟩
 yld:=fun i H x H' Hs1 d hs1 hs e ⟨e1,y⟩=>by
  subst e1;have e2:=y zs (aN (hs1.trans hs) h);obtain ⟨v,e3,rv⟩:=r.getD e;rw [e2] at e3;cases e3;exact ⟨Hs1,Grow.refl hs,rv.mono hs1⟩
 stop:=fun H hs=>⟨zs,aN hs h,by rw [<- r.length];exact v4 _⟩
theorem Yz {a:Addr} (h:SqT X.K Hs a zs) (r:Rps (gOf X) Hs ds zs):Src (gOf X) (Itt X.K a) Hs ds where
 go:=fun i H hs hi=>⟨zs,zs[i]'(by rw [<- r.length];exact hi),aP hs h,by simp⟩
 yld:=fun i H x H' Hs1 d hs1 hs e ⟨e1,y⟩=>by
  subst e1;have e2:=y zs (aP (hs1.trans hs) h);obtain ⟨v,e3,rv⟩:=r.getD e;rw [e2] at e3;cases e3;exact ⟨Hs1,Grow.refl hs,rv.mono hs1⟩
 stop:=fun H hs=>⟨zs,aP hs h,by rw [<- r.length];exact v4 _⟩
theorem Yd {a:Addr}{ks:List D}{xs:List (D × Addr × Value)}{ep:Nat} (h:Hs a=some (.ext (DAt (gOf X) a xs ys ep))) (e1:ks=xs.map (·.1)) (r:Rps (gOf X) Hs ks (xs.map fun x=>V.ref x.2.1)):Src (gOf X) (Itk (gOf X) a xs ys ep) Hs ks where
 go:=fun i H hs hi=>⟨hs _ _ h,by rw [e1,List.length_map] at hi;exact hi⟩
 yld:=fun i H x H' Hs1 d hs1 hs e ⟨e0,q,eq,ex⟩=>by
  subst e0 ex;obtain ⟨v,e3,rv⟩:=r.getD e;rw [List.getElem?_map,eq] at e3;cases e3;exact ⟨Hs1,Grow.refl hs,rv.mono hs1⟩
 stop:=fun H hs=>⟨hs _ _ h,by rw [e1,List.length_map];exact v4 _⟩
def Ma {lo:Int}{n:Nat}:Src (gOf X) (Itr lo n) Hs ((List.range n).map fun (k:Nat)=>D.int (lo+(k:Int))) where
 go:=fun i H hs hi=>by show i < n;simpa using hi
 yld:=fun i H x H' Hs1 d hs1 hs e ⟨e1,y⟩=>by
  subst e1 y;rw [List.getElem?_map] at e;cases q:(List.range n)[i]? with
  | none=>rw [q] at e;cases e
  | some j =>
   rw [q] at e;have:j=i:=by
    have:=v7.mp q;obtain ⟨_,z⟩:=this;simpa using z.symm
   subst this;cases e;exact ⟨Hs1,Grow.refl hs,aU.mpr rfl⟩
 stop:=fun H hs=>by simp [Itr]
theorem z9:∀ {n:Nat}{ds:List D}{i:Nat}{d:D},(aY n ds)[i]?=some d->∃ y,ds[i]?=some y/\d=.tup [.int ((n+i:Nat):Int),y]
 | n,[],i,d,h=>by simp [aY] at h
 | n,y::ds,0,d,h=>by simp [aY] at h;exact ⟨y,rfl,by rw [<- h];rfl⟩
 | n,y::ds,i+1,d,h=>by
  simp only [aY,List.getElem?_cons_succ] at h;obtain ⟨z,e1,e2⟩:=z9 h;exact ⟨z,by simpa using e1,by rw [e2,show n+1+i=n+(i+1) by omega]⟩
theorem oR:∀ (n:Nat) (ds:List D),(aY n ds).length=ds.length
 | _,[]=>rfl
 | n,d::ds=>by simp [aY,oR (n+1) ds]
theorem Ri {a:Addr} (h:SqT X.K Hs a zs) (r:Rps (gOf X) Hs ds zs):Src (gOf X) (Oo X.K a) Hs (aY 0 ds) where
 go:=fun i H hs hi=>⟨zs,zs[i]'(by rw [<- r.length];rw [oR] at hi;exact hi),aP hs h,by simp⟩
 yld:=fun i H x H' Hs1 d hs1 hs e ⟨p,y,hp,e1,e2,y2⟩=>by
  subst e1 e2;have e3:=y2 zs (aP (hs1.trans hs) h);obtain ⟨z,e4,e5⟩:=z9 e;obtain ⟨v,e6,rv⟩:=r.getD e4;rw [e3] at e6;cases e6;subst e5;refine ⟨_,Grow.new hs hp,cV.mpr ⟨p,_,rfl,SqT.of aB,Rps.cons (aU.mpr (by simp)) (Rps.one (rv.mono (hs1.trans (oN hs hp))))⟩⟩
 stop:=fun H hs=>⟨zs,aP hs h,by rw [oR,r.length]⟩
theorem Qg {a:Addr} (h:SqL X.K Hs a zs) (r:Rps (gOf X) Hs ds zs):Src (gOf X) (Oe X.K a) Hs (aY 0 ds) where
 go:=fun i H hs hi=>⟨zs,zs[i]'(by rw [<- r.length];rw [oR] at hi;exact hi),aN hs h,by simp⟩
 yld:=fun i H x H' Hs1 d hs1 hs e ⟨p,y,hp,e1,e2,y2⟩=>by
  subst e1 e2;have e3:=y2 zs (aN (hs1.trans hs) h);obtain ⟨z,e4,e5⟩:=z9 e;obtain ⟨v,e6,rv⟩:=r.getD e4;rw [e3] at e6;cases e6;subst e5;refine ⟨_,Grow.new hs hp,cV.mpr ⟨p,_,rfl,SqT.of aB,Rps.cons (aU.mpr (by simp)) (Rps.one (rv.mono (hs1.trans (oN hs hp))))⟩⟩
 stop:=fun H hs=>⟨zs,aN hs h,by rw [oR,r.length]⟩
def tI (X:Cx) (U:zz) (r:En->R (List D)):TI:=fun σ H R=>∃ ρ Hs ds,Same Hs H/\Vs (gOf X) ρ σ Hs U/\r ρ=.ok ds/\∀ J H' Hs',Grow H Hs H' Hs'->Src (gOf X) J Hs' ds->R J H'
variable {tg iter b:Expr}
def aaF (h:PE X iter (tM X U r)):PI X tg iter (tI X U fun ρ=>do let d <- r ρ;itemsOf .seq [d]):=by
 intro pins s σ H R I hq;obtain ⟨ρ,Hs,ds,hs,hv,h1,k⟩:=hq;obtain ⟨d,hd,h2⟩:=aj h1;clear h1;cases d <;> try (cases h2;done)
 .cases h2;refine aan h pins s σ H R I ⟨ρ,Hs,_,hs,hv,hd,fun v H1 Hs1 g1 r1=>?_⟩;obtain ⟨a,zs,rfl,s1,r2⟩:=cV.mp r1;exact ⟨a,rfl,⟨zs,aP g1.sub s1⟩,k _ _ _ g1 (Yz s1 r2)⟩
 .cases h2;refine Yl h pins s σ H R I ⟨ρ,Hs,_,hs,hv,hd,fun v H1 Hs1 g1 r1=>?_⟩;obtain ⟨a,zs,rfl,s1,r2⟩:=bT.mp r1;exact ⟨a,rfl,⟨zs,aN g1.sub s1⟩,k _ _ _ g1 (src_list s1 r2)⟩
 .cases h2;refine aaq h pins s σ H R I ⟨ρ,Hs,_,hs,hv,hd,fun v H1 Hs1 g1 r1=>?_⟩;obtain ⟨a,xs,ys,ep,rfl,ha,e1,r2,r3⟩:=kJ.mp r1;exact ⟨a,xs,ys,ep,rfl,g1.sub _ _ ha,k _ _ _ g1 (Yd ha e1 r2)⟩
def WW:(lim:Int) < 2 ^ 62:=by decide
def Yg (C:Cok T cl X) (hg:Gl X "range") (hn:noStar a=true) (ha:PA X [a] (tMs X U rs)) (hl:∀ ρ ds,rs ρ=.ok ds -> ds.length=1) :
  PI X tg (.Call (.Name "range" p) [a] [] pos) (tI X U fun ρ=>do let ds <- rs ρ; itemsOf .rng ds):=by
 intro pins s σ H R I hq;obtain ⟨ρ,Hs,ds,hs,hv,h1,k⟩:=hq;obtain ⟨d,hd,h2⟩:=aj h1;clear h1;have hlen:=hl ρ d hd;rcases d with _ | ⟨d,_ | ⟨d2,d3⟩⟩
 .simp at hlen
 .cases d <;> try (cases h2;done)
  obtain ⟨c,h3⟩:=bW h2;cases h3;refine Rz hg (C.blt _ (by decide +kernel)) ha (aA hn) pins s σ H R I ⟨ρ,Hs,_,hs,hv,hd,fun vs H1 Hs1 g1 r1=>?_⟩;obtain ⟨v,rfl,r2⟩:=oG r1;cases aU.mp r2;have:=WW;refine ⟨_,rfl,by omega,by omega,k _ _ _ g1 ?_⟩;have e:=Ma (X:=X) (Hs:=Hs1) (lo:=0) (n:=Int.toNat ‹Int›);simpa using e
 .simp at hlen
def Xr (C:Cok T cl X) (hg:Gl X "range") (hn:noStar a=true) (hn2:noStar b=true) (ha:PA X [a,b] (tMs X U rs)) (hl:∀ ρ ds,rs ρ=.ok ds -> ds.length=2) :
  PI X tg (.Call (.Name "range" p) [a,b] [] pos) (tI X U fun ρ=>do let ds <- rs ρ; itemsOf .rng ds):=by
 intro pins s σ H R I hq;obtain ⟨ρ,Hs,ds,hs,hv,h1,k⟩:=hq;obtain ⟨d,hd,h2⟩:=aj h1;clear h1;have hlen:=hl ρ d hd;rcases d with _ | ⟨d,_ | ⟨d2,_ | ⟨d3,d4⟩⟩⟩
 .simp at hlen
 .simp at hlen
 .cases d <;> cases d2 <;> try (cases h2;done)
  obtain ⟨c,h3⟩:=bW h2;cases h3;refine Rt hg (C.blt _ (by decide +kernel)) ha (by rw [aA hn,aA hn2];rfl) (by rw [aA hn2];rfl) pins s σ H R I ⟨ρ,Hs,_,hs,hv,hd,fun vs H1 Hs1 g1 r1=>?_⟩;obtain ⟨v,w,rfl,r2,r3⟩:=Di r1;cases aU.mp r2;cases aU.mp r3;have:=WW;exact ⟨_,_,rfl,⟨by omega,by omega,by omega,by omega⟩,k _ _ _ g1 Ma⟩
 .simp at hlen
def Xy (C:Cok T cl X) (hg:Gl X "enumerate") (hn:noStar a=true) (ha:PA X [a] (tMs X U rs)) :
  PI X (.Tuple els x1 tpos) (.Call (.Name "enumerate" p) [a] [] pos) (tI X U fun ρ=>do let ds <- rs ρ; itemsOf .enum ds):=by
 intro pins s σ H R I hq;obtain ⟨ρ,Hs,ds,hs,hv,h1,k⟩:=hq;obtain ⟨d,hd,h2⟩:=aj h1;clear h1;rcases d with _ | ⟨d,_ | ⟨d2,d3⟩⟩
 .cases h2
 .cases d <;> try (cases h2;done)
  .cases h2;refine Vl hg (C.blt _ (by decide +kernel)) ha (aA hn) pins s σ H R I ⟨ρ,Hs,_,hs,hv,hd,fun vs H1 Hs1 g1 r1=>?_⟩;obtain ⟨v,rfl,r2⟩:=oG r1;obtain ⟨a,zs,rfl,s1,r3⟩:=cV.mp r2;exact ⟨a,zs,rfl,aP g1.sub s1,k _ _ _ g1 (Ri s1 r3)⟩
  .cases h2;refine Vj hg (C.blt _ (by decide +kernel)) ha (aA hn) pins s σ H R I ⟨ρ,Hs,_,hs,hv,hd,fun vs H1 Hs1 g1 r1=>?_⟩;obtain ⟨v,rfl,r2⟩:=oG r1;obtain ⟨a,zs,rfl,s1,r3⟩:=bT.mp r2;exact ⟨a,zs,rfl,aN g1.sub s1,k _ _ _ g1 (Qg s1 r3)⟩
 .cases d <;> cases h2
theorem zip_get:∀ {as bs:List D}{i:Nat}{d:D},(sy as bs)[i]?=some d->∃ x y,as[i]?=some x/\bs[i]?=some y/\d=.tup [x,y]
 | [],bs,i,d,h=>by cases bs <;> cases h
 | a::as,[],i,d,h=>by cases h
 | a::as,b::bs,0,d,h=>by cases h;exact ⟨a,b,rfl,rfl,rfl⟩
 | a::as,b::bs,i+1,d,h=>zip_get (as:=as) (bs:=bs) (i:=i) h
theorem Dh:∀ (as bs:List D),(sy as bs).length=min as.length bs.length
 | [],bs=>by cases bs <;> simp [sy]
 | a::as,[]=>by simp [sy]
 | a::as,b::bs=>by
  have:=Dh as bs;simp only [sy,List.length_cons];omega
theorem Yp {a b:Addr}{as bs:List D}{xs:List V} (h1:SqT X.K Hs a xs) (h2:SqT X.K Hs b ys) (r1:Rps (gOf X) Hs as xs) (r2:Rps (gOf X) Hs bs ys):Src (gOf X) (Itz X.K a b) Hs (sy as bs) where
 go:=fun i H hs hi=>by
  rw [Dh] at hi;have l1:=r1.length;have l2:=r2.length;exact ⟨xs,ys,xs[i]'(by omega),ys[i]'(by omega),aP hs h1,aP hs h2,by simp,by simp⟩
 yld:=fun i H x H' Hs1 d hs1 hs e ⟨p,u,v,hp,e1,e2,y1,y2⟩=>by
  subst e1 e2;obtain ⟨d1,d2,g1,g2,rfl⟩:=zip_get e;obtain ⟨v1,f1,q1⟩:=r1.getD g1;obtain ⟨v2,f2,q2⟩:=r2.getD g2;rw [y1 xs (aP (hs1.trans hs) h1)] at f1;cases f1;rw [y2 ys (aP (hs1.trans hs) h2)] at f2;cases f2;have m:Same Hs (upd Hs1 p (.tup [u,v])):=hs1.trans (oN hs hp);exact ⟨_,Grow.new hs hp,cV.mpr ⟨p,_,rfl,SqT.of aB,Rps.cons (q1.mono m) (Rps.one (q2.mono m))⟩⟩
 stop:=fun H hs=>by
  have l1:=r1.length;have l2:=r2.length;refine ⟨xs,ys,aP hs h1,aP hs h2,?_⟩;rw [Dh,List.getElem?_eq_none_iff,List.getElem?_eq_none_iff];omega
def ZV (C:Cok T cl X) (hg:Gl X "zip") (hn:noStar a=true) (hn2:noStar b=true) (ha:PA X [a,b] (tMs X U rs)) :
  PI X (.Tuple els x1 tpos) (.Call (.Name "zip" p) [a,b] [] pos) (tI X U fun ρ=>do let ds <- rs ρ; itemsOf .zip ds):=by
 intro pins s σ H R I hq;obtain ⟨ρ,Hs,ds,hs,hv,h1,k⟩:=hq;obtain ⟨d,hd,h2⟩:=aj h1;clear h1;rcases d with _ | ⟨d,_ | ⟨d2,_ | ⟨d3,d4⟩⟩⟩
 .cases h2
 .cases d <;> cases h2
 .cases d <;> cases d2 <;> try (cases h2;done)
  cases h2;refine aaw hg (C.blt _ (by decide +kernel)) ha (by rw [aA hn,aA hn2];rfl) (by rw [aA hn2];rfl) pins s σ H R I ⟨ρ,Hs,_,hs,hv,hd,fun vs H1 Hs1 g1 r1=>?_⟩;obtain ⟨v,w,rfl,r2,r3⟩:=Di r1;obtain ⟨a1,xs,rfl,s1,q1⟩:=cV.mp r2;obtain ⟨a2,ys,rfl,s2,q2⟩:=cV.mp r3;exact ⟨a1,xs,a2,ys,rfl,aP g1.sub s1,aP g1.sub s2,k _ _ _ g1 (Yp s1 s2 q1 q2)⟩
 .cases d <;> cases d2 <;> cases h2
def X5 {a:Addr} (h:SqL X.K Hs a zs) (r:Rps (gOf X) Hs ds zs):Src (gOf X) (Itv X.K a zs.length) Hs ds.reverse where
 go:=fun i H hs hi=>by
  have l:=r.length;rw [List.length_reverse] at hi;exact ⟨zs,zs[zs.length - 1 - i]'(by omega),aN hs h,by omega,by simp⟩
 yld:=fun i H x H' Hs1 d hs1 hs e ⟨e1,y⟩=>by
  subst e1;have l:=r.length;have hi:i < ds.length:=by
   have:=(v7.mp e).1
   rwa [List.length_reverse] at this
  rw [List.getElem?_reverse hi,l] at e;have e2:=y zs (aN (hs1.trans hs) h);obtain ⟨v,e3,rv⟩:=r.getD e;rw [e2] at e3;cases e3;exact ⟨Hs1,Grow.refl hs,rv.mono hs1⟩
 stop:=fun H hs=>by
  have l:=r.length;show ds.reverse.length=zs.length
  rw [List.length_reverse,l]
def abz (C:Cok T cl X) (hg:Gl X "reversed") (hn:noStar a=true) (ha:PA X [a] (tMs X U rs)) :
  PI X tg (.Call (.Name "reversed" p) [a] [] pos) (tI X U fun ρ=>do let ds <- rs ρ; itemsOf .rev ds):=by
 intro pins s σ H R I hq;obtain ⟨ρ,Hs,ds,hs,hv,h1,k⟩:=hq;obtain ⟨d,hd,h2⟩:=aj h1;clear h1;rcases d with _ | ⟨d,_ | ⟨d2,d3⟩⟩
 .cases h2
 .cases d <;> try (cases h2;done)
  cases h2;refine aaJ hg (C.blt _ (by decide +kernel)) ha (aA hn) pins s σ H R I ⟨ρ,Hs,_,hs,hv,hd,fun vs H1 Hs1 g1 r1=>?_⟩;obtain ⟨v,rfl,r2⟩:=oG r1;obtain ⟨a1,zs,rfl,s1,r3⟩:=bT.mp r2;exact ⟨a1,zs,rfl,aN g1.sub s1,k _ _ _ g1 (X5 s1 r3)⟩
 .cases d <;> cases h2
end
end Mi
set_option maxHeartbeats 1000000
namespace Mi
open PySem L2
open PyProof.Rows hiding St
noncomputable def putL {α:Type}:List (Option α)->List (Nat × α)->List (Option α)
 | xs,[]=>xs
 | xs,(i,a)::r=>putL (xs.set i (some a)) r
theorem o9 {α:Type}:∀ (xs:List (Option α)) (l:List (Nat × α)),(putL xs l).length=xs.length
 | xs,[]=>rfl
 | xs,(i,a)::r=>by rw [putL,o9,List.length_set]
theorem J7 {α:Type}{j:Nat}:∀ {xs:List (Option α)}{l:List (Nat × α)},j ∉ l.map (·.1)->(putL xs l)[j]?=xs[j]?
 | xs,[],_=>rfl
 | xs,(i,a)::r,h=>by
  simp only [List.map_cons,List.mem_cons,not_or] at h;rw [putL,J7 h.2,List.getElem?_set_ne (Ne.symm h.1)]
theorem GZ {g:G}{Hs:Hp}{j:Nat}{d:D}:∀ {l:List (Nat × D × V)}{ρ:En}{σ:St},ρ.length=σ.length->(∀ p∈l,Rp g Hs p.2.1 p.2.2) ->
  (putL ρ (l.map fun p=>(p.1,p.2.1)))[j]?=some (some d)->(∀ d,ρ[j]?=some (some d)->∃ v,σ[j]?=some (some v)/\Rp g Hs d v)\/j∈l.map (·.1)->∃ v,(putL σ (l.map fun p=>(p.1,p.2.2)))[j]?=some (some v)/\Rp g Hs d v
 | [],ρ,σ,hl,hr,h,o=>by
  rcases o with o | o
  .exact o d h
  .cases o
 | (i,e,v)::l,ρ,σ,hl,hr,h,o=>by
  simp only [List.map_cons,putL] at h ⊢;have hl2:(ρ.set i (some e)).length=(σ.set i (some v)).length:=by rw [List.length_set,List.length_set];exact hl
  refine GZ hl2 (fun p hp=>hr p (vy _ hp)) h ?_;by_cases hj:j=i
  .subst hj;refine .inl fun d' q=>?_
   have hlt:j < ρ.length:=by
    have:=(v7.mp q).1;simpa using this
   rw [List.getElem?_set_self hlt] at q;cases q;exact ⟨v,by rw [List.getElem?_set_self (by rw [<- hl];exact hlt)],hr _ vz⟩
  .rw [List.map_cons,List.mem_cons] at o;rcases o with o | o | o
   .refine .inl fun d' q=>?_
    rw [List.getElem?_set_ne (Ne.symm hj)] at q ⊢;exact o d' q
   .exact absurd o hj
   .exact .inr o
variable {sc:Scope}{t:Tg}{tg:Expr}{d:D}{N:z0}
section
variable {X:Cx}{σ:St}{H Hs:Hp}{Q:VK}{U Ua Ub Uc:zz}{r ra rb rc:En->R D}{e a:Expr}{es:ve}{rs:En->R (List D)}{pos:Pos}{T:Tx}{cl:Nat->List D->R D}
def gTg (K:zt):Tg->TG
 | .one i=>Bg i
 | .two i j=>Z1 K 2 (Nz (Bg i) (Nz (Bg j) ZW))
theorem jg (C:Cok T cl X) (S:ScRel sc X) (h:tgB X.N sc t tg=true):PG X tg (gTg X.K t):=by
 cases t with
 | one i =>
  obtain ⟨_,_,rfl,ho,hn⟩:=sZ h;obtain ⟨h1,h2⟩:=S.own _ ho;exact Dy C.nd hn h1 h2
 | two i j =>
  obtain ⟨_,_,_,_,_,_,rfl,⟨⟨⟨h1,h2⟩,h3⟩,h4⟩,h5⟩:=sI h;obtain ⟨a1,a2⟩:=S.own _ h1;obtain ⟨b1,b2⟩:=S.own _ h2;exact abb C.calm (Hh (Dy C.nd h3 a1 a2) (Hh (Dy C.nd h4 b1 b2) Xn (by rfl)) (by rfl)) (by rfl) (by rfl)
def oF {ρ ρ':En}{x:V}{K:St->Hp->Prop} (hs:Same Hs H) (h:dw t d ρ=.ok ρ') (rx:Rp (gOf X) Hs d x)
  (k:∀ l:List (Nat × D × V),l.map (·.1)=aK t->(∀ p∈l,Rp (gOf X) Hs p.2.1 p.2.2)->ρ'=putL ρ (l.map fun p=>(p.1,p.2.1))->K (putL σ (l.map fun p=>(p.1,p.2.2))) H):gTg X.K t x σ H K:=by
 cases t with
 | one i =>
  cases h;exact k [(i,d,x)] rfl (fun p hp=>by rw [List.mem_singleton.mp hp];exact rx) rfl
 | two i j =>
  cases d <;> try (cases h;done)
  rename_i ds;rcases ds with _ | ⟨a,_ | ⟨b,_ | ⟨c,cs⟩⟩⟩ <;> try (cases h;done)
  cases h;obtain ⟨p,xs,rfl,s1,r1⟩:=cV.mp rx;obtain ⟨v,w,rfl,r2,r3⟩:=Di r1;refine ⟨p,[v,w],rfl,aP hs s1,rfl,v,[w],rfl,w,[],rfl,rfl,?_⟩;refine k [(i,a,v),(j,b,w)] rfl (fun q hq=>?_) rfl;rcases w6.mp hq with rfl | hq
  .exact r2
  .rw [List.mem_singleton.mp hq];exact r3
def tHc (X:Cx) (hc:Bool) (U:zz) (r:En->R D):TT:=if hc then tMT X U r else fun _ H Q=>Q true H
def Aw {i:Nat}{x:Str} (h:kI sc x=true) (hi:N[i]?=some x):(cI N sc)[i]?=some false:=by
 unfold cI;rw [List.getElem?_map,hi];rcases lB h with e | e <;> simp [e]
def aa3 (h:tgB N sc t tg=true):∀ i∈aK t,(cI N sc)[i]?=some false:=by
 cases t with
 | one i =>
  obtain ⟨_,_,rfl,ho,hn⟩:=sZ h;intro j hj;rw [List.mem_singleton.mp hj];exact Aw ho hn
 | two i j =>
  obtain ⟨_,_,_,_,_,_,rfl,⟨⟨⟨h1,h2⟩,h3⟩,h4⟩,h5⟩:=sI h;intro q hq;rcases w6.mp hq with rfl | hq
  .exact Aw h1 h3
  .rw [List.mem_singleton.mp hq];exact Aw h2 h4
def tMf (X:Cx) (U:zz) (r:En->R D):TE:=fun σ H Q=>∃ ρ Hs d,Same Hs H/\Vs (gOf X) ρ σ Hs U/\r ρ=.ok d/\∀ v H' Hs',Grow H Hs H' Hs'->Rp (gOf X) Hs' d v->(∃ a xs ds,v=.ref a/\d=.lst ds/\H a=none/\Hs' a=some (.lst xs)/\Rps (gOf X) Hs' ds xs)->Q v H'
def acQ :tM X U r σ H Q->tMf X U r σ H Q:=by
 rintro ⟨ρ,Hs,d,hs,hv,h,k⟩;exact ⟨ρ,Hs,d,hs,hv,h,fun v H' Hs' g r _=>k v H' Hs' g r⟩
def Eo {scope:Scope}{hc:Bool}{rI:En->R (List D)}{cap:List Bool} (htg:tgB N scope t tg=true) (hcap:cap=cI N scope) :
  tMf X (Ua++(Uc++Ub)) (fun ρ=>do
   let items <- rI ρ
   let ys <- iz (fun d=>do
    let ρ' <- dw t d (bA cap ρ)
    let b <- (if hc then (do let x <- rc ρ';cJ x) else .ok true)
    if b then do let y <- rb ρ';.ok (some y) else .ok none) items
   if ys.length<=lim then .ok (.lst ys) else .stuck) σ H Q ->
  BL (tI X Ua rI) (gTg X.K t) (tHc X hc Uc rc) (tM X Ub rb) (bA (cI N scope)) σ H Q:=by
 rintro ⟨ρ,Hs,z,hs,hv,h,k⟩;obtain ⟨ds,hd,h1⟩:=aj h;obtain ⟨tot,ht,h2⟩:=aj h1;obtain ⟨hlim,h3⟩:=bW h2;clear h h1 h2;cases h3;have hll:=ju;generalize hf:(fun d=>do
    let ρ' <- dw t d (bA cap ρ)
    let b <- (if hc then (do let x <- rc ρ';cJ x) else .ok true)
    if b then do let y <- rb ρ';.ok (some y) else .ok none)=f at ht
 refine ⟨ρ,Hs,ds,hs,hv.l,hd,fun J H1 Hs1 g1 src=>?_⟩;intro A hA;refine ⟨fun i m ys H'=>m=ds.length - i/\i<=ds.length/\∃ Hs' don rest,Grow H1 Hs1 H' Hs'/\Hs' A=none/\H' A=some (.lst ys)/\Rps (gOf X) Hs' don ys/\iz f (ds.drop i)=.ok rest/\don++rest=tot,⟨ds.length,by simp,ye _,Hs1,[],tot,Grow.own g1.sub hA,g1.sub.free hA,aB,Rps.nil,ht,rfl⟩,?_⟩;rintro i m ys H' ⟨rfl,hi,Hs',don,rest,g2,fA,eA,rA,hrest,etot⟩;have hs':=g1.sub;by_cases hlt:i < ds.length
 .refine .inr ⟨src.go i H' ((g2.same hs').trans g2.sub) hlt,fun x H2 hy=>?_⟩;have hdi:ds[i]?=some ds[i]:=by simp [hlt]
  obtain ⟨Hs2,g3,rx⟩:=src.yld i H' x H2 Hs' ds[i] (g2.same hs') g2.sub hdi hy;have edrop:ds.drop i=ds[i]::ds.drop (i+1):=by rw [List.drop_eq_getElem_cons hlt]
  rw [edrop] at hrest;unfold iz at hrest;obtain ⟨y,hy1,hr1⟩:=aj hrest;obtain ⟨zs,hz,hr2⟩:=aj hr1;clear hrest hr1;have hy0:=hy1;rw [<- hf] at hy1;obtain ⟨ρ',hρ,hy2⟩:=aj hy1;obtain ⟨b,hb,hy3⟩:=aj hy2;clear hy1 hy2;have gA:Grow H1 Hs1 H2 Hs2:=g2.trans g3;refine oF g3.sub hρ rx fun l hl hrl eρ=>?_
  have slots:∀ j∈aK t,(cI N scope)[j]?=some false:=aa3 htg;have lenm:(bA cap ρ).length=(bA (cI N scope) σ).length:=by rw [jY,jY];exact hv.1
  have mV:(l.map fun p=>(p.1,p.2.2)).map (·.1)=aK t:=by rw [<- hl,List.map_map];rfl
  have mD:(l.map fun p=>(p.1,p.2.1)).map (·.1)=aK t:=by rw [<- hl,List.map_map];rfl
  have ext:aap (bA (cI N scope) σ) (putL (bA (cI N scope) σ) (l.map fun p=>(p.1,p.2.2))):=⟨o9 _ _,fun j v q=>by
   have hj:j ∉ aK t:=fun hj=>by
    have:=(rN q).1;rw [slots j hj] at this;cases this
   rw [J7 (by rw [mV];exact hj)];exact q⟩
  have vs2:∀ {U'},(∀ j∈U',j∈Uc++Ub)->Vs (gOf X) ρ' (putL (bA (cI N scope) σ) (l.map fun p=>(p.1,p.2.2))) Hs2 U':=fun {U'} hU=>by
   refine ⟨by rw [eρ,o9,o9];exact lenm,fun j hj d hd'=>?_⟩;rw [eρ] at hd';refine GZ lenm hrl hd' (.inl fun d2 hd2=>?_);obtain ⟨c1,c2⟩:=rN hd2;obtain ⟨v,e1,r1⟩:=hv.r.2 j (hU j hj) d2 c2;exact ⟨v,Eb (by rw [<- hcap];exact c1) e1,r1.mono (((g1.trans gA).same hs))⟩
  refine ⟨ext,?_⟩;have aA2:H2 A=some (.lst ys):=g3.keep A _ eA;have step:∀ H4 Hs4,Grow H2 Hs2 H4 Hs4->(if b=true then tM X Ub rb (putL (bA (cI N scope) σ) (l.map fun p=>(p.1,p.2.2))) H4 (fun y' H5=>H5 A=some (.lst ys)/\ys.length < sizeLine/\∃ m',m' < ds.length - i/\(m'=ds.length - (i+1)/\i+1<=ds.length/\∃ Hs' don rest,Grow H1 Hs1 (upd H5 A (.lst (ys++[y']))) Hs'/\Hs' A=none/\(upd H5 A (.lst (ys++[y']))) A=some (.lst (ys++[y']))/\Rps (gOf X) Hs' don (ys++[y'])/\iz f (ds.drop (i+1))=.ok rest/\don++rest=tot))
    else ∃ m',m' < ds.length - i/\(m'=ds.length - (i+1)/\i+1<=ds.length/\∃ Hs' don rest,Grow H1 Hs1 H4 Hs'/\Hs' A=none/\H4 A=some (.lst ys)/\Rps (gOf X) Hs' don ys/\iz f (ds.drop (i+1))=.ok rest/\don++rest=tot)):=by
   intro H4 Hs4 g4;have f4:Hs4 A=none:=by rw [(g3.trans g4).old A _ eA];exact fA
   cases b with
   | false =>
    rw [if_neg (by decide)];rw [if_neg (by decide)] at hy3;cases hy3;cases hr2;exact ⟨_,by omega,rfl,hlt,Hs4,don,zs,gA.trans g4,f4,g4.keep A _ aA2,rA.mono ((g3.trans g4).same g2.sub),hz,etot⟩
   | true =>
    rw [if_pos rfl];rw [if_pos rfl] at hy3;obtain ⟨w,hw,hy4⟩:=aj hy3;cases hy4;cases hr2;refine ⟨ρ',Hs4,w,g4.sub,(vs2 fun j hj=>vF _ hj).mono (g4.same g3.sub),hw,fun y' H5 Hs5 g5 r5=>?_⟩;have a5:H5 A=some (.lst ys):=(g4.trans g5).keep A _ aA2;have f5:Hs5 A=none:=by rw [((g3.trans g4).trans g5).old A _ eA];exact fA
    have rl:=rA.length;have hlen:ys.length < sizeLine:=by
     have:don.length+(w::zs).length=tot.length:=by rw [<- List.length_append,etot]
     rw [List.length_cons] at this;omega
    refine ⟨a5,hlen,_,by omega,rfl,hlt,Hs5,don++[w],zs,?_,f5,aB,?_,hz,by rw [List.append_assoc];exact etot⟩
    .have g6:=(gA.trans g4).trans g5;refine ⟨fun c o q=>by rw [ao (ak q hA)];exact g6.keep c o q,g6.old,fun c o q=>?_⟩;rw [ao (ak q f5)];exact g6.sub c o q
    .exact (rA.mono (((g3.trans g4).trans g5).same g2.sub)).append (Rps.one r5)
  cases hc with
  | false =>
   rw [if_neg (by decide)] at hb;cases hb;exact step H2 Hs2 (Grow.refl g3.sub)
  | true =>
   rw [if_pos rfl] at hb;obtain ⟨x2,hx2,hb2⟩:=aj hb;cases iZ hb2;exact ⟨ρ',Hs2,b,g3.sub,vs2 fun j hj=>vE _ hj,hx2,fun H4 Hs4 g4=>step H4 Hs4 g4⟩
 .have e:i=ds.length:=by omega
  subst e;refine .inl ⟨src.stop H' ((g2.same hs').trans g2.sub),?_⟩;rw [List.drop_length] at hrest;cases hrest;rw [List.append_nil] at etot;subst etot;have m2:Same Hs' (upd Hs' A (.lst ys)):=fun c o q=>by rw [ao (ak q fA)];exact q
  refine k _ _ (upd Hs' A (.lst ys)) (g1.trans ⟨g2.keep,fun c o q=>by rw [ao (ak q hA)];exact g2.old c o q,fun c o q=>?_⟩) (bT.mpr ⟨A,ys,rfl,SqL.of aB,rA.mono m2⟩) ⟨A,ys,_,rfl,rfl,(show Same H H1 from g1.keep).free hA,aB,rA.mono m2⟩;by_cases z:c=A
  .subst z;rw [aB] at q;cases q;exact eA
  .rw [ao z] at q;exact g2.sub c o q
end
end Mi
set_option maxHeartbeats 1000000
namespace Mi
open PySem L2
open PyProof.Rows hiding St
noncomputable def plainT:Expr->Bool
 | .UnaryOp .Not _ _=>false
 | .BoolOp ..=>false
 | .IfExp ..=>false
 | .Compare ..=>false
 | _=>true
def nu {e:Expr}{env:Env} (h:plainT e=true):∀ whole,isTrue e env whole=(do let v <- whole;standAt e.pos;holding [v] (truthy v)):=by
 intro whole;cases e <;> first | rfl | (cases h;done) | skip
 rename_i op a p;cases op <;> first | rfl | cases h
def QS (X:Cx) (U:zz) (r:En->R D) (e:Expr):Prop:=PE X e (tM X U r)/\PT X e (tMT X U r)
def Good (T:Tx) (cl:Nat->List D->R D) (m:M):Prop:=∀ {X:Cx}{sc:Scope}{e:Expr},Cok T cl X->ScRel sc X->okE T X.N m sc e=true->QS X (aD m) (evE cl m) e
variable {c:M}
section
variable {T:Tx}{cl:Nat->List D->R D}{X:Cx}{sc:Scope}{U:zz}{r:En->R D}{e:Expr}
theorem aV (h:PE X e (tM X U r)) (hp:plainT e=true):QS X U r e:=⟨h,Um h (nu hp)⟩
theorem gq (C:Cok T cl X) (S:ScRel sc X):∀ {ms:List M}{es:ve},(∀ m∈ms,Good T cl m)->bI T X.N ms sc es=true->es.all noStar=true->PA X es (tMs X (aZ ms) (cB cl ms))
 | [],es,G,h,hn=>by
  rw [pF,List.isEmpty_iff] at h;subst h;have e:cB cl []=fun _=>.ok []:=funext fun _=>by simp only [cB]
  rw [e];simp only [aZ];exact YC
 | m::ms,[],G,h,hn=>by cases h
 | m::ms,x::es,G,h,hn=>by
  simp only [bZ,Bool.and_eq_true] at h;simp only [List.all_cons,Bool.and_eq_true] at hn;have e:cB cl (m::ms)=(fun ρ=>(do let d <- evE cl m ρ;let ds <- cB cl ms ρ;.ok (d::ds))):=funext fun _=>by simp only [cB]
  rw [e];simp only [aZ];exact V2 (G m vz C S h.1).1 (gq C S (fun q hq=>G q (vy _ hq)) h.2 hn.2) hn.1
theorem zx:∀ {ms:List M}{ρ:En}{ds:List D},cB cl ms ρ=.ok ds->ds.length=ms.length
 | [],ρ,ds,h=>by simp only [cB] at h;cases h;rfl
 | m::ms,ρ,ds,h=>by
  simp only [cB] at h;obtain ⟨x,hx,h1⟩:=aj h;obtain ⟨xs,hxs,h2⟩:=aj h1;have:=zx hxs;cases h2;simp [this]
theorem Al:∀ {ms:List M}{es:ve},bI T X.N ms sc es=true->es.length=ms.length
 | [],es,h=>by
  rw [pF,List.isEmpty_iff] at h;rw [h];rfl
 | m::ms,[],h=>by cases h
 | m::ms,e::es,h=>by
  simp only [bZ,Bool.and_eq_true] at h;simp [Al h.2]
theorem M4 (C:Cok T cl X) (S:ScRel sc X) {pos:Pos}:∀ {ms:List M}{es:ve},(∀ m∈ms,Good T cl m)->bI T X.N ms sc es=true->ms.isEmpty=false->PE X (.BoolOp .And es pos) (tM X (aZ ms) (jl cl ms))/\PW X (.BoolOp .And es pos) (tMT X (aZ ms) (jl cl ms))
 | [],es,G,h,hn=>by cases hn
 | m::ms,[],G,h,hn=>by cases h
 | [m],[x],G,h,hn=>by
  simp only [bZ,Bool.and_eq_true] at h;obtain ⟨g1,g2⟩:=G m vz C S h.1;constructor
  .refine bw (Qi g1) fun σ H Q=>?_
   rintro ⟨ρ,Hs,z,hs,hv,h,k⟩;simp only [jl] at h;obtain ⟨d,hd,h1⟩:=aj h;obtain ⟨t,ht,h2⟩:=aj h1;clear h h1;cases iZ ht;cases h2;simp only [aZ] at hv;exact ⟨ρ,Hs,_,hs,hv.l,hd,k⟩
  .have:=Xj (pos:=pos) g2;intro wh pins s σ H Q I hq;refine this wh pins s σ H Q I ?_;obtain ⟨ρ,Hs,z,hs,hv,h,k⟩:=hq;simp only [jl] at h;obtain ⟨d,hd,h1⟩:=aj h;obtain ⟨t,ht,h2⟩:=aj h1;clear h h1;cases iZ ht;cases h2;simp only [aZ] at hv;exact ⟨ρ,Hs,_,hs,hv.l,hd,k⟩
 | [m],x::y::es,G,h,hn=>by rw [bZ,pF] at h;simp at h
 | m::m'::ms,[x],G,h,hn=>by rw [bZ,CZ] at h;simp at h
 | m::m'::ms,x::y::es,G,h,hn=>by
  have h':=h;simp only [bZ,Bool.and_eq_true] at h;obtain ⟨g1,g2⟩:=G m vz C S h.1;obtain ⟨i1,i2⟩:=M4 C S (pos:=pos) (ms:=m'::ms) (es:=y::es) (fun q hq=>G q (vy _ hq)) (by simp only [bZ,Bool.and_eq_true];exact h.2) rfl;constructor
  .refine bw (aa5 g1 i1) fun σ H Q=>?_
   rintro ⟨ρ,Hs,z,hs,hv,h,k⟩;simp only [jl] at h;obtain ⟨d,hd,h1⟩:=aj h;obtain ⟨t,ht,h2⟩:=aj h1;clear h h1;cases iZ ht;rw [aZ] at hv;refine ⟨ρ,Hs,_,hs,hv.l,hd,fun v H1 Hs1 g1 r1=>⟨t,nQ.mp r1,?_⟩⟩;cases t with
   | false=>rw [if_neg (by decide)];rw [if_neg (by decide)] at h2;cases h2;exact (k.grow g1).bl g1.sub
   | true=>rw [if_pos rfl];rw [if_pos rfl] at h2;exact ⟨ρ,Hs1,z,g1.sub,hv.r.mono (g1.same hs),h2,k.grow g1⟩
  .have:=aa1 (pos:=pos) g2 i2;intro wh pins s σ H Q I hq;refine this wh pins s σ H Q I ?_;obtain ⟨ρ,Hs,z,hs,hv,h,k⟩:=hq;simp only [jl] at h;obtain ⟨d,hd,h1⟩:=aj h;obtain ⟨t,ht,h2⟩:=aj h1;clear h h1;cases iZ ht;rw [aZ] at hv;refine ⟨ρ,Hs,t,hs,hv.l,hd,fun H1 Hs1 g1=>?_⟩;cases t with
   | false=>rw [if_neg (by decide)];rw [if_neg (by decide)] at h2;cases h2;exact k H1 Hs1 g1
   | true=>rw [if_pos rfl];rw [if_pos rfl] at h2;exact ⟨ρ,Hs1,z,g1.sub,hv.r.mono (g1.same hs),h2,fun H' Hs' g=>k H' Hs' (g1.trans g)⟩
def vK {d:D}{t:Bool} (hc:tK c=false) (h:jw c d=.ok t):d=.bl t:=by
 cases d <;> try (cases h;done)
 .cases h;rfl
 .rename_i ds;replace h:(if tK c=true then R.ok (!ds.isEmpty) else .stuck)=.ok t:=h;rw [hc] at h;cases h
def tMC (X:Cx) (cl:Nat->List D->R D) (c:M):TT:=fun σ H Q=>∃ ρ Hs d b,Same Hs H/\Vs (gOf X) ρ σ Hs (aD c)/\evE cl c ρ=.ok d/\jw c d=.ok b/\∀ H' Hs',Grow H Hs H' Hs'->Q b H'
def Ag {c':Expr} (G:Good T cl c) (C:Cok T cl X) (S:ScRel sc X) (h1:okE T X.N c sc c'=true):PT X c' (tMC X cl c):=by
 intro pins s σ H Q I;rintro ⟨ρ,Hs,d,b,hs,hv,hd,ht,k⟩;cases d <;> try (cases ht;done)
 .cases ht;exact (G C S h1).2 pins s σ H Q I ⟨ρ,Hs,_,hs,hv,hd,k⟩
 .rename_i ds;cases c <;> try (cases ht;done)
  cases ht;obtain ⟨x,y,z,p,rfl⟩:=pq h1;refine Wm (G C S h1).1 (nu rfl) pins s σ H Q I ⟨ρ,Hs,_,hs,hv,hd,fun v H1 Hs1 g1 r1=>?_⟩;obtain ⟨a,xs,rfl,hx,hr⟩:=bT.mp r1;refine ⟨_,.inl ⟨xs,aN g1.sub hx,rfl⟩,?_⟩;have e:(!xs.isEmpty)=!ds.isEmpty:=by
   have:=hr.length;cases xs <;> cases ds <;> first | rfl | (simp at this)
  rw [e];exact k _ _ g1
theorem Oc (C:Cok T cl X) (S:ScRel sc X) {pos:Pos}:∀ {ms:List M}{es:ve},(∀ m∈ms,Good T cl m)->bI T X.N ms sc es=true->ms.isEmpty=false->PW X (.BoolOp .Or es pos) (tMT X (aZ ms) (uE cl ms))
 | [],es,G,h,hn=>by cases hn
 | m::ms,[],G,h,hn=>by cases h
 | [m],[x],G,h,hn=>by
  simp only [bZ,Bool.and_eq_true] at h;intro wh pins s σ H Q I hq;refine aaS (pos:=pos) (Ag (G m vz) C S h.1) wh pins s σ H Q I ?_;obtain ⟨ρ,Hs,z,hs,hv,h,k⟩:=hq;rw [wV] at h;obtain ⟨d,hd,h1⟩:=aj h;obtain ⟨t,ht,h2⟩:=aj h1;clear h h1;cases h2;exact ⟨ρ,Hs,d,_,hs,Vs.l hv,hd,ht,k⟩
 | [m],x::y::es,G,h,hn=>by rw [bZ,pF] at h;simp at h
 | m::m'::ms,[x],G,h,hn=>by rw [bZ,CZ] at h;simp at h
 | m::m'::ms,x::y::es,G,h,hn=>by
  simp only [bZ,Bool.and_eq_true] at h;have i2:=Oc C S (pos:=pos) (ms:=m'::ms) (es:=y::es) (fun q hq=>G q (vy _ hq)) (by simp only [bZ,Bool.and_eq_true];exact h.2) rfl;intro wh pins s σ H Q I hq;refine abO (pos:=pos) (Ag (G m vz) C S h.1) i2 wh pins s σ H Q I ?_;obtain ⟨ρ,Hs,z,hs,hv,h,k⟩:=hq;rw [qd] at h;obtain ⟨d,hd,h1⟩:=aj h;obtain ⟨t,ht,h2⟩:=aj h1;clear h h1;rw [aZ] at hv;refine ⟨ρ,Hs,d,t,hs,hv.l,hd,ht,fun H1 Hs1 g1=>?_⟩;cases t with
  | true=>rw [if_pos rfl];rw [if_pos rfl] at h2;cases h2;exact k H1 Hs1 g1
  | false=>rw [if_neg (by decide)];rw [if_neg (by decide)] at h2;exact ⟨ρ,Hs1,z,g1.sub,hv.r.mono (g1.same hs),h2,fun H' Hs' g=>k H' Hs' (g1.trans g)⟩
theorem W9 (C:Cok T cl X) (S:ScRel sc X) {pos:Pos}:∀ {ms:List M}{es:ve},(∀ m∈ms,Good T cl m)->bI T X.N ms sc es=true->ms.isEmpty=false->ms.all (fun m=>!tK m)=true->PE X (.BoolOp .Or es pos) (tM X (aZ ms) (uE cl ms))
 | [],es,G,h,hn,hc=>by cases hn
 | m::ms,[],G,h,hn,hc=>by cases h
 | [m],[x],G,h,hn,hc=>by
  simp only [bZ,Bool.and_eq_true] at h;simp only [List.all_cons,Bool.and_eq_true,Bool.not_eq_true'] at hc;refine bw (Qi (G m vz C S h.1).1) fun σ H Q=>?_
  rintro ⟨ρ,Hs,z,hs,hv,h,k⟩;rw [wV] at h;obtain ⟨d,hd,h1⟩:=aj h;obtain ⟨t,ht,h2⟩:=aj h1;clear h h1;cases vK hc.1 ht;cases h2;exact ⟨ρ,Hs,_,hs,Vs.l hv,hd,k⟩
 | [m],x::y::es,G,h,hn,hc=>by rw [bZ,pF] at h;simp at h
 | m::m'::ms,[x],G,h,hn,hc=>by rw [bZ,CZ] at h;simp at h
 | m::m'::ms,x::y::es,G,h,hn,hc=>by
  simp only [bZ,Bool.and_eq_true] at h;have hc':=hc;rw [List.all_cons,Bool.and_eq_true,Bool.not_eq_true'] at hc';have i1:=W9 C S (pos:=pos) (ms:=m'::ms) (es:=y::es) (fun q hq=>G q (vy _ hq)) (by simp only [bZ,Bool.and_eq_true];exact h.2) rfl hc'.2;refine bw (acp (G m vz C S h.1).1 i1) fun σ H Q=>?_
  rintro ⟨ρ,Hs,z,hs,hv,h,k⟩;rw [qd] at h;obtain ⟨d,hd,h1⟩:=aj h;obtain ⟨t,ht,h2⟩:=aj h1;clear h h1;cases vK hc'.1 ht;rw [aZ] at hv;refine ⟨ρ,Hs,_,hs,hv.l,hd,fun v H1 Hs1 g1 r1=>⟨t,nQ.mp r1,?_⟩⟩;cases t with
  | true=>rw [if_pos rfl];rw [if_pos rfl] at h2;cases h2;exact (k.grow g1).bl g1.sub
  | false=>rw [if_neg (by decide)];rw [if_neg (by decide)] at h2;exact ⟨ρ,Hs1,z,g1.sub,hv.r.mono (g1.same hs),h2,k.grow g1⟩
def sJ (C:Cok T cl X) (S:ScRel sc X) {k:IK}{src:List M}{tg iter:Expr} (G:∀ m∈src,Good T cl m) (h1:iB sc k tg iter=true) (h2:bI T X.N src sc (iY k iter)=true) :
  PI X tg iter (tI X (aZ src) fun ρ=>do let ss <- cB cl src ρ;itemsOf k ss):=by
 cases k with
 | seq =>
  rcases src with _ | ⟨m,_ | ⟨m',ms⟩⟩
  .cases h2
  .replace h2:(okE T X.N m sc iter && bI T X.N [] sc [])=true:=h2;simp only [Bool.and_eq_true] at h2;have g:=(G m vz C S h2.1).1;intro pins s σ H R I hq;refine aaF g pins s σ H R I ?_;obtain ⟨ρ,Hs,ds,hs,hv,h,k⟩:=hq;simp only [qK,qa] at h;simp only [Td,J3] at hv;obtain ⟨ss,hss,h3⟩:=aj h;obtain ⟨d,hd,h4⟩:=aj hss;simp only [qT] at h4;cases h4;exact ⟨ρ,Hs,ds,hs,hv.l,by simp only [hd,qT];exact h3,k⟩
  ·(replace h2:(okE T X.N m sc iter && false)=true:=h2;simp at h2)
 | rng =>
  .obtain ⟨f,p,es,q,rfl,h3⟩:=cN h1;simp only [Bool.and_eq_true,decide_eq_true_eq,Bool.or_eq_true] at h3;obtain ⟨⟨⟨rfl,hg⟩,hl⟩,hn⟩:=h3;have gg:=S.glb _ hg;replace h2:bI T X.N src sc es=true:=h2;have pa:=gq C S G h2 hn;have len:=Al h2;rcases es with _ | ⟨x,_ | ⟨y,_ | ⟨z,zs⟩⟩⟩
   .simp at hl
   .simp only [List.all_cons,List.all_nil,Bool.and_eq_true] at hn;exact Yg C gg hn.1 pa fun ρ ds h=>by rw [zx h,<- len];rfl
   .simp only [List.all_cons,List.all_nil,Bool.and_eq_true] at hn;exact Xr C gg hn.1 hn.2.1 pa fun ρ ds h=>by rw [zx h,<- len];rfl
   .simp at hl
 | enum =>
  .obtain ⟨f,p,es,q,rfl,h3⟩:=cN h1;simp only [Bool.and_eq_true,decide_eq_true_eq] at h3;obtain ⟨⟨⟨⟨rfl,hg⟩,hl⟩,hn⟩,ht⟩:=h3;have gg:=S.glb _ hg;replace h2:bI T X.N src sc es=true:=h2;have pa:=gq C S G h2 hn;rcases es with _ | ⟨x,_ | ⟨y,ys⟩⟩
   .simp at hl
   .simp only [List.all_cons,List.all_nil,Bool.and_eq_true] at hn;cases tg <;> try (cases ht;done)
    exact Xy C gg hn.1 pa
   .simp at hl
 | zip =>
  .obtain ⟨f,p,es,q,rfl,h3⟩:=cN h1;simp only [Bool.and_eq_true,decide_eq_true_eq] at h3;obtain ⟨⟨⟨⟨rfl,hg⟩,hl⟩,hn⟩,ht⟩:=h3;have gg:=S.glb _ hg;replace h2:bI T X.N src sc es=true:=h2;have pa:=gq C S G h2 hn;rcases es with _ | ⟨x,_ | ⟨y,_ | ⟨z,ys⟩⟩⟩
   .simp at hl
   .simp at hl
   .simp only [List.all_cons,List.all_nil,Bool.and_eq_true] at hn;cases tg <;> try (cases ht;done)
    exact ZV C gg hn.1 hn.2.1 pa
   .simp at hl
 | rev =>
  .obtain ⟨f,p,es,q,rfl,h3⟩:=cN h1;simp only [Bool.and_eq_true,decide_eq_true_eq] at h3;obtain ⟨⟨⟨rfl,hg⟩,hl⟩,hn⟩:=h3;have gg:=S.glb _ hg;replace h2:bI T X.N src sc es=true:=h2;have pa:=gq C S G h2 hn;rcases es with _ | ⟨x,_ | ⟨y,ys⟩⟩
   .simp at hl
   .simp only [List.all_cons,List.all_nil,Bool.and_eq_true] at hn;exact abz C gg hn.1 pa
   .simp at hl
end
end Mi
set_option maxHeartbeats 1000000
namespace Mi
open PySem L2
open PyProof.Rows hiding St
variable {i:Nat}{ms src:List M}{a b c lo elt:M}{o:CO}{sc:Scope}{iter:Expr}{k:IK}{tg:Tg}{hc:Bool}{cap:List Bool}
section
variable {T:Tx}{cl:Nat->List D->R D}
theorem VR :Good T cl (.var i):=by
 intro X sc e C S h;have ee:evE cl (.var i)=fun ρ=>bO ρ i:=rfl
 rw [ee];obtain ⟨_,_,rfl⟩:=eY h;rw [Y9] at h;simp only [Bool.and_eq_true,decide_eq_true_eq] at h;exact aV (HB h.2 (S.vis _ h.1.2) h.1.1) rfl
theorem Vk {d:D}:Good T cl (.con d):=by
 intro X sc e C S h;have ee:evE cl (.con d)=fun _=>.ok d:=rfl
 rw [ee];cases e <;> try (cases h;done)
 .exact aV (aaO h) rfl
 .rw [Wy] at h;simp only [Bool.and_eq_true] at h;exact aV (Xm C (S.glb _ h.1.2) h.1.1 (ZP h.2)) rfl
theorem Vd (G:∀ m∈ms,Good T cl m):Good T cl (.tup ms):=by
 intro X sc e C S h;have ee:evE cl (.tup ms)=fun ρ=>(do let ds <- cB cl ms ρ;if ds.length<=lim then .ok (.tup ds) else .stuck):=rfl
 rw [ee];obtain ⟨_,_,_,rfl⟩:=Ek h;rw [Xl] at h;simp only [Bool.and_eq_true] at h;exact aV (aa6 (gq C S G h.1 h.2)) rfl
theorem UJ (G:∀ m∈ms,Good T cl m):Good T cl (.lst ms):=by
 intro X sc e C S h;have ee:evE cl (.lst ms)=fun ρ=>(do let ds <- cB cl ms ρ;if ds.length<=lim then .ok (.lst ds) else .stuck):=rfl
 rw [ee];obtain ⟨_,_,rfl⟩:=tX h;rw [Lj] at h;simp only [Bool.and_eq_true] at h;exact aV (abB (gq C S G h.1 h.2)) rfl
def Vf:Good T cl .dct0:=by
 intro X sc e C S h;have ee:evE cl .dct0=fun _=>.ok (.dct [] []):=rfl
 rw [ee];obtain ⟨ks,vs,p,rfl⟩:=Iv h;cases ks <;> cases vs <;> first | exact aV abr rfl | cases h
theorem Us {o:BO} (ga:Good T cl a) (gb:Good T cl b):Good T cl (.bin o a b):=by
 intro X sc e C S h;have ee:evE cl (.bin o a b)=fun ρ=>(do let x <- evE cl a ρ;let y <- evE cl b ρ;jD o x y):=rfl
 rw [ee];obtain ⟨_,_,_,_,rfl⟩:=Tw h;rw [Xo] at h;simp only [Bool.and_eq_true] at h;cases aaA h.1.1;exact aV (aa4 o (ga C S h.1.2).1 (gb C S h.2).1) rfl
def Wk (ga:Good T cl a) (gb:Good T cl b):Good T cl (.cmp o a b):=by
 intro X sc e C S h;have ee:evE cl (.cmp o a b)=fun ρ=>(do let x <- evE cl a ρ;let y <- evE cl b ρ;let r <- bQ o x y;.ok (.bl r)):=rfl
 rw [ee];obtain ⟨x,ops,cs,p,rfl⟩:=yE h;rcases ops with _ | ⟨op,_ | ⟨op2,ops⟩⟩ <;> rcases cs with _ | ⟨y,_ | ⟨y2,cs⟩⟩ <;> try (cases h;done)
 rw [Zq] at h;simp only [Bool.and_eq_true] at h;cases JD h.1.1.1;exact ⟨aad C.un o (ga C S h.1.2).1 (gb C S h.2).1 h.1.1.2,aao C.un o (ga C S h.1.2).1 (gb C S h.2).1 h.1.1.2⟩
def O9 {o':CO} (ga:Good T cl a) (gb:Good T cl b) (gc:Good T cl c):Good T cl (.chain o o' a b c):=by
 intro X sc e C S h;have ee:evE cl (.chain o o' a b c)=fun ρ=>(do let x <- evE cl a ρ;let y <- evE cl b ρ;let r <- bQ o x y;if r then do let z <- evE cl c ρ;let r2 <- bQ o' y z;.ok (.bl r2) else .ok (.bl false)):=rfl
 rw [ee];obtain ⟨x,ops,cs,p,rfl⟩:=yE h;rcases ops with _ | ⟨op,_ | ⟨op2,_ | ⟨op3,ops⟩⟩⟩ <;> rcases cs with _ | ⟨y,_ | ⟨y2,_ | ⟨y3,cs⟩⟩⟩ <;> try (cases h;done)
 rw [RG] at h;simp only [Bool.and_eq_true] at h;obtain ⟨⟨⟨⟨⟨⟨h1,h2⟩,h3⟩,h4⟩,h5⟩,h6⟩,h7⟩:=h;cases JD h1;cases JD h2;exact ⟨U6 C.un o o' (ga C S h5).1 (gb C S h6).1 (gc C S h7).1 h4,V8 C.un o o' (ga C S h5).1 (gb C S h6).1 (gc C S h7).1 h4⟩
def Wo (G:∀ m∈ms,Good T cl m):Good T cl (.and ms):=by
 intro X sc e C S h;have ee:evE cl (.and ms)=jl cl ms:=rfl;rw [ee];obtain ⟨op,es,p,rfl⟩:=uM h;cases op <;> try (cases h;done)
 rw [Yr] at h;simp only [Bool.and_eq_true,Bool.not_eq_true'] at h;obtain ⟨h1,h2⟩:=M4 C S (pos:=p) G h.1 h.2;exact ⟨h1,h2.pt⟩
def Yb (G:∀ m∈ms,Good T cl m):Good T cl (.or ms):=by
 intro X sc e C S h;have ee:evE cl (.or ms)=uE cl ms:=rfl;rw [ee];obtain ⟨op,es,p,rfl⟩:=uM h;cases op <;> try (cases h;done)
 rw [aaG] at h;simp only [Bool.and_eq_true,Bool.not_eq_true'] at h;exact ⟨W9 C S G h.1.1 h.1.2 (by simpa using h.2),(Oc C S G h.1.1 h.1.2).pt⟩
def UG (ga:Good T cl a):Good T cl (.not a):=by
 intro X sc e C S h;have ee:evE cl (.not a)=fun ρ=>(do let x <- evE cl a ρ;let t <- cJ x;.ok (.bl (!t))):=rfl
 rw [ee];obtain ⟨op,x,p,rfl⟩:=yH h;cases op <;> try (cases h;done)
 exact ⟨Z0 (ga C S h).1,abq (ga C S h).2⟩
theorem V1 (ga:Good T cl a):Good T cl (.neg a):=by
 intro X sc e C S h;have ee:evE cl (.neg a)=fun ρ=>(do let x <- evE cl a ρ;(match x with | .int i=>.ok (.int (-i)) | _=>.stuck)):=rfl
 rw [ee];obtain ⟨op,x,p,rfl⟩:=yH h;cases op <;> try (cases h;done)
 exact aV (aau (ga C S h).1) rfl
theorem Ye (ga:Good T cl a) (gb:Good T cl b):Good T cl (.ix a b):=by
 intro X sc e C S h;have ee:evE cl (.ix a b)=fun ρ=>(do let x <- evE cl a ρ;let y <- evE cl b ρ;ixD x y):=rfl
 rw [ee];obtain ⟨_,_,_,rfl⟩:=m9 h;rw [abC] at h;simp only [Bool.and_eq_true] at h;exact aV (ach C.un (ga C S h.1.2).1 (gb C S h.2).1 h.1.1) rfl
def Lz {X:Cx}{l:Option Expr} (C:Cok T cl X) (S:ScRel sc X) (g:Good T cl lo) (h:(match l with | none=>dB lo | some y=>!dB lo && okE T X.N lo sc y)=true) :
  PO X l (tPo X (aD lo) fun ρ=>if dB lo then .ok none else (do let d <- evE cl lo ρ;mq d)):=by
 cases l with
 | none =>
  simp only at h;simp only [h,if_true];exact acS
 | some y =>
  simp only [Bool.and_eq_true,Bool.not_eq_true'] at h;simp only [h.1];exact acD (g C S h.2).1
theorem Wj {hi:M} (ga:Good T cl a) (gl:Good T cl lo) (gh:Good T cl hi):Good T cl (.slc a lo hi):=by
 intro X sc e C S h;have ee:evE cl (.slc a lo hi)=fun ρ=>(do
  let x <- evE cl a ρ
  let l <- (if dB lo then .ok none else (do let d <- evE cl lo ρ;mq d))
  let h <- (if dB hi then .ok none else (do let d <- evE cl hi ρ;mq d))
  slD x l h):=rfl
 rw [ee];obtain ⟨x,sl,p,rfl⟩:=m9 h;obtain ⟨l,u,st,p2,rfl⟩:=PX (show (isK 26 sl && _)=true from h);cases st <;> try (cases h;done)
 rw [Ze] at h;simp only [Bool.and_eq_true] at h;exact aV (aam (ga C S h.1.1).1 (Lz C S gl h.1.2) (Lz C S gh h.2)) rfl
theorem Sd {f:Nat} (G:∀ m∈ms,Good T cl m):Good T cl (.call f ms):=by
 intro X sc e C S h;have ee:evE cl (.call f ms)=fun ρ=>(do let ds <- cB cl ms ρ;cl f ds):=rfl
 rw [ee];obtain ⟨_,_,es,p,rfl,h9⟩:=cN h;replace h:=h9;clear h9;simp only [Bool.and_eq_true,decide_eq_true_eq] at h;obtain ⟨⟨⟨⟨h1,h2⟩,h3⟩,h4⟩,h5⟩:=h;cases es with
 | nil =>
  have:=Al h4;cases ms with
  | nil =>
   simp only [Vq,J3,qa];exact aV (Wq C (S.glb _ h2) h1 h3) rfl
  | cons _ _=>simp at this
 | cons x xs=>exact aV (Yn C (S.glb _ h2) h1 h3 (gq C S G h4 h5) h5) rfl
theorem Ui {b:BI} (G:∀ m∈ms,Good T cl m):Good T cl (.blt b ms):=by
 intro X sc e C S h;have ee:evE cl (.blt b ms)=fun ρ=>(do let ds <- cB cl ms ρ;fM b ds):=rfl
 rw [ee];obtain ⟨_,_,es,p,rfl,h9⟩:=cN h;replace h:=h9;clear h9;simp only [Bool.and_eq_true,decide_eq_true_eq,Bool.not_eq_true'] at h;obtain ⟨⟨⟨⟨h1,h2⟩,h3⟩,h4⟩,h5⟩:=h;cases es with
 | nil=>cases h3
 | cons x xs =>
  by_cases hb:b=.listEnum
  .subst hb;cases xs with
   | cons _ _=>simp at h5
   | nil =>
    obtain ⟨_,_,es2,p2,rfl,h10⟩:=cN h5;replace h5:=h10;clear h10;simp only [Bool.and_eq_true,decide_eq_true_eq] at h5;obtain ⟨⟨⟨⟨q1,q2⟩,q3⟩,q4⟩,q5⟩:=h5;subst q1 h1;rcases es2 with _ | ⟨y,_ | ⟨y2,ys⟩⟩
    .simp at q5
    .have q4':=q4;simp only [List.all_cons,List.all_nil,Bool.and_eq_true] at q4';exact aV (Ko C (S.glb _ q2) (S.glb _ h2) (gq C S G q3 q4) q4'.1) rfl
    .simp at q5
  .by_cases hb2:b=.listRev
   .subst hb2;cases xs with
    | cons _ _=>simp at h5
    | nil =>
     obtain ⟨_,_,es2,p2,rfl,h10⟩:=cN h5;replace h5:=h10;clear h10;simp only [Bool.and_eq_true,decide_eq_true_eq] at h5;obtain ⟨⟨⟨⟨q1,q2⟩,q3⟩,q4⟩,q5⟩:=h5;subst q1 h1;rcases es2 with _ | ⟨y,_ | ⟨y2,ys⟩⟩
     .simp at q5
     .have q4':=q4;simp only [List.all_cons,List.all_nil,Bool.and_eq_true] at q4';exact aV (Ox C (S.glb _ q2) (S.glb _ h2) (gq C S G q3 q4) q4'.1) rfl
     .simp at q5
   .have hp:Dn b=true:=by
     cases b <;> first | rfl | exact absurd rfl hb | exact absurd rfl hb2 | cases h5
    have h6:bI T X.N ms sc (x::xs)=true:=by
     cases b <;> first | exact absurd rfl hb | exact absurd rfl hb2 | exact h5 | cases hp
    exact aV (abA b C h1 (S.glb _ h2) (gq C S G h6 h4) h4 hp) rfl
theorem Rg {k d:M} (gk:Good T cl k) (gd:Good T cl d):Good T cl (.dget a k d):=by
 intro X sc e C S h;have h0:(Q0 a && Jb "get" e _)=true:=h
 rw [Bool.and_eq_true] at h0;cases a <;> try (cases h0.1;done)
 rename_i i;have ee:evE cl (.dget (.var i) k d)=fun ρ=>(do let x <- bO ρ i;let y <- evE cl k ρ;let z <- evE cl d ρ;uL x y z):=rfl
 rw [ee];obtain ⟨x,p,ap,y,z,cp,rfl,hl,h9⟩:=M5 h0.2;simp only [Bool.and_eq_true,decide_eq_true_eq] at h9;obtain ⟨⟨⟨⟨⟨⟨h1,h2⟩,h3⟩,h4⟩,h5⟩,h6⟩,h7⟩:=h9;exact aV (Zt C.un h3 (S.vis _ h1) h2 (gk C S h4).1 (gd C S h5).1 h6 h7 hl) rfl
theorem Qc {k:Int} (ga:Good T cl a):Good T cl (.maxd a k):=by
 intro X sc e C S h;obtain ⟨x,p,y,j,q,r,cp,rfl,h9⟩:=X8 h;simp only [Bool.and_eq_true,decide_eq_true_eq] at h9;obtain ⟨⟨⟨rfl,h2⟩,h3⟩,h4⟩:=h9;exact aV (Zc C (S.glb _ h2) (ga C S h3).1 h4) rfl
theorem Wf {m:M} (gm:Good T cl m):Good T cl (.idx i m):=by
 intro X sc e C S h;obtain ⟨x,p,n,ap,v,cp,rfl,h9⟩:=Hf h;simp only [Bool.and_eq_true,decide_eq_true_eq] at h9;obtain ⟨⟨⟨⟨⟨⟨rfl,h2⟩,h3⟩,h4⟩,h5⟩,h6⟩,h7⟩:=h9;exact aV (aaB h5 (S.vis _ h3) h4 (gm C S h6).1 h7 h2) rfl
theorem QF {t:Ty} (ga:Good T cl a):Good T cl (.isin a t):=by
 intro X sc e C S h;have ee:evE cl (.isin a t)=fun ρ=>(do let x <- evE cl a ρ;.ok (.bl (jN x t))):=rfl
 rw [ee];obtain ⟨_,_,es,p,rfl,h9⟩:=cN h;replace h:=h9;clear h9;rcases es with _ | ⟨y,_ | ⟨z,_ | ⟨z2,zs⟩⟩⟩ <;> try (cases h;done)
 obtain ⟨_,_,rfl⟩:=eY (show (isK 23 z && _)=true from h);replace h:(decide (_=("isinstance":Str)) && eV sc _ && okE T X.N a sc y && noStar y && decide (_=t.nm) && eV sc _)=true:=h
 simp only [Bool.and_eq_true,decide_eq_true_eq] at h;obtain ⟨⟨⟨⟨⟨h1,h2⟩,h3⟩,h4⟩,h5⟩,h6⟩:=h;subst h1 h5;exact aV (YH C t (S.glb _ h2) (S.glb _ h6) (ga C S h3).1 h4) rfl
def sO {env:Env} (h:fJ iter=true):∀ x,foldedSetIterable iter env x=pure x:=by
 intro x;cases iter <;> first | rfl | cases h
theorem oK {tg:Expr} (h:iB sc k tg iter=true):fJ iter=true:=by
 cases k
 .exact h
 .obtain ⟨_,_,_,_,rfl,_⟩:=cN h;rfl
 .obtain ⟨_,_,_,_,rfl,_⟩:=cN h;rfl
 .obtain ⟨_,_,_,_,rfl,_⟩:=cN h;rfl
 .obtain ⟨_,_,_,_,rfl,_⟩:=cN h;rfl
theorem MP :evE cl (.comp elt tg k src hc c cap)=fun ρ=>(do
   let items <- (do let ss <- cB cl src ρ;itemsOf k ss)
   let ys <- iz (fun d=>do
    let ρ' <- dw tg d (bA cap ρ)
    let b <- (if hc then (do let x <- evE cl c ρ';cJ x) else .ok true)
    if b then do let y <- evE cl elt ρ';.ok (some y) else .ok none) items
   if ys.length<=lim then .ok (.lst ys) else .stuck):=funext fun ρ=>by
  simp only [qZ];cases cB cl src ρ <;> simp
def Qo (ge:Good T cl elt) (gc:Good T cl c) (G:∀ m∈src,Good T cl m):Good T cl (.comp elt tg k src hc c cap):=by
 intro X sc e C S h;rw [MP];obtain ⟨elt',gens,scope,p,rfl⟩:=pq h;rcases gens with _ | ⟨⟨tg',iter,ifs,as⟩,_ | ⟨g2,gs⟩⟩ <;> try (cases h;done)
 rw [Hv] at h;simp only [Bool.and_eq_true,decide_eq_true_eq] at h;obtain ⟨⟨⟨⟨⟨⟨⟨h1,h2⟩,h3⟩,h4⟩,h5⟩,h6⟩,h7⟩,h8⟩:=h;subst h1;refine aV ?_ rfl;refine bw (yF C.calm (sJ C S G h4 h5) (Ih h2 S) (g:=gTg X.K tg) (tt:=tHc X hc (aD c) (evE cl c)) (te:=tM X (aD elt) (evE cl elt)) (fun s₃ H₃ fp xe=>?_) (sO (oK h4))) fun σ H Q hq=>?_
 .have S':ScRel scope (cO X scope s₃ H₃ fp xe):=Fo S;have C':=C.blk scope s₃ H₃ fp xe;refine ⟨jg C' S' h3,?_,(ge C' S' h7).1⟩;cases hc with
  | true =>
   rcases ifs with _ | ⟨i1,_ | ⟨i2,is⟩⟩ <;> try (cases h6;done)
   exact Lf (gc C' S' h6).2
  | false =>
   rcases ifs with _ | ⟨i1,is⟩ <;> try (cases h6;done)
   exact MF
 .exact Eo h3 h8 (acQ hq)
theorem good:∀ m:M,Good T cl m
 | .var i=>VR
 | .con d=>Vk
 | .tup ms=>Vd fun m hm=>good m
 | .lst ms=>UJ fun m hm=>good m
 | .dct0=>Vf
 | .bin o a b=>Us (good a) (good b)
 | .cmp o a b=>Wk (good a) (good b)
 | .chain o o' a b c=>O9 (good a) (good b) (good c)
 | .and ms=>Wo fun m hm=>good m
 | .or ms=>Yb fun m hm=>good m
 | .not a=>UG (good a)
 | .neg a=>V1 (good a)
 | .ix a b=>Ye (good a) (good b)
 | .slc a l h=>Wj (good a) (good l) (good h)
 | .dget a k d=>Rg (good k) (good d)
 | .maxd a k=>Qc (good a)
 | .idx i e=>Wf (good e)
 | .call f ms=>Sd fun m hm=>good m
 | .blt b ms=>Ui fun m hm=>good m
 | .isin a t=>QF (good a)
 | .comp elt tg k src hc c cap=>Qo (good elt) (good c) fun m hm=>good m
termination_by m=>sizeOf m
decreasing_by
 all_goals simp_wf
 all_goals first | omega | (have:=List.sizeOf_lt_of_mem hm;omega)
end
end Mi
set_option maxHeartbeats 1000000
namespace Mi
open PySem L2
open PyProof.Rows hiding St
noncomputable def fH:Expr->Bool
 | .ListComp ..=>false | .SetComp ..=>false | .DictComp ..=>false | _=>true
noncomputable def tu:M->Bool
 | .comp ..=>true | _=>false
def Pz (st:Stmt) (f:Str->Str->Expr->Bool->Bool):Bool:=isS 24 st && match st with
 | .Expr e _=>GX e f
 | _=>false
variable {st:Stmt}
def G3 {f:Str->Str->Expr->Bool->Bool} (h:Pz st f=true):∃ x p m ap v cp q,st=.Expr (.Call (.Attribute (.Name x p) m ap) [v] [] cp) q/\f x m v (ap.endLine == cp.line)=true:=by
 obtain ⟨e,q,rfl⟩:=uh h;obtain ⟨x,p,m,ap,v,cp,rfl,h2⟩:=Hf (show GX e f=true from h);exact ⟨x,p,m,ap,v,cp,q,rfl,h2⟩
def Xa (st:Stmt) (f:Str->Expr->Expr->Bool):Bool:=isS 5 st && match st with
 | .Assign ts v _=>(match ts with
  | [tg]=>isK 21 tg && (match tg with | .Subscript o k _=>isK 23 o && (match o with | .Name x _=>f x k v | _=>false) | _=>false)
  | _=>false)
 | _=>false
def VH {f:Str->Expr->Expr->Bool} (h:Xa st f=true):∃ x p k p2 v q,st=.Assign [.Subscript (.Name x p) k p2] v q/\f x k v=true:=by
 obtain ⟨ts,v,q,rfl⟩:=jo h;rcases ts with _ | ⟨tg,_ | ⟨tg2,ts⟩⟩ <;> try (cases h;done)
 obtain ⟨o,k,p2,rfl⟩:=m9 (show (isK 21 tg && _)=true from h);obtain ⟨x,p,rfl⟩:=eY (show (isK 23 o && _)=true from h);exact ⟨x,p,k,p2,v,q,rfl,h⟩
def jB:Tg->Expr->Bool
 | .one _,_=>true
 | _,v=>!Ik v
def nilB (e:Expr):Bool:=isK 24 e && match e with | .List [] _=>true | _=>false
def Yy {e:Expr} (h:nilB e=true):∃ p,e=.List [] p:=by
 obtain ⟨es,p,rfl⟩:=tX h;cases es with
 | nil=>exact ⟨p,rfl⟩
 | cons _ _=>cases h
def nmB (N:z0) (sc:Scope) (i:Nat) (e:Expr):Bool:=isK 23 e && match e with | .Name x _=>aJ x && fu sc x && decide (N[i]?=some x) | _=>false
variable {N:z0}{sc:Scope}{i:Nat}
def Bm {e:Expr} (h:nmB N sc i e=true):∃ x p,e=.Name x p/\aJ x=true/\fu sc x=true/\N[i]?=some x:=by
 obtain ⟨x,p,rfl⟩:=eY h;have h2:(aJ x && fu sc x && decide (N[i]?=some x))=true:=h;simp only [Bool.and_eq_true,decide_eq_true_eq] at h2;exact ⟨x,p,rfl,h2.1.1,h2.1.2,h2.2⟩
def sdB (e:Expr) (f:Str->Expr->Expr->Bool):Bool:=isK 16 e && match e with
 | .Call g es ks cp=>isK 20 g && (match g with
  | .Attribute c m ap=>isK 16 c && (match c with
   | .Call g2 es2 ks2 cp2=>isK 20 g2 && (match g2 with
    | .Attribute o m2 ap2=>isK 23 o && (match o,es,ks,es2,ks2 with
     | .Name x _,[v],[],[k,d],[]=>isK 24 d && (match d with
      | .List [] _=>decide (m="append") && decide (m2="setdefault") && (ap.endLine == cp.line) && (ap2.endLine == cp2.line) && f x k v
      | _=>false)
     | _,_,_,_,_=>false)
    | _=>false)
   | _=>false)
  | _=>false)
 | _=>false
def aaL {e:Expr}{f:Str -> Expr -> Expr -> Bool} (h:sdB e f=true):∃ x p k lp ap2 cp2 v ap cp,e=.Call (.Attribute (.Call (.Attribute (.Name x p) "setdefault" ap2) [k,.List [] lp] [] cp2) "append" ap) [v] [] cp /\ (ap.endLine == cp.line)=true /\ (ap2.endLine == cp2.line)=true /\ f x k v=true:=by
 obtain ⟨g,es,ks,cp,rfl⟩:=lJ h;obtain ⟨c,m,ap,rfl⟩:=jx (show (isK 20 g && _)=true from h);obtain ⟨g2,es2,ks2,cp2,rfl⟩:=lJ (show (isK 16 c && _)=true from h);obtain ⟨o,m2,ap2,rfl⟩:=jx (show (isK 20 g2 && _)=true from h);obtain ⟨x,p,rfl⟩:=eY (show (isK 23 o && _)=true from h);rcases es with _ | ⟨v,_ | ⟨v2,es⟩⟩ <;> try (cases h;done)
 rcases ks with _ | ⟨k,ks⟩ <;> try (cases h;done)
 rcases es2 with _ | ⟨k,_ | ⟨d,_ | ⟨d2,es2⟩⟩⟩ <;> try (cases h;done)
 rcases ks2 with _ | ⟨k2,ks2⟩ <;> try (cases h;done)
 obtain ⟨l,lp,rfl⟩:=tX (show (isK 24 d && _)=true from h);rcases l with _ | ⟨a,l⟩ <;> try (cases h;done)
 have h2:(decide (m="append") && decide (m2="setdefault") && (ap.endLine == cp.line) && (ap2.endLine == cp2.line) && f x k v)=true:=h
 simp only [Bool.and_eq_true,decide_eq_true_eq] at h2;obtain ⟨⟨⟨⟨rfl,rfl⟩,h3⟩,h4⟩,h5⟩:=h2;exact ⟨x,p,k,lp,ap2,cp2,v,ap,cp,rfl,h3,h4,h5⟩
def okG (T:Tx) (N:z0) (sc:Scope) (i:Nat):GS->Stmt->Bool
 | .sda k v,st=>isS 24 st && match st with
  | .Expr e _=>sdB e fun x k' v'=>fu sc x && aJ x && decide (N[i]?=some x) && okE T N k sc k' && okE T N v sc v' && noStar k' && noStar v'
  | _=>false
 | .forr t ik src b,st=>isS 9 st && match st with
  | .For tg iter body els _=>els.isEmpty && (tgB N sc t tg && iB sc ik tg iter && bI T N src sc (iY ik iter) && (match body with | [s]=>okG T N sc i b s | _=>false))
  | _=>false
mutual
noncomputable def okS (T:Tx) (N:z0) (sc:Scope):MS->Stmt->Bool
 | .set t e,st=>isS 5 st && match st with | .Assign [tg] v _=>tgB N sc t tg && okE T N e sc v && (fH v || tu e) && jB t v | _=>false
 | .app i e,st=>Pz st fun x m v b=>fu sc x && aJ x && decide (N[i]?=some x) && decide (m="append") && okE T N e sc v && noStar v && b
 | .ext i e,st=>Pz st fun x m v b=>fu sc x && aJ x && decide (N[i]?=some x) && decide (m="extend") && okE T N e sc v && noStar v && b
 | .expr e,st=>isS 24 st && match st with | .Expr v _=>okE T N e sc v && fH v | _=>false
 | .ret e,st=>isS 3 st && match st with
  | .Return (some v) _=>okE T N e sc v
  | .Return none _=>dB e
  | _=>false
 | .ifs c a b,st=>isS 12 st && match st with | .If c' a' b' _=>okC T N c sc c' && okB T N sc a a' && okB T N sc b b' | _=>false
 | .forr t k src b,st=>isS 9 st && match st with | .For tg iter body els _=>els.isEmpty && (tgB N sc t tg && iB sc k tg iter && bI T N src sc (iY k iter) && okB T N sc b body) | _=>false
 | .rai,st=>match st with | .Raise ..=>true | _=>false
 | .chk _ _,_=>false
 | .grp i g,st=>okG T N sc i g st
 | .dpop t i k,st=>isS 5 st && match st with
  | .Assign [tg] v _=>tgB N sc (.one t) tg && Jb "pop" v fun x k' l=>fu sc x && aJ x && decide (N[i]?=some x) && okE T N k sc k' && noStar k' && nilB l
  | _=>false
 | .lset i k v,st=>Xa st fun x k' v'=>fu sc x && aJ x && decide (N[i]?=some x) && lM k' && okE T N k sc k' && okE T N v sc v' && fH v'
 | .whl c b,st=>isS 11 st && match st with | .While c' b' els _=>els.isEmpty && okE T N c sc c' && okB T N sc b b' | _=>false
 | .call2 i j f e,st=>isS 24 st && match st with
  | .Expr v _=>iT v fun x es=>match es with
   | [y,z,w]=>aJ x && eV sc x && decide (T.F[f]?=some x) && okE T N e sc y && noStar y && nmB N sc i z && nmB N sc j w && decide (i≠j)
   | [y,z]=>aJ x && eV sc x && decide (T.F[f]?=some x) && okE T N e sc y && noStar y && nmB N sc i z && decide (i=j)
   | _=>false
  | _=>false
 | .retO i,st=>isS 3 st && match st with | .Return (some e) _=>nmB N sc i e | _=>false
 | .setF i f es,st=>isS 5 st && match st with
  | .Assign [tg] v _=>tgB N sc (.one i) tg && iT v fun x as=>aJ x && eV sc x && decide (T.F[f]?=some x) && bI T N es sc as && as.all noStar && !as.isEmpty
  | _=>false
 | .setB t e,st=>isS 5 st && match st with | .Assign [tg] v _=>tgB N sc t tg && okE T N e sc v && fH v && jB t v | _=>false
 | .setC i e,st=>isS 5 st && match st with | .Assign [tg] v _=>tgB N sc (.one i) tg && okE T N e sc v && tu e | _=>false
noncomputable def okB (T:Tx) (N:z0) (sc:Scope):List MS->vi->Bool
 | [],sts=>sts.isEmpty
 | m::ms,sts=>match sts with | st::sts=>okS T N sc m st && okB T N sc ms sts | []=>false
end
variable {tg w c':Expr}{pos:Pos}
section
variable {T:Tx}{N:z0}{sc:Scope}{st:Stmt}{i:Nat}{e k v c:M}{t:Tg}{a b:List MS}{src:List M}{ik:IK}{sts:vi}{m:MS}
theorem YK :okS T N sc (.set t e) (.Assign [tg] w pos)=(tgB N sc t tg && okE T N e sc w && (fH w || tu e) && jB t w):=rfl
theorem U7 :okS T N sc (.expr e) (.Expr w pos)=(okE T N e sc w && fH w):=rfl
theorem Zf {a' b':vi}:okS T N sc (.ifs c a b) (.If c' a' b' pos)=(okC T N c sc c' && okB T N sc a a' && okB T N sc b b'):=rfl
theorem Zk:okB T N sc [] sts=sts.isEmpty:=rfl
theorem T3:okB T N sc (m::a) (st::sts)=(okS T N sc m st && okB T N sc a sts):=rfl
end
section
variable {inv O:zz}{i j:Nat}{e k v c:M}{a b:List MS}{t:Tg}{ik:IK}{src:List M}{m:MS}
theorem Ud:vC inv (.app i e) O=(if (without O (aD e)).contains i then some (some (without O (aD e))) else none):=rfl
theorem Ve:vC inv (.ext i e) O=(if (without O (aD e)).contains i then some (some (without O (aD e))) else none):=rfl
theorem Vh:vC inv (.ifs c a b) O=(do
  let x <- cZ inv a O
  let y <- cZ inv b O
  some (jy x y)):=rfl
theorem Wi:vC inv (.forr t ik src b) O=(do
  let O1:=without (without O (aZ src)) (aK t)
  let x <- cZ O1 b O1
  let O2:=(jy (some O1) x).getD []
  let y <- cZ O2 b O2
  match y with
  | none=>some (some O2)
  | some O3=>if O2.all (fun i=>O3.contains i) then some (some O2) else none):=rfl
theorem S8:cZ inv (m::a) O=(do
  let x <- vC inv m O
  match x with
  | none=>some none
  | some O1=>cZ inv a O1):=rfl
end
def mF (g:G) (E:Ent) (Es Hs:Hp) (O':Ow) (inv:zz) (D:Ends):Out->Prop
 | .nx ρ'=>∀ O1,O'=some O1->∀ σ' H' Hs',FR g E Es O1 ρ' σ' H' Hs'->Same Hs Hs'->D.nx σ' H'
 | .ro d=>∀ v H' Hs',Grow E.hp Es H' Hs'->Rp g Hs' d v->(∀ a,v=.ref a->E.hp a=none)->D.rt v H'
 | .rt d=>∀ v H' Hs',Grow E.hp Es H' Hs'->Rp g Hs' d v->D.rt v H'
variable {g:G}
theorem mF.mono {E:Ent}{Es Hs Hs1:Hp}{O':Ow}{inv:zz}{D:Ends}{o:Out} (h:mF g E Es Hs O' inv D o) (m:Same Hs Hs1):mF g E Es Hs1 O' inv D o:=by
 cases o with
 | nx ρ=>exact fun O1 e σ' H' Hs' F s=>h O1 e σ' H' Hs' F (m.trans s)
 | rt d=>exact h
 | ro d=>exact h
def tMS (X:Cx) (E:Ent) (Es:Hp) (O:zz) (O':Ow) (inv:zz) (run:En->R Out):TS:=fun D σ H=>∃ ρ Hs o,FR (gOf X) E Es O ρ σ H Hs/\run ρ=.ok o/\mF (gOf X) E Es Hs O' inv D o
variable {X:Cx}{t':TS}
theorem bY {t:TS} (h:PS X st t) (i:∀ D σ H,t' D σ H->t D σ H):PS X st t':=fun pins s σ H D I hq=>h pins s σ H D I (i D σ H hq)
theorem Dv {st:vi}{t:TS} (h:PSs X st t) (i:∀ D σ H,t' D σ H->t D σ H):PSs X st t':=fun pins s σ H D I hq=>h pins s σ H D I (i D σ H hq)
section
variable {g:G}{E:Ent}{Es:Hp}{O O':zz}{ρ:En}{σ:St}{H Hs H' Hs':Hp}
theorem FR.vs (F:FR g E Es O ρ σ H Hs) {U:zz} (h:∀ i∈U,i ∉ O):Vs g ρ σ Hs U:=⟨F.len,fun i hi d e=>F.val i d e (h i hi)⟩
theorem FR.pubU (F:FR g E Es O ρ σ H Hs) (U:zz):∃ Hs',FR g E Es (without O U) ρ σ H Hs'/\Same Hs Hs'/\Vs g ρ σ Hs' U:=by
 obtain ⟨Hs',F',m,_⟩:=FR.pubs U F;exact ⟨Hs',F',m,F'.vs fun i hi hm=>(bD.mp hm).2 hi⟩
theorem FR.pubW (F:FR g E Es O ρ σ H Hs) (U:zz):∃ Hs',FR g E Es (without O U) ρ σ H Hs'/\Same Hs Hs'/\Vs g ρ σ Hs' U/\gW Hs Hs':=by
 obtain ⟨Hs',F',m,w⟩:=FR.pubs U F;exact ⟨Hs',F',m,F'.vs fun i hi hm=>(bD.mp hm).2 hi,w⟩
theorem FR.putL:∀ {l:List (Nat × D × V)}{O:zz}{ρ:En}{σ:St},FR g E Es O ρ σ H Hs->(∀ q∈E.pins,q.1 ∉ l.map (·.1))->(∀ p∈l,Rp g Hs p.2.1 p.2.2)->FR g E Es (without O (l.map (·.1))) (putL ρ (l.map fun p=>(p.1,p.2.1))) (putL σ (l.map fun p=>(p.1,p.2.2))) H Hs
 | [],O,ρ,σ,F,hq,h=>F.congrO fun i=>by rw [bD];simp
 | (i,d,v)::l,O,ρ,σ,F,hq,h=>by
  have F1:=F.setS (i:=i) (fun q hm e=>hq q hm (by rw [List.map_cons,e];exact vz)) (h _ vz);have F2:=FR.putL F1 (fun q hm e=>hq q hm (vy _ e)) fun p hp=>h p (vy _ hp)
  simp only [List.map_cons,Mi.putL];refine F2.congrO fun j=>?_
  rw [bD,bD,bD];simp;constructor
  .rintro ⟨a,b,c⟩;exact ⟨⟨a,b⟩,c⟩
  .rintro ⟨⟨a,b⟩,c⟩;exact ⟨a,b,c⟩
end
variable {v:Expr}{l:Nat}{env:Env}
def jG {t:Option Expr} (h:fH v=true):swapsWith v t l env=pure false:=by
 cases v <;> first | rfl | cases h
variable {t:Tg}
theorem fZ (h:jB t v=true) (h1:tgB N sc t tg=true):swappedStores [tg] v env=pure none:=by
 cases t with
 | one i =>
  obtain ⟨_,_,rfl,_⟩:=sZ h1;cases v <;> rfl
 | two i j =>
  obtain ⟨_,_,_,_,_,_,rfl,_⟩:=sI h1;cases v <;> first | (cases h;done) | rfl
theorem assign1 (h:tgB N sc t tg=true):(assignEach [tg] env).map (·.2)=[assign tg env]:=by
 cases t with
 | one i =>
  obtain ⟨_,_,rfl,_⟩:=sZ h;rfl
 | two i j =>
  obtain ⟨_,_,_,_,_,_,rfl,_⟩:=sI h;rfl
variable {e elt c mk:M}{p ap cp p1 p2:Pos}{x n1:Str}{tg':Tg}{k:IK}{src ms:List M}{hc:Bool}{cap:List Bool}{ρ:En}{d:D}{j f:Nat}{y kx:Expr}
section
variable {T:Tx}{cl:Nat->List D->R D}{X:Cx}{sc:Scope}{E:Ent}{Es:Hp}{O:zz}{inv:zz}{pos:Pos}
def SM (C:Cok T cl X) (S:ScRel sc X) (hq:∀ q∈E.pins,q.1 ∉ aK t) (h1:tgB X.N sc t tg=true) (h2:okE T X.N e sc v=true) (h3:fH v=true) (h4:jB t v=true) :
  PS X (.Assign [tg] v pos) (tMS X E Es O (some (without (without O (aD e)) (aK t))) inv (bC cl (.set t e))):=by
 refine bY (jt (good e C S h2).1 (jg C S h1) (jG (t:=some tg) (l:=pos.line) (env:=X.env) h3) (fZ h4 h1) (assign1 h1)) fun D σ H=>?_
 rintro ⟨ρ,Hs,o,F,h,k⟩;simp only [wC,wD,wE,qV,wF,wG,wH,wI] at h;obtain ⟨d,hd,hb⟩:=aj h;obtain ⟨ρ',hρ,hb2⟩:=aj hb;clear h hb;cases hb2;obtain ⟨Hs1,F1,m1,vs⟩:=F.pubU (aD e);refine ⟨ρ,Hs1,d,F1.sub,vs,hd,fun x H1 Hs2 g2 r2=>?_⟩;have F2:=F1.grown g2;refine oF (X:=X) g2.sub hρ r2 fun l hl hrl eρ=>?_
 have F3:=F2.putL (by rw [hl];exact hq) hrl;rw [hl,<- eρ] at F3;exact k _ rfl _ _ _ F3 (m1.trans (g2.same F1.sub))
noncomputable def swB (sc:Scope) (x:Str) (l1 l2:Nat) (scope:Scope):Bool:=(sc.names.lookup x == some .local) && l1 == l2 && !(scope.names.any fun (n,k)=>n == x && (k == .local || k == .cell))
theorem Jr {elt:Expr}{gs:List Comprehension}{scope:Scope}{p':Pos} (hk:env.scope.kind=.function):swapsWith (.ListComp elt gs scope p) (some (.Name x p')) l env=pure (swB env.scope x p'.line p.line scope):=by
 show (pure (env.blockKind == .function && env.kindOf x == some .local && p'.line == p.line && !(scope.names.any fun (n,k)=>n == x && (k == .local || k == .cell))):Sem Bool)=_
 have hb:env.blockKind=.function:=by unfold Env.blockKind;rw [hk];rfl
 rw [hb];rfl
def Jo {TSx:TS} (C:Cok T cl X) (S:ScRel sc X) (h1:tgB X.N sc t tg=true) (h2:okE T X.N (.comp elt tg' k src hc c cap) sc v=true) (h4:jB t v=true)
  (read:∀ D σ H,TSx D σ H->Wh (tMf X (aD (.comp elt tg' k src hc c cap)) (evE cl (.comp elt tg' k src hc c cap))) (gTg X.K t) D σ H):PS X (.Assign [tg] v pos) TSx:=by
 have h2':=h2;obtain ⟨elt',gens,scope,p,rfl⟩:=pq h2';rcases gens with _ | ⟨⟨tgx,iter,ifs,as⟩,_ | ⟨g2,gs⟩⟩ <;> try (cases h2';done)
 rw [Hv] at h2';simp only [Bool.and_eq_true,decide_eq_true_eq] at h2';obtain ⟨⟨⟨⟨⟨⟨⟨q1,q2⟩,q3⟩,q4⟩,q5⟩,q6⟩,q7⟩,q8⟩:=h2';subst q1;have blk:∀ s₃ H₃ fp xe,PG (cO X scope s₃ H₃ fp xe) tgx (gTg X.K tg')/\PTs (cO X scope s₃ H₃ fp xe) ifs (tHc X hc (aD c) (evE cl c))/\PE (cO X scope s₃ H₃ fp xe) elt' (tM X (aD elt) (evE cl elt)):=fun s₃ H₃ fp xe=>by
  have S':ScRel scope (cO X scope s₃ H₃ fp xe):=Fo S;have C':=C.blk scope s₃ H₃ fp xe;refine ⟨jg C' S' q3,?_,(good elt C' S' q7).1⟩;cases hc with
  | true =>
   rcases ifs with _ | ⟨i1,_ | ⟨i2,is⟩⟩ <;> try (cases q6;done)
   exact Lf (good c C' S' q6).2
  | false =>
   rcases ifs with _ | ⟨i1,is⟩ <;> try (cases q6;done)
   exact MF
 have rd:∀ σ H (Q:VK),tMf X (aD (.comp elt tg' k src hc c cap)) (evE cl (.comp elt tg' k src hc c cap)) σ H Q->BL (tI X (aZ src) fun ρ=>do let ss <- cB cl src ρ;itemsOf k ss) (gTg X.K tg') (tHc X hc (aD c) (evE cl c)) (tM X (aD elt) (evE cl elt)) (bA (cI X.N scope)) σ H Q:=fun σ H Q h=>by
  rw [MP] at h;exact Eo q3 q8 h
 have hE:PE X (.ListComp elt' [⟨tgx,iter,ifs,0⟩] scope p) (tMf X (aD (.comp elt tg' k src hc c cap)) (evE cl (.comp elt tg' k src hc c cap))) :=
  bw (yF C.calm (sJ C S (fun m _=>good m) q4 q5) (Ih q2 S) blk (sO (oK q4))) rd
 cases t with
 | two i j =>
  have hno:∀ l env,swapsWith (.ListComp elt' [⟨tgx,iter,ifs,0⟩] scope p) (some tg) l env=pure false:=fun l env=>by
   obtain ⟨_,_,_,_,_,_,rfl,_⟩:=sI h1;rfl
  exact bY (jt hE (jg C S h1) (hno pos.line X.env) (fZ h4 h1) (assign1 h1)) read
 | one i =>
  have h1':=h1;clear h1;obtain ⟨x,p',rfl,h1⟩:=sZ h1';obtain ⟨l1,l2⟩:=S.own _ h1.1;cases hsw:swB X.env.scope x p'.line p.line scope with
  | false =>
   intro pins s σ H D I h;have e0:swapsWithSole [.Name x p'] (.ListComp elt' [⟨tgx,iter,ifs,0⟩] scope p) pos.line X.env=pure (swB X.env.scope x p'.line p.line scope):=Jr (l:=pos.line) I.ok.kind;exact jt hE (jg C S h1') (by rw [e0,hsw]) (fZ h4 h1') (assign1 h1') pins s σ H D I (read D σ H h)
  | true =>
   exact bY (Ol C.nd h1.2 l1 l2 (fun hk=>by rw [Jr hk,hsw]) C.calm (sJ C S (fun m _=>good m) q4 q5) (Ih q2 S) blk (sO (oK q4))) fun D σ H h=>rd _ _ _ (read D σ H h)
def Le (C:Cok T cl X) (S:ScRel sc X) (hq:∀ q∈E.pins,q.1 ∉ aK t) (h1:tgB X.N sc t tg=true) (h2:okE T X.N (.comp elt tg' k src hc c cap) sc v=true) (h4:jB t v=true) :
  PS X (.Assign [tg] v pos) (tMS X E Es O (some (without (without O (aD (.comp elt tg' k src hc c cap))) (aK t))) inv (bC cl (.set t (.comp elt tg' k src hc c cap)))):=by
 refine Jo C S h1 h2 h4 fun D σ H=>?_
 rintro ⟨ρ,Hs,o,F,h,kk⟩;simp only [wC,wD,wE,qV,wF,wG,wH,wI] at h;obtain ⟨d,hd,hb⟩:=aj h;obtain ⟨ρ',hρ,hb2⟩:=aj hb;clear h hb;cases hb2;obtain ⟨Hs1,F1,m1,vs⟩:=F.pubU (aD (.comp elt tg' k src hc c cap));refine ⟨ρ,Hs1,d,F1.sub,vs,hd,fun x H1 Hs2 g2 r2 _=>?_⟩;have F2:=F1.grown g2;refine oF (X:=X) g2.sub hρ r2 fun l hl hrl eρ=>?_
 have F3:=F2.putL (by rw [hl];exact hq) hrl;rw [hl,<- eρ] at F3;exact kk _ rfl _ _ _ F3 (m1.trans (g2.same F1.sub))
def Zw (C:Cok T cl X) (S:ScRel sc X) (hq:∀ q∈E.pins,q.1≠i) (h1:tgB X.N sc (.one i) tg=true) (h2:okE T X.N (.lst ms) sc v=true) (h3:fH v=true) (h4:jB (.one i) v=true) :
  PS X (.Assign [tg] v pos) (tMS X E Es O (some (i::without (without O (aD (.lst ms))) [i])) inv (bC cl (.set (.one i) (.lst ms)))):=by
 obtain ⟨_,_,rfl⟩:=tX h2;rw [Lj] at h2;simp only [Bool.and_eq_true] at h2;refine bY (jt (Bs (gq C S (fun m _=>good m) h2.1 h2.2)) (jg C S h1) (jG (t:=some tg) (l:=pos.line) (env:=X.env) h3) (fZ h4 h1) (assign1 h1)) fun D σ H=>?_
 rintro ⟨ρ,Hs,o,F,h,k⟩;simp only [wC,wM,wN,wL] at h;obtain ⟨d,hd,hb⟩:=aj h;obtain ⟨ρ',hρ,hb2⟩:=aj hb;clear h hb;obtain ⟨ds,hds,hd2⟩:=aj hd;clear hd;obtain ⟨hlim,hd3⟩:=bW hd2;clear hd2;cases hd3;cases hρ;cases hb2;obtain ⟨Hs1,F1,m1,vs⟩:=F.pubU (aZ ms);refine ⟨ρ,Hs1,ds,F1.sub,vs,hds,fun xs H1 Hs2 g2 r2=>⟨by rw [<- r2.length];exact yb hlim ju,fun p hp=>?_⟩⟩;have F2:=F1.grown g2;have F3:=F2.setO (i:=i) (d:=.lst ds) (o:=.lst xs) hq hp ⟨xs,aB,r2⟩;exact k _ rfl _ _ _ F3 (m1.trans (g2.same F1.sub))
def XH (C:Cok T cl X) (S:ScRel sc X) (hq:∀ q∈E.pins,q.1≠i) (h1:tgB X.N sc (.one i) tg=true) (h2:okE T X.N .dct0 sc v=true) (h3:fH v=true) (h4:jB (.one i) v=true) :
  PS X (.Assign [tg] v pos) (tMS X E Es O (some (i::without (without O (aD .dct0)) [i])) inv (bC cl (.set (.one i) .dct0))):=by
 obtain ⟨ks,vs,p,rfl⟩:=Iv h2;cases ks <;> try (cases h2;done)
 cases vs <;> try (cases h2;done)
 refine bY (jt LQ (jg C S h1) (jG (t:=some tg) (l:=pos.line) (env:=X.env) h3) (fZ h4 h1) (assign1 h1)) fun D σ H=>?_
 rintro ⟨ρ,Hs,o,F,h,k⟩;simp only [wC,wM,wN,wL,qT,wX] at h;cases h;obtain ⟨Hs1,F1,m1,vs⟩:=F.pubU [];intro p hp;have F3:=F1.setO (i:=i) (d:=.dct [] []) (o:=.ext (DAt (gOf X) p [] [] 0)) hq hp ⟨[],[],0,aB,rfl,Rps.nil,Rps.nil⟩;exact k _ rfl _ _ _ F3 m1
def dR (h:bO ρ i=.ok d):ρ[i]?=some (some d):=by
 unfold bO at h;split at h
 .cases h;assumption
 .cases h
def abx (C:Cok T cl X) (S:ScRel sc X) (hv:fu sc x=true) (ho:aJ x=true) (hN:X.N[i]?=some x) (h2:okE T X.N e sc v=true) (hn:noStar v=true) (hl:(ap.endLine == cp.line)=true)
  (hi:i ∈ without O (aD e)):PS X (.Expr (.Call (.Attribute (.Name x p) "append" ap) [v] [] cp) pos) (tMS X E Es O (some (without O (aD e))) inv (bC cl (.app i e))):=by
 unfold aJ at ho;simp only [Bool.and_eq_true,Bool.not_eq_true'] at ho;refine bY (lK (Gv PySem.F.plainAttrs_list PySem.F.slot_list_append PySem.F.type_list_append vO (gM hN (S.vis _ hv) ho.1.1 ho.1.2) (dD (good e C S h2).1 gK (aA hn)) rfl (by rw [aA hn];rfl) hl (aA hn) rfl) rfl) fun D σ H=>?_
 rintro ⟨ρ,Hs,o,F,h,k⟩;simp only [wC,wD,wE,qV,wF,wG,wH,wI] at h;obtain ⟨l,hl1,hb⟩:=aj h;obtain ⟨d,hd,hb1⟩:=aj hb;obtain ⟨l',hl',hb2⟩:=aj hb1;clear h hb hb1;cases hb2;obtain ⟨Hs1,F1,m1,vs⟩:=F.pubU (aD e);have hρ:=dR hl1;obtain ⟨a,ea,a0,a1,ow⟩:=F1.own i hi l hρ;cases l <;> try (cases hl';done)
 rename_i ds;simp only [yX] at hl';obtain ⟨hlt,hl2⟩:=bW hl';clear hl';cases hl2;obtain ⟨xs,hxs,rxs⟩:=ow;refine ⟨.ref a,ea,.inl ⟨rfl,xs,SqL.of hxs⟩,ρ,Hs1,d,F1.sub,vs,hd,fun y H1 Hs2 g2 r2=>?_⟩;have F2:=F1.grown g2;have hl:=rxs.length;have hlim:=ju;refine ⟨a,xs,y,rfl,rfl,g2.keep a _ hxs,by omega,?_⟩;have F3:=F2.mut (o:=.lst (xs++[y])) (d':=.lst (ds++[d])) hi hρ ea ⟨_,aB,(rxs.mono (g2.same F1.sub)).append (Rps.one r2)⟩;exact k _ rfl _ _ _ F3 (m1.trans (g2.same F1.sub))
def aaW (C:Cok T cl X) (S:ScRel sc X) (hv:fu sc x=true) (ho:aJ x=true) (hN:X.N[i]?=some x) (h2:okE T X.N e sc v=true) (hn:noStar v=true) (hl:(ap.endLine == cp.line)=true)
  (hi:i ∈ without O (aD e)):PS X (.Expr (.Call (.Attribute (.Name x p) "extend" ap) [v] [] cp) pos) (tMS X E Es O (some (without O (aD e))) inv (bC cl (.ext i e))):=by
 unfold aJ at ho;simp only [Bool.and_eq_true,Bool.not_eq_true'] at ho;refine bY (lK (Gv PySem.F.plainAttrs_list PySem.F.slot_list_extend PySem.F.type_list_extend X4 (gM hN (S.vis _ hv) ho.1.1 ho.1.2) (dD (good e C S h2).1 gK (aA hn)) rfl (by rw [aA hn];rfl) hl (aA hn) rfl) rfl) fun D σ H=>?_
 rintro ⟨ρ,Hs,o,F,h,k⟩;simp only [wC,wD,wE,qV,wF,wG,wH,wI] at h;obtain ⟨l,hl1,hb⟩:=aj h;obtain ⟨d,hd,hb1⟩:=aj hb;obtain ⟨l',hl',hb2⟩:=aj hb1;clear h hb hb1;cases hb2;obtain ⟨Hs1,F1,m1,vs⟩:=F.pubU (aD e);have hρ:=dR hl1;obtain ⟨a,ea,a0,a1,ow⟩:=F1.own i hi l hρ;cases l <;> try (cases hl';done)
 rename_i ds;obtain ⟨xs,hxs,rxs⟩:=ow;refine ⟨.ref a,ea,.inl ⟨rfl,xs,SqL.of hxs⟩,ρ,Hs1,d,F1.sub,vs,hd,fun y H1 Hs2 g2 r2=>?_⟩;have F2:=F1.grown g2;have hl:=rxs.length;cases d <;> try (cases hl';done)
 .simp only [Jg] at hl';obtain ⟨hlt,hl2⟩:=bW hl';clear hl';cases hl2;obtain ⟨b,zs,rfl,s1,rz⟩:=bT.mp r2;have hz:=rz.length;refine ⟨a,b,xs,zs,rfl,rfl,g2.keep a _ hxs,.inl (aN g2.sub s1),by omega,?_⟩;have F3:=F2.mut (o:=.lst (xs++zs)) (d':=.lst (ds++_)) hi hρ ea ⟨_,aB,(rxs.mono (g2.same F1.sub)).append rz⟩;exact k _ rfl _ _ _ F3 (m1.trans (g2.same F1.sub))
theorem Rps.set {g:G}{H:Hp}{d:D}{v:V} (r:Rp g H d v):∀ {ds:List D}{vs:List V} (k:Nat),Rps g H ds vs->Rps g H (ds.set k d) (vs.set k v)
 | [],vs,k,rs=>by cases rs.nil_inv;exact Rps.nil
 | e::ds,vs,0,rs=>by
  obtain ⟨w,ws,rfl,r0,r1⟩:=rs.cons_inv;exact Rps.cons r r1
 | e::ds,vs,k+1,rs=>by
  obtain ⟨w,ws,rfl,r0,r1⟩:=rs.cons_inv;exact Rps.cons r0 (Rps.set r k r1)
def aaE {ks:List D}{k:D} (hn:ks.Nodup) (h:ks[j]?=some k):ks.findIdx? (fun c=>decide (c=k))=some j:=by
 obtain ⟨hl,e⟩:=v7.mp h;rw [List.findIdx?_eq_some_iff_getElem];refine ⟨hl,by simp [e],fun i hij=>?_⟩;simp only [decide_eq_true_eq];intro z;have:=(List.getElem_inj hn).mp (z.trans e.symm);omega
def set_same (h:ρ[i]?=some (some d)):ρ.set i (some d)=ρ:=by
 apply List.ext_getElem?;intro j;by_cases e:i=j
 .subst e;rw [List.getElem?_set_self (List.getElem?_eq_some_iff.mp h).1,h]
 .rw [List.getElem?_set_ne e]
theorem Rps.erase {g:G}{H:Hp}:∀ {ds:List D}{vs:List V} (k:Nat),Rps g H ds vs->Rps g H (ds.eraseIdx k) (vs.eraseIdx k)
 | [],vs,k,r=>by cases r.nil_inv;exact Rps.nil
 | d::ds,vs,0,r=>by
  obtain ⟨v,ws,rfl,r0,rs⟩:=r.cons_inv;exact rs
 | d::ds,vs,k+1,r=>by
  obtain ⟨v,ws,rfl,r0,rs⟩:=r.cons_inv;exact Rps.cons r0 (Rps.erase k rs)
def YX (C:Cok T cl X) (S:ScRel sc X) (h2:okE T X.N e sc v=true) (h3:fH v=true):PS X (.Expr v pos) (tMS X E Es O (some (without O (aD e))) inv (bC cl (.expr e))):=by
 refine bY (lK (good e C S h2).1 (jG h3)) fun D σ H=>?_
 rintro ⟨ρ,Hs,o,F,h,k⟩;simp only [wC,wD,wE,qV,wF,wG,wH,wI] at h;obtain ⟨d,hd,hb⟩:=aj h;clear h;cases hb;obtain ⟨Hs1,F1,m1,vs⟩:=F.pubU (aD e);exact ⟨ρ,Hs1,d,F1.sub,vs,hd,fun y H1 Hs2 g2 r2=>k _ rfl _ _ _ (F1.grown g2) (m1.trans (g2.same F1.sub))⟩
def abE (C:Cok T cl X) (S:ScRel sc X) (h2:okE T X.N e sc v=true):PS X (.Return (some v) pos) (tMS X E Es O none inv (bC cl (.ret e))):=by
 refine bY (SQ (good e C S h2).1) fun D σ H=>?_
 rintro ⟨ρ,Hs,o,F,h,k⟩;simp only [wC,wD,wE,qV,wF,wG,wH,wI] at h;obtain ⟨d,hd,hb⟩:=aj h;clear h;cases hb;obtain ⟨Hs1,F1,m1,vs⟩:=F.pubU (aD e);exact ⟨ρ,Hs1,d,F1.sub,vs,hd,fun y H1 Hs2 g2 r2=>k y H1 Hs2 (F1.grow.trans g2) r2⟩
theorem Xw (h2:dB e=true):PS X (.Return none pos) (tMS X E Es O none inv (bC cl (.ret e))):=by
 refine bY XF fun D σ H=>?_
 rintro ⟨ρ,Hs,o,F,h,k⟩;cases e <;> try (cases h2;done)
 rename_i d;cases d <;> try (cases h2;done)
 simp only [wC,wD,wE,qV,wF,wG,wH,wI,wM,wN,wK,wL,qT] at h;cases h;exact k .non H Hs F.grow (Bo.mpr rfl)
def XQ (C:Cok T cl X) (S:ScRel sc X) (hq:∀ q∈E.pins,q.1≠i) (h1:tgB X.N sc (.one i) tg=true) (h2:okE T X.N (.comp elt tg' k src hc c cap) sc v=true) :
  PS X (.Assign [tg] v pos) (tMS X E Es O (some (i::without O [i])) inv (bC cl (.setC i (.comp elt tg' k src hc c cap)))):=by
 refine Jo C S h1 h2 rfl fun D σ H=>?_
 rintro ⟨ρ,Hs,o,F,h,kk⟩;rw [wA] at h;obtain ⟨d,hd,hb0⟩:=aj h;obtain ⟨hlf,hb⟩:=bW hb0;clear h hb0;cases hb;obtain ⟨Hs1,F1,m1,vs,w1⟩:=F.pubW (aD (.comp elt tg' k src hc c cap));refine ⟨ρ,Hs1,d,F1.sub,vs,hd,fun x H1 Hs2 g2 r2 ⟨a,xs,ds,e1,e2,ha,hx,rx⟩=>?_⟩;subst e1 e2;obtain ⟨Hs3,g3,u1,u2⟩:=rH F.sub w1 g2;have hx3:Hs3 a=some (.lst xs):=by rw [u2 a ha];exact hx
 have u4:∀ t o,Hs2 t=some o->sX o=false->hole Hs3 a t=some o:=fun t o q hm=>by
  have q3:=u1 t o q hm;rw [eO (fun z=>by rw [z,hx3] at q3;cases q3;cases hm)];exact q3
 have g4:Grow H Hs H1 (hole Hs3 a):=⟨g3.keep,fun c o q=>by rw [eO (ak q ha)];exact g3.old c o q,fun c o q=>by
  by_cases hc:c=a
  .rw [hc,iD] at q;cases q
  .rw [eO hc] at q;exact g3.sub c o q⟩
 have F3:=F.adopt (i:=i) (d:=.lst ds) hq g4 ha iD ⟨xs,g3.sub _ _ hx3,vD u4 hlf rx⟩;exact kk _ rfl _ _ _ F3 (g4.same F.sub)
def X7 (C:Cok T cl X) (S:ScRel sc X) (hq:∀ q∈E.pins,q.1 ∉ aK t) (h1:tgB X.N sc t tg=true) (h2:okE T X.N e sc v=true) (h3:fH v=true) (h4:jB t v=true) :
  PS X (.Assign [tg] v pos) (tMS X E Es O (some (without O (aK t))) inv (bC cl (.setB t e))):=by
 refine bY (jt (good e C S h2).1 (jg C S h1) (jG (t:=some tg) (l:=pos.line) (env:=X.env) h3) (fZ h4 h1) (assign1 h1)) fun D σ H=>?_
 rintro ⟨ρ,Hs,o,F,h,k⟩;rw [qz] at h;obtain ⟨d,hd,hb0⟩:=aj h;obtain ⟨hlf,hb⟩:=bW hb0;obtain ⟨ρ',hρ,hb2⟩:=aj hb;clear h hb hb0;cases hb2;obtain ⟨Hs1,F1,m1,vs,w1⟩:=F.pubW (aD e);refine ⟨ρ,Hs1,d,F1.sub,vs,hd,fun x H1 Hs2 g2 r2=>?_⟩;obtain ⟨Hs3,g3,u1,u2⟩:=rH F.sub w1 g2;have F2:=F.grown g3;refine oF (X:=X) g3.sub hρ (oM u1 hlf r2) fun l hl hrl eρ=>?_
 have F3:=F2.putL (by rw [hl];exact hq) hrl;rw [hl,<- eρ] at F3;exact k _ rfl _ _ _ F3 (g3.same F.sub)
def V9 (C:Cok T cl X) (S:ScRel sc X) (hq:∀ q∈E.pins,q.1≠i) (h1:tgB X.N sc (.one i) tg=true) (h2:okE T X.N (.blt .list ms) sc v=true) (h4:jB (.one i) v=true) :
  PS X (.Assign [tg] v pos) (tMS X E Es O (some (i::without (without O (aD (.blt .list ms))) [i])) inv (bC cl (.set (.one i) (.blt .list ms)))):=by
 obtain ⟨x,p,es,q,rfl,h9⟩:=cN h2;simp only [Bool.and_eq_true,decide_eq_true_eq,Bool.not_eq_true'] at h9;obtain ⟨⟨⟨⟨a1,a2⟩,a3⟩,a4⟩,a5⟩:=h9;subst a1;rcases es with _ | ⟨y,ys⟩
 .cases a3
 have a6:bI T X.N ms sc (y::ys)=true:=a5;have pa:=gq C S (fun m _=>good m) a6 a4;have a7:=a4;simp only [List.all_cons,Bool.and_eq_true] at a7;refine bY (jt (vZ (xH.or (Bv C.calm)) (S.glb _ a2) (C.blt _ (by decide +kernel)) uH pa (by decide +kernel) (by decide +kernel) (aA a7.1) (eZ a7.2)) (jg C S h1) rfl (fZ h4 h1) (assign1 h1)) fun D σ H=>?_
 rintro ⟨ρ,Hs,o,F,h,k⟩;simp only [wC,wU] at h;obtain ⟨d,hd,hb⟩:=aj h;obtain ⟨ρ',hρ,hb2⟩:=aj hb;clear h hb;obtain ⟨ds,hds,hd2⟩:=aj hd;clear hd;cases hρ;cases hb2;obtain ⟨Hs1,F1,m1,vs⟩:=F.pubU (aZ ms);refine ⟨ρ,Hs1,ds,F1.sub,vs,hds,fun xs H1 Hs2 g2 r2=>?_⟩;have F2:=F1.grown g2;rcases ds with _ | ⟨d0,_ | ⟨d1,ds⟩⟩
 .cases hd2
 .obtain ⟨v,ws,rfl,r3,r4⟩:=r2.cons_inv;cases r4.nil_inv;cases d0 <;> try (cases hd2;done)
  .cases hd2;obtain ⟨a,zs,rfl,s1,r4⟩:=cV.mp r3;refine .inl ⟨a,zs,rfl,.inr (aP g2.sub s1),fun p hp=>?_⟩;exact k _ rfl _ _ _ (F2.setO (i:=i) (o:=.lst zs) hq hp ⟨zs,aB,r4⟩) (m1.trans (g2.same F1.sub))
  .cases hd2;obtain ⟨a,zs,rfl,s1,r4⟩:=bT.mp r3;refine .inl ⟨a,zs,rfl,.inl (aN g2.sub s1),fun p hp=>?_⟩;exact k _ rfl _ _ _ (F2.setO (i:=i) (o:=.lst zs) hq hp ⟨zs,aB,r4⟩) (m1.trans (g2.same F1.sub))
  .cases hd2;obtain ⟨a,zs,ys,ep,rfl,ha,e1,r5,r6⟩:=kJ.mp r3;refine .inr ⟨a,_,zs,ys,rfl,⟨⟨ep,g2.sub _ _ ha⟩,e1,r5.mono g2.sub⟩,fun p hp=>?_⟩;exact k _ rfl _ _ _ (F2.setO (i:=i) (d:=.lst _) (o:=.lst (zs.map fun x:Mi.D × Addr × Value=>V.ref x.2.1)) hq hp ⟨_,aB,r5⟩) (m1.trans (g2.same F1.sub))
 .cases d0 <;> cases hd2
def Zd (C:Cok T cl X) (S:ScRel sc X) (ho:aJ x=true) (hv:fu sc x=true) (hN:X.N[i]?=some x) (hi:i∈O):PS X (.Return (some (.Name x p)) pos) (tMS X E Es O none inv (bC cl (.retO i))):=by
 unfold aJ at ho;simp only [Bool.and_eq_true,Bool.not_eq_true'] at ho;refine bY (SQ (gM hN (S.vis _ hv) ho.1.1 ho.1.2)) fun D σ H=>?_
 rintro ⟨ρ,Hs,o,F,h,k⟩;rw [qx] at h;obtain ⟨d,hd,hb⟩:=aj h;cases hb;have hρ:=dR hd;obtain ⟨a,ea,a0,_,_⟩:=F.own i hi d hρ;obtain ⟨Hs1,F1,m1,_⟩:=F.pub1 i;obtain ⟨v,ev,rv⟩:=F1.val i d hρ (by rw [List.mem_filter];simp);rw [ea] at ev;cases ev;exact ⟨.ref a,ea,k _ _ Hs1 F1.grow rv fun b e=>by cases e;exact a0⟩
def Zj {as:ve} (C:Cok T cl X) (S:ScRel sc X) (hq:∀ q∈E.pins,q.1≠i) (h1:tgB X.N sc (.one i) tg=true) (ho:aJ x=true) (hg:eV sc x=true) (hF:T.F[f]?=some x) (h2:bI T X.N ms sc as=true) (hn:as.all noStar=true) (hne:as.isEmpty=false) :
  PS X (.Assign [tg] (.Call (.Name x p) as [] cp) pos) (tMS X E Es O (some (i::without (without O (aZ ms)) [i])) inv (bC cl (.setF i f ms))):=by
 unfold aJ at ho;simp only [Bool.and_eq_true,Bool.not_eq_true'] at ho;obtain ⟨k,a,fd,ps,_,hr,hm,hk,hb,_,_,_,FF,hlen⟩:=C.fns f x hF;rcases as with _ | ⟨y,ys⟩
 .cases hne
 have pa:=gq C S (fun m _=>good m) h2 hn;simp only [List.all_cons,Bool.and_eq_true] at hn;refine bY (jt (xX FF hr (S.glb _ hg) hm hk hb .nil Cv pa ho.1.1 (aA hn.1) (eZ hn.2)) (jg C S h1) rfl (fZ rfl h1) (assign1 h1)) fun D σ H=>?_
 rintro ⟨ρ,Hs,o,F,h,kk⟩;rw [qy] at h;obtain ⟨ds,hds,hb1⟩:=aj h;obtain ⟨d,hd,hb2⟩:=aj hb1;clear h hb1;obtain ⟨hlf,hb3⟩:=bW hb2;cases hb3;obtain ⟨Hs1,F1,m1,vs⟩:=F.pubU (aZ ms);refine ⟨ρ,Hs1,ds,F1.sub,vs,hds,fun xs H1 Hs2 g2 r2=>?_⟩;have F2:=F1.grown g2;show spF (gOf X) (cl (2000+f)) ps.length (xs++[]) H1 _ E0
 rw [List.append_nil];refine ⟨ds,Hs2,d,by rw [<- r2.length];exact hlen ds d hd,g2.sub,r2,hd,fun v H2 Hs3 g3 r3 hfr=>?_⟩;cases d <;> try (cases hlf;done)
 rename_i ks ws;replace hlf:(gR ks && gR ws)=true:=hlf;rw [Bool.and_eq_true] at hlf;obtain ⟨b,xs',ys',ep,rfl,hb,e1,r4,r5⟩:=kJ.mp r3;have hn1:H1 b=none:=hfr b rfl;have g4:Grow H1 Hs2 H2 (hole Hs3 b):=⟨g3.keep,fun c o q=>by rw [eO (ak q hn1)];exact g3.old c o q,fun c o q=>by
  by_cases hc:c=b
  .rw [hc,iD] at q;cases q
  .rw [eO hc] at q;exact g3.sub c o q⟩
 have F3:=F2.adopt (i:=i) (d:=.dct ks ws) hq g4 hn1 iD ⟨xs',ys',ep,g3.sub _ _ hb,e1,pA hb hlf.1 r4,pA hb hlf.2 r5⟩;exact kk _ rfl _ _ _ F3 ((m1.trans (g2.same F1.sub)).trans (g4.same F2.sub))
theorem Ra {r:D × D} (h:Dq d=.ok r):d=.tup [r.1,r.2]:=by
 cases d <;> try (cases h;done)
 rename_i ds;rcases ds with _ | ⟨a,_ | ⟨b,_ | ⟨c,ds⟩⟩⟩ <;> try (cases h;done)
 cases h;rfl
def T9 {n2:Str} (C:Cok T cl X) (S:ScRel sc X) (ho:aJ x=true) (hg:eV sc x=true) (hF:T.F[f]?=some x) (h2:okE T X.N e sc y=true) (hn:noStar y=true) (o1:aJ n1=true) (v1:fu sc n1=true) (N1:X.N[i]?=some n1) (o2:aJ n2=true) (v2:fu sc n2=true) (N2:X.N[j]?=some n2)
  (hi:i∈without O (aD e)) (hj:j∈without O (aD e)) (hij:i≠j):PS X (.Expr (.Call (.Name x p) [y,.Name n1 p1,.Name n2 p2] [] cp) pos) (tMS X E Es O (some (without O (aD e))) inv (bC cl (.call2 i j f e))):=by
 unfold aJ at ho o1 o2;simp only [Bool.and_eq_true,Bool.not_eq_true'] at ho o1 o2;obtain ⟨k,a,fd,ps,_,hr,hm,hk,hb,_,FM,hlen,_,_⟩:=C.fns f x hF;refine bY (lK (xX FM hr (S.glb _ hg) hm hk hb .nil Cv (dD (good e C S h2).1 (dD (gM N1 (S.vis _ v1) o1.1.1 o1.1.2) (dD (gM N2 (S.vis _ v2) o2.1.1 o2.1.2) gK)) (aA hn)) ho.1.1 (aA hn) rfl) rfl) fun D σ H=>?_
 rintro ⟨ρ,Hs,o,F,h,kk⟩;rw [qQ] at h;obtain ⟨d0,hd0,hb1⟩:=aj h;obtain ⟨l,hl1,hb2⟩:=aj hb1;obtain ⟨m,hm1,hb3⟩:=aj hb2;obtain ⟨r,hr1,hb4⟩:=aj hb3;obtain ⟨⟨l',m'⟩,hr2,hb5⟩:=aj hb4;clear h hb1 hb2 hb3 hb4;cases hb5;cases Ra hr2;obtain ⟨Hs1,F1,m1,vs⟩:=F.pubU (aD e);refine ⟨ρ,Hs1,d0,F1.sub,vs,hd0,fun v0 H1 Hs2 g2 r2=>?_⟩;have F2:=F1.grown g2;have hρ:=dR hl1;have hρ2:=dR hm1;obtain ⟨b,eb,b0,b1,ow⟩:=F2.own i hi l hρ;obtain ⟨c,ec,c0,c1,oc⟩:=F2.own j hj m hρ2;have hbc:b≠c:=fun z=>by
  subst z;exact F2.apart i hi j hj hij l m b hρ hρ2 eb ec
 refine ⟨.ref b,eb,.ref c,ec,?_⟩;rw [if_neg hij] at hr1;refine ⟨d0,l,m,l',m',v0,b,c,Hs2,.inl ⟨rfl,hbc,hr1⟩,hlen _ _ hr1,F2.sub,r2,b1,c1,ow,oc,fun H' Hs' w n1 n2 w1 w2=>?_⟩;obtain ⟨F3,s3⟩:=F2.lend2 hi hj hρ hρ2 eb ec w n1 n2 w1 w2;exact kk _ rfl _ _ _ F3 ((m1.trans (g2.same F1.sub)).trans s3)
def Vu (C:Cok T cl X) (S:ScRel sc X) (ho:aJ x=true) (hg:eV sc x=true) (hF:T.F[f]?=some x) (h2:okE T X.N e sc y=true) (hn:noStar y=true) (o1:aJ n1=true) (v1:fu sc n1=true) (N1:X.N[i]?=some n1)
  (hi:i∈without O (aD e)):PS X (.Expr (.Call (.Name x p) [y,.Name n1 p1] [] cp) pos) (tMS X E Es O (some (without O (aD e))) inv (bC cl (.call2 i i f e))):=by
 unfold aJ at ho o1;simp only [Bool.and_eq_true,Bool.not_eq_true'] at ho o1;obtain ⟨k,a,fd,ps,_,hr,hm,hk,hb,_,FM,hlen,_,_⟩:=C.fns f x hF;refine bY (lK (xX FM hr (S.glb _ hg) hm hk hb .nil Cv (dD (good e C S h2).1 (dD (gM N1 (S.vis _ v1) o1.1.1 o1.1.2) gK) (aA hn)) ho.1.1 (aA hn) rfl) rfl) fun D σ H=>?_
 rintro ⟨ρ,Hs,o,F,h,kk⟩;rw [qQ] at h;obtain ⟨d0,hd0,hb1⟩:=aj h;obtain ⟨l,hl1,hb2⟩:=aj hb1;obtain ⟨m,hm1,hb3⟩:=aj hb2;obtain ⟨r,hr1,hb4⟩:=aj hb3;obtain ⟨⟨l',m'⟩,hr2,hb5⟩:=aj hb4;clear h hb1 hb2 hb3 hb4;cases hb5;cases Ra hr2;obtain ⟨Hs1,F1,m1,vs⟩:=F.pubU (aD e);refine ⟨ρ,Hs1,d0,F1.sub,vs,hd0,fun v0 H1 Hs2 g2 r2=>?_⟩;have F2:=F1.grown g2;have hρ:=dR hl1;have hρ2:=dR hm1;obtain ⟨b,eb,b0,b1,ow⟩:=F2.own i hi l hρ;obtain ⟨c,ec,c0,c1,oc⟩:=F2.own i hi m hρ2;rw [eb] at ec;cases ec;rw [hρ] at hρ2;cases hρ2;rw [if_pos rfl] at hr1;refine ⟨.ref b,eb,?_⟩;refine ⟨d0,l,l,l',m',v0,b,b,Hs2,.inr ⟨rfl,rfl,rfl,hr1⟩,hlen _ _ hr1,F2.sub,r2,b1,b1,ow,ow,fun H' Hs' w n1 n2 w1 w2=>?_⟩;obtain ⟨F3,s3⟩:=F2.lend2 hi hi hρ hρ eb eb w n1 n2 w1 w2;exact kk _ rfl _ _ _ F3 ((m1.trans (g2.same F1.sub)).trans s3)
theorem abk (hu:X.A.units+100 < cLine):Oj X (fun o i v H Q=>Xf o i v H Q\/W0 X o i v H Q):=fun pins s σ H o i v ov iv u Q I ro ri rv h =>
 h.elim (fun h=>set_list pins s σ H o i v ov iv u Q I ro ri rv h) (fun h=>set_dict hu pins s σ H o i v ov iv u Q I ro ri rv h)
def Zx {mv:M} (C:Cok T cl X) (S:ScRel sc X) (hv:fu sc x=true) (ho:aJ x=true) (hN:X.N[i]?=some x) (h2:okE T X.N mk sc kx=true) (h3:okE T X.N mv sc v=true) (h4:fH v=true) (hp:lM kx=true)
  (hi:i∈O):PS X (.Assign [.Subscript (.Name x p) kx p2] v pos) (tMS X E Es O (some O) inv (bC cl (.lset i mk mv))):=by
 unfold aJ at ho;simp only [Bool.and_eq_true,Bool.not_eq_true'] at ho;have hst:swappedStores [.Subscript (.Name x p) kx p2] v X.env=pure none:=by cases v <;> rfl
 refine bY (jt (good mv C S h3).1 (abw (gM hN (S.vis _ hv) ho.1.1 ho.1.2) (good mk C S h2).1 (abk C.un) (by intro _;cases kx <;> first | rfl | cases hp)) (jG (t:=some (.Subscript (.Name x p) kx p2)) (l:=pos.line) (env:=X.env) h4) hst rfl) fun D σ H=>?_
 rintro ⟨ρ,Hs,o,F,h,k⟩;rw [qw] at h;obtain ⟨dv,hdv,hb⟩:=aj h;obtain ⟨l,hl1,hb0⟩:=aj hb;obtain ⟨dk,hdk,hb1⟩:=aj hb0;obtain ⟨l',hl',hb2⟩:=aj hb1;clear h hb hb0 hb1;cases hb2;have hρ:=dR hl1;obtain ⟨a,ea,-,-,-⟩:=F.own i hi l hρ;cases l <;> try (cases hl';done)
 rotate_left
 .rename_i ks vs0;obtain ⟨hlf,hl1'⟩:=bW hl';clear hl';rw [Bool.and_eq_true] at hlf;simp only [putD] at hl1';obtain ⟨⟨hk,hlt,hlen⟩,hl2⟩:=bW hl1';clear hl1';cases hl2;obtain ⟨Hs1,F1,m1,vs1,w1⟩:=F.pubW (aD mv);refine ⟨ρ,Hs1,dv,F1.sub,vs1,hdv,fun y H1 Hs2 g2 r2=>?_⟩;obtain ⟨Hs3,g3,u1,_⟩:=rH F.sub w1 g2;have F2:=F.grown g3;have ry:=oM u1 hlf.1 r2;obtain ⟨Hs5,F5,m5,vs5,w5⟩:=F2.pubW (aD mk);refine ⟨.ref a,ea,ρ,Hs5,dk,F5.sub,vs5,hdk,fun z H2 Hs6 g6 r6=>?_⟩;obtain ⟨Hs7,g7,u7,_⟩:=rH F2.sub w5 g6;have F3:=F2.grown g7;have rz:=oM u7 hlf.2 r6;obtain ⟨a',ea',a0,a1,ow⟩:=F3.own i hi _ hρ;rw [ea] at ea';cases ea';obtain ⟨xs,ys,ep,hxs,e1,rk,rv⟩:=ow;refine .inr ⟨a,dk,ks,xs,ys,rfl,rz.mono F3.sub,hk,⟨⟨ep,hxs⟩,e1,rk.mono F3.sub⟩,by rw [e1,List.length_map] at hlt;exact hlt,fun b u ep' eb ru=>?_⟩;subst eb;obtain ⟨q1,q3,q4⟩:=Qx (X:=X) (H:=Hs7) (a:=a) (u:=u) e1 rk rv rz (ry.mono (g7.same F2.sub)) hlen;have F4:=F3.mut (o:=.ext (DAt (gOf X) a (lu xs ys dk b u y).1 (lu xs ys dk b u y).2 ep')) (d':=.dct (iU ks vs0 dk dv).1 (iU ks vs0 dk dv).2) hi hρ ea ⟨_,_,_,aB,q1,q3,q4⟩;exact k _ rfl _ _ _ F4 ((g3.trans g7).same F.sub)
 rename_i ds;cases dk <;> try (cases hl';done)
 rename_i kk;replace hl':(match ixN ds.length kk with | some j=>(if lfD dv=true then R.ok (Mi.D.lst (ds.set j dv)) else .stuck) | none=>.stuck)=.ok l':=hl';split at hl' <;> try (cases hl';done)
 rename_i j ej;obtain ⟨hlf,hl2⟩:=bW hl';cases hl2;obtain ⟨Hs1,F1,m1,vs1,w1⟩:=F.pubW (aD mv);refine ⟨ρ,Hs1,dv,F1.sub,vs1,hdv,fun y H1 Hs2 g2 r2=>?_⟩;obtain ⟨Hs3,g3,u1,_⟩:=rH F.sub w1 g2;have F2:=F.grown g3;have ry:=oM u1 hlf r2;obtain ⟨Hs5,F5,m5,vs5,w5⟩:=F2.pubW (aD mk);refine ⟨.ref a,ea,ρ,Hs5,_,F5.sub,vs5,hdk,fun z H2 Hs6 g6 r6=>?_⟩;obtain ⟨Hs7,g7,u7,_⟩:=rH F2.sub w5 g6;have F3:=F2.grown g7;obtain ⟨a',ea',a0,a1,ow⟩:=F3.own i hi _ hρ;rw [ea] at ea';cases ea';obtain ⟨xs,hxs,rxs⟩:=ow;cases aU.mp r6;refine .inl ⟨a,xs,kk,j,rfl,rfl,hxs,by rw [<- rxs.length];exact ej,?_⟩;have F4:=F3.mut (o:=.lst (xs.set j y)) (d':=.lst (ds.set j dv)) hi hρ ea ⟨_,aB,Rps.set (ry.mono (g7.same F2.sub)) j rxs⟩;exact k _ rfl _ _ _ F4 ((g3.trans g7).same F.sub)
def Y6 {t:Nat}{lp:Pos} (C:Cok T cl X) (S:ScRel sc X) (hq:∀ q∈E.pins,q.1≠t) (h1:tgB X.N sc (.one t) tg=true) (hv:fu sc x=true) (ho:aJ x=true) (hN:X.N[i]?=some x) (h2:okE T X.N mk sc kx=true) (hn:noStar kx=true) (hl:(ap.endLine == cp.line)=true)
  (hi:i ∈ without O (aD mk)) (hti:t ≠ i):PS X (.Assign [tg] (.Call (.Attribute (.Name x p) "pop" ap) [kx,.List [] lp] [] cp) pos) (tMS X E Es O (some (without (without O (aD mk)) [t])) inv (bC cl (.dpop t i mk))):=by
 unfold aJ at ho;simp only [Bool.and_eq_true,Bool.not_eq_true'] at ho;refine bY (jt (V7 C.un (gM hN (S.vis _ hv) ho.1.1 ho.1.2) (good mk C S h2).1 (Bs gK) ⟨rfl,by rw [aA hn];rfl,hl,by rw [aA hn];rfl⟩) (jg C S h1) rfl (fZ rfl h1) (assign1 h1)) fun DD σ H=>?_
 rintro ⟨ρ,Hs,o,F,h,k⟩;rw [qv] at h;obtain ⟨l,hl1,hb⟩:=aj h;obtain ⟨dk,hdk,hb0⟩:=aj hb;obtain ⟨r,hr,hb1⟩:=aj hb0;clear h hb hb0;cases hb1;obtain ⟨Hs1,F1,m1,vs⟩:=F.pubU (aD mk);have hρ:=dR hl1;obtain ⟨a,ea,a0,a1,ow⟩:=F1.own i hi l hρ;cases l <;> try (cases hr;done)
 rename_i ks vs0;simp only [GR] at hr;obtain ⟨⟨hk,hlen⟩,hr2⟩:=bW hr;clear hr;obtain ⟨xs,ys,ep,hxs,e1,rk,rv⟩:=ow;refine ⟨.ref a,ea,a,ks,xs,ys,rfl,⟨⟨ep,hxs⟩,e1,rk.mono F1.sub⟩,ρ,Hs1,dk,F1.sub,vs,hdk,fun y H1 Hs2 g2 r2=>⟨ye _,fun p1 hp1=>?_⟩⟩;have F2:=F1.grown g2;have g3:Grow H1 Hs2 (upd H1 p1 (.lst [])) (upd Hs2 p1 (.lst [])):=Grow.new F2.sub hp1;have gA:=g2.trans g3;have F3:=F1.grown gA;have mA:=gA.same F1.sub;refine ⟨dk,ks,xs,ys,(r2.mono (g3.same F2.sub)).mono F3.sub,hk,⟨⟨ep,gA.keep a _ hxs⟩,e1,rk.mono (mA.trans F3.sub)⟩,fun j v hnd hj hjv ep'=>?_,fun hno=>?_⟩
 .rw [<- e1] at hj hnd;have ej:ks.findIdx? (fun c=>decide (c=dk))=some j:=aaE hnd hj;rw [ej] at hr2;obtain ⟨z,ez,rz⟩:∃ z,vs0[j]?=some z/\Rp (gOf X) (upd Hs2 p1 (.lst [])) z v:=by
   have hjl:j < vs0.length:=by
    have:=(v7.mp hj).1;omega
   obtain ⟨v',ev',rz⟩:=(rv.mono mA).getD (List.getElem?_eq_getElem hjl);rw [hjv] at ev';cases ev';exact ⟨_,List.getElem?_eq_getElem hjl,rz⟩
  simp only [ez] at hr2;cases hr2;have F4:=F3.mut (o:=.ext (DAt (gOf X) a (xs.eraseIdx j) (ys.eraseIdx j) ep')) (d':=.dct (ks.eraseIdx j) (vs0.eraseIdx j)) hi hρ ea ⟨_,_,_,aB,by rw [e1,je],by rw [<- je];exact (rk.mono mA).erase j,(rv.mono mA).erase j⟩;exact k _ rfl _ _ _ (F4.setS hq rz) (m1.trans mA)
 .have ej:ks.findIdx? (fun c=>decide (c=dk))=none:=by
   rw [List.findIdx?_eq_none_iff];intro c hc;simp only [decide_eq_false_iff_not];intro z;exact hno (by rw [<- e1,<- z];exact hc)
  rw [ej] at hr2;cases hr2;have F4:=F3.setS (i:=t) (d:=.lst []) (v:=.ref p1) hq (bT.mpr ⟨p1,[],rfl,SqL.of aB,Rps.nil⟩);have e4:ρ.set i (some (.dct ks vs0))=ρ:=set_same hρ;simp only [e4] at k;exact k _ rfl _ _ _ F4 (m1.trans mA)
def Wg {b:List MS}{body:vi}{O2:zz}{y:Ow} (C:Cok T cl X) (S:ScRel sc X) (hp:PassesOwn (model X.prog X.w) X.A X.env X.xe) (h1:okE T X.N c sc c'=true) (hsub:∀ i∈O2,i∈O) (hy:∀ O3,y=some O3->∀ i∈O2,i∈O3)
  (hb:PSs X body (tMS X E Es O2 y O2 (cj cl b))):PS X (.While c' body [] pos) (tMS X E Es O (some O2) inv (bC cl (.whl c b))):=by
 refine bY (VD hp (good c C S h1).2 hb) fun D σ H=>?_
 rintro ⟨ρ,Hs,o,F,h,kk⟩;rw [Te] at h;obtain ⟨Hs3,F3,m3⟩:=F.fewer hsub;refine ⟨fun m σ H=>∃ ρ1 Hs',FR (gOf X) E Es O2 ρ1 σ H Hs'/\Same Hs3 Hs'/\uF (fun ρ=>do let x <- evE cl c ρ;cJ x) (fun ρ=>cj cl b ρ) ρ m ρ1=.ok o,⟨wfu,ρ,Hs3,F3,Same.refl _,h⟩,?_⟩;rintro m σ1 H1 ⟨ρ1,Hs',F',s',hgo⟩;cases m with
 | zero=>cases hgo
 | succ m =>
  unfold uF at hgo;obtain ⟨t,ht,hgo2⟩:=aj hgo;clear hgo;obtain ⟨d,hd,ht2⟩:=aj ht;cases iZ ht2;obtain ⟨Hs1,F1,m1,vs,w1⟩:=F'.pubW (aD c);refine ⟨ρ1,Hs1,t,F1.sub,vs,hd,fun H2 Hs2 g2=>?_⟩;obtain ⟨Hs4,g4,_,_⟩:=rH F'.sub w1 g2;have F4:=F'.grown g4;have s4:Same Hs3 Hs4:=s'.trans (g4.same F'.sub);cases t with
  | false =>
   rw [if_neg (by decide)];rw [if_neg (by decide)] at hgo2;cases hgo2;exact kk O2 rfl _ _ _ F4 (m3.trans s4)
  | true =>
   rw [if_pos rfl];rw [if_pos rfl] at hgo2;obtain ⟨o1,ho1,hgo3⟩:=aj hgo2;clear hgo2;refine ⟨fun σ' H'=>∃ ρ2 Hs',FR (gOf X) E Es O2 ρ2 σ' H' Hs'/\Same Hs3 Hs'/\uF (fun ρ=>do let x <- evE cl c ρ;cJ x) (fun ρ=>cj cl b ρ) ρ m ρ2=.ok o,fun σ' H' q=>⟨m,jS _,q⟩,ρ1,Hs4,o1,F4,ho1,?_⟩;cases o1 with
   | nx ρ3 =>
    intro O3 e3 σ' H' Hs7 F7 s7;obtain ⟨Hs8,F8,m8⟩:=F7.fewer (hy O3 e3);exact ⟨aM ρ ρ3,Hs8,F8.less (vg _ _) fun j d' q=>vG q,(s4.trans s7).trans m8,hgo3⟩
   | rt d3 =>
    cases hgo3;exact kk
   | ro d3 =>
    cases hgo3;exact kk
end
end Mi
set_option maxHeartbeats 1000000
namespace Mi
open PySem L2
open PyProof.Rows hiding St
theorem gD:∀ (U:zz) (ρ:En),(fO ρ U).length=ρ.length
 | [],ρ=>rfl
 | i::U,ρ=>by rw [fO,gD U,List.length_set]
theorem pB:∀ {U:zz}{ρ:En}{j:Nat}{d:D},(fO ρ U)[j]?=some (some d)->j ∉ U/\ρ[j]?=some (some d)
 | [],ρ,j,d,h=>⟨by simp,h⟩
 | i::U,ρ,j,d,h=>by
  obtain ⟨h1,h2⟩:=pB (U:=U) (ρ:=ρ.set i none) h;by_cases e:j=i
  .subst e;have hl:j < ρ.length:=by
    have:=(v7.mp h2).1;simpa using this
   rw [List.getElem?_set_self hl] at h2;cases h2
  .rw [List.getElem?_set_ne (Ne.symm e)] at h2;exact ⟨by simp [e,h1],h2⟩
theorem Ac:∀ {U:zz}{ρ:En}{j:Nat}{d:D},j ∉ U->ρ[j]?=some (some d)->(fO ρ U)[j]?=some (some d)
 | [],ρ,j,d,_,h=>h
 | i::U,ρ,j,d,hu,h=>by
  have hu':j≠i/\j ∉ U:=by simpa using hu
  show (fO (ρ.set i none) U)[j]?=some (some d)
  exact Ac hu'.2 (by rw [List.getElem?_set_ne (Ne.symm hu'.1)];exact h)
theorem Dr {α:Type}{j:Nat}:∀ (l:List (Nat × α)) (xs:List (Option α)),j ∉ l.map (·.1)->(putL xs l)[j]?=xs[j]?
 | [],xs,_=>rfl
 | (i,a)::l,xs,h=>by
  have h':j≠i/\j ∉ l.map (·.1):=by
   rw [List.map_cons,List.mem_cons,not_or] at h;exact h
  rw [putL,Dr l _ h'.2,List.getElem?_set_ne (Ne.symm h'.1)]
def OLs (g:G) (H Hs:Hp):List D->List Addr->Prop
 | [],bs=>bs=[]
 | v::vs,bs=>∃ b bs' ds zs,bs=b::bs'/\v=.lst ds/\H b=some (.lst zs)/\Rps g Hs ds zs/\OLs g H Hs vs bs'
variable {ks vs:List D}{σ:St}{b:Addr}
section
variable {g:G}{E:Ent}{Es:Hp}{H Hs H' Hs':Hp}{a:Addr}
theorem OLs.mono:∀ {vs:List D}{bs:List Addr},(∀ b∈bs,∀ o,H b=some o->H' b=some o)->Same Hs Hs'->OLs g H Hs vs bs->OLs g H' Hs' vs bs
 | [],bs,_,_,h=>h
 | v::vs,bs,k,m,h=>by
  obtain ⟨b,bs',ds,zs,rfl,e,h1,r,h2⟩:=h;exact ⟨b,bs',ds,zs,rfl,e,k b vz _ h1,r.mono m,OLs.mono (fun c hc=>k c (vy _ hc)) m h2⟩
theorem OLs.here:∀ {vs:List D}{bs:List Addr},OLs g H Hs vs bs->∀ b∈bs,∃ o,H b=some o
 | [],bs,h,b,hb=>by cases h;cases hb
 | v::vs,bs,h,b,hb=>by
  obtain ⟨b0,bs',ds,zs,rfl,e,h1,r,h2⟩:=h;rcases w6.mp hb with z | z
  .exact ⟨_,z ▸ h1⟩
  .exact OLs.here h2 b z
theorem OLs.snoc {p:Addr}:∀ {vs:List D}{bs:List Addr},OLs g H Hs vs bs->H p=some (.lst [])->OLs g H Hs (vs++[.lst []]) (bs++[p])
 | [],bs,h,hp=>by cases h;exact ⟨p,[],[],[],rfl,rfl,hp,Rps.nil,rfl⟩
 | v::vs,bs,h,hp=>by
  obtain ⟨b,bs',ds,zs,rfl,e,h1,r,h2⟩:=h;exact ⟨b,bs'++[p],ds,zs,rfl,e,h1,r,OLs.snoc h2 hp⟩
theorem OLs.pub:∀ {vs:List D}{bs:List Addr},(∀ b∈bs,Hs' b=H b)->Same Hs Hs'->OLs g H Hs vs bs->Rps g Hs' vs (bs.map V.ref)
 | [],bs,_,_,h=>by cases h;exact Rps.nil
 | v::vs,bs,k,m,h=>by
  obtain ⟨b,bs',ds,zs,rfl,rfl,h1,r,h2⟩:=h;rw [List.map_cons];exact Rps.cons (bT.mpr ⟨b,zs,rfl,SqL.of (by rw [k b List.mem_cons_self];exact h1),r.mono m⟩) (OLs.pub (fun c hc=>k c (vy _ hc)) m h2)
theorem xG {k:D}:∀ {xs:List (D × Addr × Value)}{vs:List D}{bs:List Addr},OLs g H Hs vs bs->xs.length=bs.length ->
  (∃ ds zs b,cW (xs.map (·.1)) vs k=some (.lst ds)/\atV xs (bs.map V.ref) k=some (.ref b)/\b∈bs/\H b=some (.lst zs)/\Rps g Hs ds zs/\k∈xs.map (·.1))\/(cW (xs.map (·.1)) vs k=none/\atV xs (bs.map V.ref) k=none/\k ∉ xs.map (·.1))
 | [],vs,bs,h,hl=>.inr ⟨by cases vs <;> rfl,rfl,by simp⟩
 | x::xs,[],bs,h,hl=>by cases h;simp at hl
 | x::xs,v::vs,bs,h,hl=>by
  obtain ⟨b,bs',ds,zs,rfl,rfl,h1,r,h2⟩:=h;by_cases e:x.1=k
  .exact .inl ⟨ds,zs,b,if_pos e,if_pos e,vz,h1,r,by rw [List.map_cons,e];exact vz⟩
  .have e1:cW ((x::xs).map (·.1)) (.lst ds::vs) k=cW (xs.map (·.1)) vs k:=if_neg e;have e2:atV (x::xs) ((b::bs').map V.ref) k=atV xs (bs'.map V.ref) k:=if_neg e;rw [e1,e2];rcases xG (k:=k) h2 (by simpa using hl) with ⟨ds',zs',b',q1,q2,q3,q4,q5,q6⟩ | ⟨q1,q2,q3⟩
   .exact .inl ⟨ds',zs',b',q1,q2,vy _ q3,q4,q5,vy _ q6⟩
   .refine .inr ⟨q1,q2,fun z=>?_⟩;rcases w6.mp z with z | z
    .exact e z.symm
    .exact q3 z
theorem G6 {k nv:D}:∀ {ks vs:List D},ks.length=vs.length->k ∉ ks->((ks.zip vs).map fun p=>if p.1=k then nv else p.2)=vs
 | [],vs,hl,_=>by cases vs with | nil=>rfl | cons _ _=>simp at hl
 | c::ks,[],hl,_=>by simp at hl
 | c::ks,v::vs,hl,hk=>by
  have hk':k≠c/\k ∉ ks:=by simpa using hk
  rw [List.zip_cons_cons,List.map_cons,G6 (by simpa using hl) hk'.2];show (if c=k then nv else v)::vs=_
  rw [if_neg (Ne.symm hk'.1)]
theorem OLs.len:∀ {vs:List D}{bs:List Addr},OLs g H Hs vs bs->vs.length=bs.length
 | [],bs,h=>by cases h;rfl
 | v::vs,bs,h=>by
  obtain ⟨b,bs',ds,zs,rfl,_,_,_,h2⟩:=h;simp [OLs.len h2]
theorem Qa {k v:D}{z:V}{b:Addr}{ds:List D}{zs:List V} (rz:Rp g Hs v z) (hb:H b=some (.lst zs)) (rb:Rps g Hs ds zs):∀ {xs:List (D × Addr × Value)}{vs:List D}{bs:List Addr},OLs g H Hs vs bs->xs.length=bs.length->(xs.map (·.1)).Nodup->bs.Nodup ->
  cW (xs.map (·.1)) vs k=some (.lst ds)->atV xs (bs.map V.ref) k=some (.ref b)->b∈bs->OLs g (upd H b (.lst (zs++[z]))) Hs (((xs.map (·.1)).zip vs).map fun p=>if p.1=k then .lst (ds++[v]) else p.2) bs
 | [],vs,bs,h,hl,n1,n2,h1,h2,h3=>by cases vs <;> cases h1
 | x::xs,[],bs,h,hl,n1,n2,h1,h2,h3=>by cases h1
 | x::xs,v0::vs,bs,h,hl,n1,n2,h1,h2,h3=>by
  obtain ⟨b0,bs',ds0,zs0,rfl,rfl,q1,r,q2⟩:=h;rw [List.map_cons,List.nodup_cons] at n1;rw [List.nodup_cons] at n2;have hlen:(xs.map (·.1)).length=vs.length:=by rw [List.length_map,q2.len];simpa using hl
  rw [List.map_cons,List.zip_cons_cons,List.map_cons];by_cases e:x.1=k
  .have e1:cW ((x::xs).map (·.1)) (.lst ds0::vs) k=some (.lst ds0):=if_pos e;have e2:atV (x::xs) ((b0::bs').map V.ref) k=some (.ref b0):=if_pos e;rw [e1] at h1;cases h1;rw [e2] at h2;cases h2;rw [hb] at q1;cases q1;rw [G6 hlen (by rw [<- e];exact n1.1)];refine ⟨b,bs',ds++[v],zs++[z],rfl,by show (if x.1=k then _ else _)=_;rw [if_pos e],aB,rb.append (Rps.one rz),q2.mono (fun c hc o q=>?_) (Same.refl _)⟩;rw [ao (fun e:c=b=>n2.1 (by rw [<- e];exact hc))];exact q
  .have e1:cW ((x::xs).map (·.1)) (.lst ds0::vs) k=cW (xs.map (·.1)) vs k:=if_neg e;have e2:atV (x::xs) ((b0::bs').map V.ref) k=atV xs (bs'.map V.ref) k:=if_neg e;rw [e1] at h1;rw [e2] at h2;have h3':b∈bs':=by
    rcases xG (k:=k) q2 (xs:=xs) (by simpa using hl) with ⟨_,_,b',_,j2,j3,_⟩ | ⟨_,j2,_⟩
    .rw [h2] at j2;cases j2;exact j3
    .rw [h2] at j2;cases j2
   have hne:b0≠b:=fun z=>n2.1 (by rw [z];exact h3')
   exact ⟨b0,bs',ds0,zs0,rfl,by show (if x.1=k then _ else _)=_;rw [if_neg e],by rw [ao hne];exact q1,r,Qa rz hb rb q2 (by simpa using hl) n1.2 n2.2 h1 h2 h3'⟩
structure DX (g:G) (E:Ent) (H Hs:Hp) (a:Addr) (ks vs:List D) (xs:List (D × Addr × Value)) (bs:List Addr) (ep:Nat):Prop where
 at_:H a=some (.ext (DAt g a xs (bs.map V.ref) ep))
 keys:ks=xs.map (·.1)
 rep:Rps g Hs ks (xs.map fun x=>V.ref x.2.1)
 ol:OLs g H Hs vs bs
 len:xs.length=bs.length
 nk:ks.Nodup
 nb:bs.Nodup
 na:a ∉ bs
 eb:∀ b∈bs,E.hp b=none/\Hs b=none
 ea:E.hp a=none
 sa:Hs a=none
def DO (g:G) (E:Ent) (H Hs:Hp) (a:Addr) (ks vs:List D):Prop:=∃ xs bs ep,DX g E H Hs a ks vs xs bs ep
theorem DX.grown {xs:List (D × Addr × Value)}{bs:List Addr}{ep:Nat} (d:DX g E H Hs a ks vs xs bs ep) (hs:Same Hs H) (w:Grow H Hs H' Hs'):DX g E H' Hs' a ks vs xs bs ep:=by
 have m:=w.same hs;refine ⟨w.keep _ _ d.at_,d.keys,d.rep.mono m,d.ol.mono (fun b _ o q=>w.keep b o q) m,d.len,d.nk,d.nb,d.na,fun b hb=>⟨(d.eb b hb).1,?_⟩,d.ea,by rw [w.old _ _ d.at_];exact d.sa⟩;obtain ⟨o,ho⟩:=d.ol.here b hb;rw [w.old b o ho];exact (d.eb b hb).2
theorem DO.grown (d:DO g E H Hs a ks vs) (hs:Same Hs H) (w:Grow H Hs H' Hs'):DO g E H' Hs' a ks vs:=let ⟨xs,bs,ep,q⟩:=d;⟨xs,bs,ep,q.grown hs w⟩
theorem FR.poke {ρ:En}{o:HO} (F:FR g E Es [] ρ σ H Hs) (h1:E.hp b=none) (h2:Hs b=none):FR g E Es [] ρ σ (upd H b o) Hs:=by
 refine ⟨⟨fun c u q=>?_,F.grow.old,fun c u q=>?_⟩,F.len,F.val,(fun j hj=>by cases hj),(fun j hj=>by cases hj),F.pin⟩
 .rw [ao (ak q h1)];exact F.grow.keep c u q
 .rw [ao (ak q h2)];exact F.grow.sub c u q
end
def M8 {g:G}{J:It}{Hs0:Hp}{ds:List D}{gt:TG}{tb:TS}{D:Ends}{H:Hp} (src:Src g J Hs0 ds) (Pv:Nat->St->Hp->Prop) (h0:Pv 0 σ H) (hsame:∀ i σ H,Pv i σ H->Same Hs0 H)
  (step:∀ i d x σ H H',ds[i]?=some d->Pv i σ H->J.yld i H x H'->gt x σ H' fun σ2 H2=>tb { D with nx:=Pv (i+1),ct:=Pv (i+1),bk:=D.nx } σ2 H2) (hd:∀ σ H,Pv ds.length σ H->D.nx σ H) :
  ∃ W:Nat->Nat->St->Hp->Prop,(∃ m,W 0 m σ H)/\∀ i m σ H,W i m σ H ->
   (J.stop i H/\D.nx σ H)\/(J.go i H/\∃ N:St->Hp->Prop,(∀ σ' H',N σ' H'->∃ m',m' < m/\W (i+1) m' σ' H')/\∀ x H',J.yld i H x H'->gt x σ H' fun σ2 H2=>tb { D with nx:=N,ct:=N,bk:=D.nx } σ2 H2):=by
 refine ⟨fun i m σ H=>m=ds.length - i/\i<=ds.length/\Pv i σ H,⟨ds.length,by simp,ye _,h0⟩,?_⟩;rintro i m σ H ⟨rfl,hi,p⟩;by_cases hlt:i < ds.length
 .refine .inr ⟨src.go i H (hsame i σ H p) hlt,Pv (i+1),fun σ' H' p'=>⟨ds.length - (i+1),by omega,rfl,hlt,p'⟩,fun x H' y=>?_⟩;exact step i ds[i] x σ H H' (by simp [hlt]) p y
 .have e:i=ds.length:=by omega
  subst e;exact .inl ⟨src.stop H (hsame _ σ H p),hd σ H p⟩
def tG (X:Cx) (E:Ent) (Es:Hp) (i:Nat) (U:zz) (run:En->D->R D):TS:=fun D σ H=>∃ ρ Hs a ks vs d',FR (gOf X) E Es [] ρ σ H Hs/\σ[i]?=some (some (.ref a))/\DO (gOf X) E H Hs a ks vs/\run ρ (.dct ks vs)=.ok d' /\
 ∀ σ' H' Hs' ks' vs',d'=.dct ks' vs'->FR (gOf X) E Es [] (fO ρ U) σ' H' Hs'->Same Hs Hs'->σ'[i]?=some (some (.ref a))->DO (gOf X) E H' Hs' a ks' vs'->D.nx σ' H'
variable {st:Stmt}
section
variable {T:Tx}{cl:Nat->List D->R D}{X:Cx}{sc:Scope}{E:Ent}{Es:Hp}{pos:Pos}{i:Nat}
def abd {k v:M}{x:Str}{k' v':Expr}{p lp ap2 cp2 ap cp:Pos} (C:Cok T cl X) (S:ScRel sc X) (hv:fu sc x=true) (ho:aJ x=true) (hN:X.N[i]?=some x) (h1:okE T X.N k sc k'=true) (h2:okE T X.N v sc v'=true) (n1:noStar k'=true) (n2:noStar v'=true) (l1:(ap.endLine == cp.line)=true) (l2:(ap2.endLine == cp2.line)=true) :
  PS X (.Expr (.Call (.Attribute (.Call (.Attribute (.Name x p) "setdefault" ap2) [k',.List [] lp] [] cp2) "append" ap) [v'] [] cp) pos) (tG X E Es i [] (lD cl (.sda k v))):=by
 unfold aJ at ho;simp only [Bool.and_eq_true,Bool.not_eq_true'] at ho;refine bY (lK (Gv PySem.F.plainAttrs_list PySem.F.slot_list_append PySem.F.type_list_append vO
  (YQ C.un (gM hN (S.vis _ hv) ho.1.1 ho.1.2) (good k C S h1).1 (Bs gK) ⟨rfl,by rw [aA n1];rfl,l2,by rw [aA n1];rfl⟩)
  (dD (good v C S h2).1 gK (aA n2)) rfl (by rw [aA n2];rfl) l1 (aA n2) rfl) rfl) fun DD σ H=>?_
 rintro ⟨ρ,Hs,a,ks,vs,d',F,ei,⟨xs,bs,ep,dx⟩,h,kk⟩;rw [wl] at h;obtain ⟨dk,hdk,hb⟩:=aj h;obtain ⟨dv,hdv,hb1⟩:=aj hb;clear h hb;simp only [Aj] at hb1;obtain ⟨⟨hk,hlt,hlen⟩,hb2⟩:=bW hb1;clear hb1;have hll:=ju;have fin:∀ (H1 Hs1:Hp) (ks1 vs1:List D) (xs1:List (D × Addr × Value)) (bs1:List Addr) (ep1:Nat) (b:Addr) (l:List D) (zs:List V),FR (gOf X) E Es [] ρ σ H1 Hs1->Same Hs Hs1->DX (gOf X) E H1 Hs1 a ks1 vs1 xs1 bs1 ep1 ->
   cW ks1 vs1 dk=some (.lst l)->atV xs1 (bs1.map V.ref) dk=some (.ref b)->b∈bs1->H1 b=some (.lst zs)->Rps (gOf X) Hs1 l zs->l.length < lim->d'=.dct ks1 ((ks1.zip vs1).map fun p=>if p.1=dk then .lst (l++[dv]) else p.2) ->
   (tyV X.K "list" (.ref b) H1 /\ Ni (tM X (aD v) (evE cl v)) Nb σ H1 fun ys H2=>Mv (.ref b) ys H2 fun _ H3=>DD.nx σ H3):=by
  intro H1 Hs1 ks1 vs1 xs1 bs1 ep1 b l zs F1 s1 dx1 g1 g2 g3 g4 g5 g6 ed;refine ⟨.inl ⟨rfl,zs,SqL.of g4⟩,ρ,Hs1,dv,F1.sub,F1.vs (fun _ _ z=>by cases z),hdv,fun z H2 Hs2 w2 r2=>?_⟩;have F2:=F1.grown w2;have dx2:=dx1.grown F1.sub w2;have hz:=g5.length;refine ⟨b,zs,z,rfl,rfl,w2.keep _ _ g4,by omega,?_⟩;have eb:=dx2.eb b g3;have nab:a≠b:=fun z=>dx2.na (z ▸ g3)
  refine kk σ _ Hs2 _ _ ed (F2.poke eb.1 eb.2) (s1.trans (w2.same F1.sub)) ei ⟨xs1,bs1,ep1,by rw [ao nab];exact dx2.at_,dx2.keys,dx2.rep,?_,dx2.len,dx2.nk,dx2.nb,dx2.na,dx2.eb,dx2.ea,dx2.sa⟩;have hk1:=dx2.keys;subst hk1;exact Qa r2 (w2.keep _ _ g4) (g5.mono (w2.same F1.sub)) dx2.ol dx2.len dx2.nk dx2.nb g1 g2 g3
 refine ⟨.ref a,ei,a,ks,xs,_,rfl,⟨⟨ep,dx.at_⟩,dx.keys,dx.rep.mono F.sub⟩,ρ,Hs,dk,F.sub,F.vs (fun _ _ z=>by cases z),hdk,fun y H1 Hs1 w1 r1=>⟨ye _,fun p hp=>?_⟩⟩;have F1:=F.grown w1;have dx1:=dx.grown F.sub w1;have w2:Grow H1 Hs1 (upd H1 p (.lst [])) Hs1:=Grow.own F1.sub hp;have F2:=F1.grown w2;have dx2:=dx1.grown F1.sub w2;have s2:Same Hs Hs1:=w1.same F.sub;refine ⟨dk,ks,xs,_,r1.mono F2.sub,hk,⟨⟨ep,dx2.at_⟩,dx2.keys,dx2.rep.mono F2.sub⟩,by rw [dx.keys,List.length_map] at hlt;exact hlt,fun v0 hv0=>?_,fun hv0 b u ep' ey ru=>?_⟩
 .rcases xG (k:=dk) dx2.ol dx2.len with ⟨l,zs,b,q1,q2,q3,q4,q5,q6⟩ | ⟨q1,q2,q3⟩
  .rw [hv0] at q2;cases q2;rw [<- dx2.keys] at q1;rw [q1] at hb2;obtain ⟨hl,hb3⟩:=bW hb2;have ed:d'=.dct ks ((ks.zip vs).map fun p=>if p.1=dk then .lst (l++[dv]) else p.2):=by
    have e:=QJ hb3;rw [<- e];have hm:dk∈ks:=by rw [dx2.keys];exact q6
    unfold iU;rw [if_pos hm]
   exact fin _ Hs1 ks vs xs bs ep b l zs F2 s2 dx2 q1 hv0 q3 q4 q5 hl ed
  .rw [hv0] at q2;cases q2
 .rcases xG (k:=dk) dx2.ol dx2.len with ⟨l,zs,b',q1,q2,q3,q4,q5,q6⟩ | ⟨q1,q2,q3⟩
  .rw [hv0] at q2;cases q2
  .rw [<- dx2.keys] at q1 q3;rw [q1] at hb2;have ed:=QJ hb2;have hpa:p≠a:=fun z=>by rw [z,dx1.at_] at hp;cases hp
   have hpb:p ∉ bs:=fun z=>by
    obtain ⟨o,ho⟩:=dx1.ol.here p z;rw [ho] at hp;cases hp
   have Ep:E.hp p=none:=by
    cases q:E.hp p with
    | none=>rfl
    | some u=>rw [F1.grow.keep p u q] at hp;cases hp
   have Sp:Hs1 p=none:=by
    cases q:Hs1 p with
    | none=>rfl
    | some u=>rw [F1.sub p u q] at hp;cases hp
   subst ey;have F3:=F2.poke (b:=a) (o:=.ext (DAt (gOf X) a (xs++[(dk,b,u)]) ((bs++[p]).map V.ref) ep')) dx2.ea dx2.sa;have hp3:(upd (upd H1 p (.lst [])) a (.ext (DAt (gOf X) a (xs++[(dk,b,u)]) ((bs++[p]).map V.ref) ep'))) p=some (.lst []):=by rw [ao hpa,aB]
   have ol3:OLs (gOf X) (upd (upd H1 p (.lst [])) a (.ext (DAt (gOf X) a (xs++[(dk,b,u)]) ((bs++[p]).map V.ref) ep'))) Hs1 vs bs:=dx2.ol.mono (fun c hc o q=>by
    rw [ao (fun e:c=a=>dx2.na (by rw [<- e];exact hc))];exact q) (Same.refl _)
   have dx3:DX (gOf X) E (upd (upd H1 p (.lst [])) a (.ext (DAt (gOf X) a (xs++[(dk,b,u)]) ((bs++[p]).map V.ref) ep'))) Hs1 a (ks++[dk]) (vs++[.lst []]) (xs++[(dk,b,u)]) (bs++[p]) ep':=by
    refine ⟨aB,by rw [List.map_append,dx2.keys];rfl,by rw [List.map_append];exact dx2.rep.append (Rps.one r1),ol3.snoc hp3,by simp [dx2.len],?_,?_,?_,?_,dx2.ea,dx2.sa⟩
    .rw [List.nodup_append];refine ⟨dx2.nk,by simp,fun c hc e he=>?_⟩;rw [List.mem_singleton.mp he];exact fun z=>q3 (z ▸ hc)
    .rw [List.nodup_append];refine ⟨dx2.nb,by simp,fun c hc e he=>?_⟩;rw [List.mem_singleton.mp he];exact fun z=>hpb (z ▸ hc)
    .intro z;rcases yy.mp z with z | z
     .exact dx2.na z
     .exact hpa (yz.mp z).symm
    .intro c hc;rcases yy.mp hc with z | z
     .exact dx2.eb c z
     .rw [List.mem_singleton.mp z];exact ⟨Ep,Sp⟩
   have hlv:ks.length=vs.length:=hlen;rcases xG (k:=dk) dx3.ol dx3.len with ⟨l,zs,b',j1,j2,j3,j4,j5,j6⟩ | ⟨_,_,j3⟩
   .rw [<- dx3.keys] at j1;have gk:∀ (as bs:List D),as.length=bs.length->dk ∉ as->cW (as++[dk]) (bs++[.lst []]) dk=some (.lst []):=by
     intro as;induction as with
     | nil=>intro bs hl _;cases bs with | nil=>exact if_pos rfl | cons _ _=>simp at hl
     | cons c as ih =>
      intro bs hl hn;cases bs with
      | nil=>simp at hl
      | cons e bs =>
       have hn':dk≠c/\dk ∉ as:=by simpa using hn
       rw [List.cons_append,List.cons_append];exact (if_neg (Ne.symm hn'.1)).trans (ih bs (by simpa using hl) hn'.2)
    have gv:∀ (as:List (D × Addr × Value)) (cs:List Addr),as.length=cs.length->dk ∉ as.map (·.1)->atV (as++[(dk,b,u)]) ((cs++[p]).map V.ref) dk=some (.ref p):=by
     intro as;induction as with
     | nil=>intro cs hl _;cases cs with | nil=>exact if_pos rfl | cons _ _=>simp at hl
     | cons c as ih =>
      intro cs hl hn;cases cs with
      | nil=>simp at hl
      | cons e cs =>
       have hn':dk≠c.1/\dk ∉ as.map (·.1):=by
        rw [List.map_cons,List.mem_cons,not_or] at hn;exact hn
       rw [List.cons_append,List.cons_append,List.map_cons];exact (if_neg (Ne.symm hn'.1)).trans (ih cs (by simpa using hl) hn'.2)
    have j1':=gk ks vs hlv q3;rw [j1] at j1';cases j1';have j2':=gv xs bs dx2.len (by rw [<- dx2.keys];exact q3);rw [j2] at j2';cases j2';have em:(bs.map V.ref)++[V.ref p]=(bs++[p]).map V.ref:=by rw [List.map_append];rfl
    rw [em];refine fin _ Hs1 _ _ _ _ _ p [] zs F3 s2 dx3 j1 j2 j3 j4 j5 (by decide) ?_;rw [<- ed,List.zip_append hlv,List.map_append,G6 hlv q3];show _=D.dct (ks++[dk]) (vs++[if dk=dk then _ else _])
    rw [if_pos rfl];rfl
   .exact absurd (by rw [List.map_append];exact vF _ (yz.mpr rfl)) j3
def aay {t:Tg}{k:IK}{src:List M}{b:GS}{tg iter:Expr} (C:Cok T cl X) (S:ScRel sc X) (hp:PassesOwn (model X.prog X.w) X.A X.env X.xe) (hq:∀ q∈E.pins,q.1 ∉ aK t) (hi:i ∉ aK t)
  (h1:tgB X.N sc t tg=true) (h2:iB sc k tg iter=true) (h3:bI T X.N src sc (iY k iter)=true)
  (hb:PS X st (tG X E Es i (tgG b) (lD cl b))):PS X (.For tg iter [st] [] pos) (tG X E Es i (aK t++tgG b) (lD cl (.forr t k src b))):=by
 refine bY (R4 hp C.calm (sJ C S (fun m _=>good m) h2 h3) (jg C S h1) (uw hb Dw) (sO (oK h2))) fun DD σ H=>?_
 rintro ⟨ρ,Hs,a,ks,vs,d',F,ei,dO,h,kk⟩;rw [wm] at h;obtain ⟨ss,hss,hb1⟩:=aj h;obtain ⟨ds,hds,hrun⟩:=aj hb1;clear h hb1;refine ⟨ρ,Hs,ds,F.sub,F.vs (fun _ _ z=>by cases z),by simp only [hss,qT];exact hds,fun J H1 Hs2 g2 sr=>?_⟩;have F2:=F.grown g2;have dO2:=dO.grown F.sub g2;have mm:Same Hs Hs2:=g2.same F.sub;have F3:FR (gOf X) E Es [] (fO ρ (aK t++tgG b)) σ H1 Hs2:=F2.less (gD _ _) fun j d q=>(pB q).2
 refine M8 sr (fun n σ H=>∃ Hs' ks1 vs1,FR (gOf X) E Es [] (fO ρ (aK t++tgG b)) σ H Hs'/\Same Hs2 Hs'/\σ[i]?=some (some (.ref a))/\DO (gOf X) E H Hs' a ks1 vs1 /\
  nG (fun x d=>do let ρ1 <- dw t x (fO ρ (aK t++tgG b));lD cl b ρ1 d) (ds.drop n) (.dct ks1 vs1)=.ok d') ⟨Hs2,ks,vs,F3,Same.refl _,ei,dO2,hrun⟩ (fun n σ H ⟨Hs',_,_,F',s',_⟩=>s'.trans F'.sub) ?_ ?_
 .rintro n d x σ1 H1' H2' hdi ⟨Hs',ks1,vs1,F',s',ei',dO',hgo⟩ hy';obtain ⟨hlt,ed⟩:=v7.mp hdi;rw [List.drop_eq_getElem_cons hlt,ed] at hgo;unfold nG at hgo;obtain ⟨d1,hd1,hgo2⟩:=aj hgo;clear hgo;obtain ⟨ρ2,hρ2,hrb⟩:=aj hd1;clear hd1;obtain ⟨Hs4,g4,rx⟩:=sr.yld n H1' x H2' Hs' d s' F'.sub hdi hy';have F4:=F'.grown g4;have dO4:=dO'.grown F'.sub g4;have s4:Same Hs2 Hs4:=s'.trans (g4.same F'.sub);refine oF (X:=X) g4.sub hρ2 rx fun l hl hrl eρ=>?_
  have F5:=F4.putL (by rw [hl];exact hq) hrl;rw [<- eρ] at F5;have F6:FR (gOf X) E Es [] ρ2 _ _ Hs4:=F5.congrO fun j=>by rw [bD];simp
  have hil:i ∉ (l.map fun p=>(p.1,p.2.2)).map (·.1):=by
   rw [List.map_map];show i ∉ l.map (·.1)
   rw [hl];exact hi
  refine ⟨ρ2,Hs4,a,ks1,vs1,d1,F6,by rw [Dr _ _ hil];exact ei',dO4,hrb,fun σ' H' Hs5 ks' vs' e1 F7 s7 ei7 dO7=>?_⟩;subst e1;refine ⟨Hs5,ks',vs',F7.less ?_ fun j e q=>?_,s4.trans s7,ei7,dO7,hgo2⟩
  .rw [gD,gD,eρ,o9,gD]
  .have q2:=pB q;have q3:j ∉ aK t/\j ∉ tgG b:=by simpa using q2.1
   refine Ac q3.2 ?_;rw [eρ,Dr _ _ (by rw [List.map_map];show j ∉ l.map (·.1);rw [hl];exact q3.1)];exact q
 .rintro σ1 H1' ⟨Hs',ks1,vs1,F',s',ei',dO',hgo⟩;rw [List.drop_length] at hgo;cases hgo;exact kk σ1 H1' Hs' ks1 vs1 rfl F' (mm.trans s') ei' dO'
theorem goodG:∀ (g:GS) {st:Stmt},(∀ q∈E.pins,q.1 ∉ tgG g)->i ∉ tgG g->Cok T cl X->ScRel sc X->PassesOwn (model X.prog X.w) X.A X.env X.xe->okG T X.N sc i g st=true->PS X st (tG X E Es i (tgG g) (lD cl g))
 | .sda k v,st,hq,hi,C,S,hp,h=>by
  obtain ⟨e,q,rfl⟩:=uh h;obtain ⟨x,p,k',lp,ap2,cp2,v',ap,cp,rfl,l1,l2,h9⟩:=aaL h;simp only [Bool.and_eq_true,decide_eq_true_eq] at h9;obtain ⟨⟨⟨⟨⟨⟨h1,h2⟩,h3⟩,h4⟩,h5⟩,h6⟩,h7⟩:=h9;exact abd C S h1 h2 h3 h4 h5 h6 h7 l1 l2
 | .forr t k src b,st,hq,hi,C,S,hp,h=>by
  obtain ⟨tg,iter,body,els,p,rfl⟩:=Mr h;rcases body with _ | ⟨s,_ | ⟨s2,body⟩⟩
  .have h':(els.isEmpty && (tgB X.N sc t tg && iB sc k tg iter && bI T X.N src sc (iY k iter) && false))=true:=h;simp at h'
  rotate_left
  .have h':(els.isEmpty && (tgB X.N sc t tg && iB sc k tg iter && bI T X.N src sc (iY k iter) && false))=true:=h;simp at h'
  replace h:(els.isEmpty && (tgB X.N sc t tg && iB sc k tg iter && bI T X.N src sc (iY k iter) && okG T X.N sc i b s))=true:=h;simp only [Bool.and_eq_true,List.isEmpty_iff] at h;obtain ⟨rfl,⟨⟨h1,h2⟩,h3⟩,h4⟩:=h;have hi':i ∉ aK t/\i ∉ tgG b:=by
   have:i ∉ aK t++tgG b:=hi;simpa using this
  exact aay C S hp (fun q hm z=>hq q hm (vE _ z)) hi'.1 h1 h2 h3 (goodG b (fun q hm z=>hq q hm (vF _ z)) hi'.2 C S hp h4)
def ZX {g:GS}{O inv:zz} (C:Cok T cl X) (S:ScRel sc X) (hp:PassesOwn (model X.prog X.w) X.A X.env X.xe) (hq:∀ q∈E.pins,q.1 ∉ tgG g) (h:okG T X.N sc i g st=true) (hi:i∈O) (hn:i ∉ tgG g) :
  PS X st (tMS X E Es O (some [i]) inv (bC cl (.grp i g))):=by
 refine bY (goodG (E:=E) (Es:=Es) g hq hn C S hp h) fun DD σ H=>?_
 rintro ⟨ρ,Hs,o,F,h,kk⟩;rw [wk] at h;obtain ⟨d,hd,hb⟩:=aj h;obtain ⟨_,he,hb1⟩:=aj hb;obtain ⟨d',hrun,hb2⟩:=aj hb1;clear h hb hb1;cases hb2;have hρ:=dR hd;cases d <;> try (cases he;done)
 rename_i ks0 vs0;cases ks0 <;> cases vs0 <;> try (cases he;done)
 obtain ⟨Hs1,F1,m1⟩:=F.fewer (O':=[i]) fun j hj=>by rw [List.mem_singleton.mp hj];exact hi
 obtain ⟨a,ea,a0,a1,xs,ys,ep,hH,e1,rk,rv⟩:=F1.own i (yz.mpr rfl) _ hρ;have ex:xs=[]:=by
  cases xs with
  | nil=>rfl
  | cons _ _=>cases e1
 subst ex;have ey:=rv.nil_inv;subst ey;have hil:i < ρ.length:=(v7.mp hρ).1;have F2:FR (gOf X) E Es [] (fO ρ (i::tgG g)) σ H Hs1:=by
  refine ⟨F1.grow,by rw [gD];exact F1.len,fun j d q _=>?_,(fun j hj=>by cases hj),(fun j hj=>by cases hj),F1.pin⟩;obtain ⟨q1,q2⟩:=pB q;exact F1.val j d q2 fun z=>q1 (by rw [List.mem_singleton.mp z];exact vz)
 refine ⟨_,Hs1,a,[],[],d',F2,ea,⟨[],[],ep,hH,rfl,Rps.nil,rfl,rfl,List.nodup_nil,List.nodup_nil,by simp,(fun b hb=>by cases hb),a0,a1⟩,hrun,fun σ' H' Hs' ks' vs' ed F' s' ei' dO'=>?_⟩;subst ed;obtain ⟨xs,bs,ep',dx⟩:=dO'
 classical
 have m3:Same Hs' (fun c=>if c∈bs then H' c else Hs' c):=fun c o q=>by
  show (if c∈bs then H' c else Hs' c)=_
  have hc:c ∉ bs:=fun z=>by
   rw [(dx.eb c z).2] at q;cases q
  rw [if_neg hc];exact q
 have F8:FR (gOf X) E Es [] (fO ρ (i::tgG g)) σ' H' Hs':=F'.less (by rw [gD,gD,gD]) fun j d q=>Ac (fun z=>(pB q).1 (vy _ z)) q
 have F9:FR (gOf X) E Es [i] ((fO ρ (i::tgG g)).set i (some (.dct ks' vs'))) σ' H' (fun c=>if c∈bs then H' c else Hs' c):=by
  refine ⟨⟨F8.grow.keep,fun c u q=>?_,fun c u q=>?_⟩,by rw [List.length_set];exact F8.len,fun j d q hj=>?_,fun j hj d q=>?_,fun j hj k hk hjk=>?_,F8.pin⟩
  .show (if c∈bs then H' c else Hs' c)=_
   have hc:c ∉ bs:=fun z=>by
    rw [(dx.eb c z).1] at q;cases q
   rw [if_neg hc];exact F8.grow.old c u q
  .have q':(if c∈bs then H' c else Hs' c)=some u:=q;by_cases hc:c∈bs
   .rw [if_pos hc] at q';exact q'
   .rw [if_neg hc] at q';exact F8.sub c u q'
  .have hji:j≠i:=fun z=>hj (yz.mpr z)
   rw [List.getElem?_set_ne (Ne.symm hji)] at q;obtain ⟨v,ev,rv⟩:=F8.val j d q (by simp);exact ⟨v,ev,rv.mono m3⟩
  .have hji:=yz.mp hj;subst hji;rw [List.getElem?_set_self (by rw [gD];exact hil)] at q;cases q;exact ⟨a,ei',dx.ea,(if_neg dx.na).trans dx.sa,xs,bs.map V.ref,ep',dx.at_,dx.keys,dx.rep.mono m3,dx.ol.pub (fun b hb=>if_pos hb) m3⟩
  .exact absurd ((yz.mp hj).trans (yz.mp hk).symm) hjk
 exact kk [i] rfl σ' H' _ F9 ((m1.trans s').trans m3)
end
end Mi
set_option maxHeartbeats 1000000
namespace Mi
open PySem L2
open PyProof.Rows hiding St
variable {g:G}{Hs:Hp}{x y:Ow}{o:Out}{c:M}{c':Expr}{b:List MS}
section
variable {T:Tx}{cl:Nat->List D->R D}{X:Cx}{sc:Scope}{E:Ent}{Es:Hp}{O:zz}{inv:zz}{pos:Pos}
theorem mF.meetL {D:Ends} (h:mF g E Es Hs (jy x y) inv D o):mF g E Es Hs x inv D o:=by
 cases o with
 | rt d=>exact h
 | ro d=>exact h
 | nx ρ =>
  intro O1 e σ' H' Hs' F s;subst e;cases y with
  | none=>exact h O1 rfl σ' H' Hs' F s
  | some b =>
   obtain ⟨Hs2,F2,m⟩:=F.fewer (O':=O1.filter fun i=>b.contains i) fun i hi=>(yY.mp hi).1
   exact h _ rfl σ' H' Hs2 F2 (s.trans m)
theorem mF.meetR {D:Ends} (h:mF g E Es Hs (jy x y) inv D o):mF g E Es Hs y inv D o:=by
 cases o with
 | rt d=>exact h
 | ro d=>exact h
 | nx ρ =>
  intro O1 e σ' H' Hs' F s;subst e;cases x with
  | none=>exact h O1 rfl σ' H' Hs' F s
  | some b =>
   obtain ⟨Hs2,F2,m⟩:=F.fewer (O':=b.filter fun i=>O1.contains i) fun i hi=>by
    have:=(yY.mp hi).2;simpa using this
   exact h _ rfl σ' H' Hs2 F2 (s.trans m)
def Y8 (C:Cok T cl X) (S:ScRel sc X) (h1:okC T X.N c sc c'=true):PT X c' (tMC X cl c):=by
 cases c <;> try exact Ag (good _) C S h1
 rename_i ms;obtain ⟨op,es,p,rfl⟩:=uM h1;cases op <;> try (cases h1;done)
 replace h1:(bI T X.N ms sc es && !ms.isEmpty)=true:=h1;rw [Bool.and_eq_true,Bool.not_eq_true'] at h1;refine vQ (Oc C S (fun m _=>good m) h1.1 h1.2).pt fun σ H Q=>?_
 rintro ⟨ρ,Hs,d,b,hs,hv,hd,ht,k⟩;cases vK rfl ht;exact ⟨ρ,Hs,b,hs,hv,hd,k⟩
def acd {a:List MS}{a' b':vi} (C:Cok T cl X) (S:ScRel sc X) (h1:okC T X.N c sc c'=true) (ha:PSs X a' (tMS X E Es O x inv (cj cl a))) (hb:PSs X b' (tMS X E Es O y inv (cj cl b))) :
  PS X (.If c' a' b' pos) (tMS X E Es O (jy x y) inv (bC cl (.ifs c a b))):=by
 refine bY (W2 (Y8 C S h1) ha hb) fun D σ H=>?_
 rintro ⟨ρ,Hs,o,F,h,k⟩;simp only [wC,wD,wE,qV,wF,wG,wH,wI] at h;obtain ⟨d,hd,hb⟩:=aj h;obtain ⟨t,ht,hb2⟩:=aj hb;clear h hb;obtain ⟨Hs1,F1,m1,vs,w1⟩:=F.pubW (aD c);refine ⟨ρ,Hs1,d,t,F1.sub,vs,hd,ht,fun H1 Hs2 g2=>?_⟩;obtain ⟨Hs3,g3,_,_⟩:=rH F.sub w1 g2;have m2:=g3.same F.sub;cases t with
 | true=>(try dsimp only);rw [if_pos rfl];rw [if_pos rfl] at hb2;exact ⟨ρ,Hs3,o,F.grown g3,hb2,k.meetL.mono m2⟩
 | false=>(try dsimp only);rw [if_neg (by decide)];rw [if_neg (by decide)] at hb2;exact ⟨ρ,Hs3,o,F.grown g3,hb2,k.meetR.mono m2⟩
def S7 {t:Tg}{k:IK}{src:List M}{tg iter:Expr}{body:vi}{O2:zz} (C:Cok T cl X) (S:ScRel sc X) (hp:PassesOwn (model X.prog X.w) X.A X.env X.xe) (hq:∀ q∈E.pins,q.1 ∉ aK t)
  (h1:tgB X.N sc t tg=true) (h2:iB sc k tg iter=true) (h3:bI T X.N src sc (iY k iter)=true) (hsub:∀ i∈O2,i∈without (without O (aZ src)) (aK t)) (hy:∀ O3,y=some O3->∀ i∈O2,i∈O3)
  (hb:PSs X body (tMS X E Es O2 y O2 (cj cl b))):PS X (.For tg iter body [] pos) (tMS X E Es O (some O2) inv (bC cl (.forr t k src b))):=by
 refine bY (R4 hp C.calm (sJ C S (fun m _=>good m) h2 h3) (jg C S h1) hb (sO (oK h2))) fun D σ H=>?_
 rintro ⟨ρ,Hs,o,F,h,kk⟩;simp only [wC,wD,wE,qV,wF,wG,wH,wI] at h;obtain ⟨ss,hss,hb1⟩:=aj h;obtain ⟨ds,hds,hrun⟩:=aj hb1;clear h hb1;obtain ⟨Hs1,F1,m1,vs⟩:=F.pubU (aZ src);refine ⟨ρ,Hs1,ds,F1.sub,vs,by simp only [hss,qT];exact hds,fun J H1 Hs2 g2 sr=>?_⟩;have F2:=F1.grown g2;obtain ⟨Hs3,F3,m3⟩:=F2.fewer (O':=O2) fun i hi=>(bD.mp (hsub i hi)).1
 have mm:Same Hs Hs3:=(m1.trans (g2.same F1.sub)).trans m3;refine M8 sr (fun i σ H=>∃ ρ1 Hs',FR (gOf X) E Es O2 ρ1 σ H Hs'/\Same Hs3 Hs'/\jm (fun d ρ=>do let ρ1 <- dw t d ρ;cj cl b ρ1) ρ (ds.drop i) ρ1=.ok o) ⟨ρ,Hs3,F3,Same.refl _,hrun⟩ (fun i σ H ⟨ρ1,Hs',F',s',_⟩=>(m3.trans s').trans F'.sub) ?_ ?_
 .rintro i d x σ1 H1' H2' hdi ⟨ρ1,Hs',F',s',hgo⟩ hy';obtain ⟨hlt,ed⟩:=v7.mp hdi;rw [List.drop_eq_getElem_cons hlt,ed] at hgo;unfold jm at hgo;obtain ⟨o1,ho1,hgo2⟩:=aj hgo;clear hgo;obtain ⟨ρ2,hρ2,hrb⟩:=aj ho1;clear ho1;obtain ⟨Hs4,g4,rx⟩:=sr.yld i H1' x H2' Hs' d (m3.trans s') F'.sub hdi hy';have F4:=F'.grown g4;have s4:Same Hs3 Hs4:=s'.trans (g4.same F'.sub);refine oF (X:=X) g4.sub hρ2 rx fun l hl hrl eρ=>?_
  have F5:=F4.putL (by rw [hl];exact hq) hrl;rw [hl,<- eρ] at F5;obtain ⟨Hs6,F6,m6⟩:=F5.fewer (O':=O2) fun j hj=>bD.mpr ⟨hj,(bD.mp (hsub j hj)).2⟩
  refine ⟨ρ2,Hs6,o1,F6,hrb,?_⟩;have s6:Same Hs3 Hs6:=s4.trans m6;cases o1 with
  | nx ρ3 =>
   intro O3 e3 σ' H' Hs7 F7 s7;obtain ⟨Hs8,F8,m8⟩:=F7.fewer (hy O3 e3);exact ⟨aM ρ ρ3,Hs8,F8.less (vg _ _) fun j d' q=>vG q,(s6.trans s7).trans m8,hgo2⟩
  | rt d3 =>
   intro v H' Hs7 g7 r7;cases hgo2;exact kk v H' Hs7 g7 r7
  | ro d3 =>
   cases hgo2;exact kk
 .rintro σ1 H1' ⟨ρ1,Hs',F',s',hgo⟩;rw [List.drop_length] at hgo;cases hgo;exact kk O2 rfl _ _ _ F' (mm.trans s')
def W5 (T:Tx) (cl:Nat->List D->R D) (m:MS):Prop:=∀ (X:Cx) (sc:Scope) (st:Stmt) (inv O:zz) (O':Ow) (E:Ent) (Es:Hp),(∀ q∈E.pins,q.1 ∉ Vb m)->Cok T cl X->ScRel sc X->PassesOwn (model X.prog X.w) X.A X.env X.xe->okS T X.N sc m st=true->vC inv m O=some O'->PS X st (tMS X E Es O O' inv (bC cl m))
theorem nP {T:Tx}{cl:Nat->List D->R D}:∀ {ms:List MS},(∀ m∈ms,W5 T cl m)->∀ {X:Cx}{sc:Scope}{sts:vi}{inv O:zz}{O':Ow}{E:Ent}{Es:Hp},(∀ q∈E.pins,q.1 ∉ mW ms)->Cok T cl X->ScRel sc X->PassesOwn (model X.prog X.w) X.A X.env X.xe->okB T X.N sc ms sts=true->cZ inv ms O=some O'->PSs X sts (tMS X E Es O O' inv (cj cl ms))
 | [],G,X,sc,sts,inv,O,O',E,Es,hq,C,S,hp,h,hc=>by
  rw [Zk,List.isEmpty_iff] at h;subst h;cases hc;refine Dv Dw fun D σ H=>?_
  rintro ⟨ρ,Hs,o,F,h,k⟩;simp only [wB,qU] at h;cases h;exact k O rfl σ H Hs F (Same.refl _)
 | m::ms,G,X,sc,[],inv,O,O',E,Es,hq,C,S,hp,h,hc=>by cases h
 | m::ms,G,X,sc,st::sts,inv,O,O',E,Es,hq,C,S,hp,h,hc=>by
  simp only [T3,Bool.and_eq_true] at h;rw [S8] at hc;cases e1:vC inv m O with
  | none=>rw [e1] at hc;cases hc
  | some x =>
   rw [e1] at hc;have h1:=G m vz X sc st inv O _ E Es (fun q hm z=>hq q hm (vE _ z)) C S hp h.1 e1;cases x with
   | none =>
    have hc':O'=none:=by
     have:some (none:Ow)=some O':=hc;cases this;rfl
    subst hc';refine Dv (uw h1 (Fl (sts:=sts))) fun D σ H=>?_
    rintro ⟨ρ,Hs,o,F,h,k⟩;simp only [wB,qU] at h;obtain ⟨o1,ho1,h2⟩:=aj h;clear h;refine ⟨ρ,Hs,o1,F,ho1,?_⟩;cases o1 with
    | nx ρ'=>intro O1 e;cases e
    | rt d=>cases h2;exact k
    | ro d=>cases h2;exact k
   | some O1 =>
    have h2:=nP (fun q hq=>G q (vy _ hq)) (E:=E) (Es:=Es) (fun q hm z=>hq q hm (vF _ z)) C S hp h.2 (show cZ inv ms O1=some O' from hc);refine Dv (uw h1 h2) fun D σ H=>?_
    rintro ⟨ρ,Hs,o,F,h,k⟩;simp only [wB,qU] at h;obtain ⟨o1,ho1,h2⟩:=aj h;clear h;refine ⟨ρ,Hs,o1,F,ho1,?_⟩;cases o1 with
    | nx ρ' =>
     intro O2 e σ' H' Hs' F' s';cases e;exact ⟨ρ',Hs',o,F',h2,k.mono s'⟩
    | rt d=>cases h2;exact k
    | ro d=>cases h2;exact k
theorem nR {T:Tx}{cl:Nat->List D->R D}:∀ m:MS,W5 T cl m
 | .set t e=>fun X sc st inv O O' E Es hq C S hp h hc=>by
  obtain ⟨tgs,v,p,rfl⟩:=jo h;rcases tgs with _ | ⟨tg,_ | ⟨tg2,tgs⟩⟩ <;> try (cases h;done)
  rw [YK] at h;simp only [Bool.and_eq_true,Bool.not_eq_true'] at h;obtain ⟨⟨⟨h1,h2⟩,h3'⟩,h4⟩:=h;by_cases hcm:tu e=true
  .cases e <;> try (cases hcm;done)
   cases t with
   | two i j =>
    skip
    cases hc;exact Le C S hq h1 h2 h4
   | one i =>
    cases hc;exact Le C S hq h1 h2 h4
  have h3:fH v=true:=by
   simp only [Bool.or_eq_true] at h3';rcases h3' with z | z
   .exact z
   .exact absurd z hcm
  cases t with
  | two i j =>
   skip
   cases hc;exact SM C S hq h1 h2 h3 h4
  | one i =>
   skip
   cases hc;by_cases hf:Qz e=true
   .rw [if_pos hf];cases e <;> try (cases hf;done)
    .exact Zw C S (fun q hm z=>hq q hm (by rw [z];exact yz.mpr rfl)) h1 h2 h3 h4
    .exact XH C S (fun q hm z=>hq q hm (by rw [z];exact yz.mpr rfl)) h1 h2 h3 h4
    .rename_i b ms;cases b <;> try (cases hf;done)
     exact V9 C S (fun q hm z=>hq q hm (by rw [z];exact yz.mpr rfl)) h1 h2 h4
   .rw [if_neg hf];exact SM C S hq h1 h2 h3 h4
 | .app i e=>fun X sc st inv O O' E Es hq C S hp h hc=>by
  .obtain ⟨_,_,_,_,_,_,_,rfl,h9⟩:=G3 h;replace h:=h9;clear h9;simp only [Bool.and_eq_true,decide_eq_true_eq] at h;obtain ⟨⟨⟨⟨⟨⟨h1,h2⟩,h3⟩,h4⟩,h5⟩,h6⟩,h7⟩:=h;subst h4;rw [Ud] at hc;split at hc
   .rename_i hi;cases hc;exact abx C S h1 h2 h3 h5 h6 h7 (by simpa using hi)
   .cases hc
 | .ext i e=>fun X sc st inv O O' E Es hq C S hp h hc=>by
  .obtain ⟨_,_,_,_,_,_,_,rfl,h9⟩:=G3 h;replace h:=h9;clear h9;simp only [Bool.and_eq_true,decide_eq_true_eq] at h;obtain ⟨⟨⟨⟨⟨⟨h1,h2⟩,h3⟩,h4⟩,h5⟩,h6⟩,h7⟩:=h;subst h4;rw [Ve] at hc;split at hc
   .rename_i hi;cases hc;exact aaW C S h1 h2 h3 h5 h6 h7 (by simpa using hi)
   .cases hc
 | .dpop t i k=>fun X sc st inv O O' E Es hq C S hp h hc=>by
  obtain ⟨tgs,v,p,rfl⟩:=jo h;rcases tgs with _ | ⟨tg,_ | ⟨tg2,tgs⟩⟩ <;> try (cases h;done)
  replace h:(tgB X.N sc (.one t) tg && Jb "pop" v _)=true:=h
  rw [Bool.and_eq_true] at h;obtain ⟨x,p1,ap,k',l,cp,rfl,hl,h9⟩:=M5 h.2;simp only [Bool.and_eq_true,decide_eq_true_eq] at h9;obtain ⟨⟨⟨⟨⟨h1,h2⟩,h3⟩,h4⟩,h5⟩,h6⟩:=h9;obtain ⟨lp,rfl⟩:=Yy h6;replace hc:(if (without O (aD k)).contains i && !(t == i) then some (some (without (without O (aD k)) [t])) else none)=some O':=hc;split at hc
  .rename_i hi;cases hc;simp only [Bool.and_eq_true,Bool.not_eq_true',beq_eq_false_iff_ne] at hi;exact Y6 C S (fun q hm z=>hq q hm (by rw [z];exact yz.mpr rfl)) h.1 h1 h2 h3 h4 h5 hl (by simpa using hi.1) hi.2
  .cases hc
 | .lset i k v=>fun X sc st inv O O' E Es hq C S hp h hc=>by
  obtain ⟨_,_,_,_,_,_,rfl,h9⟩:=VH h;simp only [Bool.and_eq_true,decide_eq_true_eq] at h9;obtain ⟨⟨⟨⟨⟨⟨h1,h2⟩,h3⟩,h4⟩,h5⟩,h6⟩,h7⟩:=h9;replace hc:(if O.contains i then some (some O) else none)=some O':=hc;split at hc
  .rename_i hi;cases hc;exact Zx C S h1 h2 h3 h5 h6 h7 h4 (by simpa using hi)
  .cases hc
 | .call2 i j f e=>fun X sc st inv O O' E Es hq C S hp h hc=>by
  obtain ⟨v,p,rfl⟩:=uh h;obtain ⟨x,p1,es,q1,rfl,h9⟩:=cN (show iT v _=true from h);replace hc:(if (without O (aD e)).contains i && (without O (aD e)).contains j then some (some (without O (aD e))) else none)=some O':=hc;split at hc
  .rename_i hi;cases hc;rw [Bool.and_eq_true] at hi;rcases es with _ | ⟨y,_ | ⟨z,_ | ⟨w,_ | ⟨w2,es⟩⟩⟩⟩ <;> try (cases h9;done)
   .simp only [Bool.and_eq_true,decide_eq_true_eq] at h9;obtain ⟨⟨⟨⟨⟨⟨h1,h2⟩,h3⟩,h4⟩,h5⟩,h6⟩,rfl⟩:=h9;obtain ⟨n1,q1,rfl,a1,a2,a3⟩:=Bm h6;exact Vu C S h1 h2 h3 h4 h5 a1 a2 a3 (by simpa using hi.1)
   .simp only [Bool.and_eq_true,decide_eq_true_eq] at h9;obtain ⟨⟨⟨⟨⟨⟨⟨h1,h2⟩,h3⟩,h4⟩,h5⟩,h6⟩,h7⟩,h8⟩:=h9;obtain ⟨n1,q1,rfl,a1,a2,a3⟩:=Bm h6;obtain ⟨n2,q2,rfl,b1,b2,b3⟩:=Bm h7;exact T9 C S h1 h2 h3 h4 h5 a1 a2 a3 b1 b2 b3 (by simpa using hi.1) (by simpa using hi.2) h8
  .cases hc
 | .retO i=>fun X sc st inv O O' E Es hq C S hp h hc=>by
  obtain ⟨v,p,rfl⟩:=BK h;cases v with
  | none=>cases h
  | some e =>
   obtain ⟨x,p2,rfl,a1,a2,a3⟩:=Bm (show nmB X.N sc i e=true from h);replace hc:(if O.contains i then some none else none)=some O':=hc;split at hc
   .rename_i hi;cases hc;exact Zd C S a1 a2 a3 (by simpa using hi)
   .cases hc
 | .setF i f es=>fun X sc st inv O O' E Es hq C S hp h hc=>by
  obtain ⟨tgs,v,p,rfl⟩:=jo h;rcases tgs with _ | ⟨tg,_ | ⟨tg2,tgs⟩⟩ <;> try (cases h;done)
  replace h:(tgB X.N sc (.one i) tg && iT v _)=true:=h;rw [Bool.and_eq_true] at h;obtain ⟨x,p1,as,q1,rfl,h9⟩:=cN h.2;simp only [Bool.and_eq_true,decide_eq_true_eq,Bool.not_eq_true'] at h9;obtain ⟨⟨⟨⟨⟨h1,h2⟩,h3⟩,h4⟩,h5⟩,h6⟩:=h9;cases hc;exact Zj C S (fun q hm z=>hq q hm (by rw [z];exact yz.mpr rfl)) h.1 h1 h2 h3 h4 h5 h6
 | .setB t e=>fun X sc st inv O O' E Es hq C S hp h hc=>by
  obtain ⟨tgs,v,p,rfl⟩:=jo h;rcases tgs with _ | ⟨tg,_ | ⟨tg2,tgs⟩⟩ <;> try (cases h;done)
  replace h:(tgB X.N sc t tg && okE T X.N e sc v && fH v && jB t v)=true:=h;simp only [Bool.and_eq_true] at h;cases hc;exact X7 C S hq h.1.1.1 h.1.1.2 h.1.2 h.2
 | .setC i e=>fun X sc st inv O O' E Es hq C S hp h hc=>by
  obtain ⟨tgs,v,p,rfl⟩:=jo h;rcases tgs with _ | ⟨tg,_ | ⟨tg2,tgs⟩⟩ <;> try (cases h;done)
  replace h:(tgB X.N sc (.one i) tg && okE T X.N e sc v && tu e)=true:=h;simp only [Bool.and_eq_true] at h;cases hc;cases e <;> try (cases h.2;done)
  exact XQ C S (fun q hm z=>hq q hm (by rw [z];exact yz.mpr rfl)) h.1.1 h.1.2
 | .whl c b=>fun X sc st inv O O' E Es hq C S hp h hc=>by
  obtain ⟨c',body,els,p,rfl⟩:=P0 h;cases els <;> try (cases h;done)
  replace h:(okE T X.N c sc c' && okB T X.N sc b body)=true:=h;rw [Bool.and_eq_true] at h;replace hc:(do
   let x <- cZ O b O
   let O2:=(jy (some O) x).getD []
   let y <- cZ O2 b O2
   match y with
   | none=>some (some O2)
   | some O3=>if O2.all (fun i=>O3.contains i) then some (some O2) else none)=some O':=hc
  dsimp only at hc;cases e1:cZ O b O with
  | none=>rw [e1] at hc;cases hc
  | some x =>
   rw [e1] at hc;simp only [Option.bind_eq_bind,Option.bind_some] at hc;generalize hO2:(jy (some O) x).getD []=O2 at hc;cases e2:cZ O2 b O2 with
   | none=>rw [e2] at hc;cases hc
   | some y =>
    rw [e2] at hc;simp only [Option.bind_some] at hc;have hsub:∀ i∈O2,i∈O:=by
     rw [<- hO2];cases x with
     | none=>exact fun i hi=>hi
     | some b'=>exact fun i hi=>(yY.mp hi).1
    have hOy:O'=some O2/\∀ O3,y=some O3->∀ i∈O2,i∈O3:=by
     cases y with
     | none=>simp only at hc;cases hc;exact ⟨rfl,fun O3 e=>by cases e⟩
     | some O3 =>
      simp only at hc;split at hc
      .rename_i ha;cases hc;refine ⟨rfl,fun O4 e i hi=>?_⟩;cases e;have:=yB.mp ha i hi;simpa using this
      .cases hc
    obtain ⟨rfl,hy⟩:=hOy;exact Wg C S hp h.1 hsub hy (nP (fun m _=>nR m) hq C S hp h.2 e2)
 | .grp i g=>fun X sc st inv O O' E Es hq C S hp h hc=>by
  have hc':(if O.contains i && !(tgG g).contains i then some (some [i]) else none)=some O':=hc;split at hc'
  .rename_i hi;cases hc';simp only [Bool.and_eq_true,Bool.not_eq_true'] at hi;exact ZX C S hp hq h (by simpa using hi.1) (by simpa using hi.2)
  .cases hc'
 | .expr e=>fun X sc st inv O O' E Es hq C S hp h hc=>by
  obtain ⟨_,_,rfl⟩:=uh h;rw [U7] at h;simp only [Bool.and_eq_true] at h;cases hc;exact YX C S h.1 h.2
 | .ret e=>fun X sc st inv O O' E Es hq C S hp h hc=>by
  obtain ⟨v,p,rfl⟩:=BK h;cases hc;cases v with
  | none=>exact Xw h
  | some v=>exact abE C S h
 | .ifs c a b=>fun X sc st inv O O' E Es hq C S hp h hc=>by
  obtain ⟨_,_,_,_,rfl⟩:=ZR h;rw [Zf] at h;simp only [Bool.and_eq_true] at h;obtain ⟨⟨h1,h2⟩,h3⟩:=h;rw [Vh] at hc;cases e1:cZ inv a O with
  | none=>rw [e1] at hc;cases hc
  | some x =>
   rw [e1] at hc;cases e2:cZ inv b O with
   | none=>rw [e2] at hc;cases hc
   | some y =>
    rw [e2] at hc;cases (show some (jy x y)=some O' from hc);exact acd C S h1 (nP (fun m _=>nR m) (fun q hm z=>hq q hm (vE _ z)) C S hp h2 e1) (nP (fun m _=>nR m) (fun q hm z=>hq q hm (vF _ z)) C S hp h3 e2)
 | .forr t k src b=>fun X sc st inv O O' E Es hq C S hp h hc=>by
  .obtain ⟨tg,iter,body,els,p,rfl⟩:=Mr h;cases els <;> try (cases h;done)
   replace h:(tgB X.N sc t tg && iB sc k tg iter && bI T X.N src sc (iY k iter) && okB T X.N sc b body)=true:=h;simp only [Bool.and_eq_true] at h;obtain ⟨⟨⟨h1,h2⟩,h3⟩,h4⟩:=h;rw [Wi] at hc;dsimp only at hc;cases e1:cZ (without (without O (aZ src)) (aK t)) b (without (without O (aZ src)) (aK t)) with
   | none=>rw [e1] at hc;cases hc
   | some x =>
    rw [e1] at hc;simp only [Option.bind_eq_bind,Option.bind_some] at hc;generalize hO2:(jy (some (without (without O (aZ src)) (aK t))) x).getD []=O2 at hc;cases e2:cZ O2 b O2 with
    | none=>rw [e2] at hc;cases hc
    | some y =>
     rw [e2] at hc;simp only [Option.bind_some] at hc;have hsub:∀ i∈O2,i∈without (without O (aZ src)) (aK t):=by
      rw [<- hO2];cases x with
      | none=>exact fun i hi=>hi
      | some b'=>exact fun i hi=>(yY.mp hi).1
     have hOy:O'=some O2/\∀ O3,y=some O3->∀ i∈O2,i∈O3:=by
      cases y with
      | none=>simp only at hc;cases hc;exact ⟨rfl,fun O3 e=>by cases e⟩
      | some O3 =>
       simp only at hc;split at hc
       .rename_i ha;cases hc;refine ⟨rfl,fun O4 e i hi=>?_⟩;cases e;have:=yB.mp ha i hi;simpa using this
       .cases hc
     obtain ⟨rfl,hy⟩:=hOy;exact S7 C S hp (fun q hm z=>hq q hm (vE _ z)) h1 h2 h3 hsub hy (nP (fun m _=>nR m) (fun q hm z=>hq q hm (vF _ z)) C S hp h4 e2)
 | .chk j e=>fun X sc st inv O O' E Es hq C S hp h hc=>by cases h
 | .rai=>fun X sc st inv O O' E Es hq C S hp h hc=>by
  refine bY Uk fun D σ H=>?_
  rintro ⟨ρ,Hs,o,F,h,k⟩;simp only [wC,wD,wE,qV,wF,wG,wH,wI] at h;cases h
termination_by m=>sizeOf m
decreasing_by
 all_goals simp_wf
 all_goals (have:=List.sizeOf_lt_of_mem ‹_∈_›;omega)
end
end Mi
set_option maxHeartbeats 1000000
namespace Mi
open PySem L2
open PyProof.Rows hiding St
def HJ (N ps:z0) (sc:Scope):Bool :=
 decide (sc.kind=.function) && !sc.isCoroutine && !sc.isGenerator && decide N.Nodup && decide (N.take ps.length=ps) && (ps.all fun x=>kI sc x) && sc.names.all fun y=>decide (y.2≠.free)
def mK {N ps:z0}{sc:Scope} (h:HJ N ps sc=true):FnScope N ps sc:=by
 unfold HJ at h;simp only [Bool.and_eq_true,decide_eq_true_eq,Bool.not_eq_true',List.all_eq_true] at h;obtain ⟨⟨⟨⟨⟨⟨h1,h2⟩,h3⟩,h4⟩,h5⟩,h6⟩,h7⟩:=h;exact ⟨h1,h2,h3,h4,h5,fun x hx=>lB (h6 x hx),fun y hy=>h7 y hy⟩
def aX (T:Tx) (d:Def) (N ps:z0) (st:Stmt):Bool :=
 HJ N ps (bf st) && decide (d.np=ps.length) && decide (d.nn=N.length) && okB T N (bf st) d.body (dF st) && (!d.nrm || (cZ [] d.body []).isSome)
variable {g:G}{H Hs:Hp}{m k:Nat}
def Ip {ds:List D}{vs:List V} (hs:Same Hs H) (r:Rps g Hs ds vs) (e:m=k):FR g ⟨H,[]⟩ Hs [] (ds.map some++List.replicate m none) (vs.map some++List.replicate k none) H Hs:=by
 subst e;refine ⟨Grow.refl hs,by simp [r.length],fun i d h _=>?_,fun i hi=>(by cases hi),fun i hi=>(by cases hi),fun q hq=>by cases hq⟩;by_cases hi:i < ds.length
 .rw [List.getElem?_append_left (by simpa using hi),List.getElem?_map] at h;cases q:ds[i]? with
  | none=>rw [q] at h;cases h
  | some d' =>
   rw [q] at h;cases h;obtain ⟨v,ev,rv⟩:=r.getD q;refine ⟨v,?_,rv⟩;rw [List.getElem?_append_left (by rw [List.length_map,<- r.length];exact hi),List.getElem?_map,ev];rfl
 .rw [List.getElem?_append_right (by simpa using hi),List.getElem?_replicate] at h;split at h <;> cases h
variable {d0 d:D}{v0:V}{a:Addr}
theorem VP {e:D}{b:Addr} (hs:Same Hs H) (r:Rp g Hs d0 v0) (hab:a≠b) (ha:Hs a=none) (hb:Hs b=none) (oa:cP g H Hs a d) (ob:cP g H Hs b e) (hm:m=k) :
  FR g ⟨hole (hole H a) b,[(1,a),(2,b)]⟩ Hs [1,2] ([d0,d,e].map some++List.replicate m none) ([v0,.ref a,.ref b].map some++List.replicate k none) H Hs:=by
 subst hm;have rest:∀ (i:Nat) (x:D),([d0,d,e].map some++List.replicate m none)[i+3]?≠some (some x):=fun i x h=>by
  rw [List.getElem?_append_right (by simp)] at h;rw [List.getElem?_replicate] at h;split at h <;> cases h
 have hh:∀ {c},hole (hole H a) b c=none\/hole (hole H a) b c=H c:=fun {c}=>by
  by_cases h1:c=b
  .subst h1;exact .inl iD
  .rw [eO h1];by_cases h2:c=a
   .subst h2;exact .inl iD
   .exact .inr (eO h2)
 have mem:∀ {i:Nat},i∈[1,2]->i=1\/i=2:=fun {i} h=>by simpa using h
 refine ⟨⟨fun c o q=>?_,fun _ _ _=>rfl,hs⟩,by simp,fun i x h hi=>?_,fun i hi x h=>?_,fun i hi j hj hij d1 e1 c h1 h2 h3 h4=>?_,fun q hq=>?_⟩
 .have q':hole (hole H a) b c=some o:=q;rcases hh (c:=c) with z | z
  .rw [z] at q';cases q'
  .rw [z] at q';exact q'
 .match i,h,hi with
  | 0,h,_=>cases h;exact ⟨v0,rfl,r⟩
  | 1,_,hi=>exact absurd (by simp) hi
  | 2,_,hi=>exact absurd (by simp) hi
  | i+3,h,_=>exact absurd h (rest i x)
 .rcases mem hi with rfl | rfl
  .cases h;exact ⟨a,rfl,by show hole (hole H a) b a=none;rw [eO hab];exact iD,ha,oa⟩
  .cases h;exact ⟨b,rfl,iD,hb,ob⟩
 .rcases mem hi with rfl | rfl <;> rcases mem hj with rfl | rfl
  .exact hij rfl
  .cases h3;cases h4;exact hab rfl
  .cases h3;cases h4;exact hab rfl
  .exact hij rfl
 .rcases w6.mp hq with z | z
  .rw [z];rfl
  .rw [List.mem_singleton.mp z];rfl
theorem Rr (hs:Same Hs H) (r:Rp g Hs d0 v0) (ha:Hs a=none) (oa:cP g H Hs a d) (hm:m=k) :
  FR g ⟨hole (hole H a) a,[(1,a),(1,a)]⟩ Hs [1,1] ([d0,d].map some++List.replicate m none) ([v0,.ref a].map some++List.replicate k none) H Hs:=by
 subst hm;have rest:∀ (i:Nat) (x:D),([d0,d].map some++List.replicate m none)[i+2]?≠some (some x):=fun i x h=>by
  rw [List.getElem?_append_right (by simp)] at h;rw [List.getElem?_replicate] at h;split at h <;> cases h
 have mem:∀ {i:Nat},i∈[1,1]->i=1:=fun {i} h=>by simpa using h
 refine ⟨⟨fun c o q=>?_,fun _ _ _=>rfl,hs⟩,by simp,fun i x h hi=>?_,fun i hi x h=>?_,fun i hi j hj hij d1 e1 c h1 h2 h3 h4=>?_,fun q hq=>?_⟩
 .have q':hole (hole H a) a c=some o:=q;by_cases h1:c=a
  .rw [h1,iD] at q';cases q'
  .rw [eO h1,eO h1] at q';exact q'
 .match i,h,hi with
  | 0,h,_=>cases h;exact ⟨v0,rfl,r⟩
  | 1,_,hi=>exact absurd (by simp) hi
  | i+2,h,_=>exact absurd h (rest i x)
 .cases mem hi;cases h;exact ⟨a,rfl,iD,ha,oa⟩
 .cases mem hi;cases mem hj;exact hij rfl
 .rcases w6.mp hq with z | z
  .rw [z];rfl
  .rw [List.mem_singleton.mp z];rfl
structure FF (K:zt) (x:Str) (st:Stmt):Prop where
 ex:∃ a fd,PySem.W.nsIn K mainGlobals x=some (some (.ref a))/\Fun K x x st a fd
variable {K:zt}{x:Str}
theorem aW {st:Stmt}{f:Addr}{oc:Value}{od an:vk}{osl:vn}{kV doc pm cdv ct:Value} (a:PySem.W.nsIn K mainGlobals x=some (some (.ref f)))
  (l:K.lookup f=some ⟨oc,od,.func (PySem.W.fnOf x x (eU st) (dF st) (bf st) .none kV doc pm an cdv ct),osl⟩) (c:PySem.W.codeIn K cdv x=true) (k:PySem.W.keepIn K (.ref f)=true):FF K x st :=
 ⟨⟨f,_,a,Ry l c k⟩⟩
structure GF (K:zt) (x:Str) (d:D):Prop where
 ex:∃ v,PySem.W.nsIn K mainGlobals x=some (some v)/\GlV d (some v)
theorem Cm {i:Int}{t:Tok} (a:PySem.W.nsIn K mainGlobals x=some (some (.int i t))):GF K x (.int i):=⟨⟨_,a,t,rfl⟩⟩
variable {α:Type}
theorem us1 {p:List α->Prop} (h:∀ a,p [a]):∀ us:List α,us.length=1->p us
 | [_],_=>h _
theorem us2 {p:List α->Prop} (h:∀ a b,p [a,b]):∀ us:List α,us.length=2->p us
 | [_,_],_=>h _ _
theorem us3 {p:List α->Prop} (h:∀ a b c,p [a,b,c]):∀ us:List α,us.length=3->p us
 | [_,_,_],_=>h _ _ _
end Mi
namespace Mi
open PySem L2
theorem cC {α:Type}{f:D->R (Option D)}{enc e:α->D}{p:α->Bool}:∀ (l:List α),(∀ a∈l,f (enc a)=.ok (if p a then some (e a) else none))->iz f (l.map enc)=.ok ((l.filter p).map e)
 | [],_=>rfl
 | a::l,h=>by
  have h1:=h a vz;have h2:=cC l fun b hb=>h b (vy _ hb)
  simp only [List.map_cons,iz,h1,h2,qT,List.filter_cons];cases p a <;> simp
variable {α:Type}
def cG {f:D->R (Option D)}{enc e:α->D} (l:List α) (h:∀ a∈l,f (enc a)=.ok (some (e a))):iz f (l.map enc)=.ok (l.map e):=by
 have:=cC (f:=f) (enc:=enc) (e:=e) (p:=fun _=>true) l (by simpa using h);rw [List.filter_eq_self.mpr (fun _ _=>rfl)] at this;exact this
theorem bU {α β:Type}{f:D->En->R Out}{ρ₀:En} (enc:β->D) (S:α->En) (step:α->β->α) (P:α->List β->Prop)
  (h:∀ a x xs,P a (x::xs)->P (step a x) xs/\∃ ρ',f (enc x) (S a)=.ok (.nx ρ')/\aM ρ₀ ρ'=S (step a x)):∀ (xs:List β) (a:α),P a xs->jm f ρ₀ (xs.map enc) (S a)=.ok (.nx (S (xs.foldl step a)))
 | [],a,_=>rfl
 | x::xs,a,p=>by
  obtain ⟨p2,ρ',h1,h2⟩:=h a x xs p;simp only [List.map_cons,jm,h1,qT,h2,List.foldl_cons];exact bU enc S step P h xs (step a x) p2
theorem Ez {α β:Type} (g:β->List α):∀ (xs:List β) (a:List α),xs.foldl (fun acc x=>acc++g x) a=a++xs.flatMap g
 | [],a=>by simp
 | x::xs,a=>by simp [Ez g xs]
variable {β:Type}{f:D->En->R Out}{ρ₀:En}
def cU (enc:β->D) (S:List α->En) (g:β->List α) (B:Nat) (xs:List β)
  (h:∀ (acc:List α),∀ x∈xs,acc.length+(g x).length<=B->∃ ρ',f (enc x) (S acc)=.ok (.nx ρ')/\aM ρ₀ ρ'=S (acc++g x)) (a:List α) (hB:a.length+(xs.flatMap g).length<=B):jm f ρ₀ (xs.map enc) (S a)=.ok (.nx (S (a++xs.flatMap g))):=by
 rw [<- Ez];refine bU enc S _ (fun acc ys=>acc.length+(ys.flatMap g).length<=B/\∀ y∈ys,y∈xs) (fun acc x ys p=>?_) xs a ⟨hB,fun y hy=>hy⟩;obtain ⟨p,q⟩:=p;simp only [List.flatMap_cons,List.length_append] at p;exact ⟨⟨by simp only [List.length_append];omega,fun y hy=>q y (vy _ hy)⟩,h acc x (q x vz) (by omega)⟩
def Kq (enc:β->D) (S:α->En) (step:α->β->α) (P:α->Prop) (xs:List β)
  (h:∀ a,∀ x∈xs,P a->P (step a x)/\∃ ρ',f (enc x) (S a)=.ok (.nx ρ')/\aM ρ₀ ρ'=S (step a x)) (a:α) (hP:P a):jm f ρ₀ (xs.map enc) (S a)=.ok (.nx (S (xs.foldl step a))):=by
 refine bU enc S step (fun a ys=>P a/\∀ y∈ys,y∈xs) (fun a x ys p=>?_) xs a ⟨hP,fun y hy=>hy⟩;obtain ⟨h1,h2⟩:=h a x (p.2 x vz) p.1;exact ⟨⟨h1,fun y hy=>p.2 y (vy _ hy)⟩,h2⟩
noncomputable abbrev eN (n:Nat):D:=.int n
def aq (r:zz):D:=.tup (r.map eN)
def eP (p:Nat × Nat):D:=.tup [eN p.1,eN p.2]
abbrev Meet:=List (Nat × Nat)
def eM (m:Meet):D:=.tup (m.map eP)
def eB (lv:zz) (bs:List Meet):D:=.tup [aq lv,.tup (bs.map eM)]
structure Enc {α:Type} (enc:α->D):Prop where
 inj:∀ a b,enc a=enc b->a=b
 key:∀ a,keyOk (enc a)=true
 dp:∀ a,dep (enc a)<=4
theorem jk {α:Type}{enc:α->D} (h:∀ a,keyOk (enc a)=true):∀ l:List α,bF (l.map enc)=true
 | []=>rfl
 | a::l=>by simp [bF,h a,jk h l]
theorem lG {α:Type}{enc:α->D}{n:Nat} (h:∀ a,dep (enc a)<=n):∀ l:List α,deps (l.map enc)<=n
 | []=>ye _
 | a::l=>by
  simp only [List.map_cons,deps];have:=h a;have:=lG h l;omega
theorem yq:Enc eN:=⟨fun a b h=>by injection h with h;exact Int.ofNat.inj h,fun _=>rfl,fun _=>ye _⟩
def lF:Enc aq:=by
 refine ⟨fun a b h=>?_,fun a=>?_,fun a=>?_⟩
 .unfold aq at h;injection h with h;exact (List.map_inj_right yq.inj).mp h
 .simp only [aq,keyOk];exact jk yq.key a
 .simp only [aq,dep];have:=lG (n:=0) (fun a=>v4 (dep (eN a))) a;omega
def GK:Enc eP:=by
 refine ⟨fun a b h=>?_,fun a=>rfl,fun a=>by simp [eP,dep,deps,eN]⟩;unfold eP at h;injection h with h;injection h with h1 h2;injection h2 with h2 _;exact Prod.ext (yq.inj _ _ h1) (yq.inj _ _ h2)
def abH (p:Nat × Nat):dep (eP p)=1:=by simp [eP,dep,deps,eN]
def j7:Enc eM:=by
 refine ⟨fun a b h=>?_,fun a=>?_,fun a=>?_⟩
 .unfold eM at h;injection h with h;exact (List.map_inj_right GK.inj).mp h
 .simp only [eM,keyOk];exact jk GK.key a
 .simp only [eM,dep];have:=lG (n:=1) (fun p=>Nat.le_of_eq (abH p)) a;omega
section
variable {α:Type}{enc:α->D} [DecidableEq α]
theorem Enc.eq1 (E:Enc enc) (a b:α):aF (enc a) (enc b)=decide (a=b):=by
 rw [kY (E.key a) (E.key b)];by_cases h:a=b
 .subst h;simp
 .rw [decide_eq_false h,decide_eq_false fun z=>h (E.inj _ _ z)]
theorem Enc.eqs (E:Enc enc) (l l':List α):dH (l.map enc) (l'.map enc)=decide (l=l'):=by
 rw [vM (jk E.key l) (jk E.key l')];by_cases h:l=l'
 .subst h;simp
 .rw [decide_eq_false h,decide_eq_false fun z=>h ((List.map_inj_right E.inj).mp z)]
theorem Enc.flat (E:Enc enc) (l l':List α):bN (.lst (l.map enc)) (.lst (l'.map enc))=true:=by
 have h1:=lG E.dp l;have h2:=lG E.dp l';have e:∀ l:List α,dep (.lst (l.map enc))=deps (l.map enc)+1:=fun l=>by rw [dep]
 unfold bN;rw [e,e,decide_eq_true (show deps (l.map enc)+1<=30 by omega),decide_eq_true (show deps (l'.map enc)+1<=30 by omega)];rfl
theorem Enc.cmpEq (E:Enc enc) (l l':List α):bQ .eq (.lst (l.map enc)) (.lst (l'.map enc))=.ok (decide (l=l')):=by
 simp only [bQ,E.flat,if_true,aF,E.eqs]
theorem Enc.cmpNe (E:Enc enc) (l l':List α):bQ .ne (.lst (l.map enc)) (.lst (l'.map enc))=.ok (!decide (l=l')):=by
 simp only [bQ,E.flat,if_true,aF,E.eqs]
theorem Enc.cmpEq0 (E:Enc enc) (l:List α):bQ .eq (.lst (l.map enc)) (.lst [])=.ok l.isEmpty:=by
 have:=E.cmpEq l [];rw [List.map_nil] at this;rw [this];cases l <;> simp
theorem Enc.cmpNe0 (E:Enc enc) (l:List α):bQ .ne (.lst (l.map enc)) (.lst [])=.ok (!l.isEmpty):=by
 have:=E.cmpNe l [];rw [List.map_nil] at this;rw [this];cases l <;> simp
end
theorem Lq (m:Meet):isKey (eM m)=true:=by
 have h1:=j7.key m;have h2:=j7.dp m;unfold isKey;rw [h1,decide_eq_true (show dep (eM m)<=6 by omega)];rfl
theorem Gz (ks:List Meet) (m:Meet):kOk (ks.map eM) (eM m)=true:=by
 have h:(ks.map eM).all isKey=true:=by
  rw [List.all_eq_true];intro a ha;obtain ⟨x,_,rfl⟩:=yo.mp ha;exact Lq x
 unfold kOk;rw [Lq,h];rfl
noncomputable def bR {α:Type} [DecidableEq α] (ks:List α) (m:α):List α:=if m∈ks then ks else ks++[m]
def eK (ks:List Meet):D:=.dct (ks.map eM) (List.replicate ks.length (.bl true))
variable {vs:List D}
def Rn {ks:List D}{k v r:D} (h:putD (.dct ks vs) k v=.ok r) (hv:lfD v=true) (hk:lfD k=true):tY (.dct ks vs) k v=.ok r:=by
 show (if (lfD v && lfD k)=true then putD (.dct ks vs) k v else .stuck)=_
 rw [hv,hk];exact h
theorem Uv:∀ m:Meet,lfD (eM m)=true
 | []=>rfl
 | _::m=>Uv m
def S6 (ks:List Meet) (m:Meet) (h:ks.length < lim):tY (eK ks) (eM m) (.bl true)=.ok (eK (bR ks m)):=by
 refine Rn ?_ rfl (Uv m);have hk:=Gz ks m;simp only [eK,putD,List.length_map,List.length_replicate];rw [if_pos ⟨hk,h,trivial⟩];have hm:eM m∈ks.map eM↔m∈ks:=⟨fun z=>by obtain ⟨a,ha,e⟩:=yo.mp z;rw [j7.inj _ _ e] at ha;exact ha,fun z=>yo.mpr ⟨m,z,rfl⟩⟩;unfold bR iU;by_cases hmem:m∈ks
 .rw [if_pos (hm.mpr hmem),if_pos hmem];have:((ks.map eM).zip (List.replicate ks.length (D.bl true))).map (fun p=>if p.1=eM m then D.bl true else p.2)=List.replicate ks.length (D.bl true):=by
   refine List.ext_getElem (by simp) fun i h1 h2=>?_
   simp
  rw [this]
 .rw [if_neg fun z=>hmem (hm.mp z),if_neg hmem];simp [List.replicate_succ']
def Vg [DecidableEq α] {ks:List α}{m x:α}:x∈bR ks m↔x∈ks\/x=m:=by
 unfold bR;split
 .constructor
  .exact .inl
  .rintro (h | rfl) <;> assumption
 .simp
def Ou [DecidableEq α] {ks:List α}{m:α} (h:ks.Nodup):(bR ks m).Nodup:=by
 unfold bR;split
 .exact h
 .rename_i hm;rw [List.nodup_append];refine ⟨h,by simp,fun a ha b hb=>?_⟩;rw [List.mem_singleton.mp hb];rintro rfl;exact hm ha
theorem pY {α:Type} [DecidableEq α] {x:α}:∀ {ms ks:List α},x∈ms.foldl bR ks↔x∈ks\/x∈ms
 | [],ks=>by simp
 | m::ms,ks=>by
  rw [List.foldl_cons,pY,Vg,List.mem_cons,or_assoc]
theorem su {α:Type} [DecidableEq α]:∀ {ms ks:List α},ks.Nodup->(ms.foldl bR ks).Nodup
 | [],ks,h=>h
 | m::ms,ks,h=>by rw [List.foldl_cons];exact su (Ou h)
def uJ [DecidableEq α] (ks:List α) (m:α):(bR ks m).length<=ks.length+1:=by
 unfold bR;split
 .omega
 .simp
theorem jJ {α:Type} [DecidableEq α]:∀ (ms ks:List α),(ms.foldl bR ks).length<=ks.length+ms.length
 | [],ks=>by simp
 | m::ms,ks=>by
  have:=jJ ms (bR ks m);have:=uJ ks m;simp only [List.foldl_cons,List.length_cons];omega
def pLt (p q:Nat × Nat):Prop:=p.1 < q.1\/(p.1=q.1/\p.2 < q.2)
def mLt (a b:Meet):Prop:=∃ c x y s t,a=c++x::s/\b=c++y::t/\pLt x y
variable {p q:Nat × Nat}
def abZ (h:pLt p q):ltD (eP p) (eP q)=true:=by
 obtain ⟨a,b⟩:=p;obtain ⟨c,d⟩:=q;simp only [eP,ltD,aR,eN];rcases h with h | ⟨h1,h2⟩
 .have:¬ (D.int (a:Int)=D.int (c:Int)):=fun z=>by injection z with z;simp only at h;omega
  rw [if_neg this];simp only at h;simp;omega
 .simp only at h1 h2;subst h1;rw [if_pos rfl];have:¬ (D.int (b:Int)=D.int (d:Int)):=fun z=>by injection z with z;omega
  rw [if_neg this];simp;omega
def ZC (h:pLt p q):p≠q:=by
 rintro rfl;rcases h with h | ⟨_,h⟩ <;> omega
variable {x y:Nat × Nat}
def Uh (c:Meet) {s t:Meet} (h:pLt x y):aR ((c++x::s).map eP) ((c++y::t).map eP)=true:=by
 induction c with
 | nil =>
  simp only [List.nil_append,List.map_cons,aR];rw [if_neg fun z=>ZC h (GK.inj _ _ z)];exact abZ h
 | cons z c ih =>
  simp only [List.cons_append,List.map_cons,aR,if_true];exact ih
variable {a b:Meet}
def WY (h:mLt a b):ltD (eM a) (eM b)=true:=by
 obtain ⟨c,x,y,s,t,rfl,rfl,h⟩:=h;simp only [eM,ltD];exact Uh c h
theorem mLt.app (h:mLt a b) (u v:Meet):mLt (a++u) (b++v):=by
 obtain ⟨c,x,y,s,t,rfl,rfl,h⟩:=h;exact ⟨c,x,y,s++u,t++v,by simp,by simp,h⟩
theorem mLt.last (c:Meet) (h:pLt x y):mLt (c++[x]) (c++[y]):=⟨c,x,y,[],[],rfl,rfl,h⟩
def HX (h:mLt a b):a≠b:=by
 rintro rfl;have:=WY h;rw [xV] at this;cases this
theorem acq (p q:Nat × Nat):bH (eP p) (eP q)=true:=by
 simp only [eP,bH,dh];split
 .split
  .rfl
  .rfl
 .rfl
theorem Tq:∀ (a b:Meet),dh (a.map eP) (b.map eP)=true
 | [],b=>by simp [dh]
 | x::a,[]=>by simp [dh]
 | x::a,y::b=>by
  simp only [List.map_cons,dh];split
  .exact Tq a b
  .exact acq x y
def abT (a b:Meet):bH (eM a) (eM b)=true:=by simp only [eM,bH];exact Tq a b
variable {ks:List Meet}
def Uu {L:List Meet} (hn:ks.Nodup) (hL:L.Pairwise mLt) (hm:∀ m,m∈ks↔m∈L) (hl:L.length < 64) (h0:∀ m∈L,m≠[]):tQ (.dct (ks.map eM) vs)=.ok (.lst (L.map eM)):=by
 have nL:L.Nodup:=hL.imp fun h=>HX h
 have perm:L.Perm ks:=(List.perm_ext_iff_of_nodup nL hn).mpr fun m=>(hm m).symm
 have hlen:=perm.length_eq;have hc:jX (ks.map eM):=fun a ha b hb=>by
  obtain ⟨x,_,rfl⟩:=yo.mp ha;obtain ⟨y,_,rfl⟩:=yo.mp hb;exact abT x y
 have hsort:nZ (ks.map eM)=L.map eM:=Hz hc (perm.map eM) (List.pairwise_map.mpr (hL.imp fun h=>by
  unfold leD;exact JG (WY h)))
 have ok:sU (ks.map eM)=true:=by
  unfold sU;simp only [Bool.and_eq_true,Bool.or_eq_true,decide_eq_true_eq,List.length_map,List.all_eq_true];refine ⟨⟨⟨by omega,?_⟩,fun a ha b hb=>hc a ha b hb⟩,.inl ⟨jk j7.key ks,.inr ?_⟩⟩
  .have:=lG j7.dp ks;omega
  .intro d hd;obtain ⟨m,hmk,rfl⟩:=yo.mp hd;have:=h0 m ((hm m).mp hmk);cases m with
   | nil=>exact absurd rfl this
   | cons p m=>rfl
 simp only [tQ,GJ,qT,ok,if_true,hsort]
noncomputable def cu (rs:zv) (l:Nat):zv:=rs.flatMap fun r=>(List.range l).map fun s=>r++[s]
def rows (lv:zz):zv:=lv.foldl cu [[]]
def gj:zz->zz->Prop
 | [],[]=>True
 | l::ls,x::xs=>x < l/\gj ls xs
 | _,_=>False
theorem Eh:∀ {lv:zz}{rs:zv}{r:zz},r∈lv.foldl cu rs↔∃ a∈rs,∃ t,r=a++t/\gj lv t
 | [],rs,r=>by
  simp only [List.foldl_nil];constructor
  .intro h;exact ⟨r,h,[],by simp,trivial⟩
  .rintro ⟨a,ha,t,rfl,ht⟩;cases t with
   | nil=>simpa using ha
   | cons _ _=>exact ht.elim
 | l::lv,rs,r=>by
  rw [List.foldl_cons,Eh];constructor
  .rintro ⟨a,ha,t,rfl,ht⟩;unfold cu at ha;rw [List.mem_flatMap] at ha;obtain ⟨b,hb,ha⟩:=ha;obtain ⟨s,hs,rfl⟩:=yo.mp ha;exact ⟨b,hb,s::t,by simp,y0.mp hs,ht⟩
  .rintro ⟨a,ha,t,rfl,ht⟩;cases t with
   | nil=>exact ht.elim
   | cons s t =>
    refine ⟨a++[s],?_,t,by simp,ht.2⟩;unfold cu;rw [List.mem_flatMap];exact ⟨a,ha,yo.mpr ⟨s,y0.mpr ht.1,rfl⟩⟩
variable {lv r:zz}
def lE :r∈rows lv↔gj lv r:=by
 unfold rows;rw [Eh];constructor
 .rintro ⟨a,ha,t,rfl,ht⟩;rw [List.mem_singleton.mp ha];exact ht
 .intro h;exact ⟨[],by simp,r,by simp,h⟩
theorem gj.len:∀ {lv r:zz},gj lv r->r.length=lv.length
 | [],[],_=>rfl
 | _::_,_::_,h=>by simp [gj.len h.2]
 | [],_::_,h=>h.elim
 | _::_,[],h=>h.elim
theorem gj.get':∀ {lv r:zz}{i:Nat},gj lv r->∀ {x:Nat},r[i]?=some x->∃ l,lv[i]?=some l/\x < l
 | _,[],i,_,l,e=>by simp at e
 | [],x::r,i,h,_,e=>h.elim
 | l::lv,x::r,0,h,l',e=>by simp at e;subst e;exact ⟨l,rfl,h.1⟩
 | l::lv,x::r,i+1,h,l',e=>by simpa using gj.get' h.2 (i:=i) (by simpa using e)
noncomputable def prod (lv:zz):Nat:=lv.foldl (· * ·) 1
theorem Fe {α:Type} (k:Nat):∀ (l:List α),(l.map fun _=>k).sum=l.length * k
 | []=>by simp
 | a::l=>by simp [Fe k l,Nat.succ_mul,Nat.add_comm]
def xu (rs:zv) (l:Nat):(cu rs l).length=rs.length * l:=by
 unfold cu;rw [List.length_flatMap];simp only [List.length_map,List.length_range];exact Fe l rs
theorem Fp:∀ (lv:zz) (rs:zv) (k:Nat),rs.length=k->(lv.foldl cu rs).length=lv.foldl (· * ·) k
 | [],rs,k,h=>h
 | l::lv,rs,k,h=>by
  rw [List.foldl_cons,List.foldl_cons];exact Fp lv _ _ (by rw [xu,h])
theorem uN (lv:zz):(rows lv).length=prod lv:=Fp lv [[]] 1 rfl
noncomputable def dW:Nat->zz->List (Nat × Nat)
 | _,[]=>[]
 | n,l::ls=>(List.range l).map (fun s=>(n,s))++dW (n+1) ls
theorem jP:∀ {n:Nat}{lv:zz}{p:Nat × Nat},p∈dW n lv↔n<=p.1/\∃ l,lv[p.1 - n]?=some l/\p.2 < l
 | n,[],p=>by simp [dW]
 | n,l::ls,p=>by
  obtain ⟨t,s⟩:=p;simp only [dW,List.mem_append,jP,List.mem_map,List.mem_range,Prod.mk.injEq];constructor
  .rintro (⟨a,ha,rfl,rfl⟩ | ⟨h1,l',h2,h3⟩)
   .exact ⟨v4 _,l,by simp,ha⟩
   .refine ⟨by omega,l',?_,h3⟩;rw [show t - n=(t - (n+1))+1 by omega];simpa using h2
  .rintro ⟨h1,l',h2,h3⟩;by_cases e:t=n
   .subst e;simp at h2;subst h2;exact .inl ⟨s,h3,rfl,rfl⟩
   .right;refine ⟨by omega,l',?_,h3⟩;rw [show t - n=(t - (n+1))+1 by omega] at h2;simpa using h2
theorem pW:∀ (n:Nat) (lv:zz),(dW n lv).Pairwise pLt
 | n,[]=>List.Pairwise.nil
 | n,l::ls=>by
  simp only [dW];rw [List.pairwise_append];refine ⟨List.pairwise_map.mpr (List.pairwise_lt_range.imp fun h=>.inr ⟨rfl,h⟩),pW (n+1) ls,fun a ha b hb=>?_⟩;obtain ⟨s,_,rfl⟩:=yo.mp ha;have:=(jP.mp hb).1;exact .inl (Nat.lt_of_succ_le this)
noncomputable def behind (m:Meet) (p:Nat × Nat):Bool:=match m.getLast? with | none=>true | some q=>decide (q.1 < p.1)
def among (ps:List (Nat × Nat)):Nat->List Meet
 | 0=>[[]]
 | k+1=>(among ps k).flatMap fun m=>(ps.filter (behind m)).map fun p=>m++[p]
abbrev dY (m:Meet):Prop:=m.Pairwise fun p q=>p.1 < q.1
variable {m:Meet}
def Cj (h:dY m):behind m p=true↔∀ q∈m,q.1 < p.1:=by
 unfold behind;cases e:m.getLast? with
 | none =>
  rw [List.getLast?_eq_none_iff] at e;subst e;simp
 | some q =>
  obtain ⟨m',rfl⟩:=List.getLast?_eq_some_iff.mp e;simp only [decide_eq_true_eq];constructor
  .intro hq x hx;rcases yy.mp hx with hx | hx
   .have:=(List.pairwise_append.mp h).2.2 x hx q (by simp);omega
   .rw [List.mem_singleton.mp hx];exact hq
  .intro hx;exact hx q (by simp)
theorem mJ {ps:List (Nat × Nat)}:∀ {k:Nat}{m:Meet},m∈among ps k↔m.length=k/\dY m/\∀ p∈m,p∈ps
 | 0,m=>by
  simp only [among,List.mem_singleton];constructor
  .rintro rfl;simp
  .rintro ⟨h,_⟩;exact List.length_eq_zero_iff.mp h
 | k+1,m=>by
  simp only [among,List.mem_flatMap,List.mem_map,List.mem_filter];constructor
  .rintro ⟨a,ha,p,⟨hp,hb⟩,rfl⟩;obtain ⟨h1,h2,h3⟩:=mJ.mp ha;refine ⟨by simp [h1],?_,fun q hq=>?_⟩
   .unfold dY;rw [List.pairwise_append];exact ⟨h2,by simp,fun x hx y hy=>by rw [List.mem_singleton.mp hy];exact (Cj h2).mp hb x hx⟩
   .rcases yy.mp hq with hq | hq
    .exact h3 q hq
    .rw [List.mem_singleton.mp hq];exact hp
  .rintro ⟨h1,h2,h3⟩;have hne:m≠[]:=fun z=>by subst z;simp at h1
   obtain ⟨a,p,rfl⟩:∃ a p,m=a++[p]:=⟨m.dropLast,m.getLast hne,(List.dropLast_concat_getLast hne).symm⟩;obtain ⟨q1,q2,q3⟩:=List.pairwise_append.mp h2;refine ⟨a,mJ.mpr ⟨by simpa using h1,q1,fun x hx=>h3 x (by simp [hx])⟩,p,⟨h3 p (by simp),(Cj q1).mpr fun x hx=>q3 x hx p (by simp)⟩,rfl⟩
theorem pK {ps:List (Nat × Nat)} (h:ps.Pairwise pLt):∀ k,(among ps k).Pairwise mLt
 | 0=>by simp [among]
 | k+1=>by
  simp only [among];rw [List.pairwise_flatMap];refine ⟨fun m _=>List.pairwise_map.mpr ((h.filter _).imp fun q=>mLt.last m q),(pK h k).imp fun q x hx y hy=>?_⟩;obtain ⟨p,_,rfl⟩:=yo.mp hx;obtain ⟨p',_,rfl⟩:=yo.mp hy;exact q.app _ _
noncomputable def aO:Nat->zz->List (Nat × Nat)
 | _,[]=>[]
 | n,x::xs=>(n,x)::aO (n+1) xs
theorem jH:∀ {n:Nat}{r:zz}{p:Nat × Nat},p∈aO n r↔n<=p.1/\r[p.1 - n]?=some p.2
 | n,[],p=>by simp [aO]
 | n,x::xs,p=>by
  obtain ⟨t,s⟩:=p;simp only [aO,List.mem_cons,jH,Prod.mk.injEq];constructor
  .rintro (⟨rfl,rfl⟩ | ⟨h1,h2⟩)
   .simp
   .refine ⟨by omega,?_⟩;rw [show t - n=(t - (n+1))+1 by omega];simpa using h2
  .rintro ⟨h1,h2⟩;by_cases e:t=n
   .subst e;simp at h2;exact .inl ⟨rfl,h2.symm⟩
   .right;refine ⟨by omega,?_⟩;rw [show t - n=(t - (n+1))+1 by omega] at h2;simpa using h2
theorem nO:∀ (n:Nat) (r:zz),dY (aO n r)
 | n,[]=>List.Pairwise.nil
 | n,x::xs=>by
  unfold dY aO;rw [List.pairwise_cons];exact ⟨fun p hp=>by have:=(jH.mp hp).1;simp only;omega,nO (n+1) xs⟩
noncomputable def aL (r:zz) (m:Meet):Bool:=m.all fun p=>decide (r[p.1]?=some p.2)
def pD :aL r m=true↔∀ p∈m,r[p.1]?=some p.2:=by
 unfold aL;simp [List.all_eq_true]
variable {k:Nat}
def aQ :m∈among (aO 0 r) k↔m.length=k/\dY m/\aL r m=true:=by
 rw [mJ,pD];refine and_congr_right fun _=>and_congr_right fun _=>?_
 constructor
 .intro h p hp;simpa using (jH.mp (h p hp)).2
 .intro h p hp;exact jH.mpr ⟨ye _,by simpa using h p hp⟩
noncomputable def fG (acc:List Meet) (p:Nat × Nat):List Meet:=acc++acc.map fun m=>m++[p]
def subs (l:Meet):List Meet:=l.foldl fG [[]]
theorem Et:∀ {l:Meet}{acc:List Meet}{m:Meet},m∈l.foldl fG acc↔∃ a∈acc,∃ t,t.Sublist l/\m=a++t
 | [],acc,m=>by
  simp only [List.foldl_nil,List.sublist_nil];constructor
  .intro h;exact ⟨m,h,[],rfl,by simp⟩
  .rintro ⟨a,ha,t,rfl,rfl⟩;simpa using ha
 | p::l,acc,m=>by
  rw [List.foldl_cons,Et];constructor
  .rintro ⟨a,ha,t,ht,rfl⟩;unfold fG at ha;rcases yy.mp ha with ha | ha
   .exact ⟨a,ha,t,ht.cons p,rfl⟩
   .obtain ⟨b,hb,rfl⟩:=yo.mp ha;exact ⟨b,hb,p::t,ht.cons_cons p,by simp⟩
  .rintro ⟨a,ha,t,ht,rfl⟩;cases ht with
   | cons _ h=>exact ⟨a,by unfold fG;simp [ha],t,h,rfl⟩
   | cons_cons _ h =>
    rename_i t';exact ⟨a++[p],by unfold fG;simp [ha],t',h,by simp⟩
theorem rZ:∀ {l m:Meet},dY l->dY m->(∀ p∈m,p∈l)->m.Sublist l
 | [],m,_,_,h=>by
  cases m with
  | nil=>exact List.Sublist.refl _
  | cons p m=>exact absurd (h p vz) (by simp)
 | q::l,[],_,_,_=>List.nil_sublist _
 | q::l,p::m,hl,hm,h=>by
  unfold dY at hl hm;rw [List.pairwise_cons] at hl hm;rcases w6.mp (h p vz) with rfl | hp
  .refine List.Sublist.cons_cons p (rZ hl.2 hm.2 fun x hx=>?_);rcases w6.mp (h x (vy _ hx)) with rfl | h'
   .have:=hm.1 x hx;omega
   .exact h'
  .refine List.Sublist.cons q (rZ hl.2 (List.pairwise_cons.mpr hm) fun x hx=>?_);rcases w6.mp (h x hx) with rfl | h'
   .exfalso;have h1:=hl.1 p hp;rcases w6.mp hx with rfl | hx
    .omega
    .have:=hm.1 x hx;omega
   .exact h'
def FJ :m∈subs (aO 0 r)↔dY m/\aL r m=true:=by
 unfold subs;rw [Et,pD];constructor
 .rintro ⟨a,ha,t,ht,rfl⟩;rw [List.mem_singleton.mp ha,List.nil_append];refine ⟨(nO 0 r).sublist ht,fun p hp=>?_⟩;simpa using (jH.mp (ht.subset hp)).2
 .rintro ⟨h1,h2⟩;exact ⟨[],by simp,m,rZ (nO 0 r) h1 fun p hp=>jH.mpr ⟨ye _,by simpa using h2 p hp⟩,by simp⟩
theorem Ea:∀ (l:Meet) (acc:List Meet),(l.foldl fG acc).length=acc.length * 2 ^ l.length
 | [],acc=>by simp
 | p::l,acc=>by
  rw [List.foldl_cons,Ea];unfold fG;rw [List.length_append,List.length_map,List.length_cons,Nat.pow_succ,<- Nat.two_mul,Nat.mul_comm 2 acc.length,Nat.mul_assoc,Nat.mul_comm 2]
theorem dG:∀ (n:Nat) (r:zz),(aO n r).length=r.length
 | _,[]=>rfl
 | n,x::xs=>by simp [aO,dG (n+1) xs]
def pH (lv:zz) (m:Meet):Prop:=dY m/\∀ p∈m,∃ l,lv[p.1]?=some l/\p.2 < l
structure WB (lv:zz) (bs:List Meet):Prop where
 one:1<=lv.length
 four:lv.length<=4
 lv1:∀ (i l:Nat),lv[i]?=some l->1<=l/\l<=3
 lv2:∀ (i l:Nat),lv[i]?=some l->2<=i->l<=2
 nb:bs.length<=3
 ban:∀ b∈bs,pH lv b/\1<=b.length/\b.length<=3
def ou (bs:List Meet) (r:zz):Bool:=!(bs.any fun b=>aL r b)
def tests (lv:zz) (bs:List Meet):zv:=(rows lv).filter (ou bs)
def allM (lv:zz) (k:Nat):List Meet:=among (dW 0 lv) k
def oV :m∈allM lv k↔m.length=k/\pH lv m:=by
 unfold allM pH;rw [mJ];refine and_congr_right fun _=>and_congr_right fun _=>?_
 constructor
 .intro h p hp;simpa using (jP.mp (h p hp)).2
 .intro h p hp;exact jP.mpr ⟨ye _,by simpa using h p hp⟩
theorem yN (lv:zz) (k:Nat):(allM lv k).Pairwise mLt:=pK (pW 0 lv) k
theorem M6:∀ {lv:zz}{n:Nat}{m:Meet},(∀ (i l:Nat),lv[i]?=some l->1<=l)->dY m->(∀ p∈m,n<=p.1/\∃ l,lv[p.1 - n]?=some l/\p.2 < l)->∃ r,gj lv r/\∀ p∈m,r[p.1 - n]?=some p.2
 | [],n,m,_,_,h=>⟨[],trivial,fun p hp=>by obtain ⟨_,l,e,_⟩:=h p hp;simp at e⟩
 | l::lv,n,m,h1,hr,h=>by
  have h1':∀ (i l:Nat),lv[i]?=some l->1<=l:=fun i l' e=>h1 (i+1) l' (by simpa using e)
  have go:∀ (m':Meet),dY m'->(∀ p∈m',p∈m/\n+1<=p.1)->∃ r,gj lv r/\∀ p∈m',r[p.1 - (n+1)]?=some p.2:=fun m' hr' hm'=>M6 h1' hr' fun p hp=>by
   obtain ⟨hpm,hn⟩:=hm' p hp;obtain ⟨_,l',e,hl⟩:=h p hpm;rw [show p.1 - n=(p.1 - (n+1))+1 by omega] at e;exact ⟨hn,l',by simpa using e,hl⟩
  have up:∀ {r:zz}{x:Nat}{p:Nat × Nat},n+1<=p.1->r[p.1 - (n+1)]?=some p.2->(x::r)[p.1 - n]?=some p.2:=fun {r x p} hn e=>by
   rw [show p.1 - n=(p.1 - (n+1))+1 by omega];simpa using e
  cases m with
  | nil =>
   obtain ⟨r,q1,q2⟩:=go [] List.Pairwise.nil (by simp);exact ⟨0::r,⟨h1 0 l rfl,q1⟩,by simp⟩
  | cons p m =>
   unfold dY at hr;rw [List.pairwise_cons] at hr;by_cases e:p.1=n
   .obtain ⟨r,q1,q2⟩:=go m hr.2 fun q hq=>⟨vy _ hq,by have:=hr.1 q hq;omega⟩
    obtain ⟨_,l',e',hl⟩:=h p vz;rw [e,Nat.sub_self] at e';simp at e';subst e';refine ⟨p.2::r,⟨hl,q1⟩,fun q hq=>?_⟩;rcases w6.mp hq with rfl | hq
    .rw [e,Nat.sub_self];rfl
    .exact up (by have:=hr.1 q hq;omega) (q2 q hq)
   .have hall:∀ q∈p::m,n+1<=q.1:=fun q hq=>by
     have h0:=(h p vz).1;rcases w6.mp hq with rfl | hq
     .omega
     .have:=hr.1 q hq;omega
    obtain ⟨r,q1,q2⟩:=go (p::m) (List.pairwise_cons.mpr hr) fun q hq=>⟨hq,hall q hq⟩
    exact ⟨0::r,⟨h1 0 l rfl,q1⟩,fun q hq=>up (hall q hq) (q2 q hq)⟩
def Vo (h1:∀ (i l:Nat),lv[i]?=some l->1<=l) (h:pH lv m):∃ r∈rows lv,aL r m=true:=by
 obtain ⟨r,q1,q2⟩:=M6 (n:=0) h1 h.1 fun p hp=>⟨ye _,by simpa using h.2 p hp⟩
 exact ⟨r,lE.mpr q1,pD.mpr fun p hp=>by simpa using q2 p hp⟩
theorem Hw (hr:gj lv r) (h:dY m) (hm:aL r m=true):pH lv m :=
 ⟨h,fun p hp=>hr.get' (pD.mp hm p hp)⟩
def bV (lv:zz) (bs:List Meet) (k:Nat):List Meet:=(allM lv k).filter fun m=>(tests lv bs).any fun t=>aL t m
theorem bind_eq {α β:Type}{r:R α}{a:α} (h:r=.ok a) {f:α->R β}:(r >>= f)=f a:=by rw [h];rfl
def eBs (bs:List Meet):D:=.tup (bs.map eM)
theorem qD (r:zz):itemsOf .seq [aq r]=.ok (r.map eN):=rfl
theorem qq (m:Meet):itemsOf .seq [eM m]=.ok (m.map eP):=rfl
theorem qP (bs:List Meet):itemsOf .seq [eBs bs]=.ok (bs.map eM):=rfl
theorem yZ:∀ (n:Nat) (r:zz),aY n (r.map eN)=(aO n r).map eP
 | _,[]=>rfl
 | n,x::xs=>by simp [aY,aO,yZ (n+1) xs,eP]
def qA (r:zz):itemsOf .enum [aq r]=.ok ((aO 0 r).map eP):=by
 show R.ok (aY 0 (r.map eN))=_
 rw [yZ]
def qB (r:zz):fM .listEnum [aq r]=.ok (.lst ((aO 0 r).map eP)):=by
 show R.ok (D.lst (aY 0 (r.map eN)))=_
 rw [yZ]
def gP (k:Nat) (h:k<=lim):itemsOf .rng [.int k]=.ok ((List.range k).map eN):=by
 show (if _ then _ else _)=_
 rw [if_pos ⟨by omega,by omega⟩];simp
theorem qr (r:zz):vd (aq r)=.ok (.int r.length):=congrArg (fun n:Nat=>R.ok (D.int n)) (List.length_map eN)
def zK (r:Meet):vd (eM r)=.ok (.int r.length):=by simp [vd,eM]
def zL (enc:α->D) (l:List α):vd (.lst (l.map enc))=.ok (.int l.length):=by simp [vd]
def Jw {s:Nat} (h:r.length < lim):mY (aq r) (.tup [eN s])=.ok (aq (r++[s])):=by
 simp only [mY,aq,List.length_map,List.length_singleton];rw [if_pos (by omega)];simp
def Q5 (h:m.length < lim):mY (eM m) (.tup [eP p])=.ok (eM (m++[p])):=by
 simp only [mY,eM,List.length_map,List.length_singleton];rw [if_pos (by omega)];simp
def GP {α:Type}{enc:α->D}{l l':List α} (h:l.length+l'.length<=lim):mY (.lst (l.map enc)) (.lst (l'.map enc))=.ok (.lst ((l++l').map enc)):=by
 simp only [mY,List.length_map];rw [if_pos h];simp
def WT {α:Type}{enc:α->D}{l l':List α} (h:l.length+l'.length<=lim):Jg (.lst (l.map enc)) (.lst (l'.map enc))=.ok (.lst ((l++l').map enc)):=by
 simp only [Jg,List.length_map];rw [if_pos h];simp
def oA {α:Type}{enc:α->D}{l:List α}{a:α} (h:l.length < lim):yX (.lst (l.map enc)) (enc a)=.ok (.lst ((l++[a]).map enc)):=by
 simp only [yX,List.length_map];rw [if_pos h];simp
theorem zM (p:Nat × Nat):ixD (eP p) (.int 0)=.ok (eN p.1):=rfl
theorem zN (p:Nat × Nat):ixD (eP p) (.int 1)=.ok (eN p.2):=rfl
theorem zO (lv:zz) (bs:List Meet):ixD (eB lv bs) (.int 0)=.ok (aq lv):=rfl
theorem zP (lv:zz) (bs:List Meet):ixD (eB lv bs) (.int 1)=.ok (eBs bs):=rfl
variable {i:Nat}
def Hg {x:Nat} (h:r[i]?=some x):ixD (aq r) (.int (i:Int))=.ok (eN x):=by
 have hl:i < r.length:=(v7.mp h).1;simp only [aq,ixD,ixN,List.length_map];rw [if_pos (by omega),if_pos (by omega)];simp [h]
def Ie {α:Type}{enc:α->D}{l:List α}{x:α} (h:l[i]?=some x):ixD (.lst (l.map enc)) (.int (i:Int))=.ok (enc x):=by
 have hl:i < l.length:=(v7.mp h).1;simp only [ixD,ixN,List.length_map];rw [if_pos (by omega),if_pos (by omega)];simp [h]
def Yo (h:m.getLast?=some q):ixD (eM m) (.int (-1))=.ok (eP q):=by
 obtain ⟨m',rfl⟩:=List.getLast?_eq_some_iff.mp h;simp only [eM,ixD,ixN,List.length_map,List.length_append,List.length_singleton];rw [if_neg (by omega),if_pos (by omega)];simp [show (-1+((m'.length:Int)+1)).toNat=m'.length by omega]
def zY (a b:Int):bQ .eq (.int a) (.int b)=.ok (decide (a=b)):=by
 have e:bQ .eq (.int a) (.int b)=(if bN (.int a) (.int b)=true then R.ok (aF (.int a) (.int b)) else .stuck):=rfl;rw [e,if_pos (by simp [bN,dep,like])];congr 1
def zZ (a b:Int):bQ .ne (.int a) (.int b)=.ok (!decide (a=b)):=by
 have e:bQ .ne (.int a) (.int b)=(if bN (.int a) (.int b)=true then R.ok (!aF (.int a) (.int b)) else .stuck):=rfl;rw [e,if_pos (by simp [bN,dep,like])];congr 2
def o7 (a b:Nat):decide ((a:Int)=(b:Int))=decide (a=b):=by
 by_cases h:a=b
 .subst h;simp
 .rw [decide_eq_false h,decide_eq_false (by omega)]
theorem vp {α:Type} (p:α->Bool):∀ l:List α,boolsOf (l.map fun a=>D.bl (p a))=some (l.map p)
 | []=>rfl
 | a::l=>by simp [boolsOf,vp p l]
def Gu (p:α->Bool) (l:List α):fM .all [.lst (l.map fun a=>D.bl (p a))]=.ok (.bl (l.all p)):=by
 rw [Ja (vp p l)];simp [List.all_map]
def ab2 (p:α->Bool) (l:List α):fM .any [.lst (l.map fun a=>D.bl (p a))]=.ok (.bl (l.any p)):=by
 rw [HN (vp p l)];simp [List.any_map]
theorem ji {α β:Type}{f:α->List β}{k:Nat}:∀ (l:List α),(∀ a∈l,(f a).length<=k)->(l.flatMap f).length<=l.length * k
 | [],_=>by simp
 | a::l,h=>by
  have h1:=h a vz;have h2:=ji l fun b hb=>h b (vy _ hb)
  simp only [List.flatMap_cons,List.length_append,List.length_cons,Nat.succ_mul];omega
theorem mR (ps:List (Nat × Nat)):∀ k,(among ps k).length<=ps.length ^ k
 | 0=>by simp [among]
 | k+1=>by
  have h:=ji (f:=fun m=>(ps.filter (behind m)).map fun p=>m++[p]) (k:=ps.length) (among ps k) fun m _=>by rw [List.length_map];exact yn _ _
  have h2:=Nat.mul_le_mul_right ps.length (mR ps k);rw [Nat.pow_succ];exact yb h h2
noncomputable def Ng:zv:=[1,2,3].flatMap fun a=>[a]::[1,2,3].flatMap fun b=>[a,b]::[1,2].flatMap fun c=>[a,b,c]::[1,2].map fun d=>[a,b,c,d]
theorem WB.mem {bs:List Meet} (h:WB lv bs):lv∈Ng:=by
 have h1:=h.lv1;have h2:=h.lv2;have h3:=h.four;have h4:=h.one;have in3:∀ {x:Nat},1<=x/\x<=3->x∈[1,2,3]:=fun {x} hx=>by simp;omega
 have in2:∀ {x:Nat},1<=x->x<=2->x∈[1,2]:=fun {x} hx hy=>by simp;omega
 unfold Ng;rcases lv with _ | ⟨a,_ | ⟨b,_ | ⟨c,_ | ⟨d,_ | ⟨e,es⟩⟩⟩⟩⟩
 .simp at h4
 .exact yT.mpr ⟨a,in3 (h1 0 a rfl),vz⟩
 .exact yT.mpr ⟨a,in3 (h1 0 a rfl),vy _ (yT.mpr ⟨b,in3 (h1 1 b rfl),vz⟩)⟩
 .exact yT.mpr ⟨a,in3 (h1 0 a rfl),vy _ (yT.mpr ⟨b,in3 (h1 1 b rfl),vy _ (yT.mpr ⟨c,in2 (h1 2 c rfl).1 (h2 2 c rfl (by omega)),vz⟩)⟩)⟩
 .exact yT.mpr ⟨a,in3 (h1 0 a rfl),vy _ (yT.mpr ⟨b,in3 (h1 1 b rfl),vy _ (yT.mpr ⟨c,in2 (h1 2 c rfl).1 (h2 2 c rfl (by omega)),vy _ (yo.mpr ⟨d,in2 (h1 3 d rfl).1 (h2 3 d rfl (by omega)),rfl⟩)⟩)⟩)⟩
 .simp at h3
def kZ:∀ lv∈Ng,prod lv<=36/\(dW 0 lv).length<=10/\(allM lv 1).length < 64/\(allM lv 2).length < 64/\(allM lv 3).length < 64:=by decide +kernel
theorem qS {γ:Type} (x:R α) (f:α->R β) (g:β->R γ):((x >>= f) >>= g)=(x >>= fun a=>f a >>= g):=by cases x <;> rfl
theorem zU (a b:Int):bQ .lt (.int a) (.int b)=.ok (decide (a < b)):=rfl
theorem zV (a b:Int):bQ .le (.int a) (.int b)=.ok (decide (a<=b)):=rfl
theorem zW (a b:Int):bQ .gt (.int a) (.int b)=.ok (decide (b < a)):=rfl
theorem zX (a b:Int):bQ .ge (.int a) (.int b)=.ok (decide (b<=a)):=rfl
theorem qM (c:M) (b:Bool):jw c (.bl b)=.ok b:=rfl
theorem qN (e:M) (t:Tg) (k:IK) (s:List M) (h:Bool) (c:M) (p:List Bool) (ds:List D):jw (.comp e t k s h c p) (.lst ds)=.ok (!ds.isEmpty):=rfl
theorem qg (a b:D):jD .add a b=mY a b:=rfl
theorem we (a b:Int):mY (.int a) (.int b)=.ok (.int (a+b)):=rfl
theorem zA (a b:Int):jD .sub (.int a) (.int b)=.ok (.int (a - b)):=rfl
def GD {a b:Int} (h:j9 a=true\/j9 b=true):jD .mul (.int a) (.int b)=.ok (.int (a * b)):=by
 show (if (j9 a || j9 b)=true then _ else _)=_
 rw [if_pos (by simpa using h)]
def Ph {a b:Int} (h:0 < b):jD .mod (.int a) (.int b)=.ok (.int (a % b)):=by
 show (if 0 < b then _ else _)=_
 rw [if_pos h]
theorem qh (d:D):fM .len [d]=vd d:=rfl
theorem qi (a b:Int):fM .min2 [.int a,.int b]=.ok (.int (if b < a then b else a)):=rfl
theorem qC (d:D):fM .sorted [d]=tQ d:=rfl
theorem qO (l:List D):fM .tuple [.lst l]=.ok (.tup l):=rfl
theorem qj (x:Int):jN (.int x) .int=true:=rfl
theorem qk (x:Int):jN (.int x) .bool=false:=rfl
theorem qm (x:List D):jN (.tup x) .tuple=true:=rfl
theorem qp (x:List D):jN (.lst x) .list=true:=rfl
theorem qE (ds:List D):itemsOf .seq [.lst ds]=.ok ds:=rfl
theorem fC {α β:Type} (f:α->β):∀ l:List α,l.flatMap (fun k=>[f k])=l.map f
 | []=>rfl
 | a::l=>by simp [fC f l]
theorem iy {α:Type} (p:α->Bool):∀ l:List α,l.flatMap (fun a=>if p a then [a] else [])=l.filter p
 | []=>rfl
 | a::l=>by
  rw [List.flatMap_cons,iy p l,List.filter_cons];cases p a <;> simp
structure CEnc {α:Type} (enc:α->D):Prop where
 inj:∀ a b,enc a=enc b->a=b
 kok:∀ (ks:List α) a,kOk (ks.map enc) (enc a)=true
 lf:∀ a,lfD (enc a)=true
theorem uc {α:Type}{enc:α->D} (h:∀ a,lfD (enc a)=true):∀ l:List α,Ai (l.map enc)=true
 | []=>rfl
 | a::l=>by simp only [List.map_cons,Ai,h a,uc h l,Bool.and_self]
theorem ac6 (n:Nat):lfD (eN n)=true:=rfl
theorem ZD (r:zz):lfD (aq r)=true:=uc ac6 r
theorem vV:CEnc eM:=⟨j7.inj,Gz,Uv⟩
theorem HF:CEnc aq:=by
 have k:∀ r,isKey (aq r)=true:=fun r=>by
  have h1:=lF.key r;have h2:=lF.dp r;unfold isKey;rw [h1,decide_eq_true (show dep (aq r)<=6 by omega)];rfl
 refine ⟨lF.inj,fun ks r=>?_,ZD⟩;have h:(ks.map aq).all isKey=true:=by
  rw [List.all_eq_true];intro a ha;obtain ⟨x,_,rfl⟩:=yo.mp ha;exact k x
 unfold kOk;rw [k,h];rfl
section
variable {α:Type} [DecidableEq α] {enc:α->D}
noncomputable def eC (enc:α->D) (ks:List α) (c:α->Int):D:=.dct (ks.map enc) (ks.map fun m=>.int (c m))
theorem Dk (E:CEnc enc) (c:α->Int) (m:α):∀ ks:List α,cW (ks.map enc) (ks.map fun m=>.int (c m)) (enc m)=if m∈ks then some (.int (c m)) else none
 | []=>rfl
 | x::ks=>by
  simp only [List.map_cons,cW];by_cases h:x=m
  .subst h;simp
  .rw [if_neg fun z=>h (E.inj _ _ z),Dk E c m ks];have:m≠x:=fun z=>h z.symm
   simp [this]
theorem abg (E:CEnc enc) (ks:List α) (c:α->Int) (m:α):uL (eC enc ks c) (enc m) (.int 0)=.ok (.int (if m∈ks then c m else 0)):=by
 have e:uL (eC enc ks c) (enc m) (.int 0)=.ok ((cW (ks.map enc) (ks.map fun m=>.int (c m)) (enc m)).getD (.int 0)):=if_pos (E.kok ks m);rw [e,Dk E];split <;> rfl
def V0 (E:CEnc enc) {ks:List α}{c:α->Int}{m:α} (h:m∈ks):ixD (eC enc ks c) (enc m)=.ok (.int (c m)):=by
 have e:ixD (eC enc ks c) (enc m)=(match cW (ks.map enc) (ks.map fun m=>.int (c m)) (enc m) with | some d=>.ok d | none=>.stuck):=if_pos (E.kok ks m);rw [e,Dk E,if_pos h]
noncomputable def sE (c:α->Int) (m:α) (v:Int):α->Int:=fun x=>if x=m then v else c x
def Xg (E:CEnc enc) {ks:List α} (c:α->Int) (m:α) (v:Int) (h:ks.length < lim):tY (eC enc ks c) (enc m) (.int v)=.ok (eC enc (bR ks m) (sE c m v)):=by
 refine Rn ?_ rfl (E.lf m);have hk:=E.kok ks m;simp only [eC,putD,List.length_map];rw [if_pos ⟨hk,h,trivial⟩];have hm:enc m∈ks.map enc↔m∈ks:=⟨fun z=>by obtain ⟨a,ha,e⟩:=yo.mp z;rw [E.inj _ _ e] at ha;exact ha,fun z=>yo.mpr ⟨m,z,rfl⟩⟩;unfold bR iU;by_cases hmem:m∈ks
 .rw [if_pos (hm.mpr hmem),if_pos hmem];have:((ks.map enc).zip (ks.map fun m=>D.int (c m))).map (fun p=>if p.1=enc m then D.int v else p.2)=ks.map fun x=>D.int (sE c m v x):=by
   refine List.ext_getElem (by simp) fun i h1 h2=>?_
   simp only [List.getElem_map,List.getElem_zip,sE];by_cases e:ks[i]'(by simpa using h2)=m
   .rw [if_pos (by rw [e]),if_pos e]
   .rw [if_neg fun z=>e (E.inj _ _ z),if_neg e]
  rw [this]
 .rw [if_neg fun z=>hmem (hm.mp z),if_neg hmem];have:ks.map (fun x=>D.int (c x))=ks.map fun x=>D.int (sE c m v x):=by
   refine List.map_congr_left fun x hx=>?_
   have:x≠m:=fun z=>hmem (z ▸ hx)
   simp [sE,this]
  simp [this,sE]
def eT (enc:α->D) (l:List α):D:=eC enc (l.foldl bR []) fun m=>(l.count m:Int)
def DQ {l:List α}{m:α}:m∈l.foldl bR []↔m∈l:=by rw [pY];simp
theorem PN (E:CEnc enc) (l:List α) (m:α):uL (eT enc l) (enc m) (.int 0)=.ok (.int (l.count m:Int)):=by
 unfold eT;rw [abg E];congr 2;split
 .rfl
 .rename_i h;rw [DQ] at h;rw [List.count_eq_zero_of_not_mem h];rfl
def Xb (E:CEnc enc) {l:List α}{m:α} (h:l.length < lim):tY (eT enc l) (enc m) (.int ((l.count m:Int)+1))=.ok (eT enc (l++[m])):=by
 have hl:=jJ l [];simp only [List.length_nil] at hl;unfold eT;rw [Xg E _ _ _ (by omega),List.foldl_append];congr 2;funext x;unfold sE;by_cases e:x=m
 .subst e;simp
 .have e':m≠x:=fun z=>e z.symm
  simp [e,e',List.count_append,List.count_singleton]
def acA (h:∀ a,ndD (enc a)=true) (ks:List α) (c:α->Int):ndC (eC enc ks c)=true:=by
 show (gR (ks.map enc) && gR (ks.map fun m=>.int (c m)))=true
 induction ks with
 | nil=>rfl
 | cons a ks ih=>rw [List.map_cons,List.map_cons,gR,gR,h a];simpa [ndD] using ih
end
theorem zip_map:∀ (a b:zz),sy (a.map eN) (b.map eN)=(a.zip b).map eP
 | [],b=>by cases b <;> rfl
 | x::a,[]=>rfl
 | x::a,y::b=>by simp only [List.map_cons,sy,List.zip_cons_cons,zip_map a b];rfl
theorem RD (a b:zz):itemsOf .zip [aq a,aq b]=.ok ((a.zip b).map eP):=by
 rw [<- zip_map];rfl
theorem Oa (ts:zv):itemsOf .rev [.lst (ts.map aq)]=.ok (ts.reverse.map aq):=by rw [List.map_reverse];rfl
theorem Q9 (enc:α->D) (ts:List α):fM .listRev [.lst (ts.map enc)]=.ok (.lst (ts.reverse.map enc)):=by rw [List.map_reverse];rfl
def aaQ (ds:List D) (i:Nat) (h:i<=ds.length):cutD ds none (some (i:Int))=ds.take i:=by
 unfold cutD HT.sIx;have:¬ ((i:Int) < 0):=by omega
 simp [this,Nat.min_eq_left h]
def ZL (ds:List D) (i:Nat) (h:i<=ds.length):cutD ds (some (i:Int)) none=ds.drop i:=by
 unfold cutD HT.sIx;have:¬ ((i:Int) < 0):=by omega
 simp only [this,if_false,Int.toNat_natCast,Nat.min_eq_left h];exact List.take_of_length_le (by simp)
abbrev mOf (k:Nat) (t:zz):List Meet:=among (aO 0 t) k
def rK (k:Nat) (t:zz):(mOf k t).Nodup:=by
 have h:(aO 0 t).Pairwise pLt:=(nO 0 t).imp fun h=>.inl h
 exact (pK h k).imp fun h=>HX h
def iI (k:Nat) (ts:zv) (m:Meet):Nat:=(ts.flatMap (mOf k)).count m
def IW (k:Nat) (a b:zv) (t:zz) (m:Meet):iI k (a++t::b) m=iI k (a++b) m+(if m∈mOf k t then 1 else 0):=by
 unfold iI;simp only [List.flatMap_append,List.flatMap_cons,List.count_append];have:(mOf k t).count m=if m∈mOf k t then 1 else 0:=by
  split
  .rename_i h;have h1:=List.count_pos_iff.mpr h;have h2:=List.nodup_iff_count.mp (rK k t) m;omega
  .rename_i h;exact List.count_eq_zero_of_not_mem h
 omega
variable {ts:zv}
def VF :0 < iI k ts m↔∃ u∈ts,m∈mOf k u:=by
 unfold iI;rw [List.count_pos_iff,List.mem_flatMap]
def cT (k:Nat) (t:zz) (os:zv):Bool:=(mOf k t).all fun m=>os.any fun u=>aL u m
def Vi (k:Nat) (a b:zv) (t:zz):((mOf k t).all fun m=>decide ((1:Int) < (iI k (a++t::b) m:Int)))=cT k t (a++b):=by
 unfold cT;rw [Bool.eq_iff_iff,List.all_eq_true,List.all_eq_true];refine forall_congr' fun m=>forall_congr' fun hm=>?_
 rw [IW,if_pos hm,decide_eq_true_eq,List.any_eq_true];have h0:=aQ.mp hm;have:(1:Int) < ((iI k (a++b) m+1:Nat):Int)↔0 < iI k (a++b) m:=by omega
 rw [this,VF];refine exists_congr fun u=>and_congr_right fun _=>?_
 rw [aQ];exact ⟨fun h=>h.2.2,fun h=>⟨h0.1,h0.2.1,h⟩⟩
def rD (ps:List Meet) (ts:zv):List Meet:=ps.filter fun m=>!(ts.any fun t=>aL t m)
theorem Wv {ps:List Meet}{X os:zv}{t:zz} (hX:∀ m,(X.any fun u=>aL u m)=(aL t m || os.any fun u=>aL u m)) (hp:∀ m∈ps,m.length=k/\dY m) (ht:∀ m∈mOf k t,m∈ps):decide (rD ps os=rD ps X)=cT k t os:=by
 unfold cT;rw [Bool.eq_iff_iff,decide_eq_true_eq,List.all_eq_true];constructor
 .intro e m hm;cases h:os.any fun u=>aL u m with
  | true=>rfl
  | false =>
   have h1:m∈rD ps os:=yY.mpr ⟨ht m hm,by rw [h];rfl⟩;rw [e] at h1;have h2:=(yY.mp h1).2;rw [hX,(aQ.mp hm).2.2] at h2;simp at h2
 .intro h;refine List.filter_congr fun m hm=>?_
  rw [hX];cases e:aL t m with
  | false=>rfl
  | true=>rw [h m (aQ.mpr ⟨(hp m hm).1,(hp m hm).2,e⟩)];rfl
def fj (k:Nat):zv->zv->zv
 | kept,[]=>kept
 | kept,t::rest=>if cT k t (kept++rest) then fj k kept rest else fj k (kept++[t]) rest
def Pj (k:Nat) (ts:zv) (i:Nat):Bool:=cT k (ts.getD i []) (ts.take i++ts.drop (i+1))
def J0 (h:i < ts.length):ts=ts.take i++ts.getD i []::ts.drop (i+1):=by
 have e:ts.getD i []=ts[i]:=by simp [List.getD,h]
 rw [e,List.getElem_cons_drop,List.take_append_drop]
def HS (k:Nat) (t:zz) (a b:zv):cT k t (b.reverse++a.reverse)=cT k t (a++b):=by
 unfold cT;simp only [List.any_append,List.any_reverse,Bool.or_comm]
noncomputable def eGr {α:Type} (enc:α->D) (ks:List α) (f:α->List D):D:=.dct (ks.map enc) (ks.map fun a=>.lst (f a))
structure KEnc {α:Type} (enc:α->D):Prop where
 inj:∀ a b,enc a=enc b->a=b
 kok:∀ (ks:List α) a,kOk (ks.map enc) (enc a)=true
theorem aaN:KEnc eM:=⟨j7.inj,Gz⟩
section
variable {α:Type} [DecidableEq α] {enc:α->D}
theorem Kc (K:KEnc enc) (f:α->List D) (a:α):∀ ks:List α,cW (ks.map enc) (ks.map fun a=>.lst (f a)) (enc a)=if a∈ks then some (.lst (f a)) else none
 | []=>rfl
 | x::ks=>by
  simp only [List.map_cons,cW];by_cases h:x=a
  .subst h;simp
  .rw [if_neg fun z=>h (K.inj _ _ z),Kc K f a ks];have:a≠x:=fun z=>h z.symm
   simp [this]
noncomputable def vX (f:α->List D) (a:α) (d:D):α->List D:=fun x=>if x=a then f a++[d] else f x
def aby (K:KEnc enc) {ks:List α}{f:α->List D}{a:α}{d:D} (h:ks.length < lim) (hf:a ∉ ks->f a=[]) (hl:(f a).length < lim):Aj (eGr enc ks f) (enc a) d=.ok (eGr enc (bR ks a) (vX f a d)):=by
 have hm:enc a∈ks.map enc↔a∈ks:=⟨fun z=>by obtain ⟨b,hb,e⟩:=yo.mp z;rw [K.inj _ _ e] at hb;exact hb,fun z=>yo.mpr ⟨a,z,rfl⟩⟩;simp only [eGr,Aj,List.length_map];rw [if_pos ⟨K.kok ks a,h,trivial⟩,Kc K];unfold bR;by_cases hmem:a∈ks
 .rw [if_pos hmem,if_pos hmem];show (if (f a).length < lim then R.ok _ else .stuck)=_
  rw [if_pos hl];unfold iU;rw [if_pos (hm.mpr hmem)];congr 2;refine List.ext_getElem (by simp) fun i h1 h2=>?_
  simp only [List.getElem_map,List.getElem_zip,vX];by_cases e:ks[i]'(by simpa using h2)=a
  .rw [if_pos (by rw [e]),if_pos e]
  .rw [if_neg fun z=>e (K.inj _ _ z),if_neg e]
 .rw [if_neg hmem,if_neg hmem];have e1:ks.map (fun x=>D.lst (f x))=ks.map fun x=>D.lst (vX f a d x):=by
   refine List.map_congr_left fun x hx=>?_
   have:x≠a:=fun z=>hmem (z ▸ hx)
   simp [vX,this]
  rw [List.map_append,List.map_append,e1];simp [vX,hf hmem]
end
structure GrOk {α β:Type} [DecidableEq α] (κ:β->α) (w:β->D) (ds:List β) (s:List α × (α->List D)):Prop where
 ks:s.1=(ds.map κ).foldl bR []
 fn:∀ a,s.2 a=(ds.filter fun x=>decide (κ x=a)).map w
section
variable {α β:Type} [DecidableEq α] {κ:β->α}{w:β->D}
def mH (κ:β->α) (w:β->D) (s:List α × (α->List D)) (x:β):List α × (α->List D):=(bR s.1 (κ x),vX s.2 (κ x) (w x))
theorem GrOk.nil:GrOk κ w [] ([],fun _=>[]):=⟨rfl,fun _=>rfl⟩
theorem GrOk.step {ds:List β}{s:List α × (α->List D)} (h:GrOk κ w ds s) (x:β):GrOk κ w (ds++[x]) (mH κ w s x):=by
 refine ⟨?_,fun a=>?_⟩
 .rw [List.map_append,List.foldl_append,<- h.ks];rfl
 .show vX s.2 (κ x) (w x) a=_
  unfold vX;rw [List.filter_append,List.map_append,h.fn,h.fn];by_cases e:a=κ x
  .subst e;rw [if_pos rfl];simp
  .rw [if_neg e];have:¬ κ x=a:=fun z=>e z.symm
   simp [this]
theorem GrOk.mem {ds:List β}{s:List α × (α->List D)} (h:GrOk κ w ds s) {a:α}:a∈s.1↔∃ x∈ds,κ x=a:=by
 rw [h.ks,pY];simp
theorem GrOk.out {ds:List β}{s:List α × (α->List D)} (h:GrOk κ w ds s) {a:α} (hn:a ∉ s.1):s.2 a=[]:=by
 rw [h.fn];have:(ds.filter fun x=>decide (κ x=a))=[]:=by
  rw [List.filter_eq_nil_iff];intro x hx e;exact hn (h.mem.mpr ⟨x,hx,by simpa using e⟩)
 rw [this];rfl
theorem Io:∀ (ks acc:List α),(ks.foldl bR acc).length<=acc.length+ks.length
 | [],acc=>by simp
 | k::ks,acc=>by
  have h1:=Io ks (bR acc k);have h2:=uJ acc k;simp only [List.foldl_cons,List.length_cons];omega
theorem GrOk.len {ds:List β}{s:List α × (α->List D)} (h:GrOk κ w ds s):s.1.length<=ds.length:=by
 have:=Io (ds.map κ) [];rw [h.ks];simpa using this
theorem GrOk.flen {ds:List β}{s:List α × (α->List D)} (h:GrOk κ w ds s) (a:α):(s.2 a).length<=ds.length:=by
 rw [h.fn,List.length_map];exact yn _ _
theorem GrOk.sda {enc:α->D} (K:KEnc enc) {ds:List β}{s:List α × (α->List D)} (h:GrOk κ w ds s) (x:β) (hl:ds.length < lim):Aj (eGr enc s.1 s.2) (enc (κ x)) (w x)=.ok (eGr enc (mH κ w s x).1 (mH κ w s x).2):=by
 have h1:=h.len;have h2:=h.flen (κ x);exact aby K (by omega) h.out (by omega)
theorem Cy {enc:α->D} (K:KEnc enc) {e:β->D}{f:D->D->R D}:∀ (ds done:List β) (s:List α × (α->List D)),GrOk κ w done s->done.length+ds.length < lim->(∀ x∈ds,∀ ks g,f (e x) (eGr enc ks g)=Aj (eGr enc ks g) (enc (κ x)) (w x))->GrOk κ w (done++ds) (ds.foldl (mH κ w) s)/\nG f (ds.map e) (eGr enc s.1 s.2)=.ok (eGr enc (ds.foldl (mH κ w) s).1 (ds.foldl (mH κ w) s).2)
 | [],done,s,hs,_,_=>⟨by rw [List.append_nil];exact hs,rfl⟩
 | x::ds,done,s,hs,hl,h=>by
  simp only [List.length_cons] at hl;obtain ⟨h1,h2⟩:=Cy K ds (done++[x]) _ (hs.step x) (by simp only [List.length_append,List.length_singleton];omega) fun y hy=>h y (vy _ hy)
  rw [List.append_assoc] at h1;refine ⟨h1,?_⟩;rw [List.map_cons,nG,h x List.mem_cons_self,hs.sda K x (by omega),qT];exact h2
end
def plc (m:Meet):Nat->zv->zz
 | _,[]=>[]
 | n,t::ts=>if aL t m then n::plc m (n+1) ts else plc m (n+1) ts
theorem Vz (t:zz) (k:Nat):(among (aO 0 t) k).Nodup:=rK k t
theorem K8 (ds:List D):itemsOf .enum [.lst ds]=.ok (aY 0 ds):=rfl
def mxL:List Int->Int
 | []=>0
 | a::l=>mxI a l
theorem aac:∀ (l:List Int) (b:Int),b<=mxI b l/\∀ a∈l,a<=mxI b l
 | [],b=>⟨Int.le_refl _,fun a h=>by cases h⟩
 | c::l,b=>by
  have ih:=aac l (if b < c then c else b);rw [mxI];by_cases hb:b < c
  .rw [if_pos hb] at ih ⊢;refine ⟨by omega,fun a ha=>?_⟩;rcases w6.mp ha with rfl | ha
   .exact ih.1
   .exact ih.2 a ha
  .rw [if_neg hb] at ih ⊢;refine ⟨ih.1,fun a ha=>?_⟩;rcases w6.mp ha with rfl | ha
   .omega
   .exact ih.2 a ha
theorem M9:∀ (l:List Int) (b:Int),mxI b l=b\/mxI b l∈l
 | [],b=>.inl rfl
 | c::l,b=>by
  have ih:=M9 l (if b < c then c else b);rw [mxI];by_cases hb:b < c
  .rw [if_pos hb] at ih ⊢;rcases ih with h | h
   .exact .inr (by rw [h];exact vz)
   .exact .inr (vy _ h)
  .rw [if_neg hb] at ih ⊢;rcases ih with h | h
   .exact .inl h
   .exact .inr (vy _ h)
variable {l:List Int}
def Ms (h:l≠[]):mxL l∈l:=by
 cases l with
 | nil=>exact absurd rfl h
 | cons b l =>
  rcases M9 l b with e | e
  .show mxI b l∈b::l
   rw [e];exact vz
  .exact vy _ e
theorem ints_map:∀ l:List Int,intsOf (l.map D.int)=some l
 | []=>rfl
 | i::l=>by rw [List.map_cons,intsOf,ints_map l];rfl
theorem Tj (h:l≠[]):xM (.lst (l.map D.int))=.ok (.int (mxL l)):=by
 show (match intsOf (l.map D.int) with | some (i::is)=>R.ok (D.int (mxI i is)) | _=>.stuck)=_
 rw [ints_map];cases l with
 | nil=>exact absurd rfl h
 | cons b l=>rfl
def Ij (l:List Int):Gw 0 (.lst (l.map D.int))=.ok (.int (mxL l)):=by
 cases l with
 | nil=>rfl
 | cons b l=>exact Tj (by simp)
def abG {k:Int}{j:Nat} (h:l.findIdx? (fun a=>decide (a=k))=some j):PJ (.lst (l.map D.int)) (.int k)=.ok (.int j):=by
 show (match intsOf (l.map D.int) with | some is=>(match is.findIdx? (fun a=>decide (a=k)) with | some j=>R.ok (D.int j) | none=>.stuck) | none=>.stuck)=_
 rw [ints_map];show (match l.findIdx? (fun a=>decide (a=k)) with | some j=>R.ok (D.int j) | none=>.stuck)=_
 rw [h]
theorem yP {α:Type} [DecidableEq α] {P:α->Bool}:∀ {R:List α}{j:Nat},R.findIdx? P=some j->∃ p,R[j]?=some p/\R.find? P=some p/\(R.Nodup->R.eraseIdx j=R.filter fun i=>decide (i≠p))
 | [],j,h=>by simp at h
 | r::R,j,h=>by
  rw [List.findIdx?_cons] at h;by_cases hr:P r=true
  .rw [if_pos hr] at h;cases h;refine ⟨r,rfl,by rw [List.find?_cons_of_pos hr],fun hn=>?_⟩;rw [List.nodup_cons] at hn;show R=_
   rw [List.filter_cons,if_neg (by simp)];refine (List.filter_eq_self.mpr fun i hi=>?_).symm;simp only [decide_eq_true_eq];rintro rfl;exact hn.1 hi
  .rw [if_neg hr] at h;cases e:R.findIdx? P with
   | none=>rw [e] at h;cases h
   | some i =>
    rw [e] at h;cases h;obtain ⟨p,h1,h2,h3⟩:=yP e;refine ⟨p,by simpa using h1,by rw [List.find?_cons_of_neg hr];exact h2,fun hn=>?_⟩;rw [List.nodup_cons] at hn;rw [List.eraseIdx_cons_succ,h3 hn.2,List.filter_cons,if_pos ?_];simp only [decide_eq_true_eq];rintro rfl;exact hn.1 (List.mem_of_getElem? h1)
def c7 (us:zv) (m:Meet):Bool:=!(us.any fun u=>aL u m)
def gA (k:Nat) (A:Meet->Bool) (t:zz):Int:=(((mOf k t).filter A).length:Nat)
abbrev gN (k:Nat) (us:zv) (t:zz):Int:=gA k (c7 us) t
def uO (us:zv) (t:zz) (m:Meet):c7 (us++[t]) m=(c7 us m && !aL t m):=by
 unfold c7;rw [List.any_append,Bool.not_or];simp
def YF (k:Nat) (us:zv) (t x:zz):gN k (us++[t]) x<=gN k us x:=by
 have e:((mOf k x).filter (c7 (us++[t])))=((mOf k x).filter (c7 us)).filter fun m=>!aL t m:=by
  rw [List.filter_filter];exact List.filter_congr fun m _=>by rw [uO,Bool.and_comm]
 have:=yn (fun m=>!aL t m) ((mOf k x).filter (c7 us));unfold gN gA;rw [e];omega
theorem Zy (k:Nat) (us:zv) (t:zz):gN k (us++[t]) t=0:=by
 have e:(mOf k t).filter (c7 (us++[t]))=[]:=by
  rw [List.filter_eq_nil_iff];intro m hm;rw [uO,(aQ.mp hm).2.2];simp
 unfold gN gA;rw [e];rfl
def ab5 (k:Nat) (us:zv) (t:zz):0<=gN k us t:=by unfold gN gA;omega
variable {n:Nat}
def O6 {taken:zz}{p:Nat}:(((List.range n).filter fun i=>!decide (i∈taken)).filter fun i=>decide (i≠p))=(List.range n).filter fun i=>!decide (i∈taken++[p]):=by
 rw [List.filter_filter];refine List.filter_congr fun i _=>?_
 rw [Bool.eq_iff_iff];simp;constructor
 .rintro ⟨a,b⟩;exact ⟨b,a⟩
 .rintro ⟨a,b⟩;exact ⟨b,a⟩
noncomputable def fB (A:Meet->Bool) (m:Meet):Meet->Bool:=fun x=>A x && decide (x≠m)
def Qs {A:Meet->Bool} (t:zz):gA k (fB A m) t=if A m && decide (m∈mOf k t) then gA k A t - 1 else gA k A t:=by
 have key:∀ l:List Meet,l.Nodup->(((l.filter (fB A m)).length:Nat):Int)=if A m && decide (m∈l) then (((l.filter A).length:Nat):Int) - 1 else (((l.filter A).length:Nat):Int):=by
  intro l;induction l with
  | nil=>intro _;simp
  | cons x l ih =>
   intro hn;rw [List.nodup_cons] at hn;have ih:=ih hn.2;by_cases e:x=m
   .subst e;have h0:decide (x∈l)=false:=by simpa using hn.1
    rw [h0,Bool.and_false,if_neg (by decide)] at ih;have h1:(x::l).filter (fB A x)=l.filter (fB A x):=by
     rw [List.filter_cons,if_neg (by simp [fB])]
    rw [h1,ih,List.filter_cons];cases hA:A x
    .simp
    .simp
   .have h1:decide (m∈x::l)=decide (m∈l):=by
     rw [Bool.eq_iff_iff];simp [Ne.symm e]
    have h2:fB A m x=A x:=by simp [fB,e]
    rw [h1,List.filter_cons,List.filter_cons,h2];cases hA:A x
    .simp only [Bool.false_eq_true,if_false];exact ih
    .simp only [if_true,List.length_cons];split at ih <;> rename_i hc
     .rw [if_pos hc];omega
     .rw [if_neg hc];omega
 exact key (mOf k t) (rK k t)
noncomputable def vh (g:List Int) (p:Nat):List Int:=g.set p (g.getD p 0 - 1)
theorem Lg (m:Meet) (h:zz->Int):∀ (ts:zv) (pre:List Int),(plc m pre.length ts).foldl vh (pre++ts.map h)=pre++ts.map (fun t=>if aL t m then h t - 1 else h t)
 | [],pre=>by rw [plc];rfl
 | t::ts,pre=>by
  have ih:=fun x:Int=>Lg m h ts (pre++[x])
  simp only [List.length_append,List.length_singleton,List.append_assoc,List.singleton_append] at ih;rw [plc,List.map_cons,List.map_cons];by_cases e:aL t m=true
  .rw [if_pos e,if_pos e,List.foldl_cons];have:vh (pre++h t::ts.map h) pre.length=pre++(h t - 1)::ts.map h:=by
    unfold vh;rw [List.set_append_right _ _ (Nat.le_refl _)];simp
   rw [this];exact ih _
  .rw [if_neg e,if_neg e];exact ih _
theorem R8 (m:Meet):∀ (ts:zv) (n:Nat),∀ p∈plc m n ts,p < n+ts.length
 | [],n,p,h=>by cases h
 | t::ts,n,p,h=>by
  rw [plc] at h;have ih:=R8 m ts (n+1);rw [List.length_cons];split at h
  .rcases w6.mp h with rfl | h
   .omega
   .have:=ih p h;omega
  .have:=ih p h;omega
def Wa (g:List Int) (p:Nat):(vh g p).length=g.length:=by unfold vh;rw [List.length_set]
def M7 (h:i < n):ixN n (i:Int)=some i:=by
 unfold ixN;rw [if_pos (by omega),if_pos (by omega)];simp
variable {g:List Int}
def ac1 (h:i < g.length):ixD (.lst (g.map D.int)) (.int (i:Int))=.ok (.int (g.getD i 0)):=by
 show (match ixN (g.map D.int).length (i:Int) with | some k=>(match (g.map D.int)[k]? with | some d=>R.ok d | none=>.stuck) | none=>.stuck)=_
 rw [List.length_map,M7 h];show (match (g.map D.int)[i]? with | some d=>R.ok d | none=>.stuck)=_
 rw [List.getElem?_map,List.getElem?_eq_getElem h];simp [h]
def abm {v:Int} (h:i < g.length):tY (.lst (g.map D.int)) (.int (i:Int)) (.int v)=.ok (.lst ((g.set i v).map D.int)):=by
 show (match ixN (g.map D.int).length (i:Int) with | some j=>(if lfD (.int v)=true then R.ok (D.lst ((g.map D.int).set j (.int v))) else .stuck) | none=>.stuck)=_
 rw [List.length_map,M7 h];show (if lfD (.int v)=true then R.ok (D.lst ((g.map D.int).set i (.int v))) else .stuck)=_
 rw [if_pos (show lfD (.int v)=true from rfl),List.map_set]
theorem XR {f:Meet->List D} (hn:ks.Nodup) (m:Meet):GR (eGr eM ks f) (eM m)=.ok (.lst (if m∈ks then f m else []),eGr eM (ks.filter fun x=>decide (x≠m)) f):=by
 show (if kOk (ks.map eM) (eM m)=true/\(ks.map eM).length=(ks.map fun a=>D.lst (f a)).length then (match (ks.map eM).findIdx? (fun c=>decide (c=eM m)) with
   | some j=>(match (ks.map fun a=>D.lst (f a))[j]? with | some v=>R.ok (v,D.dct ((ks.map eM).eraseIdx j) ((ks.map fun a=>D.lst (f a)).eraseIdx j)) | none=>.stuck)
   | none=>R.ok (D.lst [],D.dct (ks.map eM) (ks.map fun a=>D.lst (f a)))) else .stuck)=_
 rw [if_pos ⟨Gz ks m,by simp⟩];have e:(ks.map eM).findIdx? (fun c=>decide (c=eM m))=ks.findIdx? (fun x=>decide (x=m)):=by
  rw [List.findIdx?_map];congr 1;funext x;show decide (eM x=eM m)=decide (x=m)
  rw [Bool.eq_iff_iff];simp only [decide_eq_true_eq];exact ⟨j7.inj _ _,fun h=>by rw [h]⟩
 rw [e];cases hj:ks.findIdx? (fun x=>decide (x=m)) with
 | none =>
  have hno:m ∉ ks:=fun h=>by
   have:=List.findIdx?_eq_none_iff.mp hj m h;simp at this
  rw [if_neg hno];have ef:ks.filter (fun x=>decide (x≠m))=ks:=List.filter_eq_self.mpr fun x hx=>by
   simp only [decide_eq_true_eq];rintro rfl;exact hno hx
  rw [ef];rfl
 | some j =>
  obtain ⟨p,h1,h2,h3⟩:=yP hj;have ep:p=m:=by have:=List.find?_some h2;simpa using this
  subst ep;rw [if_pos (List.mem_of_getElem? h1)];show (match (ks.map fun a=>D.lst (f a))[j]? with | some v=>R.ok (v,D.dct ((ks.map eM).eraseIdx j) ((ks.map fun a=>D.lst (f a)).eraseIdx j)) | none=>.stuck)=_
  rw [List.getElem?_map,h1];show R.ok (D.lst (f p),D.dct ((ks.map eM).eraseIdx j) ((ks.map fun a=>D.lst (f a)).eraseIdx j))=_
  rw [je,je,h3 hn];rfl
theorem zS (a b:D):bQ .notin a b=(inD a b >>= fun r=>R.ok (!r)):=rfl
theorem qR (d:D):fM .maxl [d]=xM d:=rfl
theorem qF (ks vs:List D):fM .list [.dct ks vs]=.ok (.lst ks):=rfl
theorem zT (a b:D):Dq (.tup [a,b])=.ok (a,b):=rfl
end Mi
set_option maxHeartbeats 1000000
namespace L2
open PySem PySem.Spec PyProof.Rows
noncomputable def drop (H:Hp) (c:Addr):Hp:=fun b=>if b=c then none else H b
variable {H:Hp}{c:Addr}
theorem jc :drop H c c=none:=if_pos rfl
theorem cF {b:Addr} (h:b≠c):drop H c b=H b:=if_neg h
noncomputable abbrev cA:HO:=.ext fun _=>True
section
variable {P:Program}{w:World}{H H1:Hp}{h h1:Heap}{c:Addr}{o:Obj}{u:HO}{fs:List Addr}
theorem xP (e:h.get? c=some o):cD P w H h c (.frz o cA):=⟨e,trivial,⟨o,e⟩,fun _ _ _ _=>trivial⟩
theorem HOk.lend (ok:HOk P w H h) (hn:H c=none) (e:h.get? c=some o):HOk P w (upd H c (.frz o cA)) h:=fun b u q=>by
 by_cases hb:b=c
 .subst hb;rw [aB] at q;cases q;exact xP e
 .rw [ao hb] at q;exact (ok b u q).stay (fun _ _ _ z=>z) (fun d z=>by rw [ao (ak z hn)];exact z) (fun d xs z=>by rw [ao (ak z hn)];exact z) (fun d _ z _=>by rw [ao (ak z hn)];exact z)
theorem HOk.drop (ok:HOk P w H h) (hf:H c=some (.frz o u)) (hl:¬ lamO o):HOk P w (drop H c) h:=fun b v q=>by
 have hb:b≠c:=fun z=>by subst z;rw [jc] at q;cases q
 rw [cF hb] at q;have ne:∀ d y,H d=some y->y≠.frz o u->d≠c:=fun d y z n y'=>by subst y';rw [hf] at z;cases z;exact n rfl
 exact (ok b v q).stay (fun _ _ _ z=>z) (fun d z=>by rw [cF (ne d _ z fun y=>nomatch y)];exact z) (fun d xs z=>by rw [cF (ne d _ z fun y=>nomatch y)];exact z) (fun d od z g=>by
  rw [cF (ne d _ z fun y=>by cases y;exact hl g)];exact z)
def Y4 (hn:H c=none) (e:h.get? c=some o) (hl:¬ lamO o) (hfs:c ∉ fs) (x:Un fs [] (upd H c (.frz o cA)) H1 h h1) (ok:HOk P w H1 h1):Un fs [] H (drop H1 c) h h1/\HOk P w (drop H1 c) h1:=by
 have f1:H1 c=some (.frz o cA):=x.frzs c o cA aB;have e1:h1.get? c=some o:=(ok c _ f1).1;have st:∀ b u,H b=some u->b≠c:=fun b u q z=>by subst z;rw [hn] at q;cases q
 refine ⟨⟨fun b ob q n hb hx=>?_,fun b ob q n hb hx=>?_,fun b ob q n hx=>?_,fun b ob q hx=>x.there b ob q hx,fun b xs q=>?_,fun b ob xs q=>?_,fun b ps q=>?_⟩,ok.drop f1 hl⟩
 .by_cases hbc:b=c
  .subst hbc;rw [e] at q;cases q;exact e1
  .exact x.keep b ob q (by rw [ao hbc];exact n) hb hx
 .have hbc:b≠c:=fun z=>hfs (z ▸ hb)
  exact x.slot b ob q (by rw [ao hbc];exact n) hb hx
 .by_cases hbc:b=c
  .subst hbc;exact jc
  .rw [cF hbc];exact x.free b ob q (by rw [ao hbc];exact n) hx
 .rw [cF (st b _ q)];exact x.tups b xs (by rw [ao (st b _ q)];exact q)
 .rw [cF (st b _ q)];exact x.frzs b ob xs (by rw [ao (st b _ q)];exact q)
 .rw [cF (st b _ q)];exact x.tbls b ps (by rw [ao (st b _ q)];exact q)
def Vw (hf:H c=some (.frz o cA)) (e:h.get? c=some o) (hfs:c ∉ fs) (x:Un fs [] (drop H c) H1 h h1) (ok:HOk P w H1 h1):Un fs [] H (upd H1 c (.frz o cA)) h h1/\HOk P w (upd H1 c (.frz o cA)) h1:=by
 have n1:H1 c=none:=x.free c o e jc (by simp);have e1:h1.get? c=some o:=x.keep c o e jc hfs (by simp);refine ⟨⟨fun b ob q n hb hx=>?_,fun b ob q n hb hx=>?_,fun b ob q n hx=>?_,fun b ob q hx=>x.there b ob q hx,fun b xs q=>?_,fun b ob xs q=>?_,fun b ps q=>?_⟩,ok.lend n1 e1⟩
 .have hbc:b≠c:=fun z=>by subst z;rw [hf] at n;cases n
  exact x.keep b ob q (by rw [cF hbc];exact n) hb hx
 .have hbc:b≠c:=fun z=>hfs (z ▸ hb)
  exact x.slot b ob q (by rw [cF hbc];exact n) hb hx
 .have hbc:b≠c:=fun z=>by subst z;rw [hf] at n;cases n
  rw [ao hbc];exact x.free b ob q (by rw [cF hbc];exact n) hx
 .have hbc:b≠c:=fun z=>by subst z;rw [hf] at q;cases q
  rw [ao hbc];exact x.tups b xs (by rw [cF hbc];exact q)
 .by_cases hbc:b=c
  .subst hbc;rw [aB];rw [hf] at q;exact q
  .rw [ao hbc];exact x.frzs b ob xs (by rw [cF hbc];exact q)
 .have hbc:b≠c:=fun z=>by subst z;rw [hf] at q;cases q
  obtain ⟨m,z⟩:=x.tbls b ps (by rw [cF hbc];exact q);exact ⟨m,by rw [ao hbc];exact z⟩
end
variable {p:Pos}
def Ga {p0:Pos}{c v:Value}{l:zw} (h:TriplesOk l) (e:codeAmong p0 (l++[rawInt p.line,rawInt p.col,c])=some v):codeAmong p0 l=some v\/v=c:=by
 fun_induction TriplesOk l with
 | case1 =>
  right;simp only [List.nil_append,rawInt,codeAmong] at e;split at e
  .cases e;rfl
  .cases e
 | case2 a t b u x rest ih =>
  simp only [List.cons_append,codeAmong] at e ⊢;split at e
  .rename_i hc;rw [if_pos hc];exact .inl e
  .rename_i hc;rw [if_neg hc];exact ih h e
 | case3=>exact h.elim
variable {Pt cc:Addr}{q:vj}{params:Arguments}{body:Expr}{scope:Scope}{pos:Pos}
section
variable {X:Cx}{pins:w4}{σ:St}{H H':Hp}{s:Shared}
theorem Inv.grew {h2:Heap}{tk:Nat} (I:Inv X pins σ H s) (hP:H Pt=some (.tbl q)) (hx:Heap.ExtBut Pt s.heap h2) (mono:∀ b o,H b=some o->H' b=some o) (new:∀ b,H' b≠none->H b=none->s.heap.objs.size<=b) (ok:HOk X.prog X.w H' h2) :
  Inv X pins σ H' { s with heap:=h2,toks:=tk }:=by
 have neP:∀ b,H b=none->b≠Pt:=fun b n z=>by subst z;rw [n] at hP;cases hP
 refine I.step (g':=s.gens) (d':=s.drawn) (ch:=[]) (fun _ z=>nomatch z) (fun b o _ _ _ e n=>hx b o (neP b n) e) (fun b o _ _ _ e n=>⟨o.slots,hx b o (neP b n) e⟩) (fun b o _ e n=>?_) (fun b o _ e=>?_) (fun b xs e=>mono _ _ e) (fun b o u e=>mono _ _ e) (fun b ps e=>⟨#[],by rw [mono _ _ e];simp⟩) (fun m hm=>hm.extBut hx (neP _ I.free)) ok I.bare
 .cases z:H' b with
  | none=>rfl
  | some u=>exact absurd (yf (v3 e) (new b (by rw [z];simp) n)) (yv _)
 .by_cases hb:b=Pt
  .subst hb;obtain ⟨ps,e2,_⟩:=ok b _ (mono _ _ hP);exact ⟨_,e2⟩
  .exact ⟨o,hx b o hb e⟩
def VL {E:zn}{Q:zn}{clos:List (Str × Addr)}
  (I:Inv X pins σ H s) (hcl:closureFor scope X.env=pure clos) (hcode:X.env.code=.ref cc) (C:PySem.W.CodeHd s.heap cc Pt) (hP:H Pt=some (.tbl q)) (hdef:defaultsOf params X.env=([],[])) (hqn:X.env.qual ++ "<lambda>"=eG)
  (h:∀ f c' oc pm ctv h' tk H',Inv X pins σ H' { s with heap:=h',toks:=tk } -> (∀ b o,H b=some o -> H' b=some o) -> (∀ b,H' b ≠ none -> H b=none -> s.heap.objs.size <= b) -> H f=none -> H' f=some (.frz (PySem.W.kla_obj "<lambda>" eG params body scope clos pm c' ctv) cA) ->
   H' c'=some (.frz oc cA)->lamO oc->(∀ b o,b≠Pt->s.heap.get? b=some o->h'.get? b=some o)->Q (.ref f) { s with heap:=h',toks:=tk }) :
  wpAny (model X.prog X.w) X.A (eval (.Lambda params body scope pos) X.env) Q E s:=by
 obtain ⟨ps,hPs,tr,good⟩:=I.hok Pt _ hP;obtain ⟨bm,ob,b1,b2,b3,b4,b5,b6,b7⟩:=I.mod.bm;have hg:s.heap.Ns mainGlobals X.mg:=I.mod.glob.keeps I.bk;have hgP:mainGlobals≠Pt:=fun z=>by
  obtain ⟨o,es,ep,e,_⟩:=I.mod.glob;have:=(I.bs _ _ e).2;rw [z,hP] at this;cases this
 have hbP:bm≠Pt:=fun z=>by
  have:=(I.bs _ _ b4).2;rw [z,hP] at this;cases this
 have hB:s.heap.BuiltinsAt X.mg Pt:=⟨bm,ob,b1,b2,b3,hbP,I.bk _ _ b4,b5,b6,b7⟩;refine PySem.W.kla_eval hdef ?_;rw [hqn];cases hca:codeAmong pos ps.toList with
 | none =>
  refine PySem.W.kla_makeFunction (mg:=X.mg) (ps:=ps) hcl I.ok.glob hg hcode C hPs tr hca hgP hB fun c' ctv h' tk hx hge hlt hrec htb=>?_
  obtain ⟨c₂,oc,vs,t,e2,hoc,hd,hv⟩:=hrec;cases e2;have nc:H c'=none:=I.hok.fresh hge;have szle:s.heap.objs.size<=h'.objs.size:=yb hge (Nat.le_of_lt hlt);have nf:H h'.objs.size=none:=I.hok.fresh szle;have hfc:h'.objs.size≠c':=ya hlt;have hx2:Heap.ExtBut Pt s.heap (h'.push (PySem.W.kla_obj "<lambda>" eG params body scope clos ((X.mg "__name__").getD .none) c' ctv)):=fun b o hb e=>vS _ (hx b o hb e)
  have mono:∀ b o,H b=some o -> upd (upd H c' (.frz oc cA)) h'.objs.size (.frz (PySem.W.kla_obj "<lambda>" eG params body scope clos ((X.mg "__name__").getD .none) c' ctv) cA) b=some o:=fun b o e=>by
   rw [ao (ak e nf),ao (ak e nc)];exact e
  have newb:∀ b,upd (upd H c' (.frz oc cA)) h'.objs.size (.frz (PySem.W.kla_obj "<lambda>" eG params body scope clos ((X.mg "__name__").getD .none) c' ctv) cA) b ≠ none -> H b=none -> s.heap.objs.size <= b:=fun b n1 n2=>by
   by_cases z:b=h'.objs.size
   .rw [z];exact szle
   .rw [ao z] at n1;by_cases z2:b=c'
    .rw [z2];exact hge
    .rw [ao z2] at n1;exact absurd n2 n1
  have cH:upd (upd H c' (.frz oc cA)) h'.objs.size (.frz (PySem.W.kla_obj "<lambda>" eG params body scope clos ((X.mg "__name__").getD .none) c' ctv) cA) c'=some (.frz oc cA):=by rw [ao (Ne.symm hfc),aB]
  have okk:HOk X.prog X.w (upd (upd H c' (.frz oc cA)) h'.objs.size (.frz (PySem.W.kla_obj "<lambda>" eG params body scope clos ((X.mg "__name__").getD .none) c' ctv) cA)) (h'.push (PySem.W.kla_obj "<lambda>" eG params body scope clos ((X.mg "__name__").getD .none) c' ctv)):=fun b u e=>by
   by_cases z:b=h'.objs.size
   .subst z;rw [aB] at e;cases e;exact xP (vT _ rfl)
   .by_cases z2:b=c'
    .subst z2;rw [cH] at e;cases e;exact xP (vS _ hoc)
    .have e':=e;rw [ao z,ao z2] at e';by_cases z3:b=Pt
     .subst z3;rw [hP] at e';cases e';refine ⟨_,vS _ htb,?_,fun p0 v hv0=>?_⟩
      .rw [Array.toList_append];exact TriplesOk_snoc _ _ _ _ tr
      .rw [Array.toList_append] at hv0;rcases Ga tr hv0 with q1 | q1
       .obtain ⟨d,od,e1,g1,g2⟩:=good p0 v q1;exact ⟨d,od,e1,mono _ _ g1,g2⟩
       .exact ⟨c',oc,q1,cH,vs,t,hd,hv⟩
     .refine (I.hok b u e').stay (fun b2 o2 hb2 q2=>hx2 b2 o2 ?_ q2) (fun d z=>mono _ _ z) (fun d xs z=>mono _ _ z) (fun d od z _=>mono _ _ z);rcases hb2 with rfl | hb2
      .exact z3
      .rintro rfl;rw [hP] at hb2;cases hb2
  exact h h'.objs.size c' oc _ ctv _ tk _ (I.grew hP hx2 mono newb okk) mono newb nf aB cH ⟨vs,t,hd,hv⟩ (fun b o hb e=>hx2 b o hb e)
 | some v =>
  obtain ⟨c',oc,rfl,g1,g2⟩:=good pos v hca;refine PySem.W.kla_makeFunctionHit (mg:=X.mg) (ps:=ps) hcl I.ok.glob hg hcode C hPs tr hca hB fun ctv h' tk hk hsz=>?_
  have nf:H h'.objs.size=none:=I.hok.fresh hsz;have hk2:∀ b o,s.heap.get? b=some o -> (h'.push (PySem.W.kla_obj "<lambda>" eG params body scope clos ((X.mg "__name__").getD .none) c' ctv)).get? b=some o:=fun b o e=>vS _ (hk b o e)
  have mono:∀ b o,H b=some o -> upd H h'.objs.size (.frz (PySem.W.kla_obj "<lambda>" eG params body scope clos ((X.mg "__name__").getD .none) c' ctv) cA) b=some o:=fun b o e=>by rw [ao (ak e nf)]; exact e
  have newb:∀ b,upd H h'.objs.size (.frz (PySem.W.kla_obj "<lambda>" eG params body scope clos ((X.mg "__name__").getD .none) c' ctv) cA) b ≠ none -> H b=none -> s.heap.objs.size <= b:=fun b n1 n2=>by
   by_cases z:b=h'.objs.size
   .rw [z];exact hsz
   .rw [ao z] at n1;exact absurd n2 n1
  exact h h'.objs.size c' oc _ ctv _ tk _ (I.laid hk2 hsz (xP (vT _ rfl))) mono newb nf aB (mono _ _ g1) g2 (fun b o _ e=>hk2 b o e)
end
structure LamScope (scope:Scope) (xb xt:Str):Prop where
 kind:scope.kind=.function
 co:scope.isCoroutine=false
 gen:scope.isGenerator=false
 nocell:∀ x∈scope.names,x.2≠.cell
 par:scope.names.lookup xt=some .local
 cap:scope.names.lookup xb=some .free
 only:∀ y,scope.names.lookup y=some .free->y=xb
 ne:xb≠xt
def rE (P:Program) (w:World) (K:zt) (mg:w8) (base:Heap) (xb xt:Str) (scope:Scope) (f c:Addr) (cdv:Value) (A:Around) (outer:List Env) (s:Shared) (H:Hp):Cx where
 prog:=P
 w:=w
 K:=K
 mg:=mg
 base:=base
 A:=A.deeper (PySem.W.envX eG scope s.heap.objs.size f cdv [(xb,c)])
 N:=[xb,xt]
 s₀:=s
 H₀:=drop H c
 env:=PySem.W.envX eG scope s.heap.objs.size f cdv [(xb,c)]
 outer:=outer
 stack:=PySem.W.envX eG scope s.heap.objs.size f cdv [(xb,c)]::outer
 ex:=[]
 calm:=true
 fn:=fun _=>false
 pn:=[]
 xe:=fun _ _=>False
variable {Q:VK}
section
variable {P:Program}{w:World}{K:zt}{mg:w8}{base:Heap}{A:Around}{outer:List Env}{s:Shared}{H:Hp}{f c c':Addr}{params:Arguments}{body:Expr}{scope:Scope}{pm ctv:Value}{oc ocell:Obj}{xb xt:Str}{ub u:Value}{vb vt:V}
def X3 {E:XK}{t:TE} (e0:Env0 P w K mg base A outer s H) (hdp:A.depth < recursionLimit) (hh:A.handled=none) (L:LamScope scope xb xt) (hf:H f=some (.frz (PySem.W.kla_obj "<lambda>" eG params body scope [(xb,c)] pm c' ctv) cA)) (hc':H c'=some (.frz oc cA)) (hlo:lamO oc)
  (hc:H c=some (.frz ocell cA)) (hcell:ocell.data=.cell (some ub)) (hbind:bindArgs (PySem.W.kla_fn "<lambda>" eG params body scope [(xb,c)] pm (.ref c') ctv) ⟨[u],[]⟩=pure [(xt,u)]) (rb:RelV vb ub) (rt:RelV vt u)
  (hbody:PE (rE P w K mg base xb xt scope f c (.ref c') A outer s H) body t) (ht:t [some vb,some vt] (drop H c) fun v H1=>H1 c=none->Q v (upd H1 c (.frz ocell cA))) :
  codeAny (model P w) A (.call (.ref f) ⟨[u],[]⟩) (CR CX0 outer P w H s Q E) s:=by
 have ef:=(e0.hok f _ hf).1;have ec':=(e0.hok c' _ hc').1;have ec:=(e0.hok c _ hc).1;have hnl:¬ lamO ocell:=fun ⟨vs,t,z,_⟩=>by rw [hcell] at z;cases z
 have cfr:c ∉ frs outer:=fun z=>by rw [e0.frf c z] at hc;cases hc
 have hcd:s.heap.CodeRec (.ref c') eG:=by
  obtain ⟨vs,t,h1,h2⟩:=hlo;exact ⟨c',oc,vs,t,rfl,ec',h1,h2⟩
 have lim:s.heap.NoLimit:=e0.mod.nolimit.keeps fun b o e=>(e0.bs b o e).1
 refine PySem.W.kla_callFunE hdp ef rfl L.co L.gen rfl hcd ?_;rw [hbind];refine vx (wpAny_newFunctionEnv L.nocell (fun y hy=>by cases yz.mp hy;exact L.par) (fun h₁ hns hsb=>⟨lim.fresh _ hsb,?_⟩) L.kind);show codeAny _ _ (.expr body (PySem.W.envX eG scope s.heap.objs.size f (.ref c') [(xb,c)])) _ _
 have hk₁:∀ b o,s.heap.get? b=some o->h₁.get? b=some o:=fun b o e=>hsb.extBut b o (v6 (v3 e)) (vS _ e)
 have I:Inv (rE P w K mg base xb xt scope f c (.ref c') A outer s H) [] [some vb,some vt] (drop H c) { s with heap:=h₁,toks:=s.toks+1 }:=by
  have noA:∀ b:Addr,b ∉ (rE P w K mg base xb xt scope f c (.ref c') A outer s H).ex:=fun b z=>absurd (show b∈([]:List Addr) from z) (by simp)
  have look:∀ y d,(rE P w K mg base xb xt scope f c (.ref c') A outer s H).env.cells.lookup y=some d->y=xb/\d=c:=fun y d h=>by
   have h':(match y == xb with | true=>some c | false=>none)=some d:=h;split at h'
   .rename_i e;cases h';exact ⟨beq_iff_eq.mp e,rfl⟩
   .cases h'
  have lookc:(rE P w K mg base xb xt scope f c (.ref c') A outer s H).env.cells.lookup xb=some c:=by
   show (match xb == xb with | true=>some c | false=>none)=some c
   rw [beq_self_eq_true]
  have dn:∀ b,H b=none->drop H c b=none:=fun b n=>by
   by_cases z:b=c
   .rw [z];exact jc
   .rw [cF z];exact n
  refine ⟨⟨e0.mod,L.kind,rfl,rfl,v4 _,fun y z d h1 h2=>(look y d h1).1.trans (look z d h2).1.symm,fun y hy=>?_,fun y d z _=>(by cases z),fun _=>hh,Around.frames_deeper e0.frames,.inr ⟨rfl,rfl⟩,fun b z=>absurd z (noA b),fun b o e=>⟨(e0.bs b o e).1,dn b (e0.bs b o e).2⟩,e0.bsz,fun b _ _=>noA b,fun b z=>absurd z (noA b),e0.funs,fun b hb=>dn b (e0.frf b hb),?_⟩,
   rfl,e0.bare,Un.kept hk₁,⟨_,hns,fun i y v h1 h2 h3=>?_⟩,fun y d h=>?_,(e0.hok.drop hc hnl).fresh (v4 _),fun y d h=>?_,fun p hp=>absurd (show p∈([]:w4) from hp) (by simp),(e0.hok.drop hc hnl).kept hk₁,rfl⟩
  .have hy:scope.names.lookup y=some .cell\/scope.names.lookup y=some .free:=hy;rcases hy with hy | hy
   .exact absurd rfl (L.nocell _ (jp hy))
   .exact ⟨c,by rw [L.only y hy];exact lookc⟩
  .intro a o fd d oc2 vs p e1 e2 e3 e4 e5 e6 e7;obtain ⟨q,e⟩:=e0.tab a o fd d oc2 vs p e1 e2 e3 e4 e5 e6 e7;refine ⟨q,?_⟩;show drop H c p=_
   rw [cF (fun z=>by rw [z,hc] at e;cases e)];exact e
  .match i,h1,h2 with
   | 0,h1,h2 =>
    cases h1;cases h2;exact ⟨ub,rb,.inr ⟨.inr L.cap,c,lookc,ocell,hk₁ _ _ ec,hcell⟩⟩
   | 1,h1,h2 =>
    cases h1;cases h2;refine ⟨u,rt,.inl ⟨L.par,?_⟩⟩;show (match xt == xt with | true=>some u | false=>none)=some u
    rw [beq_self_eq_true]
   | i+2,h1,h2=>cases h1
  .obtain ⟨_,rfl⟩:=look y d h;exact ⟨some ub,ocell,hk₁ _ _ ec,hcell⟩
  .obtain ⟨_,rfl⟩:=look y d h;exact jc
 refine PySem.W.kla_codeExpr (wpAny_mono (hbody [] _ _ _ _ I ht) (fun v s' hq=>?_) fun _ _ z=>jd z);obtain ⟨v',H1,J,rv,q⟩:=hq;obtain ⟨un,ok⟩:=Vw hc ec cfr J.base J.hok;exact ⟨v',_,J.os,J.bare,un,ok,rv,q (J.base.free c ocell ec jc (show c ∉ ([]:List Addr) by simp))⟩
end
structure RunAt (P:Program) (w:World) (K:zt) (mg:w8) (base:Heap) (A:Around) (outer:List Env) (f:Addr) (fd:FuncData) (ps:z0) (sp:Sp):Prop where
 len:∀ vs H Q E,sp vs H Q E->vs.length=ps.length
 run:∀ (s:Shared) (H:Hp) (args:Args) (us:zw) (vs:List V) (Q:VK) (E:XK),Env0 P w K mg base A outer s H->BindsTo s fd args (ps.zip us)->Vals vs us->sp vs H Q E->codeAny (model P w) A (.call (.ref f) args) (CR CX0 outer P w H s Q E) s
def Qf {P:Program}{w:World}{K:zt}{mg:w8}{base:Heap}{A:Around}{outer:List Env}{f:Addr}{name qual:Str}{body:vi}{dV kV doc pm cdv ct oc:Value}{an od:vk}
  {osl:vn}{N ps:z0}{sp:Sp} (lk:K.lookup f=some ⟨oc,od,.func (PySem.W.fnOf name qual params body scope dV kV doc pm an cdv ct),osl⟩) (hcd:PySem.W.codeIn K cdv qual=true) (S:FnScope N ps scope) (hdp:A.depth < recursionLimit) (hh:A.handled=none)
  (len:∀ vs H Q E,sp vs H Q E->vs.length=ps.length)
  (hbody:∀ (s:Shared) (H:Hp) (vs:List V) (Q:VK) (E:XK),sp vs H Q E ->
   ∃ t,PSs (iH CX0 P w K mg base N qual scope f cdv A outer s H E) body t/\t { nx:=fun _ H'=>Q .non H',rt:=Q } (start N vs) H) :
  RunAt P w K mg base A outer f (PySem.W.fnOf name qual params body scope dV kV doc pm an cdv ct) ps sp:=by
 refine ⟨len,fun s H args us vs Q E e0 hb r hsp=>?_⟩;have hl:=len _ _ _ _ hsp;have KX:K.In s.heap:=e0.mod.kin.keeps fun b o e=>(e0.bs b o e).1
 have lim:s.heap.NoLimit:=e0.mod.nolimit.keeps fun b o e=>(e0.bs b o e).1
 have hkind:∀ y∈ps.zip us,scope.names.lookup y.1=some .local\/(scope.names.lookup y.1=some .cell/\((cellsFrom (s.heap.objs.size+1) scope.names []).lookup y.1).isSome=true):=fun ⟨n,v⟩ hy=>by
  rcases S.par n (List.of_mem_zip hy).1 with q | q
  .exact .inl q
  .exact .inr ⟨q,PySem.W.cellsFrom_some _ _ _ (.inl q)⟩
 refine codeAny_call_function hdp (KX _ _ lk) rfl S.co S.gen rfl (PySem.W.codeRec_of KX hcd) (hb _ _ _ _ ?_);refine wpAny_newFunctionEnv_cells S.kind hkind fun env he s1 x=>?_
 subst he;refine ⟨lim.keeps x.toInCall.keep,codeAny_func ?_⟩;obtain ⟨t,ht,hq⟩:=hbody s H vs Q E hsp;have I:Inv (iH CX0 P w K mg base N qual scope f cdv A outer s H E) [] (start N vs) H s1:=Ew S hh e0 hl r x;refine wpAny_mono (ht [] s1 (start N vs) H _ I hq) (fun fl s' hs=>?_) fun e s' hs=>hs
 have fin:∀ {σ':St}{H':Hp}{v:V}{u:Value},Inv (iH CX0 P w K mg base N qual scope f cdv A outer s H E) [] σ' H' s'->RelV v u->Q v H'->CE outer P w H s Q u s' :=
  fun {σ' H' v u} J rv q=>⟨v,H',J.os,J.bare,J.base,J.hok,rv,q⟩
 cases fl with
 | ret u =>
  obtain ⟨v,σ',H',J,rv,q⟩:=hs;exact fin J rv q
 | next =>
  obtain ⟨σ',H',J,q⟩:=hs;exact fin (v:=V.non) (u:=Value.none) J rfl q
 | brk =>
  obtain ⟨_,_,_,q⟩:=hs;exact jd q
 | cont =>
  obtain ⟨_,_,_,q⟩:=hs;exact jd q
section
variable {X:Cx}{pins:w4}{σ:St}{H:Hp}{s:Shared}{k:Nat}{fa c:Addr}{fd:FuncData}{ps:z0}{sp:Sp}{xb:Str}{ocell:Obj}{ub:Value}
def Ul {vs:List V}{us:zw} (F:RunAt X.prog X.w X.K X.mg X.base X.A X.stack fa fd ps sp) (hb:Binds X.K fd ps []) (I:Inv X pins σ H s) (hcl:X.env.cells.lookup xb=some c) (hfn:X.fn xb=true)
  (ec:s.heap.get? c=some ocell) (hcell:ocell.data=.cell (some ub)) (r:Vals vs us) (h:sp vs (upd H c (.frz ocell cA)) (fun v H1=>Q v (drop H1 c)) E0):wpAny (model X.prog X.w) X.A (call (.ref fa) us) (EP X pins σ Q) X.xe s:=by
 have hn:H c=none:=I.freeC xb c hcl;have hnl:¬ lamO ocell:=fun ⟨vs,t,z,_⟩=>by rw [hcell] at z;cases z
 have c0:X.s₀.heap.objs.size<=c:=I.ok.cab xb c hfn hcl;have old:∀ b o,X.s₀.heap.get? b=some o->b≠c:=fun b o e z=>absurd (yf (v3 e) (z ▸ c0)) (yv _)
 have cfr:c ∉ frs X.stack:=fun z=>by
  rcases w6.mp (I.stkSub c z) with e | e
  .exact I.cne xb c hcl e
  .obtain ⟨_,o,ho,_⟩:=I.ok.funs.mem e;exact old c o ho rfl
 have e0:=I.env0;have e1:Env0 X.prog X.w X.K X.mg X.base X.A X.stack s (upd H c (.frz ocell cA)):=⟨e0.frames,e0.mod,fun b o e=>⟨(e0.bs b o e).1,by rw [ao (old b o (I.ok.bs b o e).1)];exact (e0.bs b o e).2⟩,e0.bsz,e0.funs,fun b hb=>by rw [ao (fun z:b=c=>cfr (by rw [<- z];exact hb))];exact e0.frf b hb,e0.hok.lend hn ec,e0.bare,fun a o fd d oc vs p e1 e2 e3 e4 e5 e6 e7=>by
  obtain ⟨q,e⟩:=e0.tab a o fd d oc vs p e1 e2 e3 e4 e5 e6 e7;exact ⟨q,by rw [ao (ak e hn)];exact e⟩⟩
 have hl:(us++[]).length=ps.length:=by rw [List.append_nil,<- r.length];exact F.len _ _ _ _ h
 have hb':=hb s us I.kIn hl;rw [List.append_nil] at hb';refine wpAny_call (codeAny_mono (F.run s _ ⟨us,[]⟩ us vs _ E0 e1 hb' r h) fun r s' hq=>?_);cases r with
 | error e=>exact jd hq
 | ok fl =>
  cases fl with
  | ret u =>
   obtain ⟨v,H',os,bare,un,ok,rv,q⟩:=hq;obtain ⟨un2,ok2⟩:=Y4 hn ec hnl cfr un ok;exact I.after ⟨v,drop H' c,os,bare,un2,ok2,rv,q⟩
  | next=>exact jd hq
  | brk=>exact jd hq
  | cont=>exact jd hq
def acV (X:Cx) (xb:Str) (params:Arguments) (body:Expr) (scope:Scope):TE:=fun σ H Q=>∀ f c' oc pm ctv c H',X.env.cells.lookup xb=some c -> (∀ b o,H b=some o -> H' b=some o) -> H f=none -> H c=none -> H' c=none -> H' f=some (.frz (PySem.W.kla_obj "<lambda>" eG params body scope [(xb,c)] pm c' ctv) cA) ->
 H' c'=some (.frz oc cA)->lamO oc->Q (.ref f) H'
def aax (hsc:X.env.scope.names.lookup xb=some .cell) (hclo:∀ c,X.env.cells.lookup xb=some c->closureFor scope X.env=pure [(xb,c)]) (hcode:X.env.code=.ref cc)
  (C:∀ h:Heap,X.K.In h -> PySem.W.CodeHd h cc Pt) (hPt:∀ H,pO X.K X.mg H -> ∃ q,H Pt=some (.tbl q)) (hdef:defaultsOf params X.env=([],[])) (hqn:X.env.qual ++ "<lambda>"=eG) :
  PE X (.Lambda params body scope pos) (acV X xb params body scope):=by
 intro pins s σ H Q I h;obtain ⟨c,hc⟩:=I.ok.has xb (.inl hsc);obtain ⟨q,hP⟩:=hPt H I.env0.tab;have hn:H c=none:=I.freeC xb c hc;refine VL I (hclo c hc) hcode (C _ I.kIn) hP hdef hqn fun f c' oc pm ctv h' tk H' J mono newb nf hf hc' hlo _=>?_
 exact ⟨.ref f,H',J,rfl,h f c' oc pm ctv c H' hc mono nf hn (J.freeC xb c hc) hf hc' hlo⟩
def Xv {lpos p2:Pos}{xc y:Str}{i0 i1:Nat} (F:RunAt X.prog X.w X.K X.mg X.base X.A X.stack fa fd ps sp) (hb:Binds X.K fd ps []) (hg:Gl X xc) (hm:X.mg xc=some (.ref fa)) (hk:PySem.W.keepIn X.K (.ref fa)=true)
  (h0:X.N[i0]?=some xb) (hsc:X.env.scope.names.lookup xb=some .cell) (hfn:X.fn xb=true) (h1:X.N[i1]?=some y) (hv1:Vis X.env.scope y) (hd1:(y == ("__debug__":Str))=false) (hd2:(y == ("__classdict__":Str))=false) (hdb:(xc == ("__debug__":Str))=false)
  (hclo:∀ c,X.env.cells.lookup xb=some c -> closureFor scope X.env=pure [(xb,c)]) (hcode:X.env.code=.ref cc) (C:∀ h:Heap,X.K.In h -> PySem.W.CodeHd h cc Pt) (hPt:∀ H,pO X.K X.mg H -> ∃ q,H Pt=some (.tbl q)) (hdef:defaultsOf params X.env=([],[])) (hqn:X.env.qual ++ "<lambda>"=eG) :
  PE X (.Call (.Name xc p) [.Name y p2,.Lambda params body scope lpos] [] pos) (fun σ H Q=>∃ vb vt,σ[i0]?=some (some vb)/\σ[i1]?=some (some vt)/\∀ f c' oc pm ctv c ocell ub H',(∀ b o,H b=some o->H' b=some o)->H c=none->H' c=none ->
   H' f=some (.frz (PySem.W.kla_obj "<lambda>" eG params body scope [(xb,c)] pm c' ctv) cA) -> H' c'=some (.frz oc cA) -> lamO oc -> ocell.data=.cell (some ub) -> RelV vb ub -> sp [vt,.ref f] (upd H' c (.frz ocell cA)) (fun v H1=>Q v (drop H1 c)) E0):=by
 intro pins s σ H Q I h;obtain ⟨vb,vt,e0,e1,h⟩:=h;refine wpAny_Call_Name_kw (yj I hg hm ?_ hdb);have pa:=dD (gM (pos:=p2) h1 hv1 hd1 hd2) (dD (aax (X:=X) (pos:=lpos) (params:=params) (body:=body) hsc hclo hcode C hPt hdef hqn) gK);refine PySem.W.callWith_K (h₀:=X.base) I.ok.mod.kin hk (thn (pa pos pins s σ H (fun vs H1=>∃ f c' oc pm ctv c,vs=[vt,.ref f] /\ X.env.cells.lookup xb=some c /\ (∀ b o,H b=some o -> H1 b=some o) /\ H c=none /\ H1 f=some (.frz (PySem.W.kla_obj "<lambda>" eG params body scope [(xb,c)] pm c' ctv) cA) /\ H1 c'=some (.frz oc cA) /\ lamO oc) I ?_) fun us s1 ⟨vs,H1,I1,r,f,c',oc,pm,ctv,c,ev,hc,mono,hn,hf,hc',hlo⟩=>⟨I1.kIn,?_⟩)
 .exact ⟨vt,e1,fun f c' oc pm ctv c H' hc mono nf hn hn' hf hc' hlo=>⟨f,c',oc,pm,ctv,c,rfl,hc,mono,hn,hf,hc',hlo⟩⟩
 .subst ev;obtain ⟨m,hns,hl⟩:=I1.loc;obtain ⟨ub,rb,lk⟩:=hl i0 xb vb h0 e0 (.inr (.inl hsc));rcases lk with ⟨hk',_⟩ | ⟨_,c2,hc2,ocell,hoc,hcell⟩
  .have:X.env.scope.names.lookup xb=some .local:=hk';rw [hsc] at this;cases this
  .rw [hc] at hc2;cases hc2;exact Ul F hb I1 hc hfn hoc hcell r (h f c' oc pm ctv c ocell ub H1 mono hn (I1.freeC xb c hc) hf hc' hlo hcell rb)
def U9 {x:Str}{j:Nat}{e:Expr}{ta:TE}{W:Addr -> V -> Hp -> VK -> Prop} (hN:X.N[j]?=some x) (hv:Vis X.env.scope x) (hd1:(x == ("__debug__":Str))=false) (hd2:(x == ("__classdict__":Str))=false) (ha:PE X e ta) (hs:starEach [e] X.env=(false,eval e X.env)::starEach [] X.env)
  (hW:∀ f pins s σ H v u Q,Inv X pins σ H s->RelV v u->W f v H Q->PySem.W.FnAt f s.heap/\wpAny (model X.prog X.w) X.A (call (.ref f) [u]) (EP X pins σ Q) X.xe s) (hF:∀ f s H,HOk X.prog X.w H s->(∃ ob,H f=some (.frz ob cA)/\∃ oc od fd sl,ob=⟨oc,od,.func fd,sl⟩)->PySem.W.FnAt f s) :
  PE X (.Call (.Name x p) [e] [] pos) (fun σ H Q=>∃ f,σ[j]?=some (some (.ref f))/\(∃ ob,H f=some (.frz ob cA)/\∃ oc od fd sl,ob=⟨oc,od,.func fd,sl⟩)/\ta σ H fun v H1=>W f v H1 Q):=by
 intro pins s σ H Q I h;obtain ⟨f,ef,hf,ht⟩:=h;refine wpAny_Call_Name_kw (thn (gM (pos:=p) hN hv hd1 hd2 pins s σ H (fun v H1=>v=.ref f/\H1=H) I ⟨.ref f,ef,rfl,rfl⟩) fun fv s0 ⟨v0,H0,I0,r0,e0,eH⟩=>?_);subst e0 eH;obtain rfl:fv=Value.ref f:=r0;refine PySem.W.callWith_F (hF f _ _ I0.hok hf) (thn ((dD ha gK hs) pos pins s0 σ H0 (fun vs H1=>match vs with | [v]=>W f v H1 Q | _=>False) I0 ht) fun us s1 ⟨vs,H1,I1,r,hw⟩=>?_) hs rfl;rcases vs with _ | ⟨v,_ | ⟨v2,vs⟩⟩
 .exact hw.elim
 .obtain ⟨u,rfl,ru⟩:=vals1 r;exact hW f pins s1 σ H1 v u Q I1 ru hw
 .exact hw.elim
end
end L2
set_option maxHeartbeats 1000000
namespace Mi
open PySem L2
open PyProof.Rows hiding St
noncomputable def Ds (p:Pos):Arguments:={ posonlyargs:=[],args:=[{ arg:="test",annotation:=none,pos:=p }],vararg:=none,kwonlyargs:=[],kw_defaults:=[],kwarg:=none,defaults:=[] }
noncomputable def xR (p1 p2 p3 p4:Pos):Expr:=.Call (.Name "is_test" p1) [.Name "book" p2,.Name "test" p3] [] p4
noncomputable def dj:Scope:={ kind:=.function,names:=[(Str.ofString "test",.local),(Str.ofString "book",.free),(Str.ofString "is_test",.globalImplicit)],isGenerator:=false,isCoroutine:=false,more:=[] }
def Fb:LamScope dj "book" "test":=by
 refine ⟨rfl,rfl,rfl,by decide +kernel,by decide +kernel,by decide +kernel,fun y h=>?_,by decide +kernel⟩;have h2:=jp h;simp only [dj,List.mem_cons,List.not_mem_nil,or_false] at h2;rcases h2 with h2 | h2 | h2
 .cases h2
 .cases h2;rfl
 .cases h2
abbrev abV (p0 p1 p2 p3 p4:Pos) (c:Addr) (pm:Value) (c':Addr) (ctv:Value):Obj:=PySem.W.kla_obj "<lambda>" eG (Ds p0) (xR p1 p2 p3 p4) dj [("book",c)] pm c' ctv
def yp (p:D->R D):List D->Prop
 | []=>True
 | d::ds=>p d=.ok (.bl true)/\yp p ds
structure CloAt (g:G) (H Hs:Hp) (f:Addr) (b:D):Prop where
 ex:∃ p0 p1 p2 p3 p4 c c' oc ocell ub vb pm ctv,H f=some (.frz (abV p0 p1 p2 p3 p4 c pm c' ctv) cA)/\H c'=some (.frz oc cA)/\lamO oc/\H c=some (.frz ocell cA)/\ocell.data=.cell (some ub)/\RelV vb ub/\Hs c=none/\Rp g Hs b vb
variable {Hs:Hp}{f:Addr}{b:D}
theorem CloAt.grow {g:G}{H H' Hs':Hp} (x:CloAt g H Hs f b) (hs:Same Hs H) (w:Grow H Hs H' Hs'):CloAt g H' Hs' f b:=by
 obtain ⟨p0,p1,p2,p3,p4,c,c',oc,ocell,ub,vb,pm,ctv,h1,h2,h3,h4,h5,h6,h7,h8⟩:=x.ex;exact ⟨p0,p1,p2,p3,p4,c,c',oc,ocell,ub,vb,pm,ctv,w.keep _ _ h1,w.keep _ _ h2,h3,w.keep _ _ h4,h5,h6,(w.old _ _ h4).trans h7,h8.mono (w.same hs)⟩
structure FnsP (T:Tx) (cl:Nat->List D->R D) (P:Program) (w:World) (K:zt) (mg:w8) (base:Heap) (n:Nat):Prop where
 blt:∀ f∈lA,mg f=none
 gl:∀ x d,T.gl.lookup x=some d->GlV d (mg x)
 fns:∀ f x,T.F[f]?=some x->∃ a fd ps,FnOk P w K mg base CX0 n a fd ps (spD ⟨P,w,K⟩ (cl f) ps.length)/\mg x=some (.ref a)/\PySem.W.keepIn K (.ref a)=true/\Binds K fd ps []/\(∀ ds d,cl f ds=.ok d->ds.length=ps.length)/\FnOk P w K mg base CX0 n a fd ps (Oh ⟨P,w,K⟩ (cl (1000+f)) ps.length)/\(∀ ds d,cl (1000+f) ds=.ok d->ds.length=ps.length)/\FnOk P w K mg base CX0 n a fd ps (spF ⟨P,w,K⟩ (cl (2000+f)) ps.length)/\∀ ds d,cl (2000+f) ds=.ok d->ds.length=ps.length
variable {X:Cx}{c:Addr}{cdv dV doc pm ct oc:Value}{p1 p2 p3 p4 p5 p6:Pos}{q:Nat}{params:Arguments}{an od:vk}{osl:vn}
section
variable {T:Tx}{cl:Nat->List D->R D}{P:Program}{w:World}{K:zt}{mg:w8}{base:Heap}{n:Nat}
theorem FnsP.cok (F:FnsP T cl X.prog X.w X.K X.mg X.base n) (hc:X.calm=true) (hnd:X.N.Nodup) (hr:Room n X.A):Cok T cl X:=by
 refine ⟨hc,hnd,by have:=hr.un;omega,F.blt,F.gl,fun f x hF=>?_⟩;obtain ⟨a,fd,ps,q1,q3,q4,q5,q6⟩:=F.fns f x hF;exact ⟨n,a,fd,ps,q1,hr,q3,q4,q5,q6⟩
variable {A:Around}{outer:List Env}{s:Shared}{H:Hp}
theorem RT :ScRel dj (rE P w K mg base "book" "test" dj f c cdv A outer s H) :=
 ⟨fun y h=>ud h,fun y h=>ug h,fun y h=>h,fun y h=>by
  have h1:=lB h;refine ⟨h1,?_⟩;rcases h1 with e | e
  .exact .inr e
  .exact absurd rfl (Fb.nocell _ (jp e))⟩
def Wt {g:Nat}{Q:VK}{fa:Addr}{pins:w4}{σ:St}{v:V}{u:Value}{d z:D} (F:FnsP T cl X.prog X.w X.K X.mg X.base n) (hT:T.F[g]?=some (Str.ofString "is_test")) (hr:∀ env,Room n (X.A.deeper env)) (hdp:X.A.depth < recursionLimit) (hh:X.A.handled=none)
  (I:Inv X pins σ H s) (ru:RelV v u) (hs:Same Hs H) (hc:CloAt (gOf X) H Hs fa b) (rd:Rp (gOf X) Hs d v) (hz:cl g [b,d]=.ok z) (k:XD X H Hs Q z) :
  PySem.W.FnAt fa s.heap/\wpAny (model X.prog X.w) X.A (call (.ref fa) [u]) (EP X pins σ Q) X.xe s:=by
 obtain ⟨p0,p1,p2,p3,p4,c,c',oc,ocell,ub,vb,pm,ctv,h1,h2,h3,h4,h5,h6,h7,h8⟩:=hc.ex;have ef:=(I.hok fa _ h1).1;refine ⟨⟨_,_,_,_,ef⟩,?_⟩;have ok:okE T ["book","test"] (.call g [.var 0,.var 1]) dj (xR p1 p2 p3 p4)=true:=by
  show (aJ "is_test" && eV dj "is_test" && decide (T.F[g]?=some (Str.ofString "is_test")) && bI T ["book","test"] [.var 0,.var 1] dj [.Name "book" p2,.Name "test" p3] && [Expr.Name "book" p2,.Name "test" p3].all noStar)=true
  rw [decide_eq_true hT];rfl
 have C:Cok T cl (rE X.prog X.w X.K X.mg X.base "book" "test" dj fa c (.ref c') X.A X.stack s H):=FnsP.cok (X:=rE X.prog X.w X.K X.mg X.base "book" "test" dj fa c (.ref c') X.A X.stack s H) F rfl (show ([("book":Str),"test"]:z0).Nodup by decide +kernel) (hr _)
 have hb:=(good (T:=T) (cl:=cl) (.call g [.var 0,.var 1]) C RT ok).1;have dropS:Same Hs (drop H c):=fun b o e=>by
  rw [cF (fun z=>by rw [z,h7] at e;cases e)];exact hs b o e
 refine wpAny_call (codeAny_mono (X3 (E:=E0) (vb:=vb) (vt:=v) (Q:=Q) I.env0 hdp hh Fb h1 h2 h3 h4 h5 ?_ h6 ru hb ?_) fun r s' hq=>?_)
 .rfl
 .refine ⟨[some b,some d],Hs,z,dropS,⟨rfl,fun i hi e he=>?_⟩,?_,fun v' H' Hs' g' r' n'=>?_⟩
  .match i,he with
   | 0,he=>cases he;exact ⟨vb,rfl,h8⟩
   | 1,he=>cases he;exact ⟨v,rfl,rd⟩
   | i+2,he=>cases he
  .show (do let ds <- cB cl [.var 0,.var 1] [some b,some d];cl g ds)=_
   exact hz
  .have hs'c:Hs' c=none:=g'.sub.free n';refine k v' _ Hs' ⟨fun a o e=>?_,fun a o e=>?_,fun a o e=>?_⟩ r'
   .by_cases za:a=c
    .subst za;rw [aB];rw [h4] at e;exact e
    .rw [ao za];exact g'.keep a o (by rw [cF za];exact e)
   .by_cases za:a=c
    .subst za;rw [hs'c,h7]
    .exact g'.old a o (by rw [cF za];exact e)
   .rw [ao (fun za=>by rw [za,hs'c] at e;cases e)];exact g'.sub a o e
 .cases r with
  | error e=>exact jd hq
  | ok fl =>
   cases fl with
   | ret u=>exact I.after hq
   | next=>exact jd hq
   | brk=>exact jd hq
   | cont=>exact jd hq
noncomputable def clN:z0:=["things","is_right","place","thing"]
noncomputable def cR:Scope:={ kind:=.function,names:=[(Str.ofString "things",.local),(Str.ofString "is_right",.local),(Str.ofString "place",.local),(Str.ofString "thing",.local),(Str.ofString "isinstance",.globalImplicit),(Str.ofString "list",.globalImplicit),(Str.ofString "BadTests",.globalImplicit),(Str.ofString "enumerate",.globalImplicit)],isGenerator:=false,isCoroutine:=false,more:=[] }
noncomputable def JQ (p1 p2 p3 p4 p5:Pos) (r:vi):Stmt:=.If (.UnaryOp .Not (.Call (.Name "is_right" p1) [.Name "thing" p2] [] p3) p4) r [] p5
def vR (p1 p2 p3 p4 p5 p6:Pos) (e1 c1:Option Expr) (q1 q2 q3 q4 q5 q6 q7 q8 q9 q10 q11 q12 q13:Pos) (j:Nat) (r2:vi):vi :=
 [.If (.UnaryOp .Not (.Call (.Name "isinstance" p1) [.Name "things" p2,.Name "list" p3] [] p4) p5) [.Raise e1 c1 q13] [] p6,
  .For (.Tuple [.Name "place" q1,.Name "thing" q2] j q3) (.Call (.Name "enumerate" q4) [.Name "things" q5] [] q6) [JQ q7 q8 q9 q10 q11 r2] [] q12]
noncomputable def clB (cl:Nat->List D->R D) (g:Nat) (b:D):Nat->List D->R D:=fun k ds=>if k=5000 then (match ds with | [t]=>cl g [b,t] | _=>.stuck) else cl k ds
section
variable {cl:Nat->List D->R D}{X:Cx}{n g:Nat}{T:Tx}{b:D}{E:Ent}{Es:Hp}{fa:Addr}{O inv:zz}
def aa9 {r:vi} (F:FnsP T cl X.prog X.w X.K X.mg X.base n) (hT:T.F[g]?=some (Str.ofString "is_test")) (hr:∀ env,Room n (X.A.deeper env)) (hdp:X.A.depth < recursionLimit) (hh:X.A.handled=none) (hN:X.N=clN) (hsc:X.env.scope=cR)
  (hp:E.pins=[(1,fa)]) (hs:Same Es E.hp) (hc:CloAt (gOf X) E.hp Es fa b):PS X (JQ p1 p2 p3 p4 p5 r) (tMS X E Es O (some (without O [3])) inv (bC (clB cl g b) (.chk 1 (.var 3)))):=by
 have vis:∀ x∈clN,Vis X.env.scope x:=fun x hx=>by
  rw [hsc];refine .inl ?_;have:∀ x∈clN,cR.names.lookup x=some .local:=by decide +kernel
  exact this x hx
 have hpe:PE X (.Name "thing" p2) (Z5 3):=gM (by rw [hN]; rfl) (vis _ (by decide +kernel)) (by decide +kernel) (by decide +kernel)
 have hcall:=U9 (X:=X) (p:=p1) (pos:=p3) (W:=fun f v H Q=>∃ Hs d z,Same Hs H /\ CloAt (gOf X) H Hs f b /\ Rp (gOf X) Hs d v /\ cl g [b,d]=.ok z /\ XD X H Hs Q z) (j:=1) (x:="is_right") (by rw [hN]; rfl) (vis _ (by decide +kernel)) (by decide +kernel) (by decide +kernel) hpe rfl
  (fun f pins s σ H v u Q I ru ⟨Hs,d,z,h1,h2,h3,h4,h5⟩=>Wt F hT hr hdp hh I ru h1 h2 h3 h4 h5)
  (fun f s H ok ⟨ob,h1,oc,od,fd,sl,h2⟩=>by subst h2;exact ⟨oc,od,fd,sl,(ok f _ h1).1⟩)
 have hpt:=Ru (pos:=p4) (Sv hcall (nu rfl));refine bY (W2 hpt Fl Dw) fun D σ H=>?_
 rintro ⟨ρ,Hs,o,Fr,h,k⟩;rw [Q6] at h;obtain ⟨d,hd,h⟩:=aj h;obtain ⟨z,hz,h⟩:=aj h;have hz':cl g [b,d]=.ok z:=hz;cases z <;> try (cases h;done)
 rename_i bb;cases bb <;> try (cases h;done)
 cases h;obtain ⟨Hs1,F1,m1,vs⟩:=Fr.pubU [3];have hd3:ρ[3]?=some (some d):=dR hd;obtain ⟨v,ev,rv⟩:=vs.2 3 (yz.mpr rfl) d hd3;have ep:=F1.pin (1,fa) (by rw [hp];exact yz.mpr rfl);have cg:=hc.grow hs F1.grow;refine ⟨fa,ep,?_,v,ev,Hs1,d,.bl true,F1.sub,cg,rv,hz',fun v' H' Hs' g' r'=>⟨true,nQ.mp r',?_⟩⟩
 .obtain ⟨p0,p1,p2,p3,p4,c,c',oc,ocell,ub,vb,pm,ctv,h1,_⟩:=cg.ex;exact ⟨_,h1,_,_,_,_,rfl⟩
 .show (if (!true)=true then Hi D σ H' else _)
  exact k _ rfl σ H' Hs' (F1.grown g') (m1.trans (g'.same F1.sub))
theorem Ii {ts0:D}:∀ (ts:List D) (k:Nat),yp (fun t=>cl g [b,t]) ts->jm (fun d ρ=>do let ρ1 <- dw (.two 2 3) d ρ;cj (clB cl g b) [.chk 1 (.var 3)] ρ1) [some ts0,none,none,none] (aY k ts) [some ts0,none,none,none]=.ok (.nx [some ts0,none,none,none])
 | [],_,_=>rfl
 | t::ts,k,h=>by
  have h1:(clB cl g b) 5000 [t]=.ok (.bl true):=h.1;show jm _ _ (.tup [.int k,t]::aY (k+1) ts) _=_
  unfold jm;have h2:(dw (.two 2 3) (.tup [.int k,t]) [some ts0,none,none,none] >>= fun ρ1=>cj (clB cl g b) [.chk 1 (.var 3)] ρ1)=.ok (.nx [some ts0,none,some (.int k),some t]):=by
   show (bC (clB cl g b) (.chk 1 (.var 3)) [some ts0,none,some (.int k),some t] >>= uz _ [])=_
   rw [Q6];show (((clB cl g b) 5000 [t] >>= fun r=>Wd [some ts0,none,some (.int k),some t] r) >>= uz _ [])=_
   rw [h1];rfl
  show ((dw (.two 2 3) (.tup [.int k,t]) [some ts0,none,none,none] >>= fun ρ1=>cj (clB cl g b) [.chk 1 (.var 3)] ρ1) >>= _)=_
  rw [h2];exact Ii ts (k+1) h.2
end
def ac4 (g:G) (cl:Nat->List D->R D) (q:Nat):Sp:=fun vs H Q _=>∃ vt fa b ts Hs,vs=[vt,.ref fa]/\Same Hs H/\CloAt g H Hs fa b/\Rp g Hs (.lst ts) vt/\yp (fun t=>cl q [b,t]) ts/\∀ H' Hs',Grow H Hs H' Hs'->Q .non H'
theorem acE {cl':Nat->List D->R D} (F:FnsP T cl P w K mg base n):FnsP ⟨[],[]⟩ cl' P w K mg base n:=⟨F.blt,fun x d h=>(by cases h),fun f x h=>(by simp at h)⟩
theorem acu (r:Room (n+1) A) (e1 e2 e3:Env):Room n (((A.deeper e1).deeper e2).deeper e3) :=
 ⟨r.hd,by have:=r.dp;show A.depth+1+1+1+3 * n+5 < _;omega,by have:=r.un;show A.units+3+3+3+16 * n+200 < _;omega⟩
theorem abK (r:Room (n+1) A) (e1 e2:Env):Room n ((A.deeper e1).deeper e2) :=
 ⟨r.hd,by have:=r.dp;show A.depth+1+1+3 * n+5 < _;omega,by have:=r.un;show A.units+3+3+16 * n+200 < _;omega⟩
def aak {kV:Value}{x1 c1:Option Expr}{q1 q2 q3 q4 q5 q6 q7 q8 q9 q10 q11 q12 q13:Pos}{j:Nat}{r2:vi}{e1:Env}
  (F:FnsP T cl P w K mg base n) (hT:T.F[q]?=some (Str.ofString "is_test")) (hr:Room (n+1) A)
  (lk:K.lookup f=some ⟨oc,od,.func (PySem.W.fnOf "check_list" "check_list" params (vR p1 p2 p3 p4 p5 p6 x1 c1 q1 q2 q3 q4 q5 q6 q7 q8 q9 q10 q11 q12 q13 j r2) cR dV kV doc pm an cdv ct),osl⟩) (hcd:PySem.W.codeIn K cdv "check_list"=true) :
  RunAt P w K mg base (A.deeper e1) outer f (PySem.W.fnOf "check_list" "check_list" params (vR p1 p2 p3 p4 p5 p6 x1 c1 q1 q2 q3 q4 q5 q6 q7 q8 q9 q10 q11 q12 q13 j r2) cR dV kV doc pm an cdv ct) ["things","is_right"] (ac4 ⟨P,w,K⟩ cl q):=by
 have S:FnScope clN ["things","is_right"] cR:=mK (by decide +kernel)
 refine Qf lk hcd S (by have:=hr.dp;show A.depth+1 < _;omega) hr.hd (fun vs H Q E h=>?_) fun s H vs Q E h=>?_
 .obtain ⟨vt,fa,b,ts,Hs,rfl,_⟩:=h;rfl
 .obtain ⟨vt,fa,b,ts,Hs,rfl,hs,hc,rt,hall,k⟩:=h;have hr2:=abK hr e1 (envOfC "check_list" cR s.heap.objs.size f cdv)
  have C:Cok ⟨[],[]⟩ (clB cl q b) (iH CX0 P w K mg base clN "check_list" cR f cdv (A.deeper e1) outer s H E):=FnsP.cok (X:=iH CX0 P w K mg base clN "check_list" cR f cdv (A.deeper e1) outer s H E) (acE F) rfl S.nd hr2
  have SR:ScRel cR (iH CX0 P w K mg base clN "check_list" cR f cdv (A.deeper e1) outer s H E):=⟨fun y h=>ud h,fun y h=>ug h,fun y h=>h,fun y h=>⟨lB h,.inl rfl⟩⟩
  have h1:=nR (T:=⟨[],[]⟩) (cl:=clB cl q b) (.ifs (.not (.isin (.var 0) .list)) [.rai] []) (iH CX0 P w K mg base clN "check_list" cR f cdv (A.deeper e1) outer s H E) cR (.If (.UnaryOp .Not (.Call (.Name "isinstance" p1) [.Name "things" p2,.Name "list" p3] [] p4) p5) [.Raise x1 c1 q13] [] p6) [] [] (some []) ⟨H,[(1,fa)]⟩ Hs (fun z hz=>by simp [Vb,mW]) C SR PassesOwn.leaving rfl rfl
  have h2:=aa9 (cl:=cl) (g:=q) (X:=iH CX0 P w K mg base clN "check_list" cR f cdv (A.deeper e1) outer s H E) (T:=T) (b:=b) (E:=⟨H,[(1,fa)]⟩) (Es:=Hs) (fa:=fa) (O:=[]) (inv:=[]) (p1:=q7) (p2:=q8) (p3:=q9) (p4:=q10) (p5:=q11) (r:=r2) F hT (fun env=>acu hr e1 _ env) (by have:=hr.dp; show A.depth+1+1 < _; omega) hr.hd rfl rfl rfl hs hc
  have h3:=S7 (T:=⟨[],[]⟩) (cl:=clB cl q b) (X:=iH CX0 P w K mg base clN "check_list" cR f cdv (A.deeper e1) outer s H E) (sc:=cR) (E:=⟨H,[(1,fa)]⟩) (Es:=Hs) (O:=[]) (inv:=[]) (pos:=q12) (t:=.two 2 3) (k:=.enum) (src:=[.var 0]) (b:=[.chk 1 (.var 3)]) (tg:=.Tuple [.Name "place" q1,.Name "thing" q2] j q3) (iter:=.Call (.Name "enumerate" q4) [.Name "things" q5] [] q6) (body:=[JQ q7 q8 q9 q10 q11 r2]) (O2:=[]) (y:=some []) C SR PassesOwn.leaving (fun z hz=>by rw [List.mem_singleton.mp hz]; show (1:Nat) ∉ [2,3]; decide) rfl rfl rfl (fun i hi=>by cases hi) (fun O3 _ i hi=>by cases hi) (Dp ?_)
  .refine ⟨_,uw h1 (Dp h3),?_⟩;have FR0:FR ⟨P,w,K⟩ ⟨H,[(1,fa)]⟩ Hs [] [some (.lst ts),none,none,none] [some vt,some (.ref fa),none,none] H Hs:=by
    refine ⟨Grow.refl hs,rfl,fun i d h _=>?_,fun i hi=>(by cases hi),fun i hi=>(by cases hi),fun z hz=>by rw [List.mem_singleton.mp hz];rfl⟩
    match i,h with
    | 0,h=>cases h;exact ⟨vt,rfl,rt⟩
    | 1,h=>cases h
    | 2,h=>cases h
    | 3,h=>cases h
    | i+4,h=>cases h
   refine ⟨[some (.lst ts),none,none,none],Hs,.nx [some (.lst ts),none,none,none],FR0,rfl,fun O1 e σ' H' Hs' F' s'=>?_⟩;cases e;refine ⟨[some (.lst ts),none,none,none],Hs',.nx [some (.lst ts),none,none,none],F',Ii ts 0 hall,fun O1 e σ2 H2 Hs2 F2 s2=>?_⟩;exact k H2 Hs2 F2.grow
  .refine bY h2 fun D σ H=>?_
   rintro ⟨ρ,Hs,o,Fr,h,kk⟩;refine ⟨ρ,Hs,o,Fr,?_,kk⟩;obtain ⟨o1,ho1,h4⟩:=aj (show (bC (clB cl q b) (.chk 1 (.var 3)) ρ >>= uz (clB cl q b) [])=.ok o from h);cases o1 <;> cases h4 <;> exact ho1
noncomputable def ctN:z0:=["book","tests"]
noncomputable def gO:Scope:={ kind:=.function,names:=[(Str.ofString "book",.cell),(Str.ofString "tests",.local),(Str.ofString "check_list",.globalImplicit)],isGenerator:=false,isCoroutine:=false,more:=[] }
def Bl (p1 p2 p3 p4 p5 p6 p7 p8 p9 p10:Pos):vi:=[.Expr (.Call (.Name "check_list" p1) [.Name "tests" p2,.Lambda (Ds p3) (xR p4 p5 p6 p7) dj p8] [] p9) p10]
def Zb {env:Env} (h:env.cells.lookup (Str.ofString "book")=some c):closureFor dj env=pure [(Str.ofString "book",c)]:=by
 unfold closureFor;simp [dj,cellOf,h]
structure LamK (K:zt) (mg:w8) (act:Addr) (cdv:Value):Prop where
 cl:∃ f params dV kV doc pm cv ct oc an od osl p1 p2 p3 p4 p5 p6 x1 c1 q1 q2 q3 q4 q5 q6 q7 q8 q9 q10 q11 q12 q13 j r2,K.lookup f=some ⟨oc,od,.func (PySem.W.fnOf "check_list" "check_list" params (vR p1 p2 p3 p4 p5 p6 x1 c1 q1 q2 q3 q4 q5 q6 q7 q8 q9 q10 q11 q12 q13 j r2) cR dV kV doc pm an cv ct),osl⟩ /\ PySem.W.codeIn K cv "check_list"=true /\
  mg (Str.ofString "check_list")=some (.ref f) /\ PySem.W.keepIn K (.ref f)=true /\ Binds K (PySem.W.fnOf "check_list" "check_list" params (vR p1 p2 p3 p4 p5 p6 x1 c1 q1 q2 q3 q4 q5 q6 q7 q8 q9 q10 q11 q12 q13 j r2) cR dV kV doc pm an cv ct) ["things","is_right"] []
 code:∃ cc Pt oc vs file tf flags tg inF text tt,cdv=.ref cc /\ K.lookup cc=some oc /\ oc.cls=.type "code" /\ oc.data=.fields vs /\ vs[11]?=some (.ref Pt) /\ vs.getD 11 .none=.ref Pt /\ vs.getD 18 .none=.str file tf /\ vs.getD 7 .none=.int flags tg /\ vs.getD 9 .none=.bool inF /\ vs.getD 10 .none=.int text tt /\ cc ≠ Pt
 me:mg "check_tests"=some (.ref act)
def WQ {act:Addr}{kV:Value}{p7 p8 p9 p10:Pos}{c:List D->R D}
  (F:FnsP T cl P w K mg base n) (hT:T.F[q]?=some (Str.ofString "is_test")) (hc:∀ ds z,c ds=.ok z -> ∃ b ts,ds=[b,.lst ts] /\ z=.non /\ yp (fun t=>cl q [b,t]) ts)
  (lk:K.lookup act=some ⟨oc,od,.func (PySem.W.fnOf "check_tests" "check_tests" params (Bl p1 p2 p3 p4 p5 p6 p7 p8 p9 p10) gO dV kV doc pm an cdv ct),osl⟩) (hcd:PySem.W.codeIn K cdv "check_tests"=true) (L:LamK K mg act cdv) :
  FnOk P w K mg base CX0 (n+1) act (PySem.W.fnOf "check_tests" "check_tests" params (Bl p1 p2 p3 p4 p5 p6 p7 p8 p9 p10) gO dV kV doc pm an cdv ct) ["book","tests"] (spD ⟨P,w,K⟩ c 2):=by
 have S:FnScope ctN ["book","tests"] gO:=mK (by decide +kernel)
 have len:∀ (vs:List V) (H:Hp) (Q:VK) (E:XK),spD ⟨P,w,K⟩ c 2 vs H Q E -> vs.length=([("book":Str),"tests"]:z0).length:=fun vs H Q E h=>by
  obtain ⟨ds,Hs,z,h,_⟩:=h;exact h
 refine ⟨len,fun A outer s H args us vs Q E hr e0 hb r hsp=>(Qf (N:=ctN) lk hcd S (by have:=hr.dp;omega) hr.hd len fun s H vs Q E h=>?_).run s H args us vs Q E e0 hb r hsp⟩;obtain ⟨ds,Hs,z,hlen,hs,rs,hcz,k⟩:=h;obtain ⟨b,ts,rfl,rfl,hall⟩:=hc _ _ hcz;obtain ⟨vb,ws,rfl,rb,rs2⟩:=rs.cons_inv;obtain ⟨vt,ws,rfl,rt,rs3⟩:=rs2.cons_inv;cases rs3.nil_inv;obtain ⟨fc,params',dV',kV',doc',pm',cv',ct',oc',an',od',osl',a1,a2,a3,a4,a5,a6,x1,c1,b1,b2,b3,b4,b5,b6,b7,b8,b9,b10,b11,b12,b13,j,r2,g1,g2,g3,g4,g5⟩:=L.cl;obtain ⟨cc,Pt,ocd,vsd,file,tf,flags,tg,inF,text,tt,d1,d2,d3,d4,d5,d6,d7,d8,d9,d10,d11⟩:=L.code;have RA:=aak (e1:=envOfC "check_tests" gO s.heap.objs.size act cdv) (outer:=envOfC "check_tests" gO s.heap.objs.size act cdv::outer) F hT hr g1 g2
 have hpe:=Xv (X:=iH CX0 P w K mg base ctN "check_tests" gO act cdv A outer s H E) (xb:="book") (y:="tests") (xc:="check_list") (i0:=0) (i1:=1) (params:=Ds p3) (body:=xR p4 p5 p6 p7) (scope:=dj) (lpos:=p8) (p:=p1) (p2:=p2) (pos:=p9) (cc:=cc) (Pt:=Pt)
  RA g5 (show gO.names.lookup (Str.ofString "check_list")=some .globalImplicit by decide +kernel) g3 g4 rfl (show gO.names.lookup (Str.ofString "book")=some .cell by decide +kernel) rfl rfl (.inl (show gO.names.lookup (Str.ofString "tests")=some .local by decide +kernel)) (by decide +kernel) (by decide +kernel) (by decide +kernel)
  (fun c h=>Zb h) d1 (fun h X=>⟨ocd,vsd,file,tf,flags,tg,inF,text,tt,X _ _ d2,d3,d4,d5,d6,d7,d8,d9,d10,d11⟩) (fun H' tab=>tab act _ _ cc ocd vsd Pt L.me lk rfl d1 d2 d4 d5) rfl (show ("check_tests":Str) ++ ".<locals>." ++ "<lambda>"=eG by decide +kernel)
 refine ⟨_,Dp (lK hpe (jG rfl)),?_⟩;refine ⟨vb,vt,rfl,rfl,fun f c' oc pm ctv cx ocell ub H' mono hn hn' hf hc' hlo hcell rub=>?_⟩;have nf:f≠cx:=fun z=>by rw [z,hn'] at hf;cases hf
 have nc:c'≠cx:=fun z=>by rw [z,hn'] at hc';cases hc'
 have hsc:Hs cx=none:=hs.free hn;refine ⟨vt,f,b,ts,Hs,rfl,fun a o e=>?_,⟨p3,p4,p5,p6,p7,cx,c',oc,ocell,ub,vb,pm,ctv,by rw [ao nf];exact hf,by rw [ao nc];exact hc',hlo,aB,hcell,rub,hsc,rb⟩,rt,hall,fun H1 Hs1 w1=>?_⟩
 .rw [ao (fun z=>by rw [z,hsc] at e;cases e)];exact mono _ _ (hs a o e)
 .have o1:Hs1 cx=none:=(w1.old cx _ aB).trans hsc;refine k .non (drop H1 cx) Hs1 ⟨fun a o e=>?_,fun a o e=>?_,fun a o e=>?_⟩ (Bo.mpr rfl)
  .have na:a≠cx:=fun z=>by rw [z,hn] at e;cases e
   rw [cF na];exact w1.keep a o (by rw [ao na];exact mono _ _ e)
  .have na:a≠cx:=fun z=>by rw [z,hn] at e;cases e
   exact w1.old a o (by rw [ao na];exact mono _ _ e)
  .rw [cF (fun z=>by rw [z,o1] at e;cases e)];exact w1.sub a o e
end
end Mi
set_option maxHeartbeats 1000000
namespace Mi
open PySem L2
open PyProof.Rows hiding St
inductive XS where
 | lam (g:Nat)
noncomputable def lC (p:D->R D):List D->R Unit
 | []=>.ok ()
 | d::ds=>(match p d with
   | .ok (.bl true)=>lC p ds
   | _=>.stuck)
def Py (cl:Nat->List D->R D) (g:Nat) (ρ:En):R Out:=match bO ρ 0,bO ρ 1 with
 | .ok b,.ok (.lst ts)=>(match lC (fun t=>cl g [b,t]) ts with
   | .ok _=>.ok (.nx ρ)
   | _=>.stuck)
 | _,_=>.stuck
def Ci (cl:Nat->List D->R D):List XS->En->R Out
 | [.lam g],ρ=>Py cl g ρ
 | _,_=>.stuck
noncomputable def vJ:R Out->R D
 | .ok (.rt d)=>.ok d
 | .ok (.nx _)=>.ok .non
 | .ok (.ro d)=>.ok d
 | _=>.stuck
noncomputable def Ot:R Out->R D
 | .ok (.ro d)=>.ok d
 | _=>.stuck
def GQ (n:Nat):R Out->R D
 | .ok (.nx ρ)=>(do let a <- bO ρ 1;let b <- bO ρ (n - 1);.ok (.tup [a,b]))
 | _=>.stuck
noncomputable def rY:R Out->R D
 | .ok (.rt d)=>.ok d
 | .ok (.nx _)=>.ok .non
 | .exc x=>.exc x
 | _=>.stuck
noncomputable def st0 (d:Def) (args:List D):En:=args.map some++List.replicate (d.nn - d.np) none
def jf (cl:Nat->List D->R D) (tab:List Def) (f:Nat) (args:List D):R D:=match tab[f]? with
 | some d=>if args.length=d.np/\d.nrm=true then vJ (cj cl d.body (st0 d args)) else .stuck
 | none=>if 2000<=f then (match tab[f - 2000]? with
   | none=>.stuck
   | some d=>if args.length=d.np/\d.nrm=true then Ot (cj cl d.body (st0 d args)) else .stuck)
  else (match tab[f - 1000]? with
   | none=>.stuck
   | some d=>if args.length=d.np/\zq d=true then GQ d.np (cj cl d.body (st0 d args)) else .stuck)
def xO (cl:Nat->List D->R D) (b:List XS) (args:List D):Option Def->R D
 | none=>.stuck
 | some d=>if args.length=d.np then rY (Ci cl b (st0 d args)) else .stuck
abbrev rQ:=List (Nat × List XS)
def au (tab:List Def) (xt:rQ):Nat->Nat->List D->R D
 | 0,_,_=>.stuck
 | n+1,f,args=>match xt.lookup f with
  | some b=>xO (au tab xt n) b args tab[f]?
  | none=>jf (au tab xt n) tab f args
section
variable {tab:List Def}{xt:rQ}{n f:Nat}{d:Def}{args:List D}{z:D}{b:List XS}
def Ws (hx:xt.lookup f=none) (ht:tab[f]?=some d) (hl:args.length=d.np) (hn:d.nrm=true):au tab xt (n+1) f args=vJ (cj (au tab xt n) d.body (st0 d args)):=by
 show (match xt.lookup f with | some b=>_ | none=>_)=_
 rw [hx];show jf _ _ _ _=_
 unfold jf;rw [ht];exact if_pos ⟨hl,hn⟩
def QL (hx:xt.lookup f=some b) (ht:tab[f]?=some d) (hl:args.length=d.np):au tab xt (n+1) f args=rY (Ci (au tab xt n) b (st0 d args)):=by
 show (match xt.lookup f with | some b=>_ | none=>_)=_
 rw [hx];show xO _ _ _ _=_
 rw [ht];exact if_pos hl
theorem bB (d:D):vJ (.ok (.rt d))=.ok d:=rfl
theorem bK (d:D):vJ (.ok (.ro d))=.ok d:=rfl
theorem bL (ρ:En):vJ (.ok (.nx ρ))=.ok .non:=rfl
theorem bM (d:D):rY (.ok (.rt d))=.ok d:=rfl
theorem bJ (ρ:En):rY (.ok (.nx ρ))=.ok .non:=rfl
def IV (hx:xt.lookup f=none) (ht:tab[f]?=some d) (h:au tab xt (n+1) f args=.ok z):∃ o,args.length=d.np/\d.nrm=true/\cj (au tab xt n) d.body (st0 d args)=.ok o/\(o=.rt z\/o=.ro z\/(z=.non/\∃ ρ,o=.nx ρ)):=by
 replace h:(match xt.lookup f with | some b=>xO (au tab xt n) b args tab[f]? | none=>jf (au tab xt n) tab f args)=.ok z:=h;rw [hx] at h;unfold jf at h;rw [ht] at h;obtain ⟨hl,h1⟩:=bW h;cases hr:cj (au tab xt n) d.body (st0 d args) with
 | exc x=>rw [hr] at h1;cases h1
 | stuck=>rw [hr] at h1;cases h1
 | ok o =>
  rw [hr] at h1;refine ⟨o,hl.1,hl.2,rfl,?_⟩;cases o with
  | rt d'=>cases h1;exact .inl rfl
  | ro d'=>cases h1;exact .inr (.inl rfl)
  | nx ρ=>cases h1;exact .inr (.inr ⟨rfl,ρ,rfl⟩)
def vf (hf:f < 1000) (hx:xt.lookup (1000+f)=none) (hn:tab[1000+f]?=none) (ht:tab[f]?=some d) (h:au tab xt (n+1) (1000+f) args=.ok z):∃ ρ x y,args.length=d.np/\zq d=true/\cj (au tab xt n) d.body (st0 d args)=.ok (.nx ρ)/\bO ρ 1=.ok x/\bO ρ (d.np - 1)=.ok y/\z=.tup [x,y]:=by
 replace h:(match xt.lookup (1000+f) with | some b=>xO (au tab xt n) b args tab[1000+f]? | none=>jf (au tab xt n) tab (1000+f) args)=.ok z:=h;rw [hx] at h;unfold jf at h;rw [hn,show 1000+f - 1000=f by omega] at h;simp only [ht,if_neg (show ¬ 2000<=1000+f by omega)] at h;obtain ⟨hl,h1⟩:=bW h;cases hr:cj (au tab xt n) d.body (st0 d args) with
 | exc x=>rw [hr] at h1;cases h1
 | stuck=>rw [hr] at h1;cases h1
 | ok o =>
  rw [hr] at h1;cases o with
  | rt d'=>cases h1
  | ro d'=>cases h1
  | nx ρ =>
   obtain ⟨x,hx1,h2⟩:=aj (show (bO ρ 1 >>= fun a=>bO ρ (d.np - 1) >>= fun b=>R.ok (D.tup [a,b]))=.ok z from h1);obtain ⟨y,hy1,h3⟩:=aj h2;cases h3;exact ⟨ρ,x,y,hl.1,hl.2,rfl,hx1,hy1,rfl⟩
def u6 (hx:xt.lookup (2000+f)=none) (hn:tab[2000+f]?=none) (ht:tab[f]?=some d) (h:au tab xt (n+1) (2000+f) args=.ok z):args.length=d.np/\d.nrm=true/\cj (au tab xt n) d.body (st0 d args)=.ok (.ro z):=by
 replace h:(match xt.lookup (2000+f) with | some b=>xO (au tab xt n) b args tab[2000+f]? | none=>jf (au tab xt n) tab (2000+f) args)=.ok z:=h;rw [hx] at h;unfold jf at h;rw [hn,show 2000+f - 2000=f by omega] at h;simp only [ht,if_pos (show 2000<=2000+f by omega)] at h;obtain ⟨hl,h1⟩:=bW h;cases hr:cj (au tab xt n) d.body (st0 d args) with
 | exc x=>rw [hr] at h1;cases h1
 | stuck=>rw [hr] at h1;cases h1
 | ok o =>
  rw [hr] at h1;cases o with
  | rt d'=>cases h1
  | ro d'=>cases h1;exact ⟨hl.1,hl.2,rfl⟩
  | nx ρ=>cases h1
end
structure LamD (T:Tx) (K:zt) (mg:w8) (x:Str) (b:List XS) (d:Def) (ps:z0) (st:Stmt) (a:Addr) (fd:FuncData):Prop where
 ex:∃ q p1 p2 p3 p4 p5 p6 p7 p8 p9 p10,b=[.lam q] /\ T.F[q]?=some (Str.ofString "is_test") /\ dF st=Bl p1 p2 p3 p4 p5 p6 p7 p8 p9 p10
 sc:bf st=gO
 nm:x=Str.ofString "check_tests"
 par:ps=[("book":Str),"tests"]
 np:d.np=2
 nn:d.nn=2
 nomut:zq d=false
 nonrm:d.nrm=false
 lam:LamK K mg a fd.code
structure PrX (T:Tx) (tab:List Def) (xt:rQ) (K:zt) (mg:w8):Prop where
 len:tab.length<=1000
 xlen:∀ f b,xt.lookup f=some b->f < 1000
 blt:∀ f∈lA,mg f=none
 gl:∀ x d,T.gl.lookup x=some d->GlV d (mg x)
 fn:∀ (f:Nat) (x:Str),T.F[f]?=some x->∃ d N ps st a fd,tab[f]?=some d/\Fun K x x st a fd/\mg x=some (.ref a)/\Binds K fd ps []/\(match xt.lookup f with | none=>aX T d N ps st=true | some b=>LamD T K mg x b d ps st a fd)
def CT (T:Tx) (tab:List Def) (xt:rQ) (P:Program) (w:World) (K:zt) (mg:w8) (base:Heap) (n:Nat):Prop:=∀ (f:Nat) (x:Str),T.F[f]?=some x ->
  ∃ a fd ps,FnOk P w K mg base CX0 n a fd ps (spD ⟨P,w,K⟩ (au tab xt n f) ps.length)/\mg x=some (.ref a)/\PySem.W.keepIn K (.ref a)=true/\Binds K fd ps []/\(∀ ds d,au tab xt n f ds=.ok d->ds.length=ps.length)/\FnOk P w K mg base CX0 n a fd ps (Oh ⟨P,w,K⟩ (au tab xt n (1000+f)) ps.length)/\(∀ ds d,au tab xt n (1000+f) ds=.ok d->ds.length=ps.length)/\FnOk P w K mg base CX0 n a fd ps (spF ⟨P,w,K⟩ (au tab xt n (2000+f)) ps.length)/\∀ ds d,au tab xt n (2000+f) ds=.ok d->ds.length=ps.length
variable {CX:CXT}{cdv:Value}{A:Around}{outer:List Env}{s:Shared}{H:Hp}{E:XK}{q:Str}{xe:zn}
section
variable {T:Tx}{tab:List Def}{xt:rQ}{P:Program}{w:World}{K:zt}{mg:w8}{base:Heap}{n:Nat}{f:Nat}{x:Str}{d:Def}{N ps:z0}{st:Stmt}{a:Addr}{fd:FuncData}{b:List XS}
theorem PrX.no1 (Pr:PrX T tab xt K mg):xt.lookup (1000+f)=none:=by
 cases q:xt.lookup (1000+f) with
 | none=>rfl
 | some b=>have:=Pr.xlen _ b q;omega
theorem PrX.no2 (Pr:PrX T tab xt K mg):xt.lookup (2000+f)=none:=by
 cases q:xt.lookup (2000+f) with
 | none=>rfl
 | some b=>have:=Pr.xlen _ b q;omega
def yg (Pr:PrX T tab xt K mg) (IH:CT T tab xt P w K mg base n)  (S:FnScope N ps (bf st)) (hr:Room n (A.deeper (envOfC q (bf st) s.heap.objs.size a cdv)))  :
  Cok T (au tab xt n) ((iH CX P w K mg base N q (bf st) a cdv A outer s H E).wish xe):=by
 refine ⟨rfl,S.nd,?_,Pr.blt,Pr.gl,fun f' x' hF'=>?_⟩
 .have:=hr.un;show (A.deeper _).units+100 < cLine
  omega
 .obtain ⟨a',fd',ps',q1,q2⟩:=IH f' x' hF';exact ⟨n,a',fd',ps',q1,hr,q2⟩
theorem pR :ScRel (bf st) ((iH CX P w K mg base N q (bf st) a cdv A outer s H E).wish xe) :=
 ⟨fun y h=>ud h,fun y h=>ug h,fun y h=>h,fun y h=>⟨lB h,.inl rfl⟩⟩
def JB (Pr:PrX T tab xt K mg) (IH:CT T tab xt P w K mg base n) (hx:xt.lookup f=none) (ht:tab[f]?=some d) (F:Fun K x x st a fd) (hd:aX T d N ps st=true) :
  FnOk P w K mg base CX0 (n+1) a fd ps (spD ⟨P,w,K⟩ (au tab xt (n+1) f) ps.length)/\∀ ds z,au tab xt (n+1) f ds=.ok z->ds.length=ps.length:=by
 unfold aX at hd;simp only [Bool.and_eq_true,decide_eq_true_eq] at hd;obtain ⟨⟨⟨⟨h1,h2⟩,h3⟩,h4⟩,h5⟩:=hd;have S:=mK h1;refine ⟨F.ok S (fun vs H Q E h=>?_) (fun cdv A outer s H vs Q E hr h=>?_),fun ds z h=>?_⟩
 .obtain ⟨ds,Hs,z,h,_⟩:=h;exact h
 .obtain ⟨ds,Hs,z,hlen,hs,r,hc,k⟩:=h;obtain ⟨o,hnp,hnr,hrun,ho⟩:=IV hx ht hc;rw [hnr] at h5;obtain ⟨O',hO⟩:=yA.mp (show (cZ [] d.body []).isSome=true from h5);have C:=yg (CX:=CX0) (outer:=outer) (H:=H) (E:=E) (xe:=fun _ _=>False) Pr IH S hr;have SR:=pR (CX:=CX0) (P:=P) (w:=w) (K:=K) (mg:=mg) (base:=base) (N:=N) (st:=st) (a:=a) (cdv:=cdv) (A:=A) (outer:=outer) (s:=s) (H:=H) (E:=E) (q:=x) (xe:=fun _ _=>False);refine ⟨_,nP (E:=⟨H,[]⟩) (Es:=Hs) (fun m _=>nR m) (fun q hm=>by cases hm) C SR PassesOwn.never h4 hO,?_⟩;refine ⟨_,Hs,o,?_,hrun,?_⟩
  .have hl:=r.length;exact Ip hs r (by rw [h3,h2];omega)
  .rcases ho with rfl | rfl | ⟨rfl,ρ',rfl⟩
   .exact fun v H' Hs' g' r'=>k v H' Hs' g' r'
   .exact fun v H' Hs' g' r' _=>k v H' Hs' g' r'
   .exact fun O1 _ σ' H' Hs' F' _=>k .non H' Hs' F'.grow (Bo.mpr rfl)
 .obtain ⟨o,hnp,_⟩:=IV hx ht h;rw [hnp,h2]
def YG (Pr:PrX T tab xt K mg) (IH:CT T tab xt P w K mg base n) (ht:tab[f]?=some d) (F:Fun K x x st a fd) (hd:aX T d N ps st=true) :
  FnOk P w K mg base CX0 (n+1) a fd ps (Oh ⟨P,w,K⟩ (au tab xt (n+1) (1000+f)) ps.length)/\∀ ds z,au tab xt (n+1) (1000+f) ds=.ok z->ds.length=ps.length:=by
 unfold aX at hd;simp only [Bool.and_eq_true,decide_eq_true_eq] at hd;obtain ⟨⟨⟨⟨h1,h2⟩,h3⟩,h4⟩,h5⟩:=hd;have S:=mK h1;have hn:tab[1000+f]?=none:=List.getElem?_eq_none (by have:=Pr.len;omega);have hf:f < 1000:=by
  have:=Pr.len;have:=(v7.mp ht).1;omega
 refine ⟨F.ok S (fun vs H Q E h=>?_) (fun cdv A outer s H vs Q E hr h=>?_),fun ds z h=>?_⟩
 .obtain ⟨d0,d1,e1,d',e',v0,b,c,Hs,_,h,_⟩:=h;exact h
 .obtain ⟨d0,d1,e1,d',e',v0,b,c,Hs,hvs,hlen,hs,r0,hb,hc',ow,oc,k⟩:=h;rcases hvs with ⟨rfl,hbc,hc⟩ | ⟨rfl,rfl,rfl,hc⟩
  all_goals
   obtain ⟨ρ,x1,y1,hl2,hm,hrun,hg,hg2,ez⟩:=vf hf Pr.no1 hn ht hc;cases ez;unfold zq at hm;rw [<- hl2] at hm hg2;simp only [Bool.and_eq_true,Bool.not_eq_true'] at hm;obtain ⟨⟨m2,m4⟩,m3⟩:=hm
  .cases hO:cZ [] d.body [1,2] with
   | none=>simp only [List.length_cons,List.length_nil,Nat.reduceAdd,Nat.reduceSub,hO] at m3;cases m3
   | some O' =>
    cases O' with
    | none=>simp only [List.length_cons,List.length_nil,Nat.reduceAdd,Nat.reduceSub,hO] at m3;cases m3
    | some O1 =>
     simp only [List.length_cons,List.length_nil,Nat.reduceAdd,Nat.reduceSub,hO] at m3;replace m3:1∈O1/\2∈O1:=by simpa using m3
     have m2':(1:Nat) ∉ mW d.body:=by simpa using m2
     have m4':(2:Nat) ∉ mW d.body:=by simpa using m4
     have C:=yg (CX:=CX0) (outer:=outer) (H:=H) (E:=E) (xe:=fun _ _=>False) Pr IH S hr;have SR:=pR (CX:=CX0) (P:=P) (w:=w) (K:=K) (mg:=mg) (base:=base) (N:=N) (st:=st) (a:=a) (cdv:=cdv) (A:=A) (outer:=outer) (s:=s) (H:=H) (E:=E) (q:=x) (xe:=fun _ _=>False);refine ⟨_,nP (E:=⟨hole (hole H b) c,[(1,b),(2,c)]⟩) (Es:=Hs) (fun m _=>nR m) (fun q hm=>?_) C SR PassesOwn.never h4 hO,?_⟩
     .rcases w6.mp hm with z | z
      .rw [z];exact m2'
      .rw [List.mem_singleton.mp z];exact m4'
     refine ⟨_,Hs,.nx ρ,VP hs r0 hbc hb hc' ow oc (by rw [h3,h2,hlen]),hrun,?_⟩;intro O2 e2 σ' H' Hs' F' _;cases e2;obtain ⟨b',eb,_,b1,ob⟩:=F'.own 1 m3.1 _ (dR hg);have ep:=F'.pin (1,b) vz;rw [eb] at ep;cases ep;obtain ⟨c',ec,_,c1,oc'⟩:=F'.own 2 m3.2 _ (dR hg2);have ep2:=F'.pin (2,c) (vy _ vz);rw [ec] at ep2;cases ep2;exact k H' Hs' F'.grow b1 c1 ob oc'
  .cases hO:cZ [] d.body [1,1] with
   | none=>simp only [List.length_cons,List.length_nil,Nat.reduceAdd,Nat.reduceSub,hO] at m3;cases m3
   | some O' =>
    cases O' with
    | none=>simp only [List.length_cons,List.length_nil,Nat.reduceAdd,Nat.reduceSub,hO] at m3;cases m3
    | some O1 =>
     simp only [List.length_cons,List.length_nil,Nat.reduceAdd,Nat.reduceSub,hO] at m3;replace m3:1∈O1:=by simpa using m3
     have m2':(1:Nat) ∉ mW d.body:=by simpa using m2
     have C:=yg (CX:=CX0) (outer:=outer) (H:=H) (E:=E) (xe:=fun _ _=>False) Pr IH S hr;have SR:=pR (CX:=CX0) (P:=P) (w:=w) (K:=K) (mg:=mg) (base:=base) (N:=N) (st:=st) (a:=a) (cdv:=cdv) (A:=A) (outer:=outer) (s:=s) (H:=H) (E:=E) (q:=x) (xe:=fun _ _=>False);refine ⟨_,nP (E:=⟨hole (hole H b) b,[(1,b),(1,b)]⟩) (Es:=Hs) (fun m _=>nR m) (fun q hm=>?_) C SR PassesOwn.never h4 hO,?_⟩
     .rcases w6.mp hm with z | z
      .rw [z];exact m2'
      .rw [List.mem_singleton.mp z];exact m2'
     refine ⟨_,Hs,.nx ρ,Rr hs r0 hb ow (by rw [h3,h2,hlen]),hrun,?_⟩;intro O2 e2 σ' H' Hs' F' _;cases e2;obtain ⟨b',eb,_,b1,ob⟩:=F'.own 1 m3 _ (dR hg);obtain ⟨c',ec,_,c1,oc'⟩:=F'.own 1 m3 _ (dR hg2);have ep:=F'.pin (1,b) vz;rw [ep] at eb ec;cases eb;cases ec;exact k H' Hs' F'.grow b1 b1 ob oc'
 .obtain ⟨ρ,_,_,hl2,hm,_⟩:=vf hf Pr.no1 hn ht h;rw [hl2,h2]
def Xq (Pr:PrX T tab xt K mg) (IH:CT T tab xt P w K mg base n) (ht:tab[f]?=some d) (F:Fun K x x st a fd) (hd:aX T d N ps st=true) :
  FnOk P w K mg base CX0 (n+1) a fd ps (spF ⟨P,w,K⟩ (au tab xt (n+1) (2000+f)) ps.length)/\∀ ds z,au tab xt (n+1) (2000+f) ds=.ok z->ds.length=ps.length:=by
 unfold aX at hd;simp only [Bool.and_eq_true,decide_eq_true_eq] at hd;obtain ⟨⟨⟨⟨h1,h2⟩,h3⟩,h4⟩,h5⟩:=hd;have S:=mK h1;have hn:tab[2000+f]?=none:=List.getElem?_eq_none (by have:=Pr.len;omega);refine ⟨F.ok S (fun vs H Q E h=>?_) (fun cdv A outer s H vs Q E hr h=>?_),fun ds z h=>?_⟩
 .obtain ⟨ds,Hs,z,h,_⟩:=h;exact h
 .obtain ⟨ds,Hs,z,hlen,hs,r,hc,k⟩:=h;obtain ⟨hnp,hnr,hrun⟩:=u6 Pr.no2 hn ht hc;rw [hnr] at h5;obtain ⟨O',hO⟩:=yA.mp (show (cZ [] d.body []).isSome=true from h5);have C:=yg (CX:=CX0) (outer:=outer) (H:=H) (E:=E) (xe:=fun _ _=>False) Pr IH S hr;have SR:=pR (CX:=CX0) (P:=P) (w:=w) (K:=K) (mg:=mg) (base:=base) (N:=N) (st:=st) (a:=a) (cdv:=cdv) (A:=A) (outer:=outer) (s:=s) (H:=H) (E:=E) (q:=x) (xe:=fun _ _=>False);refine ⟨_,nP (E:=⟨H,[]⟩) (Es:=Hs) (fun m _=>nR m) (fun q hm=>by cases hm) C SR PassesOwn.never h4 hO,?_⟩;refine ⟨_,Hs,.ro z,?_,hrun,fun v H' Hs' g' r' f'=>k v H' Hs' g' r' f'⟩;have hl:=r.length;exact Ip hs r (by rw [h3,h2];omega)
 .obtain ⟨hnp,_⟩:=u6 Pr.no2 hn ht h;rw [hnp,h2]
theorem MJ {p:D->R D}:∀ {ts:List D}{u:Unit},lC p ts=.ok u->yp p ts
 | [],_,_=>trivial
 | t::ts,u,h=>by
  replace h:(match p t with | .ok (.bl true)=>lC p ts | _=>.stuck)=.ok u:=h;split at h
  .rename_i e;exact ⟨e,MJ h⟩
  .cases h
def Xu (Pr:PrX T tab xt K mg) (IH:CT T tab xt P w K mg base n) (hx:xt.lookup f=some b) (ht:tab[f]?=some d) (F:Fun K x x st a fd) (hd:LamD T K mg x b d ps st a fd) :
  FnOk P w K mg base CX0 (n+1) a fd ps (spD ⟨P,w,K⟩ (au tab xt (n+1) f) ps.length)/\(∀ ds z,au tab xt (n+1) f ds=.ok z->ds.length=ps.length)/\∀ ds y,au tab xt (n+1) f ds=.exc y->False:=by
 obtain ⟨q,p1,p2,p3,p4,p5,p6,p7,p8,p9,p10,rfl,hT,hbd⟩:=hd.ex;have ce:∀ ds,au tab xt (n+1) f ds=if ds.length=d.np then rY (Ci (au tab xt n) [.lam q] (st0 d ds)) else .stuck:=fun ds=>by
  show (match xt.lookup f with | some b=>_ | none=>_)=_
  rw [hx];show xO _ _ _ _=_
  rw [ht];rfl
 have two:∀ ds:List D,ds.length=d.np->∃ u v,ds=[u,v]/\st0 d ds=[some u,some v]:=fun ds hl=>by
  rw [hd.np] at hl
  match ds,hl with
  | [u,v],_ =>
   refine ⟨u,v,rfl,?_⟩;unfold st0;rw [hd.nn,hd.np];rfl
 have lam:∀ u v,rY (Ci (au tab xt n) [.lam q] [some u,some v])=(match v with | .lst ts=>(match lC (fun t=>au tab xt n q [u,t]) ts with | .ok _=>.ok .non | _=>.stuck) | _=>.stuck):=fun u v=>by
  show rY (Py (au tab xt n) q [some u,some v])=_
  cases v <;> try rfl
  rename_i ts;show rY ((match lC (fun t=>au tab xt n q [u,t]) ts with | .ok _=>.ok (.nx [some u,some (.lst ts)]) | _=>.stuck))=(match lC (fun t=>au tab xt n q [u,t]) ts with | .ok _=>.ok .non | _=>.stuck)
  cases lC (fun t=>au tab xt n q [u,t]) ts <;> rfl
 have hc:∀ ds z,au tab xt (n+1) f ds=.ok z->∃ u ts,ds=[u,.lst ts]/\z=.non/\yp (fun t=>au tab xt n q [u,t]) ts:=fun ds z h=>by
  rw [ce] at h;obtain ⟨hl,h1⟩:=bW h;obtain ⟨u,v,rfl,e⟩:=two ds hl;rw [e,lam] at h1;cases v <;> try (cases h1;done)
  rename_i ts;replace h1:(match lC (fun t=>au tab xt n q [u,t]) ts with | .ok _=>R.ok D.non | _=>.stuck)=.ok z:=h1;split at h1
  .rename_i e2;cases h1;exact ⟨u,ts,rfl,rfl,MJ e2⟩
  .cases h1
 refine ⟨?_,fun ds z h=>?_,fun ds y h=>?_⟩
 .have FP:FnsP T (au tab xt n) P w K mg base n:=⟨Pr.blt,Pr.gl,fun f' x' hF'=>by
   obtain ⟨a',fd',ps',q⟩:=IH f' x' hF';exact ⟨a',fd',ps',q⟩⟩
  have hlam:=hd.lam;have hnm:=hd.nm;have hpar:=hd.par;subst hnm hpar;obtain ⟨oc,od,kV,doc,pm,an,cdv,ct,osl,rfl,lk,hcd⟩:=F.ex;rw [hbd,hd.sc] at lk ⊢;exact WQ FP hT hc lk hcd hlam
 .obtain ⟨u,ts,rfl,_⟩:=hc ds z h;rw [hd.par];rfl
 .rw [ce] at h;by_cases hl:ds.length=d.np
  .rw [if_pos hl] at h;obtain ⟨u,v,rfl,e⟩:=two ds hl;rw [e,lam] at h;cases v <;> try (cases h;done)
   rename_i ts;replace h:(match lC (fun t=>au tab xt n q [u,t]) ts with | .ok _=>R.ok D.non | _=>.stuck)=.exc y:=h;split at h <;> cases h
  .rw [if_neg hl] at h;cases h
end
theorem tD {T:Tx}{tab:List Def}{xt:rQ}{P:Program}{w:World}{K:zt}{mg:w8} (Pr:PrX T tab xt K mg) (base:Heap):∀ (n:Nat),CT T tab xt P w K mg base n
 | 0,f,x,hF=>by
  obtain ⟨d,N,ps,st,a,fd,ht,F,hm,hb,hd⟩:=Pr.fn f x hF;refine ⟨a,fd,ps,⟨fun vs H Q E h=>?_,fun A outer s H args us vs Q E hr he hbt hv h=>?_⟩,hm,F.kp,hb,fun ds d h=>?_,⟨fun vs H Q E h=>?_,fun A outer s H args us vs Q E hr he hbt hv h=>?_⟩,fun ds d h=>?_,⟨fun vs H Q E h=>?_,fun A outer s H args us vs Q E hr he hbt hv h=>?_⟩,fun ds d h=>?_⟩
  .obtain ⟨ds,Hs,d,_,_,_,h,_⟩:=h;cases h
  .obtain ⟨ds,Hs,d,_,_,_,h,_⟩:=h;cases h
  .cases h
  .obtain ⟨_,_,_,_,_,_,_,_,_,⟨_,_,h⟩ | ⟨_,_,_,h⟩,_⟩:=h <;> cases h
  .obtain ⟨_,_,_,_,_,_,_,_,_,⟨_,_,h⟩ | ⟨_,_,_,h⟩,_⟩:=h <;> cases h
  .cases h
  .obtain ⟨ds,Hs,d,_,_,_,h,_⟩:=h;cases h
  .obtain ⟨ds,Hs,d,_,_,_,h,_⟩:=h;cases h
  .cases h
 | n+1,f,x,hF=>by
  obtain ⟨d,N,ps,st,a,fd,ht,F,hm,hb,hd⟩:=Pr.fn f x hF;cases hx:xt.lookup f with
  | none =>
   rw [hx] at hd;obtain ⟨q1,q2⟩:=JB Pr (tD Pr base n) hx ht F hd;obtain ⟨q3,q4⟩:=YG Pr (tD Pr base n) ht F hd;obtain ⟨q5,q6⟩:=Xq Pr (tD Pr base n) ht F hd;exact ⟨a,fd,ps,q1,hm,F.kp,hb,q2,q3,q4,q5,q6⟩
  | some b =>
   rw [hx] at hd;have hm6:zq d=false:=hd.nomut;have hn7:d.nrm=false:=hd.nonrm;have hn1:tab[1000+f]?=none:=List.getElem?_eq_none (by have:=Pr.len;omega);have hn2:tab[2000+f]?=none:=List.getElem?_eq_none (by have:=Pr.len;omega);have hf:f < 1000:=Pr.xlen f b hx;have no1:∀ ds z,au tab xt (n+1) (1000+f) ds=.ok z->False:=fun ds z h=>by
    obtain ⟨_,_,_,_,hmm,_⟩:=vf hf Pr.no1 hn1 ht h;rw [hm6] at hmm;cases hmm
   have no2:∀ ds z,au tab xt (n+1) (2000+f) ds=.ok z->False:=fun ds z h=>by
    obtain ⟨_,hmm,_⟩:=u6 Pr.no2 hn2 ht h;rw [hn7] at hmm;cases hmm
   obtain ⟨q1,q2,q3⟩:=Xu Pr (tD Pr base n) hx ht F hd;refine ⟨a,fd,ps,q1,hm,F.kp,hb,q2,⟨fun vs H Q E h=>?_,fun A outer s H args us vs Q E hr he hbt hv h=>?_⟩,fun ds z h=>(no1 ds z h).elim,⟨fun vs H Q E h=>?_,fun A outer s H args us vs Q E hr he hbt hv h=>?_⟩,fun ds z h=>(no2 ds z h).elim⟩
   .obtain ⟨_,_,_,_,_,_,_,_,_,⟨_,_,h⟩ | ⟨_,_,_,h⟩,_⟩:=h <;> exact (no1 _ _ h).elim
   .obtain ⟨_,_,_,_,_,_,_,_,_,⟨_,_,h⟩ | ⟨_,_,_,h⟩,_⟩:=h <;> exact (no1 _ _ h).elim
   .obtain ⟨ds,Hs,d,_,_,_,h,_⟩:=h;exact (no2 _ _ h).elim
   .obtain ⟨ds,Hs,d,_,_,_,h,_⟩:=h;exact (no2 _ _ h).elim
variable {xt:rQ}
def abS {l:PySem.W.OpenLaw}{q:Program}{loose:z0}{XP:(w8)->Heap->Prop}{YP:World->Heap->Prop}{dr:DefRec}{K:Params->zt}{T:Tx}{tab:List Def}{n fl:Nat}{par:Str}{N:z0}{st:Stmt}{d:Def}
  (hn:l.most=some 63) (hdf:dr.params.defaults=[]) (hr:Room (n+1) callerA) (ht:tab[fl]?=some d) (hx:xt.lookup fl=none) (hd:aX T d N [par] st=true)
  (hY:∀ (w:World) (h:Heap),YP w h->(K w.params).In h) (hKc:∀ (p:Params) (b:Addr) (o:Obj),(K p).lookup b=some o->Pn o) (hT:∀ (w:World) (s₀:Shared) (mg mb:w8) (h:Heap),PySem.W.Ground q loose [] XP w s₀ mg mb h->YP w h->∃ tP,Ce mg h tP)
  (F:∀ (w:World) (mg:w8) (h:Heap),(K w.params).In h->h.Ns mainGlobals mg->PrX T tab xt (K w.params) mg)
  (FL:∀ (w:World),FF (K w.params) dr.name st)
  (hb:∀ (kV doc pm:Value) (an:vk) (cdv ct u:Value),bindArgs (PySem.W.fnOf dr.name dr.name (eU st) (dF st) (bf st) .none kV doc pm an cdv ct) ⟨[u],[]⟩=pure [(par,u)])
  (law:∀ ns:List Int,ns.length<=63->au tab xt (n+1) fl [.lst (ns.map D.int)]=.ok (.bl true)) :
  PySem.W.WalkO q loose XP YP l.row.toRowW dr [] (fun f vs=>PySem.call f vs):=by
 refine L2.YT (n:=63) (k:=n+1) (x:=par) (CX:=fun _=>CX0) (sp:=fun w=>spD ⟨l.prog,w,K w.params⟩ (au tab xt (n+1) fl) 1) hn (by decide) hdf hr hY hKc hT (fun w mg fa h KX G hmg=>?_) (fun w H a ns hl hO hS=>?_) (fun _ _ _ _ _ z=>z)
 .obtain ⟨a,fd,ha,FF⟩:=(FL w).ex;have e:=hmg.symm.trans (PySem.W.mg_of KX G ha);cases e;refine ⟨fd,fun s u=>?_,fun base kb nb=>(JB (F w mg h KX G) (tD (F w mg h KX G) base n) hx ht FF hd).1⟩;obtain ⟨oc,od,kV,doc,pm,an,cdv,ct,osl,rfl,lk,hcd⟩:=FF.ex;exact .of_eq (hb kV doc pm an cdv ct u)
 .exact ⟨[.lst (ns.map D.int)],H,.bl true,rfl,Same.refl _,Rps.one (bT.mpr ⟨a,_,rfl,hS,Ec ns⟩),law ns hl,fun v H' Hs' g' r=>nQ.mp r⟩
end Mi
set_option maxHeartbeats 1000000
namespace Mi
open PySem L2
open PyProof.Rows hiding St
noncomputable def xU (K:zt):Value->Bool
 | .ref cc=>(match K.lookup cc with
  | some ⟨.type t,_,.fields vs,_⟩=>decide (t="code") && (match (vs[11]?:Option Value) with
   | some (.ref p)=>(match vs.getD 18 .none with
    | .str _ _=>(match vs.getD 7 .none with
     | .int _ _=>(match vs.getD 9 .none with
      | .bool _=>(match vs.getD 10 .none with
       | .int _ _=>decide (cc≠p)
       | _=>false)
      | _=>false)
     | _=>false)
    | _=>false)
   | _=>false)
  | _=>false)
 | _=>false
variable {K:zt}
def Pu {v:Value} (h:xU K v=true):∃ cc Pt oc vs file tf flags tg inF text tt,v=.ref cc /\ K.lookup cc=some oc /\ oc.cls=.type "code" /\ oc.data=.fields vs /\ vs[11]?=some (.ref Pt) /\ vs.getD 11 .none=.ref Pt /\ vs.getD 18 .none=.str file tf /\ vs.getD 7 .none=.int flags tg /\ vs.getD 9 .none=.bool inF /\ vs.getD 10 .none=.int text tt /\ cc ≠ Pt:=by
 unfold xU at h;split at h <;> try (cases h;done)
 rename_i cc;split at h <;> try (cases h;done)
 rename_i t dd vs sl e;rw [Bool.and_eq_true] at h;obtain ⟨h0,h⟩:=h;cases of_decide_eq_true h0;split at h <;> try (cases h;done)
 rename_i p e11;split at h <;> try (cases h;done)
 rename_i f18 t18 e18;split at h <;> try (cases h;done)
 rename_i f7 t7 e7;split at h <;> try (cases h;done)
 rename_i f9 e9;split at h <;> try (cases h;done)
 rename_i f10 t10 e10;refine ⟨cc,p,_,vs,f18,t18,f7,t7,f9,f10,t10,rfl,e,rfl,rfl,e11,?_,e18,e7,e9,e10,of_decide_eq_true h⟩;simp [Array.getD_eq_getD_getElem?,e11]
structure FL (K:zt) (x:Str) (st:Stmt):Prop where
 ex:∃ a fd,PySem.W.nsIn K mainGlobals x=some (some (.ref a))/\Fun K x x st a fd/\xU K fd.code=true
variable {st:Stmt}
theorem acn {x:Str}{f:Addr}{oc:Value}{od an:vk}{osl:vn}{kV doc pm cdv ct:Value} (a:PySem.W.nsIn K mainGlobals x=some (some (.ref f)))
  (l:K.lookup f=some ⟨oc,od,.func (PySem.W.fnOf x x (eU st) (dF st) (bf st) .none kV doc pm an cdv ct),osl⟩) (c:PySem.W.codeIn K cdv x=true) (k:PySem.W.keepIn K (.ref f)=true) (h:xU K cdv=true):FL K x st :=
 ⟨⟨f,_,a,Ry l c k,h⟩⟩
variable {h:Heap}
def aa0 {T:Tx}{tab:List Def}{xt:rQ}{mg:w8}{stc:Stmt}{d:Def}{i q:Nat}{p1 p2 p3 p4 p5 p6 p7 p8 p9 p10:Pos}{a1 a2 a3 a4 a5 a6:Pos}{x1 c1:Option Expr}{b1 b2 b3 b4 b5 b6 b7 b8 b9 b10 b11 b12 b13:Pos}{j:Nat}{r2:vi}
  (X:K.In h) (G:h.Ns mainGlobals mg) (fl:FL K (Str.ofString "check_tests") st) (fc:FF K (Str.ofString "check_list") stc) (hx:xt.lookup i=some [.lam q]) (ht:tab[i]?=some d) (hq:T.F[q]?=some (Str.ofString "is_test"))
  (hb:dF st=Bl p1 p2 p3 p4 p5 p6 p7 p8 p9 p10) (hs:bf st=gO) (hbc:dF stc=vR a1 a2 a3 a4 a5 a6 x1 c1 b1 b2 b3 b4 b5 b6 b7 b8 b9 b10 b11 b12 b13 j r2) (hsc:bf stc=cR) (hnp:d.np=2) (hnn:d.nn=2) (hmu:zq d=false) (hnr:d.nrm=false)
  (hb1:∀ (kV doc pm:Value) (an:vk) (cdv ct:Value) (us:zw),us.length=([("book":Str),"tests"]:z0).length -> bindArgs (PySem.W.fnOf (Str.ofString "check_tests") (Str.ofString "check_tests") (eU st) (dF st) (bf st) .none kV doc pm an cdv ct) ⟨us,[]⟩=pure (([("book":Str),"tests"]:z0).zip us))
  (hb2:∀ (kV doc pm:Value) (an:vk) (cdv ct:Value) (us:zw),us.length=([("things":Str),"is_right"]:z0).length -> bindArgs (PySem.W.fnOf (Str.ofString "check_list") (Str.ofString "check_list") (eU stc) (dF stc) (bf stc) .none kV doc pm an cdv ct) ⟨us,[]⟩=pure (([("things":Str),"is_right"]:z0).zip us)) :
  ∃ d N ps st a fd,tab[i]?=some d /\ Fun K (Str.ofString "check_tests") (Str.ofString "check_tests") st a fd /\ mg (Str.ofString "check_tests")=some (.ref a) /\ L2.Binds K fd ps [] /\ (match xt.lookup i with | none=>aX T d N ps st=true | some b=>LamD T K mg (Str.ofString "check_tests") b d ps st a fd):=by
 obtain ⟨a,fd,e,F,hco⟩:=fl.ex;obtain ⟨ac,fdc,ec,FC⟩:=fc.ex;have me:=PySem.W.mg_of X G e;refine ⟨d,[],[("book":Str),"tests"],st,a,fd,ht,F,me,F.binds hb1,?_⟩
 rw [hx];refine ⟨⟨q,p1,p2,p3,p4,p5,p6,p7,p8,p9,p10,rfl,hq,hb⟩,hs,rfl,rfl,hnp,hnn,hmu,hnr,?_,Pu hco,me⟩;have bc:=FC.binds hb2;have kp:=FC.kp;obtain ⟨oc,od,kV,doc,pm,an,cdv,ct,osl,rfl,lk,hcd⟩:=FC.ex;rw [hbc,hsc] at lk bc;exact ⟨ac,eU stc,.none,kV,doc,pm,cdv,ct,oc,an,od,osl,a1,a2,a3,a4,a5,a6,x1,c1,b1,b2,b3,b4,b5,b6,b7,b8,b9,b10,b11,b12,b13,j,r2,lk,hcd,PySem.W.mg_of X G ec,kp,bc⟩
theorem R5:∀ {l:rQ}{f:Nat}{b:List XS},l.lookup f=some b->(f,b)∈l
 | [],_,_,h=>by cases h
 | (k,v)::l,f,b,h=>by
  rw [List.lookup_cons] at h;split at h
  .rename_i e;cases h;rw [beq_iff_eq.mp e];exact vz
  .exact vy _ (R5 h)
theorem Mz:∀ {l:w4}{f:Addr}{b:Obj},l.lookup f=some b->(f,b)∈l
 | [],_,_,h=>by cases h
 | (k,v)::l,f,b,h=>by
  rw [List.lookup_cons] at h;split at h
  .rename_i e;cases h;rw [beq_iff_eq.mp e];exact vz
  .exact vy _ (Mz h)
noncomputable def Uz (o:Obj):Bool:=match o.data,o.cls with
 | .fields _,.none=>false
 | _,_=>true
theorem acv (h:(K.all fun p=>Uz p.2)=true) (b:Addr) (o:Obj) (e:K.lookup b=some o):Pn o:=fun vs z1 z2=>by
 have:=yB.mp h (b,o) (Mz e);unfold Uz at this;rw [z1,z2] at this;cases this
def tab_of {q:Program}{loose:z0}{XP:(Str -> Option Value) -> Heap -> Prop}{w:World}{s₀:Shared}{mg mb:Str -> Option Value} (hr:((recsOf q).any fun d=>decide (d.name=Str.ofString "check_tests"))=true) (G:PySem.W.Ground q loose [] XP w s₀ mg mb h):∃ tP,Ce mg h tP:=by
 obtain ⟨d,hd,e⟩:=List.any_eq_true.mp hr;obtain ⟨a,o,fd,c,P,t1,t2,t3,t4,_,t6⟩:=G.T.tab d hd;rw [of_decide_eq_true e] at t1;exact ⟨some P,a,o,fd,c,t1,t2,t3,t4,t6⟩
end Mi
namespace E07
open PySem L2 Mi
noncomputable def T:Tx:=⟨[("is_whole":Str),("is_tuple":Str),("are_levels":Str),("is_setting":Str),("is_meeting":Str),("is_book":Str),("checked":Str),("meets":Str),("meets_any":Str),("all_rows":Str),("all_tests":Str),("is_row":Str),("is_test":Str),("check_tests":Str),("most_strength":Str),("check_book_and_strength":Str),("is_behind":Str),("meetings_among":Str),("meetings_of":Str),("met_by":Str),("check_all":Str),("times_met":Str),("meet_without":Str),("count_less":Str),("trimmed":Str),("places_by_meeting":Str),("take_out":Str),("in_order_behind":Str),("in_order":Str),("built":Str),("_law_cell":Str),("_law_mix":Str),("_law_book":Str),("_law_rows":Str),("_law_meets":Str),("_law_tests":Str),("_law_meetings":Str),("_law_possible":Str),("_law_left":Str),("_law_strength":Str),("law":Str)],[("MOST_THINGS",.int 6),("MOST_SETTINGS",.int 4),("MOST_ROWS",.int 400),("MOST_BANS",.int 12),("MOST_IN_MEETING",.int 3)]⟩
noncomputable def nF:Def:=⟨3,3,[.ret (.and [.isin (.var 0) .int,.not (.isin (.var 0) .bool),.chain .le .le (.var 1) (.var 0) (.var 2)])],true⟩
noncomputable def nY:Def:=⟨3,3,[.ret (.and [.isin (.var 0) .tuple,.chain .le .le (.var 1) (.blt .len [.var 0]) (.var 2)])],true⟩
noncomputable def jO:Def:=⟨1,3,[.ifs (.not (.call 1 [.var 0,.con (.int 1),.con (.int 6)])) [.ret (.con (.bl false))] [],.set (.one 1) (.con (.int 1)),.forr (.one 2) .seq [.var 0] [.ifs (.not (.call 0 [.var 2,.con (.int 1),.con (.int 4)])) [.ret (.con (.bl false))] [],.set (.one 1) (.bin .mul (.var 1) (.var 2))],.ret (.cmp .le (.var 1) (.con (.int 400)))],true⟩
noncomputable def jT:Def:=⟨2,2,[.ifs (.or [.not (.call 1 [.var 1,.con (.int 2),.con (.int 2)]),.not (.call 0 [.ix (.var 1) (.con (.int 0)),.con (.int 0),.bin .sub (.blt .len [.var 0]) (.con (.int 1))])]) [.ret (.con (.bl false))] [],.ret (.call 0 [.ix (.var 1) (.con (.int 1)),.con (.int 0),.bin .sub (.ix (.var 0) (.ix (.var 1) (.con (.int 0)))) (.con (.int 1))])],true⟩
noncomputable def jR:Def:=⟨2,4,[.ifs (.not (.call 1 [.var 1,.con (.int 1),.con (.int 3)])) [.ret (.con (.bl false))] [],.set (.one 2) (.con (.int 0)),.forr (.one 3) .seq [.var 1] [.ifs (.or [.not (.call 3 [.var 0,.var 3]),.cmp .lt (.ix (.var 3) (.con (.int 0))) (.var 2)]) [.ret (.con (.bl false))] [],.set (.one 2) (.bin .add (.ix (.var 3) (.con (.int 0))) (.con (.int 1)))],.ret (.con (.bl true))],true⟩
noncomputable def pU:Def:=⟨1,2,[.ifs (.or [.not (.call 1 [.var 0,.con (.int 2),.con (.int 2)]),.not (.call 2 [.ix (.var 0) (.con (.int 0))]),.not (.call 1 [.ix (.var 0) (.con (.int 1)),.con (.int 0),.con (.int 12)])]) [.ret (.con (.bl false))] [],.ret (.blt .all [.comp (.call 4 [.ix (.var 0) (.con (.int 0)),.var 1]) (.one 1) .seq [.ix (.var 0) (.con (.int 1))] false (.con (.bl true)) [true,false]])],true⟩
noncomputable def pQ:Def:=⟨1,1,[.ifs (.not (.call 5 [.var 0])) [.rai] [],.ret (.var 0)],true⟩
noncomputable def xK:Def:=⟨2,3,[.ret (.blt .all [.comp (.cmp .eq (.ix (.var 0) (.ix (.var 2) (.con (.int 0)))) (.ix (.var 2) (.con (.int 1)))) (.one 2) .seq [.var 1] false (.con (.bl true)) [true,false,false]])],true⟩
noncomputable def mC:Def:=⟨2,3,[.ret (.blt .any [.comp (.call 7 [.var 0,.var 2]) (.one 2) .seq [.var 1] false (.con (.bl true)) [true,false,false]])],true⟩
noncomputable def oE:Def:=⟨1,6,[.set (.one 1) (.lst [.tup []]),.forr (.one 2) .seq [.var 0] [.set (.one 3) (.lst []),.forr (.one 4) .seq [.var 1] [.ext 3 (.comp (.bin .add (.var 4) (.tup [.var 5])) (.one 5) .rng [.var 2] false (.con (.bl true)) [false,false,false,false,true,false])],.set (.one 1) (.var 3)],.ret (.var 1)],true⟩
noncomputable def mz:Def:=⟨1,2,[.expr (.call 6 [.var 0]),.ret (.comp (.var 1) (.one 1) .seq [.call 9 [.ix (.var 0) (.con (.int 0))]] true (.not (.call 8 [.var 1,.ix (.var 0) (.con (.int 1))])) [true,false])],true⟩
noncomputable def uf:Def:=⟨2,4,[.ifs (.not (.call 1 [.var 1,.blt .len [.var 0],.blt .len [.var 0]])) [.ret (.con (.bl false))] [],.ret (.blt .all [.comp (.call 0 [.var 2,.con (.int 0),.bin .sub (.var 3) (.con (.int 1))]) (.two 2 3) .zip [.var 1,.var 0] false (.con (.bl true)) [false,false,false,false]])],true⟩
noncomputable def rm:Def:=⟨2,2,[.ret (.and [.call 11 [.ix (.var 0) (.con (.int 0)),.var 1],.not (.call 8 [.var 1,.ix (.var 0) (.con (.int 1))])])],true⟩
noncomputable def nq:Def:=⟨2,2,[.rai],false⟩
noncomputable def uP:List XS:=[.lam 12]
noncomputable def iM:Def:=⟨1,1,[.ret (.blt .min2 [.con (.int 3),.blt .len [.ix (.var 0) (.con (.int 0))]])],true⟩
noncomputable def cX:Def:=⟨2,2,[.expr (.call 6 [.var 0]),.ifs (.not (.call 0 [.var 1,.con (.int 1),.call 14 [.var 0]])) [.rai] []],true⟩
noncomputable def lX:Def:=⟨2,2,[.ret (.or [.cmp .eq (.blt .len [.var 1]) (.con (.int 0)),.cmp .lt (.ix (.ix (.var 1) (.neg (.con (.int 1)))) (.con (.int 0))) (.ix (.var 0) (.con (.int 0)))])],true⟩
noncomputable def gU:Def:=⟨2,7,[.set (.one 2) (.lst [.tup []]),.forr (.one 3) .rng [.var 1] [.set (.one 4) (.lst []),.forr (.one 5) .seq [.var 2] [.ext 4 (.comp (.bin .add (.var 5) (.tup [.var 6])) (.one 6) .seq [.var 0] true (.call 16 [.var 6,.var 5]) [false,false,false,false,false,true,false])],.set (.one 2) (.var 4)],.ret (.var 2)],true⟩
noncomputable def jA:Def:=⟨2,2,[.ret (.call 17 [.blt .listEnum [.var 0],.var 1])],true⟩
noncomputable def uG:Def:=⟨2,5,[.set (.one 2) .dct0,.forr (.one 3) .seq [.var 0] [.forr (.one 4) .seq [.call 18 [.var 3,.var 1]] [.lset 2 (.var 4) (.con (.bl true))]],.ret (.var 2)],true⟩
noncomputable def lN:Def:=⟨3,3,[.expr (.call 15 [.var 0,.var 1]),.expr (.call 13 [.var 0,.var 2])],true⟩
noncomputable def gC:Def:=⟨2,5,[.set (.one 2) .dct0,.forr (.one 3) .seq [.var 0] [.forr (.one 4) .seq [.call 18 [.var 3,.var 1]] [.lset 2 (.var 4) (.bin .add (.dget (.var 2) (.var 4) (.con (.int 0))) (.con (.int 1)))]],.retO 2],true⟩
noncomputable def jh:Def:=⟨2,3,[.ret (.blt .all [.comp (.cmp .gt (.ix (.var 1) (.var 2)) (.con (.int 1))) (.one 2) .seq [.var 0] false (.con (.bl true)) [false,true,false]])],true⟩
noncomputable def jW:Def:=⟨2,3,[.forr (.one 2) .seq [.var 0] [.lset 1 (.var 2) (.bin .sub (.ix (.var 1) (.var 2)) (.con (.int 1)))]],false⟩
noncomputable def pN:Def:=⟨3,7,[.expr (.call 20 [.var 0,.var 1,.var 2]),.setF 3 21 [.var 2,.var 1],.set (.one 4) (.lst []),.forr (.one 5) .rev [.var 2] [.set (.one 6) (.call 18 [.var 5,.var 1]),.ifs (.call 22 [.var 6,.var 3]) [.call2 3 3 23 (.var 6)] [.app 4 (.var 5)]],.ret (.blt .listRev [.var 4])],true⟩
noncomputable def fL:Def:=⟨2,6,[.set (.one 2) .dct0,.grp 2 (.forr (.two 3 4) .enum [.var 0] (.forr (.one 5) .seq [.call 18 [.var 4,.var 1]] (.sda (.var 5) (.var 3)))),.retO 2],true⟩
noncomputable def nD:Def:=⟨3,6,[.forr (.one 3) .seq [.var 0] [.dpop 4 1 (.var 3),.forr (.one 5) .seq [.var 4] [.lset 2 (.var 5) (.bin .sub (.ix (.var 2) (.var 5)) (.con (.int 1)))]]],false⟩
noncomputable def gG:Def:=⟨3,9,[.setF 3 25 [.var 1,.var 2],.setC 4 (.comp (.blt .len [.call 18 [.var 8,.var 2]]) (.one 8) .seq [.var 1] false (.con (.bl true)) [false,false,true,false,false,false,false,false,false]),.call2 3 4 26 (.blt .list [.call 19 [.var 0,.var 2]]),.set (.one 5) (.lst []),.whl (.cmp .gt (.maxd (.var 4) 0) (.con (.int 0))) [.setB (.one 7) (.idx 4 (.blt .maxl [.var 4])),.app 5 (.var 7),.call2 3 4 26 (.call 18 [.ix (.var 1) (.var 7),.var 2])],.setC 6 (.comp (.var 7) (.one 7) .rng [.blt .len [.var 1]] true (.cmp .notin (.var 7) (.var 5)) [false,false,false,false,false,true,false,false,false]),.ret (.comp (.ix (.var 1) (.var 7)) (.one 7) .seq [.bin .add (.var 5) (.var 6)] false (.con (.bl true)) [false,true,false,false,false,false,false,false,false])],true⟩
noncomputable def n8:Def:=⟨3,3,[.expr (.call 20 [.var 0,.var 1,.var 2]),.ret (.call 27 [.lst [],.var 2,.var 1])],true⟩
noncomputable def xJ:Def:=⟨2,2,[.expr (.call 15 [.var 0,.var 1]),.ret (.call 24 [.var 0,.var 1,.call 28 [.var 0,.var 1,.call 10 [.var 0]]])],true⟩
noncomputable def lV:Def:=⟨2,2,[.ifs (.cmp .lt (.var 1) (.blt .len [.var 0])) [.ret (.ix (.var 0) (.var 1))] [],.ret (.con (.int 0))],true⟩
noncomputable def nC:Def:=⟨3,3,[.ret (.bin .mod (.bin .mod (.bin .mul (.var 0) (.con (.int 48271))) (.var 1)) (.var 2))],true⟩
noncomputable def lU:Def:=⟨2,11,[.set (.one 2) (.call 30 [.var 0,.var 1]),.set (.one 3) (.bin .add (.con (.int 1)) (.call 31 [.var 2,.con (.int 9973),.con (.int 4)])),.set (.one 4) (.lst []),.forr (.one 5) .rng [.var 3] [.set (.one 7) (.con (.int 2)),.ifs (.or [.cmp .lt (.var 5) (.con (.int 2)),.cmp .gt (.blt .len [.var 0]) (.con (.int 63))]) [.set (.one 7) (.con (.int 3))] [],.app 4 (.bin .add (.con (.int 1)) (.call 31 [.bin .add (.bin .add (.call 30 [.var 0,.bin .add (.var 1) (.con (.int 1))]) (.bin .mul (.bin .mul (.con (.int 31)) (.var 5)) (.var 5))) (.var 5),.con (.int 9967),.var 7]))],.set (.one 6) (.lst []),.forr (.one 5) .rng [.call 31 [.var 2,.con (.int 9949),.con (.int 4)]] [.set (.one 8) (.bin .add (.bin .add (.call 30 [.var 0,.bin .add (.var 1) (.con (.int 2))]) (.bin .mul (.bin .mul (.con (.int 53)) (.var 5)) (.var 5))) (.bin .mul (.con (.int 7)) (.var 5))),.set (.one 9) (.slc (.comp (.var 10) (.one 10) .rng [.var 3] true (.cmp .eq (.call 31 [.bin .add (.var 8) (.bin .mul (.con (.int 17)) (.var 10)),.con (.int 9941),.con (.int 2)]) (.con (.int 1))) [false,false,false,false,false,false,false,false,true,false,false]) (.con .non) (.con (.int 3))),.ifs (.cmp .eq (.var 9) (.lst [])) [.set (.one 9) (.lst [.call 31 [.var 8,.con (.int 9931),.var 3]])] [],.app 6 (.blt .tuple [.comp (.tup [.var 10,.call 31 [.bin .add (.var 8) (.bin .mul (.con (.int 5)) (.var 10)),.con (.int 9929),.ix (.var 4) (.var 10)]]) (.one 10) .seq [.var 9] false (.con (.bl true)) [false,false,false,false,true,false,false,false,true,false,false]])],.ret (.tup [.blt .tuple [.var 4],.blt .tuple [.var 6]])],true⟩
noncomputable def lZ:Def:=⟨1,6,[.set (.one 1) (.lst [.tup []]),.forr (.one 2) .seq [.var 0] [.set (.one 3) (.lst []),.forr (.one 4) .seq [.var 1] [.set (.one 3) (.bin .add (.var 3) (.comp (.bin .add (.var 4) (.tup [.var 5])) (.one 5) .rng [.var 2] false (.con (.bl true)) [false,false,false,false,true,false]))],.set (.one 1) (.var 3)],.ret (.var 1)],true⟩
noncomputable def kE:Def:=⟨2,3,[.ret (.cmp .eq (.comp (.var 2) (.one 2) .seq [.var 1] true (.cmp .ne (.ix (.var 0) (.ix (.var 2) (.con (.int 0)))) (.ix (.var 2) (.con (.int 1)))) [true,false,false]) (.lst []))],true⟩
noncomputable def kh:Def:=⟨1,4,[.set (.one 1) (.lst []),.forr (.one 2) .seq [.call 33 [.ix (.var 0) (.con (.int 0))]] [.ifs (.cmp .eq (.comp (.var 3) (.one 3) .seq [.ix (.var 0) (.con (.int 1))] true (.call 34 [.var 2,.var 3]) [false,false,true,false]) (.lst [])) [.app 1 (.var 2)] []],.ret (.var 1)],true⟩
noncomputable def iQ:Def:=⟨2,8,[.set (.one 2) .dct0,.forr (.one 3) .seq [.call 33 [.ix (.var 0) (.con (.int 0))]] [.set (.one 4) (.lst [.tup []]),.forr (.two 5 6) .enum [.var 3] [.set (.one 4) (.bin .add (.var 4) (.comp (.bin .add (.var 7) (.tup [.tup [.var 5,.var 6]])) (.one 7) .seq [.var 4] false (.con (.bl true)) [false,false,false,false,false,true,true,false]))],.forr (.one 7) .seq [.var 4] [.ifs (.cmp .eq (.blt .len [.var 7]) (.var 1)) [.lset 2 (.var 7) (.con (.bl true))] []]],.ret (.blt .sorted [.var 2])],true⟩
noncomputable def iR:Def:=⟨2,6,[.set (.one 2) (.call 35 [.var 0]),.set (.one 3) (.lst []),.forr (.one 4) .seq [.call 36 [.var 0,.var 1]] [.ifs (.cmp .ne (.comp (.var 5) (.one 5) .seq [.var 2] true (.call 34 [.var 5,.var 4]) [false,false,false,false,true,false]) (.lst [])) [.app 3 (.var 4)] []],.ret (.var 3)],true⟩
noncomputable def lO:Def:=⟨2,5,[.set (.one 2) (.lst []),.forr (.one 3) .seq [.var 0] [.ifs (.cmp .eq (.comp (.var 4) (.one 4) .seq [.var 1] true (.call 34 [.var 4,.var 3]) [false,false,false,true,false]) (.lst [])) [.app 2 (.var 3)] []],.ret (.var 2)],true⟩
noncomputable def iV:Def:=⟨2,2,[.ret (.blt .min2 [.ix (.lst [.con (.int 2),.con (.int 2),.con (.int 1),.con (.int 3)]) (.bin .mod (.var 1) (.con (.int 4))),.blt .len [.ix (.var 0) (.con (.int 0))]])],true⟩
noncomputable def Gx:Def:=⟨1,12,[.set (.one 1) (.call 32 [.var 0,.con (.int 1)]),.set (.one 2) (.call 39 [.var 1,.call 30 [.var 0,.con (.int 0)]]),.set (.one 3) (.call 29 [.var 1,.var 2]),.set (.one 4) (.call 35 [.var 1]),.set (.one 5) (.call 37 [.var 1,.var 2]),.ifs (.or [.not (.isin (.var 3) .list),.comp (.var 10) (.one 10) .seq [.var 3] true (.cmp .notin (.var 10) (.var 4)) [false,false,false,false,true,false,false,false,false,false,false,false],.cmp .ne (.call 38 [.var 5,.var 3]) (.lst [])]) [.ret (.con (.bl false))] [],.forr (.one 6) .rng [.blt .len [.var 3]] [.ifs (.cmp .eq (.call 38 [.var 5,.bin .add (.slc (.var 3) (.con .non) (.var 6)) (.slc (.var 3) (.bin .add (.var 6) (.con (.int 1))) (.con .non))]) (.lst [])) [.ret (.con (.bl false))] []],.set (.one 7) .dct0,.forr (.one 8) .seq [.var 5] [.set (.one 9) (.blt .tuple [.comp (.ix (.var 11) (.con (.int 0))) (.one 11) .seq [.var 8] false (.con (.bl true)) [false,false,false,false,false,false,false,false,false,false,false,false]]),.lset 7 (.var 9) (.bin .add (.dget (.var 7) (.var 9) (.con (.int 0))) (.con (.int 1)))],.ret (.and [.cmp .ge (.blt .len [.var 3]) (.maxd (.comp (.ix (.var 7) (.var 9)) (.one 9) .seq [.var 7] false (.con (.bl true)) [false,false,false,false,false,false,false,true,false,false,false,false]) 0),.cmp .eq (.cmp .eq (.var 3) (.lst [])) (.cmp .eq (.var 5) (.lst []))])],true⟩
def tab:List Def:=[nF,nY,jO,jT,jR,pU,pQ,xK,mC,oE,mz,uf,rm,nq,iM,cX,lX,gU,jA,uG,lN,gC,jh,jW,pN,fL,nD,gG,n8,xJ,lV,nC,lU,lZ,kE,kh,iQ,iR,lO,iV,Gx]
def aG:rQ:=[(13,uP)]
variable {n f:Nat}{d:Def}{args:List D}
def bG (ht:tab[f]?=some d) (hl:args.length=d.np) (hn:d.nrm=true:=by rfl) (hx:aG.lookup f=none:=by rfl):au tab aG (n+1) f args=vJ (cj (au tab aG n) d.body (args.map some++List.replicate (d.nn - d.np) none)):=Ws hx ht hl hn
theorem aal {b:List XS} (ht:tab[f]?=some d) (hx:aG.lookup f=some b) (hl:args.length=d.np):au tab aG (n+1) f args=rY (Ci (au tab aG n) b (args.map some++List.replicate (d.nn - d.np) none)):=QL hx ht hl
theorem Nf:tab[0]?=some nF:=rfl
def Kv:aX T nF ["thing","least","most"] ["thing","least","most"] (top 11)=true:=by decide +kernel
theorem Nk:tab[1]?=some nY:=rfl
def Ky:aX T nY ["thing","least","most"] ["thing","least","most"] (top 12)=true:=by decide +kernel
theorem Ji:tab[2]?=some jO:=rfl
def Gg:aX T jO ["thing","rows","level"] ["thing"] (top 13)=true:=by decide +kernel
theorem J6:tab[3]?=some jT:=rfl
def Gi:aX T jT ["levels","thing"] ["levels","thing"] (top 14)=true:=by decide +kernel
theorem Jh:tab[4]?=some jR:=rfl
def Gq:aX T jR ["levels","thing","behind","pair"] ["levels","thing"] (top 15)=true:=by decide +kernel
theorem QD:tab[5]?=some pU:=rfl
def Nt:aX T pU ["thing","ban"] ["thing"] (top 16)=true:=by decide +kernel
theorem Rw:tab[6]?=some pQ:=rfl
def N8:aX T pQ ["book"] ["book"] (top 17)=true:=by decide +kernel
theorem Zn:tab[7]?=some xK:=rfl
def TF:aX T xK ["row","meeting","pair"] ["row","meeting"] (top 18)=true:=by decide +kernel
theorem K5:tab[8]?=some mC:=rfl
def Jl:aX T mC ["row","meetings","meeting"] ["row","meetings"] (top 19)=true:=by decide +kernel
theorem Pg:tab[9]?=some oE:=rfl
def Kw:aX T oE ["levels","rows","level","longer","row","setting"] ["levels"] (top 20)=true:=by decide +kernel
theorem K7:tab[10]?=some mz:=rfl
def Hx:aX T mz ["book","row"] ["book"] (top 21)=true:=by decide +kernel
theorem V6:tab[11]?=some uf:=rfl
def RP:aX T uf ["levels","thing","setting","level"] ["levels","thing"] (top 22)=true:=by decide +kernel
theorem RW:tab[12]?=some rm:=rfl
def Nx:aX T rm ["book","thing"] ["book","thing"] (top 23)=true:=by decide +kernel
theorem uU:tab[13]?=some nq:=rfl
theorem uQ:aG.lookup 13=some uP:=rfl
theorem Cz:tab[14]?=some iM:=rfl
def Ba:aX T iM ["book"] ["book"] (top 27)=true:=by decide +kernel
theorem nW:tab[15]?=some cX:=rfl
def mU:aX T cX ["book","strength"] ["book","strength"] (top 28)=true:=by decide +kernel
theorem KZ:tab[16]?=some lX:=rfl
def Im:aX T lX ["pair","meeting"] ["pair","meeting"] (top 29)=true:=by decide +kernel
theorem Ah:tab[17]?=some gU:=rfl
def yu:aX T gU ["pairs","many","meetings","step","longer","meeting","pair"] ["pairs","many"] (top 30)=true:=by decide +kernel
theorem Fx:tab[18]?=some jA:=rfl
def Dj:aX T jA ["test","strength"] ["test","strength"] (top 31)=true:=by decide +kernel
theorem Ur:tab[19]?=some uG:=rfl
def Tn:aX T uG ["tests","strength","met","test","meeting"] ["tests","strength"] (top 32)=true:=by decide +kernel
theorem KR:tab[20]?=some lN:=rfl
def Jx:aX T lN ["book","strength","tests"] ["book","strength","tests"] (top 34)=true:=by decide +kernel
theorem KJ:tab[21]?=some gC:=rfl
def Hq:aX T gC ["tests","strength","times","test","meeting"] ["tests","strength"] (top 35)=true:=by decide +kernel
theorem CV:tab[22]?=some jh:=rfl
def Ca:aX T jh ["meetings","times","meeting"] ["meetings","times"] (top 36)=true:=by decide +kernel
theorem HD:tab[23]?=some jW:=rfl
def Gn:aX T jW ["meetings","times","meeting"] ["meetings","times"] (top 37)=true:=by decide +kernel
theorem RM:tab[24]?=some pN:=rfl
def NQ:aX T pN ["book","strength","tests","times","left","test","meetings"] ["book","strength","tests"] (top 38)=true:=by decide +kernel
theorem uY:tab[25]?=some fL:=rfl
def tV:aX T fL ["tests","strength","places","place","test","meeting"] ["tests","strength"] (top 39)=true:=by decide +kernel
theorem Nh:tab[26]?=some nD:=rfl
def KY:aX T nD ["meetings","places","gains","meeting","meeting_places","place"] ["meetings","places","gains"] (top 40)=true:=by decide +kernel
theorem yt:tab[27]?=some gG:=rfl
def v5:aX T gG ["ahead","tests","strength","places","gains","taken","rest","place","test"] ["ahead","tests","strength"] (top 41)=true:=by decide +kernel
theorem Nu:tab[28]?=some n8:=rfl
def Ke:aX T n8 ["book","strength","tests"] ["book","strength","tests"] (top 42)=true:=by decide +kernel
theorem XJ:tab[29]?=some xJ:=rfl
def V3:aX T xJ ["book","strength"] ["book","strength"] (top 44)=true:=by decide +kernel
theorem Kr:tab[30]?=some lV:=rfl
def Ia:aX T lV ["_law_script","_law_k"] ["_law_script","_law_k"] (top 46)=true:=by decide +kernel
theorem Om:tab[31]?=some nC:=rfl
def KC:aX T nC ["_law_cell_here","_law_prime","_law_many"] ["_law_cell_here","_law_prime","_law_many"] (top 47)=true:=by decide +kernel
theorem Kf:tab[32]?=some lU:=rfl
def Jj:aX T lU ["_law_script","_law_at","_law_cell_here","_law_many","_law_levels","_law_k","_law_bans","_law_most","_law_seed","_law_things","_law_thing"] ["_law_script","_law_at"] (top 48)=true:=by decide +kernel
theorem KD:tab[33]?=some lZ:=rfl
def HW:aX T lZ ["_law_levels","_law_found","_law_level","_law_more","_law_row","_law_setting"] ["_law_levels"] (top 49)=true:=by decide +kernel
theorem Je:tab[34]?=some kE:=rfl
def FQ:aX T kE ["_law_test","_law_meeting","_law_pair"] ["_law_test","_law_meeting"] (top 50)=true:=by decide +kernel
theorem Ib:tab[35]?=some kh:=rfl
def Fy:aX T kh ["_law_book_here","_law_found","_law_row","_law_ban"] ["_law_book_here"] (top 51)=true:=by decide +kernel
theorem Bu:tab[36]?=some iQ:=rfl
def Az:aX T iQ ["_law_book_here","_law_strength_here","_law_found","_law_row","_law_some","_law_thing","_law_setting","_law_one"] ["_law_book_here","_law_strength_here"] (top 52)=true:=by decide +kernel
theorem Cp:tab[37]?=some iR:=rfl
def Ak:aX T iR ["_law_book_here","_law_strength_here","_law_tests_here","_law_found","_law_one","_law_test"] ["_law_book_here","_law_strength_here"] (top 53)=true:=by decide +kernel
theorem Kl:tab[38]?=some lO:=rfl
def JX:aX T lO ["_law_some","_law_tests_here","_law_found","_law_one","_law_test"] ["_law_some","_law_tests_here"] (top 54)=true:=by decide +kernel
theorem Ck:tab[39]?=some iV:=rfl
def zp:aX T iV ["_law_book_here","_law_cell_here"] ["_law_book_here","_law_cell_here"] (top 55)=true:=by decide +kernel
theorem acj:tab[40]?=some Gx:=rfl
def SJ:aX T Gx ["_law_script","_law_book_here","_law_strength_here","_law_found","_law_tests_here","_law_some","_law_at","_law_counts","_law_one","_law_key","_law_test","_law_pair"] ["_law_script"] (top 56)=true:=by decide +kernel
variable {i:Nat}
section
variable {K:zt}{h:Heap}{mg:w8}
def aH {x:Str}{st:Stmt}{N ps:z0} (X:K.In h) (G:h.Ns mainGlobals mg) (f:FF K x st) (ht:tab[i]?=some d) (ok:aX T d N ps st=true)
  (hb:∀ (kV doc pm:Value) (an:vk) (cdv ct:Value) (us:zw),us.length=ps.length->bindArgs (PySem.W.fnOf x x (eU st) (dF st) (bf st) .none kV doc pm an cdv ct) ⟨us,[]⟩=pure (ps.zip us)) (hx:aG.lookup i=none:=by rfl) :
  ∃ d N ps st a fd,tab[i]?=some d/\Fun K x x st a fd/\mg x=some (.ref a)/\L2.Binds K fd ps []/\(match aG.lookup i with | none=>aX T d N ps st=true | some b=>LamD T K mg x b d ps st a fd):=by
 obtain ⟨a,fd,e,F⟩:=f.ex;refine ⟨d,N,ps,st,a,fd,ht,F,PySem.W.mg_of X G e,F.binds hb,?_⟩;rw [hx];exact ok
theorem pr (X:K.In h) (G:h.Ns mainGlobals mg) (f0:FF K "is_whole" (top 11)) (f1:FF K "is_tuple" (top 12)) (f2:FF K "are_levels" (top 13)) (f3:FF K "is_setting" (top 14)) (f4:FF K "is_meeting" (top 15)) (f5:FF K "is_book" (top 16)) (f6:FF K "checked" (top 17)) (f7:FF K "meets" (top 18)) (f8:FF K "meets_any" (top 19)) (f9:FF K "all_rows" (top 20)) (f10:FF K "all_tests" (top 21)) (f11:FF K "is_row" (top 22)) (f12:FF K "is_test" (top 23)) (f13:FL K "check_tests" (top 25)) (f14:FF K "most_strength" (top 27)) (f15:FF K "check_book_and_strength" (top 28)) (f16:FF K "is_behind" (top 29)) (f17:FF K "meetings_among" (top 30)) (f18:FF K "meetings_of" (top 31)) (f19:FF K "met_by" (top 32)) (f20:FF K "check_all" (top 34)) (f21:FF K "times_met" (top 35)) (f22:FF K "meet_without" (top 36)) (f23:FF K "count_less" (top 37)) (f24:FF K "trimmed" (top 38)) (f25:FF K "places_by_meeting" (top 39)) (f26:FF K "take_out" (top 40)) (f27:FF K "in_order_behind" (top 41)) (f28:FF K "in_order" (top 42)) (f29:FF K "built" (top 44)) (f30:FF K "_law_cell" (top 46)) (f31:FF K "_law_mix" (top 47)) (f32:FF K "_law_book" (top 48)) (f33:FF K "_law_rows" (top 49)) (f34:FF K "_law_meets" (top 50)) (f35:FF K "_law_tests" (top 51)) (f36:FF K "_law_meetings" (top 52)) (f37:FF K "_law_possible" (top 53)) (f38:FF K "_law_left" (top 54)) (f39:FF K "_law_strength" (top 55)) (f40:FF K "law" (top 56)) (fcl:FF K "check_list" (top 24)) (g0:GF K "MOST_THINGS" (.int 6)) (g1:GF K "MOST_SETTINGS" (.int 4)) (g2:GF K "MOST_ROWS" (.int 400)) (g3:GF K "MOST_BANS" (.int 12)) (g4:GF K "MOST_IN_MEETING" (.int 3)) (hb:∀ f ∈ lA,PySem.W.nsIn K mainGlobals f=some none):PrX T tab aG K mg:=by
 refine ⟨by decide,fun f b hf=>?_,fun f hf=>PySem.W.mg_none_of X G (hb f hf),fun x i e=>?_,fun f x e=>?_⟩
 .have hm:∀ p∈aG,p.1 < 1000:=by decide
  exact hm (f,b) (R5 hf)
 .have key:∀ (l:List (Str × D)),l.lookup x=some i->(∀ p∈l,GF K p.1 p.2)->GlV i (mg x):=by
   intro l;induction l with
   | nil=>intro e;cases e
   | cons q l ih =>
    intro e H;rw [List.lookup_cons] at e;split at e
    .rename_i hx;obtain ⟨v,e2,g⟩:=(H q vz).ex;cases e;rw [PySem.W.mg_of X G (by rw [beq_iff_eq.mp hx];exact e2)];exact g
    .exact ih e fun p hp=>H p (vy _ hp)
  refine key T.gl e fun p hp=>?_
  simp only [T,List.mem_cons,List.not_mem_nil,or_false] at hp;rcases hp with rfl | rfl | rfl | rfl | rfl
  .exact g0
  .exact g1
  .exact g2
  .exact g3
  .exact g4
 .have hlt:f < 41:=(v7.mp e).1
  match f,hlt,e with
  | 0,_,e=>cases e;exact aH X G f0 rfl Kv fun _ _ _ _ _ _=>us3 fun _ _ _=>rfl
  | 1,_,e=>cases e;exact aH X G f1 rfl Ky fun _ _ _ _ _ _=>us3 fun _ _ _=>rfl
  | 2,_,e=>cases e;exact aH X G f2 rfl Gg fun _ _ _ _ _ _=>us1 fun _=>rfl
  | 3,_,e=>cases e;exact aH X G f3 rfl Gi fun _ _ _ _ _ _=>us2 fun _ _=>rfl
  | 4,_,e=>cases e;exact aH X G f4 rfl Gq fun _ _ _ _ _ _=>us2 fun _ _=>rfl
  | 5,_,e=>cases e;exact aH X G f5 rfl Nt fun _ _ _ _ _ _=>us1 fun _=>rfl
  | 6,_,e=>cases e;exact aH X G f6 rfl N8 fun _ _ _ _ _ _=>us1 fun _=>rfl
  | 7,_,e=>cases e;exact aH X G f7 rfl TF fun _ _ _ _ _ _=>us2 fun _ _=>rfl
  | 8,_,e=>cases e;exact aH X G f8 rfl Jl fun _ _ _ _ _ _=>us2 fun _ _=>rfl
  | 9,_,e=>cases e;exact aH X G f9 rfl Kw fun _ _ _ _ _ _=>us1 fun _=>rfl
  | 10,_,e=>cases e;exact aH X G f10 rfl Hx fun _ _ _ _ _ _=>us1 fun _=>rfl
  | 11,_,e=>cases e;exact aH X G f11 rfl RP fun _ _ _ _ _ _=>us2 fun _ _=>rfl
  | 12,_,e=>cases e;exact aH X G f12 rfl Nx fun _ _ _ _ _ _=>us2 fun _ _=>rfl
  | 13,_,e=>cases e;exact aa0 (d:=nq) (q:=12) X G f13 fcl uQ uU rfl rfl rfl rfl rfl rfl rfl rfl rfl (fun _ _ _ _ _ _=>us2 fun _ _=>rfl) (fun _ _ _ _ _ _=>us2 fun _ _=>rfl)
  | 14,_,e=>cases e;exact aH X G f14 rfl Ba fun _ _ _ _ _ _=>us1 fun _=>rfl
  | 15,_,e=>cases e;exact aH X G f15 rfl mU fun _ _ _ _ _ _=>us2 fun _ _=>rfl
  | 16,_,e=>cases e;exact aH X G f16 rfl Im fun _ _ _ _ _ _=>us2 fun _ _=>rfl
  | 17,_,e=>cases e;exact aH X G f17 rfl yu fun _ _ _ _ _ _=>us2 fun _ _=>rfl
  | 18,_,e=>cases e;exact aH X G f18 rfl Dj fun _ _ _ _ _ _=>us2 fun _ _=>rfl
  | 19,_,e=>cases e;exact aH X G f19 rfl Tn fun _ _ _ _ _ _=>us2 fun _ _=>rfl
  | 20,_,e=>cases e;exact aH X G f20 rfl Jx fun _ _ _ _ _ _=>us3 fun _ _ _=>rfl
  | 21,_,e=>cases e;exact aH X G f21 rfl Hq fun _ _ _ _ _ _=>us2 fun _ _=>rfl
  | 22,_,e=>cases e;exact aH X G f22 rfl Ca fun _ _ _ _ _ _=>us2 fun _ _=>rfl
  | 23,_,e=>cases e;exact aH X G f23 rfl Gn fun _ _ _ _ _ _=>us2 fun _ _=>rfl
  | 24,_,e=>cases e;exact aH X G f24 rfl NQ fun _ _ _ _ _ _=>us3 fun _ _ _=>rfl
  | 25,_,e=>cases e;exact aH X G f25 rfl tV fun _ _ _ _ _ _=>us2 fun _ _=>rfl
  | 26,_,e=>cases e;exact aH X G f26 rfl KY fun _ _ _ _ _ _=>us3 fun _ _ _=>rfl
  | 27,_,e=>cases e;exact aH X G f27 rfl v5 fun _ _ _ _ _ _=>us3 fun _ _ _=>rfl
  | 28,_,e=>cases e;exact aH X G f28 rfl Ke fun _ _ _ _ _ _=>us3 fun _ _ _=>rfl
  | 29,_,e=>cases e;exact aH X G f29 rfl V3 fun _ _ _ _ _ _=>us2 fun _ _=>rfl
  | 30,_,e=>cases e;exact aH X G f30 rfl Ia fun _ _ _ _ _ _=>us2 fun _ _=>rfl
  | 31,_,e=>cases e;exact aH X G f31 rfl KC fun _ _ _ _ _ _=>us3 fun _ _ _=>rfl
  | 32,_,e=>cases e;exact aH X G f32 rfl Jj fun _ _ _ _ _ _=>us2 fun _ _=>rfl
  | 33,_,e=>cases e;exact aH X G f33 rfl HW fun _ _ _ _ _ _=>us1 fun _=>rfl
  | 34,_,e=>cases e;exact aH X G f34 rfl FQ fun _ _ _ _ _ _=>us2 fun _ _=>rfl
  | 35,_,e=>cases e;exact aH X G f35 rfl Fy fun _ _ _ _ _ _=>us1 fun _=>rfl
  | 36,_,e=>cases e;exact aH X G f36 rfl Az fun _ _ _ _ _ _=>us2 fun _ _=>rfl
  | 37,_,e=>cases e;exact aH X G f37 rfl Ak fun _ _ _ _ _ _=>us2 fun _ _=>rfl
  | 38,_,e=>cases e;exact aH X G f38 rfl JX fun _ _ _ _ _ _=>us2 fun _ _=>rfl
  | 39,_,e=>cases e;exact aH X G f39 rfl zp fun _ _ _ _ _ _=>us2 fun _ _=>rfl
  | 40,_,e=>cases e;exact aH X G f40 rfl SJ fun _ _ _ _ _ _=>us1 fun _=>rfl
end
def ev9:Lean.MacroM (Array (Lean.TSyntax `Lean.Parser.Tactic.simpLemma)):=("qS qT wB qU qG qH qI wC wD wE qV wF wG wH wI wJ wK wL wM wN wO wP qJ wQ wr wR wS wt wT qW qX wU qY qZ qa qK qb qL wV qd wu wv qf qM qN wW wX wY wZ wa wb ww wx wy wz ^wc ^wd zU zV zW zX zY zZ qg we zA qh qi qC qO qj qk qm qp bB bL zB zC zD zE zF zG zH zb zd ze zf zg zi wf wg wj if_true zI zJ zl if_false qD qq qP qE qA qB qr zK zL zM zN zO zP wk wl wm wn wo zj zk zQ zR qu wq qv qw qQ qx qy qz wA zS qR qF zT bM bJ bK".splitOn " ").toArray.mapM fun s=>if s.startsWith "^" then `(Lean.Parser.Tactic.simpLemma| ↓$(Lean.mkIdent (.mkSimple (s.drop 1).toString)):ident) else `(Lean.Parser.Tactic.simpLemma| $(Lean.mkIdent s.toName):ident)
local macro_rules | `(tactic| simpa only [$xs,*])=>do let ys<-ev9;`(tactic| simp only [$ys:simpLemma,*,$xs,*])
local macro_rules | `(tactic| simpa [$xs,*])=>do let ys<-ev9;`(tactic| simp [$ys:simpLemma,*,$xs,*])
local macro_rules | `(tactic| simpa only [] using $h:ident)=>do let ys<-ev9;`(tactic| simp only [$ys:simpLemma,*] at $h:ident)
def n6 (x a b:Int):au tab aG (n+1) 0 [.int x,.int a,.int b]=.ok (.bl (decide (a<=x) && decide (x<=b))):=by
 rw [bG Nf rfl];delta nF;simpa only [];by_cases h:a<=x <;> by_cases h2:x<=b <;> simpa only [h,h2,decide_true,decide_false,Bool.and_true,Bool.and_false,Bool.and_self,qf]
def jK (ds:List D) (a b:Int):au tab aG (n+1) 1 [.tup ds,.int a,.int b]=.ok (.bl (decide (a<=ds.length) && decide ((ds.length:Int)<=b))):=by
 rw [bG Nk rfl];delta nY;simpa only [vd];by_cases h:a<=ds.length <;> by_cases h2:(ds.length:Int)<=b <;> simpa only [h,h2,decide_true,decide_false,Bool.and_true,Bool.and_false,Bool.and_self,qf]
def tO (r:zz) (a b:Int):au tab aG (n+1) 1 [aq r,.int a,.int b]=.ok (.bl (decide (a<=r.length) && decide ((r.length:Int)<=b))):=by
 have:=jK (n:=n) (r.map eN) a b;rw [List.length_map] at this;exact this
def J5 (r:Meet) (a b:Int):au tab aG (n+1) 1 [eM r,.int a,.int b]=.ok (.bl (decide (a<=r.length) && decide ((r.length:Int)<=b))):=by
 have:=jK (n:=n) (r.map eP) a b;rw [List.length_map] at this;exact this
def Gp (r:List Meet) (a b:Int):au tab aG (n+1) 1 [eBs r,.int a,.int b]=.ok (.bl (decide (a<=r.length) && decide ((r.length:Int)<=b))):=by
 have:=jK (n:=n) (r.map eM) a b;rw [List.length_map] at this;exact this
theorem Jf (p:Nat × Nat):au tab aG (n+1) 1 [eP p,.int 2,.int 2]=.ok (.bl true):=jK (n:=n) [eN p.1,eN p.2] 2 2
theorem Il (lv:zz) (bs:List Meet):au tab aG (n+1) 1 [eB lv bs,.int 2,.int 2]=.ok (.bl true):=jK (n:=n) [aq lv,eBs bs] 2 2
theorem Qj {x:Nat} (h:x<=1000000):j9 (x:Int)=true:=Nat.ble_eq_true_of_le (by omega)
def Jc (lv:zz) (h1:1<=lv.length) (h6:lv.length<=6) (hl:∀ l∈lv,1<=l/\l<=4):au tab aG (n+2) 2 [aq lv]=.ok (.bl (decide (prod lv<=400))):=by
 rw [bG Ji rfl];delta jO;simpa only [tO,decide_eq_true (show (1:Int)<=lv.length by omega),decide_eq_true (show (lv.length:Int)<=6 by omega),Bool.and_self];rw [bind_eq (a:=.nx [some (aq lv),some (.int (prod lv:Nat)),none])]
 .simpa only [];congr 2;by_cases h:prod lv<=400
  .rw [decide_eq_true h,decide_eq_true (by omega)]
  .rw [decide_eq_false h,decide_eq_false (by omega)]
 .refine Kq eN (fun a:Nat=>[some (aq lv),some (.int (a:Int)),none]) (fun a l=>a * l) (fun _=>True) lv (fun a l hlm _=>⟨trivial,?_⟩) 1 trivial;have:=hl l hlm;have hmul:jD .mul (.int (a:Int)) (.int (l:Int))=.ok (.int ((a:Int) * (l:Int))):=GD (.inr (Qj (by omega)));simpa only [n6,decide_eq_true (show (1:Int)<=l by omega),decide_eq_true (show (l:Int)<=4 by omega),Bool.and_self,hmul];exact ⟨_,rfl,by simp [aM]⟩
variable {lv:zz}{l:Nat}
def JV {p:Nat × Nat} (h1:lv[p.1]?=some l) (h2:p.2 < l):au tab aG (n+2) 3 [aq lv,eP p]=.ok (.bl true):=by
 have hlt:p.1 < lv.length:=(v7.mp h1).1;rw [bG J6 rfl];delta jT;simpa only [Jf,n6,Hg h1,decide_eq_true (show (0:Int)<=p.1 by omega),decide_eq_true (show (p.1:Int)<=lv.length - 1 by omega),decide_eq_true (show (0:Int)<=p.2 by omega),decide_eq_true (show (p.2:Int)<=l - 1 by omega),Bool.and_self]
variable {m:Meet}
def Iw (h:pH lv m) (h1:1<=m.length) (h3:m.length<=3):au tab aG (n+3) 4 [aq lv,eM m]=.ok (.bl true):=by
 rw [bG Jh rfl];delta jR;simpa only [J5,decide_eq_true (show (1:Int)<=m.length by omega),decide_eq_true (show (m.length:Int)<=3 by omega),Bool.and_self];rw [bind_eq (a:=.nx [some (aq lv),some (eM m),some (.int (m.foldl (fun _ p=>p.1+1) 0:Nat)),none])]
 .simpa only []
 .refine bU eP (fun a:Nat=>[some (aq lv),some (eM m),some (.int (a:Int)),none]) (fun _ p=>p.1+1) (fun b rest=>dY rest/\∀ q∈rest,b<=q.1/\∃ l,lv[q.1]?=some l/\q.2 < l) (fun b p rest hp=>?_) m 0 ⟨h.1,fun q hq=>⟨ye _,h.2 q hq⟩⟩;obtain ⟨hr,hq⟩:=hp;unfold dY at hr;rw [List.pairwise_cons] at hr;obtain ⟨hb,l,hl,hlt⟩:=hq p vz;refine ⟨⟨hr.2,fun q hq'=>⟨by have:=hr.1 q hq';omega,(hq q (vy _ hq')).2⟩⟩,?_⟩;simpa only [JV hl hlt,decide_eq_false (show ¬ ((p.1:Int) < b) by omega)];exact ⟨_,rfl,by simp [aM]⟩
variable {bs:List Meet}
theorem WB.lvAll (h:WB lv bs):∀ l∈lv,1<=l/\l<=4:=fun l hl=>by
 obtain ⟨i,hi⟩:=List.mem_iff_getElem?.mp hl;have:=h.lv1 i l hi;omega
def Tr (h:WB lv bs):au tab aG (n+4) 5 [eB lv bs]=.ok (.bl true):=by
 have f:=kZ lv h.mem;have h1:=h.one;have h4:=h.four;have hb:=h.nb;rw [bG QD rfl];delta pU;simpa only [Il,Gp,Jc lv h.one (by omega) (WB.lvAll h),decide_eq_true (show prod lv<=400 by omega),decide_eq_true (show (0:Int)<=bs.length by omega),decide_eq_true (show (bs.length:Int)<=12 by omega),Bool.and_self];rw [bind_eq (a:=bs.map fun _=>D.bl true)]
 .simpa only [List.length_map,if_pos (show bs.length<=lim by unfold lim;omega)];rw [bind_eq (Gu (fun _=>true) bs)];simp [vJ]
 .refine cG bs fun b hbm=>?_
  obtain ⟨q1,q2,q3⟩:=h.ban b hbm;simpa only [Iw q1 q2 q3]
def Ej (h:WB lv bs):au tab aG (n+5) 6 [eB lv bs]=.ok (eB lv bs):=by
 rw [bG Rw rfl];delta pQ;simpa only [Tr h]
variable {r:zz}
def Xz (h:∀ p∈m,p.1 < r.length) (hl:m.length<=lim):au tab aG (n+1) 7 [aq r,eM m]=.ok (.bl (aL r m)):=by
 rw [bG Zn rfl];delta xK;simpa only [];rw [bind_eq (a:=m.map fun p=>D.bl (decide (r[p.1]?=some p.2)))]
 .simpa only [List.length_map,if_pos hl];rw [bind_eq (Gu (fun p:Nat × Nat=>decide (r[p.1]?=some p.2)) m)];rfl
 .refine cG m fun p hp=>?_
  obtain ⟨x,hx⟩:∃ x,r[p.1]?=some x:=⟨_,List.getElem?_eq_getElem (h p hp)⟩;simpa only [Hg hx,o7,hx,Option.some.injEq]
def yU (h:∀ b∈bs,(∀ p∈b,p.1 < r.length)/\b.length<=lim) (hl:bs.length<=lim):au tab aG (n+2) 8 [aq r,eBs bs]=.ok (.bl (bs.any fun b=>aL r b)):=by
 rw [bG K5 rfl];delta mC;simpa only [];rw [bind_eq (a:=bs.map fun b=>D.bl (aL r b))]
 .simpa only [List.length_map,if_pos hl];rw [bind_eq (ab2 (fun b=>aL r b) bs)];rfl
 .refine cG bs fun b hb=>?_
  simpa only [Xz (h b hb).1 (h b hb).2]
theorem yM (rs:zv) (l:Nat):rs.flatMap (fun r=>(List.range l).map fun s=>r++[s])=cu rs l:=rfl
variable {rs:zv}
def yw (h:1<=l):rs.length<=(cu rs l).length:=by
 rw [xu];exact Nat.le_mul_of_pos_right _ h
def tR (lv0:zz) (rs:zv) (rest:zz):Prop:=rest.foldl cu rs=rows lv0/\(∀ r∈rs,r.length+rest.length=lv0.length)/\∀ l∈rest,1<=l
theorem sY:∀ (rest:zz) (rs:zv),(∀ l∈rest,1<=l)->rs.length<=(rest.foldl cu rs).length
 | [],rs,_=>v4 _
 | l::rest,rs,h=>yb (yw (h l vz)) (sY rest _ fun x hx=>h x (vy _ hx))
theorem tR.step {lv0 rest:zz} (h:tR lv0 rs (l::rest)):tR lv0 (cu rs l) rest/\(cu rs l).length<=prod lv0:=by
 obtain ⟨h1,h2,h3⟩:=h;have h4:∀ x∈rest,1<=x:=fun x hx=>h3 x (vy _ hx)
 refine ⟨⟨h1,fun r hr=>?_,h4⟩,?_⟩
 .unfold cu at hr;obtain ⟨a,ha,hr⟩:=yT.mp hr;obtain ⟨s,_,rfl⟩:=yo.mp hr;have:=h2 a ha;simp only [List.length_cons,List.length_append,List.length_nil] at this ⊢;omega
 .have:=sY rest (cu rs l) h4;rw [<- uN,<- h1];exact this
theorem Pa (h1:∀ l∈lv,1<=l) (hp:prod lv<=lim) (hlen:lv.length<=lim) (hl:∀ l∈lv,l<=lim):au tab aG (n+1) 9 [aq lv]=.ok (.lst ((rows lv).map aq)):=by
 rw [bG Pg rfl];delta oE;simpa only [if_pos (show 0<=lim from Nat.zero_le _),if_pos (show 1<=lim by decide)];rw [bind_eq (a:=.nx [some (aq lv),some (.lst ((rows lv).map aq)),none,none,none,none])]
 .simpa only []
 .refine bU eN (fun rs:zv=>[some (aq lv),some (.lst (rs.map aq)),none,none,none,none]) cu (fun rs rest=>tR lv rs rest/\∀ l∈rest,l<=lim) (fun rs l rest hi=>?_) lv [[]] ⟨⟨rfl,by simp,h1⟩,hl⟩;obtain ⟨hi,hll⟩:=hi;obtain ⟨hs,hsz⟩:=hi.step;have hrl:∀ r∈rs,r.length < lim:=fun r hr=>by
   have:=hi.2.1 r hr;simp only [List.length_cons] at this;omega
  refine ⟨⟨hs,fun x hx=>hll x (vy _ hx)⟩,?_⟩;simpa only [if_pos (show 0<=lim from Nat.zero_le _)];rw [bind_eq (a:=.nx [some (aq lv),some (.lst (rs.map aq)),some (eN l),some (.lst ((cu rs l).map aq)),none,none])]
  .simpa only [];exact ⟨_,rfl,by simp [aM]⟩
  .refine cU aq (fun acc:zv=>[some (aq lv),some (.lst (rs.map aq)),some (eN l),some (.lst (acc.map aq)),none,none]) (fun r=>(List.range l).map fun s=>r++[s]) lim rs (fun acc r hr hB=>?_) [] (by rw [yM,List.length_nil];omega);simpa only [gP l (hll l List.mem_cons_self)];rw [bind_eq (a:=((List.range l).map fun s=>r++[s]).map aq)]
   .have hll':=hll l vz;simpa only [List.length_map,List.length_range,if_pos hll'];rw [bind_eq (WT (enc:=aq) hB)];exact ⟨_,rfl,by simp [aM]⟩
   .rw [List.map_map];refine cG (List.range l) fun s hs=>?_
    simpa only [Jw (hrl r hr),if_pos (show 1<=lim by decide)];rfl
def K4 (h:WB lv bs):au tab aG (n+6) 10 [eB lv bs]=.ok (.lst ((tests lv bs).map aq)):=by
 have f:=kZ lv h.mem;have h4:=h.four;have hb:=h.nb;have hlim:lim=100000:=rfl;rw [bG K7 rfl];delta mz;simpa only [Ej h,Pa (fun l hl=>(WB.lvAll h l hl).1) (show prod lv<=lim by omega) (show lv.length<=lim by omega) (fun l hl=>by have:=WB.lvAll h l hl;omega)];rw [bind_eq (a:=(tests lv bs).map aq)]
 .have:(tests lv bs).length<=lim:=by
   have h1:=yn (ou bs) (rows lv);rw [uN] at h1;unfold tests;omega
  simpa only [List.length_map,if_pos this]
 .refine cC (rows lv) fun r hr=>?_
  have hok:=lE.mp hr;simpa only [yU (r:=r) (bs:=bs) (fun b hbm=>⟨fun p hp=>by
   obtain ⟨l,e,_⟩:=(h.ban b hbm).1.2 p hp;rw [hok.len];exact (v7.mp e).1,by have:=(h.ban b hbm).2.2;omega⟩) (by omega)]
  unfold ou;cases (bs.any fun b=>aL r b) <;> simpa []
def Bq (lv:zz) (bs:List Meet):au tab aG (n+1) 14 [eB lv bs]=.ok (.int (min 3 lv.length:Nat)):=by
 rw [bG Cz rfl];delta iM;simpa only [];congr 2;split <;> omega
variable {k:Nat}
def Lr (h:WB lv bs)  (h1:1<=k) (h3:k<=3) (hk:k<=lv.length):au tab aG (n+6) 15 [eB lv bs,.int k]=.ok .non:=by
 rw [bG nW rfl];delta cX;simpa only [Ej h,Bq,n6,decide_eq_true (show (1:Int)<=k by omega),decide_eq_true (show (k:Int)<=(min 3 lv.length:Nat) by omega),Bool.and_self]
def KQ (p:Nat × Nat) (m:Meet):au tab aG (n+1) 16 [eP p,eM m]=.ok (.bl (behind m p)):=by
 rw [bG KZ rfl];delta lX;simpa only [];cases e:m.getLast? with
 | none =>
  rw [List.getLast?_eq_none_iff] at e;subst e;simp [behind,vJ]
 | some q =>
  have hm:m≠[]:=fun z=>by subst z;simp at e
  have hl:¬ ((m.length:Int)=0):=fun z=>hm (List.length_eq_zero_iff.mp (by omega))
  simpa only [decide_eq_false hl,show (-(1:Int))=-1 from rfl,Yo e];unfold behind;rw [e];simp only [bB];congr 2;by_cases h:q.1 < p.1
  .rw [decide_eq_true h,decide_eq_true (by omega)]
  .rw [decide_eq_false h,decide_eq_false (by omega)]
def Ad {ps:List (Nat × Nat)} (hk:k<=3) (hps:ps.length<=16):au tab aG (n+2) 17 [.lst (ps.map eP),.int k]=.ok (.lst ((among ps k).map eM)):=by
 have hlim:lim=100000:=rfl;have hpow:∀ j,j<=3->ps.length ^ j<=4096:=fun j hj=>by
  have h1:ps.length ^ j<=16 ^ j:=Nat.pow_le_pow_left hps j;have h2:16 ^ j<=16 ^ 3:=Nat.pow_le_pow_right (by omega) hj;have h3:(16:Nat) ^ 3=4096:=by decide
  omega
 rw [bG Ah rfl];delta gU;simpa only [if_pos (show 0<=lim from Nat.zero_le _),if_pos (show 0+1<=lim by decide),gP k (show k<=lim by omega)];rw [bind_eq (a:=.nx [some (.lst (ps.map eP)),some (.int (k:Int)),some (.lst ((among ps k).map eM)),none,none,none,none])]
 .simpa only []
 .refine (bU eN (fun j:Nat=>[some (.lst (ps.map eP)),some (.int (k:Int)),some (.lst ((among ps j).map eM)),none,none,none,none]) (fun j _=>j+1) (fun j rest=>j+rest.length=k) (fun j s rest hj=>?_) (List.range k) 0 (by simp)).trans ?_
  .simp only [List.length_cons] at hj;refine ⟨by omega,?_⟩;simpa only [if_pos (show 0<=lim from Nat.zero_le _)];have hla:=mR ps (j+1);have hp1:=hpow (j+1) (by omega);have hp0:=hpow j (by omega);have hla0:=mR ps j;rw [bind_eq (a:=.nx [some (.lst (ps.map eP)),some (.int (k:Int)),some (.lst ((among ps j).map eM)),some (.int (s:Int)),some (.lst ((among ps (j+1)).map eM)),none,none])]
   .simpa only [];exact ⟨_,rfl,by simp [aM]⟩
   .refine cU eM (fun acc:List Meet=>[some (.lst (ps.map eP)),some (.int (k:Int)),some (.lst ((among ps j).map eM)),some (.int (s:Int)),some (.lst (acc.map eM)),none,none]) (fun m=>(ps.filter (behind m)).map fun p=>m++[p]) lim (among ps j) (fun acc m hm hB=>?_) [] (by
      show 0+(among ps (j+1)).length<=lim
      omega)
    simpa only [];rw [bind_eq (a:=((ps.filter (behind m)).map fun p=>m++[p]).map eM)]
    .have:(ps.filter (behind m)).length<=lim:=by
      have:=yn (behind m) ps;omega
     simpa only [List.length_map,if_pos this];rw [bind_eq (WT (enc:=eM) hB)];exact ⟨_,rfl,by simp [aM]⟩
    .rw [List.map_map];refine cC ps fun p hp=>?_
     have hml:m.length < lim:=by
      have:=(mJ.mp hm).1;omega
     simpa only [KQ,Q5 hml,if_pos (show 0+1<=lim by decide)];cases behind m p <;> simpa []
  .have e:∀ (l:zz) (a:Nat),l.foldl (fun j _=>j+1) a=a+l.length:=by
    intro l;induction l with
    | nil=>simp
    | cons x l ih=>intro a;simp [ih];omega
   rw [e,List.length_range,Nat.zero_add]
def N7 (ts:zv) (k:Nat):List Meet:=(ts.flatMap fun t=>among (aO 0 t) k).foldl bR []
variable {t:zz}
def fP (hk:k<=3) (hle:(aO 0 t).length<=16):au tab aG (n+3) 18 [aq t,.int k]=.ok (.lst ((among (aO 0 t) k).map eM)):=by
 rw [bG Fx rfl];delta jA;simpa only [Ad hk hle]
variable {ts:zv}
def Vr (hk:k<=3) (ht:∀ t∈ts,t.length<=6) (hts:ts.length<=400):au tab aG (n+4) 19 [.lst (ts.map aq),.int k]=.ok (eK (N7 ts k)):=by
 have hlim:lim=100000:=rfl;have ham:∀ t∈ts,(among (aO 0 t) k).length<=216:=fun t h=>by
  have h1:=mR (aO 0 t) k;rw [dG] at h1;have h2:t.length ^ k<=6 ^ k:=Nat.pow_le_pow_left (ht t h) k;have h3:6 ^ k<=6 ^ 3:=Nat.pow_le_pow_right (by omega) hk;have h4:(6:Nat) ^ 3=216:=by decide
  omega
 rw [bG Ur rfl];delta uG;simpa only [];rw [bind_eq (a:=.nx [some (.lst (ts.map aq)),some (.int (k:Int)),some (eK (N7 ts k)),none,none])]
 .simpa only []
 .refine (bU aq (fun ks:List Meet=>[some (.lst (ts.map aq)),some (.int (k:Int)),some (eK ks),none,none]) (fun ks t=>(among (aO 0 t) k).foldl bR ks) (fun ks rest=>(∀ t∈rest,t∈ts)/\ks.length+rest.length * 216<=86400) (fun ks t rest hp=>?_) ts [] ⟨fun _ h=>h,by simp only [List.length_nil];omega⟩).trans ?_
  .obtain ⟨hin,hsz⟩:=hp;have htm:=hin t vz;have hat:=ham t htm;have hfl:=jJ (among (aO 0 t) k) ks;simp only [List.length_cons,Nat.succ_mul] at hsz;refine ⟨⟨fun x hx=>hin x (vy _ hx),by omega⟩,?_⟩;have hle:(aO 0 t).length<=16:=by rw [dG];have:=ht t htm;omega
   simpa only [fP hk hle];rw [bind_eq (a:=.nx [some (.lst (ts.map aq)),some (.int (k:Int)),some (eK ((among (aO 0 t) k).foldl bR ks)),some (aq t),none])]
   .exact ⟨_,rfl,by simp [aM]⟩
   .refine bU eM (fun ks:List Meet=>[some (.lst (ts.map aq)),some (.int (k:Int)),some (eK ks),some (aq t),none]) bR (fun ks rest=>ks.length+rest.length<=90000) (fun ks m rest hp=>?_) (among (aO 0 t) k) ks (by omega);simp only [List.length_cons] at hp;have:=uJ ks m;refine ⟨by omega,?_⟩;simpa only [];rw [bind_eq (S6 ks m (by omega))];exact ⟨_,rfl,by simp [aM]⟩
  .unfold N7;rw [List.foldl_flatMap]
def rO (h:WB lv bs):(tests lv bs).length<=36:=by
 have f:=kZ lv h.mem;have h1:=yn (ou bs) (rows lv);rw [uN] at h1;unfold tests;omega
theorem mG (ht:t∈tests lv bs):gj lv t:=lE.mp (yY.mp ht).1
theorem yR (h:WB lv bs):∀ t∈tests lv bs,t.length<=6:=fun t ht=>by
 rw [(mG ht).len];have:=h.four;omega
def rG :m∈bV lv bs k↔m.length=k/\dY m/\∃ t∈tests lv bs,aL t m=true:=by
 unfold bV;rw [List.mem_filter,oV,List.any_eq_true];constructor
 .rintro ⟨⟨h1,h2⟩,h3⟩;exact ⟨h1,h2.1,h3⟩
 .rintro ⟨h1,h2,t,ht,h3⟩;exact ⟨⟨h1,Hw (mG ht) h2 h3⟩,t,ht,h3⟩
def Ax (h:WB lv bs)  (h1:1<=k) (h3:k<=3):(allM lv k).length < 64:=by
 have f:=kZ lv h.mem;have:k=1\/k=2\/k=3:=by omega
 rcases this with rfl | rfl | rfl
 .exact f.2.2.1
 .exact f.2.2.2.1
 .exact f.2.2.2.2
theorem Zm (h1:1<=k):∀ m∈allM lv k,m≠[]:=fun m hm z=>by
 have:=(oV.mp hm).1;subst z;simp at this;omega
noncomputable def dg (ns:List Int) (k:Nat):Int:=ns.getD k 0
def vq (ns:List Int) (k:Nat):au tab aG (n+1) 30 [.lst (ns.map D.int),.int k]=.ok (.int (dg ns k)):=by
 rw [bG Kr rfl];delta lV;simpa only [];unfold dg;by_cases h:k < ns.length
 .have e:ns[k]?=some ns[k]:=List.getElem?_eq_getElem h;simpa only [decide_eq_true (show (k:Int) < ns.length by omega),Ie (enc:=D.int) e,List.getD,e,Option.getD]
 .simpa only [decide_eq_false (show ¬ ((k:Int) < ns.length) by omega),List.getD,List.getElem?_eq_none (Nat.le_of_not_lt h),Option.getD]
noncomputable def dX (c p m:Int):Nat:=(c * 48271 % p % m).toNat
variable {c p:Int}
theorem DW {m:Int} (hm:0 < m):((dX c p m:Nat):Int)=c * 48271 % p % m:=Int.toNat_of_nonneg (Int.emod_nonneg _ (by omega))
def oH {m:Int} (hm:0 < m):((dX c p m:Nat):Int) < m:=by rw [DW hm];exact Int.emod_lt_of_pos _ hm
def rM {m:Int} (hp:0 < p) (hm:0 < m):au tab aG (n+1) 31 [.int c,.int p,.int m]=.ok (.int (dX c p m:Nat)):=by
 rw [bG Om rfl];have e:jD .mul (.int c) (.int 48271)=.ok (.int (c * 48271)):=GD (.inr rfl);delta nC;simpa only [e,Ph hp,Ph hm,DW hm]
def bx (ns:List Int) (a:Nat):Nat:=1+dX (dg ns a) 9973 4
noncomputable def jr (k:Nat):Nat:=if k < 2 then 3 else 2
def cQ (ns:List Int) (a k:Nat):Nat:=1+dX (dg ns (a+1)+31 * (k:Int) * (k:Int)+(k:Int)) 9967 (jr k:Nat)
def iw (ns:List Int) (a:Nat):zz:=(List.range (bx ns a)).map (cQ ns a)
def eF (ns:List Int) (a k:Nat):Int:=dg ns (a+2)+53 * (k:Int) * (k:Int)+7 * (k:Int)
def drawn (ns:List Int) (a k:Nat):zz:=((List.range (bx ns a)).filter fun (x:Nat)=>decide (dX (eF ns a k+17 * (x:Int)) 9941 2=1)).take 3
def dM (ns:List Int) (a k:Nat):zz:=if (drawn ns a k).isEmpty then [dX (eF ns a k) 9931 (bx ns a:Nat)] else drawn ns a k
def fK (ns:List Int) (a k:Nat):Meet:=(dM ns a k).map fun (x:Nat)=>(x,dX (eF ns a k+5 * (x:Int)) 9929 ((iw ns a).getD x 1:Nat))
def oZ (ns:List Int) (a:Nat):List Meet:=(List.range (dX (dg ns a) 9949 4)).map (fK ns a)
def Bc (ns:List Int) (a:Nat):1<=bx ns a/\bx ns a<=4:=by
 have:=oH (c:=dg ns a) (p:=9973) (m:=4) (by decide);unfold bx;omega
def VN (k:Nat):0 < ((jr k:Nat):Int):=by unfold jr;split <;> decide
def pI (ns:List Int) (a k:Nat):1<=cQ ns a k/\cQ ns a k<=jr k:=by
 have:=oH (c:=dg ns (a+1)+31 * (k:Int) * (k:Int)+(k:Int)) (p:=9967) (VN k);unfold cQ;omega
def R6 (ns:List Int) (a:Nat):(iw ns a).length=bx ns a:=by simp [iw]
variable {ns:List Int}{a:Nat}
def RK (h:(iw ns a)[i]?=some l):l=cQ ns a i/\i < bx ns a:=by
 unfold iw at h;rw [List.getElem?_map] at h;cases e:(List.range (bx ns a))[i]? with
 | none=>rw [e] at h;cases h
 | some j =>
  rw [e] at h;obtain ⟨h1,h2⟩:=v7.mp e;simp at h1 h2;subst h2;cases h;exact ⟨rfl,h1⟩
theorem xQ (h:i < bx ns a):(iw ns a)[i]?=some (cQ ns a i):=by
 unfold iw;rw [List.getElem?_map,List.getElem?_range h];rfl
theorem QX :∀ x∈drawn ns a k,x < bx ns a:=fun x hx=>by
 unfold drawn at hx;have:=List.mem_of_mem_take hx;exact y0.mp (yY.mp this).1
def mL (ns:List Int) (a k:Nat):(dM ns a k).Pairwise (· < ·)/\(∀ x∈dM ns a k,x < bx ns a)/\1<=(dM ns a k).length/\(dM ns a k).length<=3:=by
 have hm:=Bc ns a;unfold dM;split
 .have:=oH (c:=eF ns a k) (p:=9931) (m:=(bx ns a:Nat)) (by omega);refine ⟨by simp,fun x hx=>?_,by simp,by simp⟩;rw [List.mem_singleton.mp hx];omega
 .rename_i h;refine ⟨?_,QX,?_,?_⟩
  .unfold drawn;exact ((List.pairwise_lt_range.filter _).sublist (List.take_sublist _ _))
  .cases e:drawn ns a k with
   | nil=>rw [e] at h;simp at h
   | cons _ _=>simp
  .unfold drawn;rw [List.length_take];omega
def Zu (ns:List Int) (a:Nat):WB (iw ns a) (oZ ns a):=by
 have hm:=Bc ns a;refine ⟨by rw [R6];omega,by rw [R6];omega,fun i l h=>?_,fun i l h h2=>?_,?_,fun b hb=>?_⟩
 .obtain ⟨rfl,_⟩:=RK h;have:=pI ns a i;have h3:jr i<=3:=by unfold jr;split <;> decide
  omega
 .obtain ⟨rfl,_⟩:=RK h;have:=pI ns a i;have h3:jr i=2:=by unfold jr;rw [if_neg (by omega)]
  omega
 .have:=oH (c:=dg ns a) (p:=9949) (m:=4) (by decide);unfold oZ;rw [List.length_map,List.length_range];omega
 .unfold oZ at hb;obtain ⟨k,_,rfl⟩:=yo.mp hb;obtain ⟨t1,t2,t3,t4⟩:=mL ns a k;refine ⟨⟨?_,fun p hp=>?_⟩,?_,?_⟩
  .unfold fK dY;exact List.pairwise_map.mpr t1
  .unfold fK at hp;obtain ⟨x,hx,rfl⟩:=yo.mp hp;have hx':=t2 x hx;refine ⟨cQ ns a x,xQ hx',?_⟩;have e:(iw ns a).getD x 1=cQ ns a x:=by simp [List.getD,xQ hx']
   simp only [e];have hl:=pI ns a x;have:=oH (c:=eF ns a k+5 * (x:Int)) (p:=9929) (m:=(cQ ns a x:Nat)) (by omega);omega
  .unfold fK;rw [List.length_map];exact t3
  .unfold fK;rw [List.length_map];exact t4
def one_add (x:Nat):(1:Int)+(x:Int)=((1+x:Nat):Int):=by omega
def acK (ds:List D):cutD ds none (some 3)=ds.take 3:=by
 unfold cutD;rw [HT.Wl];have e:HT.sIx ds.length ds.length (some 3)=min 3 ds.length:=HT.YS ds.length ds.length 3;rw [e,Nat.sub_zero,List.drop_zero];by_cases h:3<=ds.length
 .rw [Nat.min_eq_left h]
 .rw [Nat.min_eq_right (by omega),List.take_of_length_le (by omega),List.take_of_length_le (by omega)]
theorem Jd (x:Nat) (h:x<=1000):j9 (x:Int)=true:=Nat.ble_eq_true_of_le (by omega)
theorem xT {c:Nat} (h:c<=1000) (x:Int):jD .mul (.int (c:Int)) (.int x)=.ok (.int ((c:Int) * x)):=GD (.inl (Jd c h))
theorem mul_k (h:k<=1000) (x:Int):jD .mul (.int x) (.int (k:Int))=.ok (.int (x * (k:Int))):=GD (.inr (Jd k h))
theorem abe (hns:ns.length<=63) (a:Nat):au tab aG (n+2) 32 [.lst (ns.map D.int),.int a]=.ok (eB (iw ns a) (oZ ns a)):=by
 have hm:=Bc ns a;have hlim:lim=100000:=rfl;have hbn:=oH (c:=dg ns a) (p:=9949) (m:=4) (by decide);rw [bG Kf rfl];have ea:∀ j:Nat,(a:Int)+(j:Int)=((a+j:Nat):Int):=fun j=>by omega
 have ea1:(a:Int)+1=((a+1:Nat):Int):=by omega
 have ea2:(a:Int)+2=((a+2:Nat):Int):=by omega
 have em:(1:Int)+(dX (dg ns a) 9973 4:Nat)=((bx ns a:Nat):Int):=by unfold bx;omega
 delta lU;simpa only [vq,rM (show (0:Int) < 9973 by decide) (show (0:Int) < 4 by decide),em,if_pos (show 0<=lim from Nat.zero_le _),gP (bx ns a) (show bx ns a<=lim by omega)];rw [bind_eq (a:=.nx [some (.lst (ns.map D.int)),some (.int (a:Int)),some (.int (dg ns a)),some (.int (bx ns a:Nat)),some (.lst ((iw ns a).map eN)),none,none,none,none,none,none])]
 .simpa only [rM (show (0:Int) < 9949 by decide) (show (0:Int) < 4 by decide),if_pos (show 0<=lim from Nat.zero_le _),gP (dX (dg ns a) 9949 4) (show dX (dg ns a) 9949 4<=lim by omega)];rw [bind_eq (a:=.nx [some (.lst (ns.map D.int)),some (.int (a:Int)),some (.int (dg ns a)),some (.int (bx ns a:Nat)),some (.lst ((iw ns a).map eN)),none,some (.lst ((oZ ns a).map eM)),none,none,none,none])]
  .simpa only [if_pos (show 0+1+1<=lim by decide)];rfl
  .refine (cU eN (fun acc:List Meet=>[some (.lst (ns.map D.int)),some (.int (a:Int)),some (.int (dg ns a)),some (.int (bx ns a:Nat)),some (.lst ((iw ns a).map eN)),none,some (.lst (acc.map eM)),none,none,none,none]) (fun k=>[fK ns a k]) lim (List.range (dX (dg ns a) 9949 4)) (fun acc k hk hB=>?_) [] ?_).trans ?_
   .have hk':=y0.mp hk;have m53:=xT (show 53<=1000 by decide) (k:Int);have m53k:=mul_k (show k<=1000 by omega) (((53:Nat):Int) * (k:Int));have m7:=xT (show 7<=1000 by decide) (k:Int);have es:dg ns (a+2)+((53:Nat):Int) * (k:Int) * (k:Int)+((7:Nat):Int) * (k:Int)=eF ns a k:=rfl;simp only [show ((53:Nat):Int)=53 from rfl,show ((7:Nat):Int)=7 from rfl] at m53 m53k m7 es;simpa only [ea2,vq,m53,m53k,m7,es,if_pos (show 0<=lim from Nat.zero_le _),gP (bx ns a) (show bx ns a<=lim by omega)];rw [bind_eq (a:=((List.range (bx ns a)).filter fun (x:Nat)=>decide (dX (eF ns a k+17 * (x:Int)) 9941 2=1)).map eN)]
    .have hfl:=yn (fun x:Nat=>decide (dX (eF ns a k+17 * (x:Int)) 9941 2=1)) (List.range (bx ns a));rw [List.length_range] at hfl;have hfl2:((List.range (bx ns a)).filter fun (x:Nat)=>decide (dX (eF ns a k+17 * (x:Int)) 9941 2=1)).length<=lim:=by omega
     have ed:(((List.range (bx ns a)).filter fun (x:Nat)=>decide (dX (eF ns a k+17 * (x:Int)) 9941 2=1)).map eN).take 3=(drawn ns a k).map eN:=by unfold drawn;rw [List.map_take]
     simpa only [List.length_map,if_pos hfl2,slD,acK,ed,yq.cmpEq0];have hal:acc.length < lim:=by simp only [List.length_singleton] at hB;omega
     by_cases hd:(drawn ns a k).isEmpty=true
     .have et:dM ns a k=[dX (eF ns a k) 9931 (bx ns a:Nat)]:=if_pos hd;simpa only [hd,rM (show (0:Int) < 9931 by decide) (show (0:Int) < (bx ns a:Nat) by omega),if_pos (show 0+1<=lim by decide)];rw [show ([D.int ((dX (eF ns a k) 9931 (bx ns a:Nat):Nat):Int)]:List D)=(dM ns a k).map eN by rw [et];rfl];rw [bind_eq (a:=(fK ns a k).map eP)]
      .have hbl:(fK ns a k).length<=lim:=by
        have:=(mL ns a k).2.2.2;unfold fK;rw [List.length_map];omega
       simpa only [List.length_map,if_pos hbl];rw [bind_eq (show yX (.lst (acc.map eM)) (.tup ((fK ns a k).map eP))=_ from oA (enc:=eM) (a:=fK ns a k) hal)];exact ⟨_,rfl,by simp [aM]⟩
      .rw [show fK ns a k=(dM ns a k).map fun (x:Nat)=>(x,dX (eF ns a k+5 * (x:Int)) 9929 ((iw ns a).getD x 1:Nat)) from rfl,List.map_map];refine cG (dM ns a k) fun x hx=>?_
       have hx':=(mL ns a k).2.1 x hx;have m5:=xT (show 5<=1000 by decide) (x:Int);simp only [show ((5:Nat):Int)=5 from rfl] at m5;have eg:(iw ns a).getD x 1=cQ ns a x:=by simp [List.getD,xQ hx']
       have hlp:=pI ns a x;simpa only [m5,Ie (enc:=eN) (xQ hx'),rM (show (0:Int) < 9929 by decide) (show (0:Int) < (cQ ns a x:Nat) by omega),if_pos (show 0+1+1<=lim by decide)];simp only [Function.comp,eg,eP]
     .have et:dM ns a k=drawn ns a k:=if_neg hd;simpa only [eq_false_of_ne_true hd];rw [<- et];rw [bind_eq (a:=(fK ns a k).map eP)]
      .have hbl:(fK ns a k).length<=lim:=by
        have:=(mL ns a k).2.2.2;unfold fK;rw [List.length_map];omega
       simpa only [List.length_map,if_pos hbl];rw [bind_eq (show yX (.lst (acc.map eM)) (.tup ((fK ns a k).map eP))=_ from oA (enc:=eM) (a:=fK ns a k) hal)];exact ⟨_,rfl,by simp [aM]⟩
      .rw [show fK ns a k=(dM ns a k).map fun (x:Nat)=>(x,dX (eF ns a k+5 * (x:Int)) 9929 ((iw ns a).getD x 1:Nat)) from rfl,List.map_map];refine cG (dM ns a k) fun x hx=>?_
       have hx':=(mL ns a k).2.1 x hx;have m5:=xT (show 5<=1000 by decide) (x:Int);simp only [show ((5:Nat):Int)=5 from rfl] at m5;have eg:(iw ns a).getD x 1=cQ ns a x:=by simp [List.getD,xQ hx']
       have hlp:=pI ns a x;simpa only [m5,Ie (enc:=eN) (xQ hx'),rM (show (0:Int) < 9929 by decide) (show (0:Int) < (cQ ns a x:Nat) by omega),if_pos (show 0+1+1<=lim by decide)];simp only [Function.comp,eg,eP]
    .refine cC (List.range (bx ns a)) fun x hx=>?_
     have m17:=xT (show 17<=1000 by decide) (x:Int);simp only [show ((17:Nat):Int)=17 from rfl] at m17;simpa only [m17,rM (show (0:Int) < 9941 by decide) (show (0:Int) < 2 by decide)];have e1:decide (((dX (eF ns a k+17 * (x:Int)) 9941 2:Nat):Int)=1)=decide (dX (eF ns a k+17 * (x:Int)) 9941 2=1):=o7 _ 1;rw [e1];by_cases hh:dX (eF ns a k+17 * (x:Int)) 9941 2=1 <;> simpa [hh]
   .rw [fC,List.length_nil,List.length_map,List.length_range];omega
   .rw [fC];rfl
 .refine (cU eN (fun acc:zz=>[some (.lst (ns.map D.int)),some (.int (a:Int)),some (.int (dg ns a)),some (.int (bx ns a:Nat)),some (.lst (acc.map eN)),none,none,none,none,none,none]) (fun k=>[cQ ns a k]) lim (List.range (bx ns a)) (fun acc k hk hB=>?_) [] ?_).trans ?_
  .have hk':=y0.mp hk;have m31:=xT (show 31<=1000 by decide) (k:Int);have m31k:=mul_k (show k<=1000 by omega) (((31:Nat):Int) * (k:Int));simp only [show ((31:Nat):Int)=31 from rfl] at m31 m31k;have hal:acc.length < lim:=by simp only [List.length_singleton] at hB;omega
   have h63:decide ((63:Int) < (ns.length:Int))=false:=yk (by omega);by_cases h2:k < 2
   .have e3:jr k=3:=if_pos h2;have el:cQ ns a k=1+dX (dg ns (a+1)+31 * (k:Int) * (k:Int)+(k:Int)) 9967 3:=by unfold cQ;rw [e3];rfl
    simpa only [decide_eq_true (show (k:Int) < 2 by omega),ea1,vq,m31,m31k,rM (show (0:Int) < 9967 by decide) (show (0:Int) < 3 by decide),one_add,<- el];rw [bind_eq (oA (enc:=eN) hal)];exact ⟨_,rfl,by simp [aM]⟩
   .have e3:jr k=2:=if_neg h2;have el:cQ ns a k=1+dX (dg ns (a+1)+31 * (k:Int) * (k:Int)+(k:Int)) 9967 2:=by unfold cQ;rw [e3];rfl
    simpa only [decide_eq_false (show ¬ ((k:Int) < 2) by omega),h63,ea1,vq,m31,m31k,rM (show (0:Int) < 9967 by decide) (show (0:Int) < 2 by decide),one_add,<- el];rw [bind_eq (oA (enc:=eN) hal)];exact ⟨_,rfl,by simp [aM]⟩
  .rw [fC,List.length_nil,List.length_map,List.length_range];omega
  .rw [fC];rfl
theorem Li (h1:∀ l∈lv,1<=l) (hp:prod lv<=lim) (hlen:lv.length<=lim) (hl:∀ l∈lv,l<=lim):au tab aG (n+1) 33 [aq lv]=.ok (.lst ((rows lv).map aq)):=by
 rw [bG KD rfl];delta lZ;simpa only [if_pos (show 0<=lim from Nat.zero_le _),if_pos (show 0+1<=lim by decide)];rw [bind_eq (a:=.nx [some (aq lv),some (.lst ((rows lv).map aq)),none,none,none,none])]
 .simpa only []
 .refine bU eN (fun rs:zv=>[some (aq lv),some (.lst (rs.map aq)),none,none,none,none]) cu (fun rs rest=>tR lv rs rest/\∀ l∈rest,l<=lim) (fun rs l rest hi=>?_) lv [[]] ⟨⟨rfl,by simp,h1⟩,hl⟩;obtain ⟨hi,hll⟩:=hi;obtain ⟨hs,hsz⟩:=hi.step;have hrl:∀ r∈rs,r.length < lim:=fun r hr=>by
   have:=hi.2.1 r hr;simp only [List.length_cons] at this;omega
  refine ⟨⟨hs,fun x hx=>hll x (vy _ hx)⟩,?_⟩;simpa only [if_pos (show 0<=lim from Nat.zero_le _)];rw [bind_eq (a:=.nx [some (aq lv),some (.lst (rs.map aq)),some (eN l),some (.lst ((cu rs l).map aq)),none,none])]
  .simpa only [];exact ⟨_,rfl,by simp [aM]⟩
  .refine cU aq (fun acc:zv=>[some (aq lv),some (.lst (rs.map aq)),some (eN l),some (.lst (acc.map aq)),none,none]) (fun r=>(List.range l).map fun s=>r++[s]) lim rs (fun acc r hr hB=>?_) [] (by rw [yM,List.length_nil];omega);simpa only [gP l (hll l List.mem_cons_self)];rw [bind_eq (a:=((List.range l).map fun s=>r++[s]).map aq)]
   .have hll':=hll l vz;simpa only [List.length_map,List.length_range,if_pos hll'];rw [bind_eq (GP (enc:=aq) hB)];exact ⟨_,rfl,by simp [aM]⟩
   .rw [List.map_map];refine cG (List.range l) fun s hs=>?_
    simpa only [Jw (hrl r hr),if_pos (show 0+1<=lim by decide)];rfl
def Ay (h:∀ p∈m,p.1 < r.length) (hl:m.length<=lim):au tab aG (n+1) 34 [aq r,eM m]=.ok (.bl (aL r m)):=by
 rw [bG Je rfl];delta kE;simpa only [if_pos (show 0<=lim from Nat.zero_le _)];rw [bind_eq (a:=(m.filter fun p=>!decide (r[p.1]?=some p.2)).map eP)]
 .have:=yn (fun p:Nat × Nat=>!decide (r[p.1]?=some p.2)) m;have h2:(m.filter fun p=>!decide (r[p.1]?=some p.2)).length<=lim:=by omega
  simpa only [List.length_map,if_pos h2,GK.cmpEq0];congr 2;unfold aL;rw [Bool.eq_iff_iff,List.isEmpty_iff,List.filter_eq_nil_iff,List.all_eq_true];simp
 .refine cC m fun p hp=>?_
  obtain ⟨x,hx⟩:∃ x,r[p.1]?=some x:=⟨_,List.getElem?_eq_getElem (h p hp)⟩;simpa only [Hg hx,o7,hx,Option.some.injEq];by_cases hh:x=p.2 <;> simpa [hh]
def Hl (h:WB lv bs)  (hr:gj lv r) {b:Meet} (hb:b∈bs):(∀ p∈b,p.1 < r.length)/\b.length<=lim:=by
 have hlim:lim=100000:=rfl;refine ⟨fun p hp=>?_,by have:=(h.ban b hb).2.2;omega⟩;obtain ⟨l,e,_⟩:=(h.ban b hb).1.2 p hp;rw [hr.len];exact (v7.mp e).1
theorem Ig (h:WB lv bs):au tab aG (n+2) 35 [eB lv bs]=.ok (.lst ((tests lv bs).map aq)):=by
 have f:=kZ lv h.mem;have h4:=h.four;have hb:=h.nb;have hlim:lim=100000:=rfl;rw [bG Ib rfl];delta kh;simpa only [if_pos (show 0<=lim from Nat.zero_le _),Li (fun l hl=>(WB.lvAll h l hl).1) (show prod lv<=lim by omega) (show lv.length<=lim by omega) (fun l hl=>by have:=WB.lvAll h l hl;omega)];rw [bind_eq (a:=.nx [some (eB lv bs),some (.lst ((tests lv bs).map aq)),none,none])]
 .simpa only []
 .refine (cU aq (fun acc:zv=>[some (eB lv bs),some (.lst (acc.map aq)),none,none]) (fun r=>if ou bs r then [r] else []) lim (rows lv) (fun acc r hr hB=>?_) [] ?_).trans ?_
  .have hok:=lE.mp hr;simpa only [if_pos (show 0<=lim from Nat.zero_le _)];rw [bind_eq (a:=(bs.filter fun b=>aL r b).map eM)]
   .have:=yn (fun b=>aL r b) bs;have h2:(bs.filter fun b=>aL r b).length<=lim:=by omega
    simpa only [List.length_map,if_pos h2,j7.cmpEq0];have et:(bs.filter fun b=>aL r b).isEmpty=ou bs r:=by
     unfold ou;rw [Bool.eq_iff_iff,List.isEmpty_iff,List.filter_eq_nil_iff];simp
    rw [et];cases e:ou bs r with
    | false=>simpa only [];exact ⟨_,rfl,by simp [aM]⟩
    | true =>
     rw [e] at hB;have hal:acc.length < lim:=by simp at hB;omega
     simpa only [];rw [bind_eq (oA (enc:=aq) hal)];exact ⟨_,rfl,by simp [aM]⟩
   .refine cC bs fun b hbm=>?_
    simpa only [Ay (Hl h hok hbm).1 (Hl h hok hbm).2];cases aL r b <;> simpa []
  .rw [iy,List.length_nil];have:=rO h;unfold tests at this;omega
  .rw [iy];rfl
def BR (lv:zz) (k:Nat):List Meet:=((rows lv).flatMap fun r=>(subs (aO 0 r)).filter fun m=>decide (m.length=k)).foldl bR []
def R3 (h1:∀ (i l:Nat),lv[i]?=some l->1<=l):m∈BR lv k↔m∈allM lv k:=by
 unfold BR;rw [pY,oV];simp only [List.not_mem_nil,false_or,List.mem_flatMap,List.mem_filter,FJ,decide_eq_true_eq];constructor
 .rintro ⟨r,hr,⟨h2,h3⟩,h4⟩;exact ⟨h4,Hw (lE.mp hr) h2 h3⟩
 .rintro ⟨h4,h5⟩;obtain ⟨r,hr,h6⟩:=Vo h1 h5;exact ⟨r,hr,⟨h5.1,h6⟩,h4⟩
theorem ZM {t s:Nat} (h:m.length < lim):mY (eM m) (.tup [.tup [.int (t:Int),.int (s:Int)]])=.ok (eM (m++[(t,s)])):=Q5 (p:=(t,s)) h
theorem JF {α β:Type} (p:β->Bool) (g:α->β->α):∀ (l:List β) (a:α),l.foldl (fun a x=>if p x then g a x else a) a=(l.filter p).foldl g a
 | [],a=>rfl
 | x::l,a=>by
  rw [List.foldl_cons,JF p g l,List.filter_cons];cases p x <;> simp
def K1 (h:WB lv bs)  (h1:1<=k) (h3:k<=3):au tab aG (n+2) 36 [eB lv bs,.int k]=.ok (.lst ((allM lv k).map eM)):=by
 have f:=kZ lv h.mem;have h4:=h.four;have hlim:lim=100000:=rfl;rw [bG Bu rfl];have hsort:tQ (eK (BR lv k))=.ok (.lst ((allM lv k).map eM)) :=
  Uu (su List.nodup_nil) (yN lv k) (fun m=>R3 fun i l e=>(h.lv1 i l e).1) (Ax h h1 h3) (Zm h1)
 delta iQ;simpa only [if_pos (show 0<=lim from Nat.zero_le _),Li (fun l hl=>(WB.lvAll h l hl).1) (show prod lv<=lim by omega) (show lv.length<=lim by omega) (fun l hl=>by have:=WB.lvAll h l hl;omega)];rw [bind_eq (a:=.nx [some (eB lv bs),some (.int (k:Int)),some (eK (BR lv k)),none,none,none,none,none])]
 .simpa only [hsort]
 .refine (bU aq (fun ks:List Meet=>[some (eB lv bs),some (.int (k:Int)),some (eK ks),none,none,none,none,none]) (fun ks r=>((subs (aO 0 r)).filter fun m=>decide (m.length=k)).foldl bR ks) (fun ks rest=>(∀ r∈rest,r∈rows lv)/\ks.length+rest.length * 16<=640) (fun ks r rest hp=>?_) (rows lv) [] ⟨fun _ h=>h,by rw [uN,List.length_nil];omega⟩).trans ?_
  .obtain ⟨hin,hsz⟩:=hp;have hok:=lE.mp (hin r vz);have hrl:=hok.len;have hsl:(subs (aO 0 r)).length<=16:=by
    unfold subs;rw [Ea,dG,List.length_singleton,Nat.one_mul];have:2 ^ r.length<=2 ^ 4:=Nat.pow_le_pow_right (by omega) (by omega);have e:(2:Nat) ^ 4=16:=by decide
    omega
   have hfl:=jJ ((subs (aO 0 r)).filter fun m=>decide (m.length=k)) ks;have hff:=yn (fun m:Meet=>decide (m.length=k)) (subs (aO 0 r));simp only [List.length_cons,Nat.succ_mul] at hsz;refine ⟨⟨fun x hx=>hin x (vy _ hx),by omega⟩,?_⟩;simpa only [if_pos (show 0<=lim from Nat.zero_le _),if_pos (show 0+1<=lim by decide)];rw [bind_eq (a:=.nx [some (eB lv bs),some (.int (k:Int)),some (eK ks),some (aq r),some (.lst ((subs (aO 0 r)).map eM)),none,none,none])]
   .simpa only [];rw [bind_eq (a:=.nx [some (eB lv bs),some (.int (k:Int)),some (eK (((subs (aO 0 r)).filter fun m=>decide (m.length=k)).foldl bR ks)),some (aq r),some (.lst ((subs (aO 0 r)).map eM)),none,none,none])]
    .exact ⟨_,rfl,by simp [aM]⟩
    .refine (bU eM (fun ks:List Meet=>[some (eB lv bs),some (.int (k:Int)),some (eK ks),some (aq r),some (.lst ((subs (aO 0 r)).map eM)),none,none,none]) (fun ks m=>if decide (m.length=k) then bR ks m else ks) (fun ks rest=>ks.length+rest.length<=90000) (fun ks m rest hp=>?_) (subs (aO 0 r)) ks (by omega)).trans ?_
     .simp only [List.length_cons] at hp;have:=uJ ks m;by_cases hm:m.length=k
      .refine ⟨by simp only [hm];simp;omega,?_⟩;simpa only [o7,hm,decide_eq_true (Eq.refl k)];rw [bind_eq (S6 ks m (by omega))];exact ⟨_,rfl,by simp [aM]⟩
      .refine ⟨by simp only [hm];simp;omega,?_⟩;simpa only [o7,decide_eq_false hm];exact ⟨_,rfl,by simp [aM]⟩
     .rw [JF]
   .refine (bU eP (fun acc:List Meet=>[some (eB lv bs),some (.int (k:Int)),some (eK ks),some (aq r),some (.lst (acc.map eM)),none,none,none]) fG (fun acc rest=>acc.length * 2 ^ rest.length<=16/\∀ m∈acc,m.length+rest.length<=4) (fun acc p rest hp=>?_) (aO 0 r) [[]] ⟨?_,?_⟩).trans ?_
    .obtain ⟨q1,q2⟩:=hp;have hal:acc.length<=8:=by
      rw [List.length_cons,Nat.pow_succ] at q1;have:1<=2 ^ rest.length:=Nat.one_le_two_pow;have h5:acc.length * 2<=acc.length * (2 ^ rest.length * 2):=Nat.mul_le_mul_left _ (by omega);omega
     refine ⟨⟨?_,fun m hm=>?_⟩,?_⟩
     .unfold fG;rw [List.length_append,List.length_map,<- Nat.two_mul,Nat.mul_comm 2,Nat.mul_assoc];rw [List.length_cons,Nat.pow_succ,Nat.mul_comm (2 ^ rest.length)] at q1;exact q1
     .unfold fG at hm;rcases yy.mp hm with hm | hm
      .have:=q2 m hm;simp only [List.length_cons] at this;omega
      .obtain ⟨m',hm',rfl⟩:=yo.mp hm;have:=q2 m' hm';simp only [List.length_cons,List.length_append,List.length_nil] at this ⊢;omega
     .simpa only [eP];rw [bind_eq (a:=(acc.map fun m=>m++[p]).map eM)]
      .simpa only [List.length_map,if_pos (show acc.length<=lim by omega)];rw [bind_eq (GP (enc:=eM) (l:=acc) (l':=acc.map fun m=>m++[p]) (by rw [List.length_map];omega))];exact ⟨_,rfl,by simp [aM,fG]⟩
      .rw [List.map_map];refine cG acc fun m hm=>?_
       have:=q2 m hm;simp only [List.length_cons] at this;simpa only [ZM (show m.length < lim by omega),if_pos (show 0+1<=lim by decide),if_pos (show 0+1+1<=lim by decide)];rfl
    .rw [dG,List.length_singleton,Nat.one_mul];have:2 ^ r.length<=2 ^ 4:=Nat.pow_le_pow_right (by omega) (by omega);have e:(2:Nat) ^ 4=16:=by decide
     omega
    .intro m hm;rw [List.mem_singleton.mp hm,dG,List.length_nil];omega
    .rfl
  .unfold BR;rw [List.foldl_flatMap]
theorem Mj (hr:gj lv r)  (hm:pH lv m):∀ p∈m,p.1 < r.length:=fun p hp=>by
 obtain ⟨l,e,_⟩:=hm.2 p hp;rw [hr.len];exact (v7.mp e).1
theorem La (h:WB lv bs)  (h1:1<=k) (h3:k<=3):au tab aG (n+3) 37 [eB lv bs,.int k]=.ok (.lst ((bV lv bs k).map eM)):=by
 have hlim:lim=100000:=rfl;have htl:=rO h;have ha:=Ax h h1 h3;rw [bG Cp rfl];delta iR;simpa only [if_pos (show 0<=lim from Nat.zero_le _),Ig h,K1 h h1 h3];rw [bind_eq (a:=.nx [some (eB lv bs),some (.int (k:Int)),some (.lst ((tests lv bs).map aq)),some (.lst ((bV lv bs k).map eM)),none,none])]
 .simpa only []
 .refine (cU eM (fun acc:List Meet=>[some (eB lv bs),some (.int (k:Int)),some (.lst ((tests lv bs).map aq)),some (.lst (acc.map eM)),none,none]) (fun m=>if ((tests lv bs).any fun t=>aL t m) then [m] else []) lim (allM lv k) (fun acc m hm hB=>?_) [] ?_).trans ?_
  .have hmo:=(oV.mp hm);simpa only [if_pos (show 0<=lim from Nat.zero_le _)];rw [bind_eq (a:=((tests lv bs).filter fun t=>aL t m).map aq)]
   .have:=yn (fun t=>aL t m) (tests lv bs);have h2:((tests lv bs).filter fun t=>aL t m).length<=lim:=by omega
    simpa only [List.length_map,if_pos h2,lF.cmpNe0];have et:(!((tests lv bs).filter fun t=>aL t m).isEmpty)=(tests lv bs).any fun t=>aL t m:=by
     rw [Bool.eq_iff_iff];simp [List.any_eq_true,List.filter_eq_nil_iff]
    rw [et];cases e:(tests lv bs).any fun t=>aL t m with
    | false=>simpa only [];exact ⟨_,rfl,by simp [aM]⟩
    | true =>
     rw [e] at hB;have hal:acc.length < lim:=by simp at hB;omega
     simpa only [];rw [bind_eq (oA (enc:=eM) hal)];exact ⟨_,rfl,by simp [aM]⟩
   .refine cC (tests lv bs) fun t ht=>?_
    simpa only [Ay (Mj (mG ht) hmo.2) (show m.length<=lim by omega)];cases aL t m <;> simpa []
  .rw [iy,List.length_nil];have:=yn (fun m=>(tests lv bs).any fun t=>aL t m) (allM lv k);omega
  .rw [iy];rfl
def Kg (h:WB lv bs) (c:Int):∃ k:Nat,1<=k/\k<=3/\k<=lv.length/\au tab aG (n+1) 39 [eB lv bs,.int c]=.ok (.int k):=by
 have h1:=h.one;rw [bG Ck rfl];delta iV;simpa only [if_pos (show 0+1+1+1+1<=lim by decide),Ph (show (0:Int) < 4 by decide)];have h0:=Int.emod_nonneg c (show (4:Int)≠0 by decide);have h4:=Int.emod_lt_of_pos c (show (0:Int) < 4 by decide);have key:∃ s:Nat,1<=s/\s<=3/\ixD (.lst [.int 2,.int 2,.int 1,.int 3]) (.int (c % 4))=.ok (.int (s:Int)):=by
  have:c % 4=0\/c % 4=1\/c % 4=2\/c % 4=3:=by omega
  rcases this with e | e | e | e <;> rw [e]
  .exact ⟨2,by decide,by decide,rfl⟩
  .exact ⟨2,by decide,by decide,rfl⟩
  .exact ⟨1,by decide,by decide,rfl⟩
  .exact ⟨3,by decide,by decide,rfl⟩
 obtain ⟨s,q1,q2,q3⟩:=key;refine ⟨min s lv.length,by omega,by omega,by omega,?_⟩;simpa only [q3];congr 2;split <;> omega
theorem Mp:∀ {lv r:zz},gj lv r->∀ p∈r.zip lv,p.1 < p.2
 | [],[],_,p,h=>by simp at h
 | l::lv,x::r,h,p,hp=>by
  rw [List.zip_cons_cons,List.mem_cons] at hp;rcases hp with rfl | hp
  .exact h.1
  .exact Mp h.2 p hp
def Vc (hr:gj lv r) (hl:lv.length<=6):au tab aG (n+2) 11 [aq lv,aq r]=.ok (.bl true):=by
 have hlim:lim=100000:=rfl;have hlen:=hr.len;have hz:(r.zip lv).length<=lim:=by rw [List.length_zip];omega
 rw [bG V6 rfl];delta uf;simpa only [tO,decide_eq_true (show (lv.length:Int)<=r.length by omega),decide_eq_true (show (r.length:Int)<=lv.length by omega),Bool.and_self,RD];rw [bind_eq (a:=(r.zip lv).map fun _=>D.bl true)]
 .simpa only [List.length_map,if_pos hz];rw [bind_eq (Gu (fun _=>true) (r.zip lv))];simpa []
 .refine cG (r.zip lv) fun p hp=>?_
  have:=Mp hr p hp;simpa only [eP,n6,decide_eq_true (show (0:Int)<=p.1 by omega),decide_eq_true (show (p.1:Int)<=p.2 - 1 by omega),Bool.and_self]
def QV (h:WB lv bs)  (ht:t∈tests lv bs):au tab aG (n+3) 12 [eB lv bs,aq t]=.ok (.bl true):=by
 have hlim:lim=100000:=rfl;have h4:=h.four;have hb:=h.nb;have hr:=mG ht;have hany:(bs.any fun b=>aL t b)=false:=by
  have:=(yY.mp ht).2;unfold ou at this;simpa using this
 rw [bG RW rfl];delta rm;simpa only [Vc hr (show lv.length<=6 by omega),yU (fun b hb=>Hl h hr hb) (show bs.length<=lim by omega),hany]
theorem JL {p:D->R D}:∀ (ts:zv),(∀ t∈ts,p (aq t)=.ok (.bl true))->lC p (ts.map aq)=.ok ()
 | [],_=>rfl
 | t::ts,h=>by
  show (match p (aq t) with | .ok (.bl true)=>lC p (ts.map aq) | _=>.stuck)=_
  rw [h t List.mem_cons_self];exact JL ts fun u hu=>h u (vy _ hu)
theorem Fw (h:WB lv bs)  (ht:∀ t∈ts,t∈tests lv bs):au tab aG (n+4) 13 [eB lv bs,.lst (ts.map aq)]=.ok .non:=by
 rw [aal uU uQ rfl];have e:Py (au tab aG (n+3)) 12 [some (eB lv bs),some (.lst (ts.map aq))]=.ok (.nx [some (eB lv bs),some (.lst (ts.map aq))]):=by
  show (match lC (fun t=>au tab aG (n+3) 12 [eB lv bs,t]) (ts.map aq) with | .ok _=>R.ok (Out.nx [some (eB lv bs),some (.lst (ts.map aq))]) | _=>.stuck)=_
  rw [JL ts fun t hh=>QV h (ht t hh)]
 show rY (Py (au tab aG (n+3)) 12 [some (eB lv bs),some (.lst (ts.map aq))])=_
 rw [e];rfl
def yx (h:WB lv bs)  (h1:1<=k) (h3:k<=3) (hk:k<=lv.length)  (ht:∀ t∈ts,t∈tests lv bs):au tab aG (n+7) 20 [eB lv bs,.int k,.lst (ts.map aq)]=.ok .non:=by
 rw [bG KR rfl];delta lN;simpa only [Lr h h1 h3 hk,Fw h ht]
theorem DN :∀ m∈bV lv bs k,m.length=k/\dY m:=fun m hm=>⟨(rG.mp hm).1,(rG.mp hm).2.1⟩
def Vx (h:WB lv bs)  (h1:1<=k) (h3:k<=3):(bV lv bs k).length < 64:=by
 have:=Ax h h1 h3;have:=yn (fun m=>(tests lv bs).any fun t=>aL t m) (allM lv k);unfold bV;omega
variable {ps:List Meet}
theorem Sw (h:∀ m∈ps,(∀ t∈ts,∀ p∈m,p.1 < t.length)/\m.length<=lim) (hp:ps.length<=lim) (ht:ts.length<=lim):au tab aG (n+2) 38 [.lst (ps.map eM),.lst (ts.map aq)]=.ok (.lst ((rD ps ts).map eM)):=by
 rw [bG Kl rfl];delta lO;simpa only [if_pos (show 0<=lim from Nat.zero_le _)];rw [bind_eq (a:=.nx [some (.lst (ps.map eM)),some (.lst (ts.map aq)),some (.lst ((rD ps ts).map eM)),none,none])]
 .simpa only []
 .refine (cU eM (fun acc:List Meet=>[some (.lst (ps.map eM)),some (.lst (ts.map aq)),some (.lst (acc.map eM)),none,none]) (fun m=>if (!(ts.any fun t=>aL t m)) then [m] else []) lim ps (fun acc m hm hB=>?_) [] ?_).trans ?_
  .simpa only [if_pos (show 0<=lim from Nat.zero_le _)];rw [bind_eq (a:=(ts.filter fun t=>aL t m).map aq)]
   .have:=yn (fun t=>aL t m) ts;have h2:(ts.filter fun t=>aL t m).length<=lim:=by omega
    simpa only [List.length_map,if_pos h2,lF.cmpEq0];have et:(ts.filter fun t=>aL t m).isEmpty=!(ts.any fun t=>aL t m):=by
     rw [Bool.eq_iff_iff];simp [List.any_eq_true,List.filter_eq_nil_iff]
    rw [et];cases e:!(ts.any fun t=>aL t m) with
    | false=>simpa only [];exact ⟨_,rfl,by simp [aM]⟩
    | true =>
     rw [e] at hB;have hal:acc.length < lim:=by simp at hB;omega
     simpa only [];rw [bind_eq (oA (enc:=eM) hal)];exact ⟨_,rfl,by simp [aM]⟩
   .refine cC ts fun t htm=>?_
    simpa only [Ay ((h m hm).1 t htm) (h m hm).2];cases aL t m <;> simpa []
  .rw [iy,List.length_nil];have:=yn (fun m=>!(ts.any fun t=>aL t m)) ps;omega
  .rw [iy];rfl
theorem Jm (d:D):Ot (.ok (.ro d))=.ok d:=rfl
theorem Yj (ρ:En):GQ 3 (.ok (.nx ρ))=(do let a <- bO ρ 1;let b <- bO ρ 2;.ok (.tup [a,b])):=rfl
theorem Yv (ρ:En):GQ 2 (.ok (.nx ρ))=(do let a <- bO ρ 1;let b <- bO ρ 1;.ok (.tup [a,b])):=rfl
def Qe (h0:tab[2000+f]?=none) (ht:tab[f]?=some d) (hl:args.length=d.np) (hn:d.nrm=true:=by rfl) (hx:aG.lookup (2000+f)=none:=by rfl):au tab aG (n+1) (2000+f) args=Ot (cj (au tab aG n) d.body (args.map some++List.replicate (d.nn - d.np) none)):=by
 show (match aG.lookup (2000+f) with | some b=>_ | none=>_)=_
 rw [hx];show jf _ _ _ _=_
 unfold jf;rw [h0];have e:2000+f - 2000=f:=by omega
 simp only [if_pos (show 2000<=2000+f by omega),e,ht];exact if_pos ⟨hl,hn⟩
def Qp (h0:tab[1000+f]?=none) (ht:tab[f]?=some d) (hf:f < 1000) (hl:args.length=d.np) (hn:zq d=true) (hx:aG.lookup (1000+f)=none:=by rfl):au tab aG (n+1) (1000+f) args=GQ d.np (cj (au tab aG n) d.body (args.map some++List.replicate (d.nn - d.np) none)):=by
 show (match aG.lookup (1000+f) with | some b=>_ | none=>_)=_
 rw [hx];show jf _ _ _ _=_
 unfold jf;rw [h0];have e:1000+f - 1000=f:=by omega
 simp only [if_neg (show ¬ 2000<=1000+f by omega),e,ht];exact if_pos ⟨hl,hn⟩
def prs (k:Nat):Nat->zv->List (Nat × Meet)
 | _,[]=>[]
 | n,t::ts=>(among (aO 0 t) k).map (fun m=>(n,m))++prs k (n+1) ts
theorem Mg {k:Nat}{m:Meet}:∀ {n:Nat}{ts:zv},(∃ x∈prs k n ts,x.2=m)↔∃ t∈ts,m∈mOf k t
 | n,[]=>by simp [prs]
 | n,t::ts=>by
  have ih:=Mg (k:=k) (m:=m) (n:=n+1) (ts:=ts);rw [prs];constructor
  .rintro ⟨x,hx,rfl⟩;rcases yy.mp hx with h | h
   .obtain ⟨m,hm,rfl⟩:=yo.mp h;exact ⟨t,vz,hm⟩
   .obtain ⟨u,hu,hm⟩:=ih.mp ⟨x,h,rfl⟩;exact ⟨u,vy _ hu,hm⟩
  .rintro ⟨u,hu,hm⟩;rcases w6.mp hu with rfl | hu
   .exact ⟨(n,m),vE _ (yo.mpr ⟨m,hm,rfl⟩),rfl⟩
   .obtain ⟨x,hx,e⟩:=ih.mpr ⟨u,hu,hm⟩;exact ⟨x,vF _ hx,e⟩
def Ss (hk:k<=3) (ht:t.length<=6):(among (aO 0 t) k).length<=216:=by
 have h1:=mR (aO 0 t) k;rw [dG] at h1;have h2:t.length ^ k<=6 ^ k:=Nat.pow_le_pow_left ht k;have h3:6 ^ k<=6 ^ 3:=Nat.pow_le_pow_right (by omega) hk;have h4:(6:Nat) ^ 3=216:=by decide
 omega
theorem Qh {m:Meet}{n:Nat}:∀ {l:List Meet},l.Nodup->((l.map fun x=>(n,x)).filter fun x=>decide (x.2=m)).map (fun x=>eN x.1)=if m∈l then [eN n] else []
 | [],_=>rfl
 | x::l,h=>by
  rw [List.nodup_cons] at h;have ih:=Qh (m:=m) (n:=n) h.2;rw [List.map_cons,List.filter_cons];by_cases e:x=m
  .subst e;rw [if_neg h.1] at ih;simp [ih]
  .have e2:¬ m=x:=fun z=>e z.symm
   simp only [decide_eq_false e,Bool.false_eq_true,if_false,ih,List.mem_cons,e2,false_or]
theorem Mx {k:Nat}{m:Meet} (h1:m.length=k) (h2:dY m):∀ (n:Nat) (ts:zv),((prs k n ts).filter fun x=>decide (x.2=m)).map (fun x=>eN x.1)=(plc m n ts).map eN
 | n,[]=>rfl
 | n,t::ts=>by
  rw [prs,List.filter_append,List.map_append,Mx h1 h2 (n+1) ts,Qh (Vz t k),plc];by_cases e:aL t m=true
  .rw [if_pos (aQ.mpr ⟨h1,h2,e⟩),if_pos e];rfl
  .rw [if_neg fun z=>e (aQ.mp z).2.2,if_neg e];rfl
structure PlOk (k:Nat) (ts:zv) (ks:List Meet) (f:Meet->List D):Prop where
 nd:ks.Nodup
 kind:∀ m∈ks,m.length=k/\dY m
 fn:∀ m∈ks,f m=(plc m 0 ts).map eN
 all:∀ t∈ts,∀ m∈mOf k t,m∈ks
def NK (hk:k<=3) (ht:∀ t∈ts,t.length<=6) (hts:ts.length<=400):∃ (ks:List Meet) (f:Meet->List D),au tab aG (n+4) (2000+25) [.lst (ts.map aq),.int k]=.ok (eGr eM ks f)/\PlOk k ts ks f:=by
 have hlim:lim=100000:=rfl;have step:∀ (us:zv) (j:Nat) (done:List (Nat × Meet)) (s:List Meet × (Meet->List D)),GrOk (fun x:Nat × Meet=>x.2) (fun x=>eN x.1) done s->done.length+us.length * 216<=86400->(∀ t∈us,t.length<=6) ->
   ∃ s',GrOk (fun x:Nat × Meet=>x.2) (fun x=>eN x.1) (done++prs k j us) s'/\nG (fun x d=>do let ρ1 <- dw (.two 3 4) x [some (.lst (ts.map aq)),some (.int (k:Int)),none,none,none,none];lD (au tab aG (n+3)) (.forr (.one 5) .seq [.call 18 [.var 4,.var 1]] (.sda (.var 5) (.var 3))) ρ1 d) (aY j (us.map aq)) (eGr eM s.1 s.2)=.ok (eGr eM s'.1 s'.2):=by
  intro us;induction us with
  | nil=>intro j done s hs _ _;exact ⟨s,by rw [prs,List.append_nil];exact hs,rfl⟩
  | cons t us ih =>
   intro j done s hs hsz hus;have ht6:=hus t vz;have hal:=Ss hk ht6;simp only [List.length_cons,Nat.succ_mul] at hsz;have hle:(aO 0 t).length<=16:=by rw [dG];omega
   obtain ⟨g1,g2⟩:=Cy (enc:=eM) aaN (e:=fun x:Nat × Meet=>eM x.2) (f:=fun x d=>do let ρ1 <- dw (.one 5) x [some (.lst (ts.map aq)),some (.int (k:Int)),none,some (.int (j:Int)),some (aq t),none];lD (au tab aG (n+3)) (.sda (.var 5) (.var 3)) ρ1 d)
    ((among (aO 0 t) k).map fun m=>(j,m)) done s hs (by rw [List.length_map];omega) (fun x hx ks g=>by
     obtain ⟨m,_,rfl⟩:=yo.mp hx;simpa only []
     all_goals rfl)
   obtain ⟨s',q1,q2⟩:=ih (j+1) (done++(among (aO 0 t) k).map fun m=>(j,m)) _ g1 (by rw [List.length_append,List.length_map];omega) fun u hu=>hus u (vy _ hu)
   refine ⟨s',by rw [prs,<- List.append_assoc];exact q1,?_⟩;rw [List.map_cons,aY,nG];rw [bind_eq (a:=eGr eM (((among (aO 0 t) k).map fun m=>(j,m)).foldl (mH (fun x:Nat × Meet=>x.2) (fun x=>eN x.1)) s).1 (((among (aO 0 t) k).map fun m=>(j,m)).foldl (mH (fun x:Nat × Meet=>x.2) (fun x=>eN x.1)) s).2)]
   .exact q2
   .rw [List.map_map] at g2;refine Eq.trans ?_ g2;simpa only [fP (n:=n) hk hle]
    all_goals rfl
 obtain ⟨s',q1,q2⟩:=step ts 0 [] ([],fun _=>[]) GrOk.nil (by simp only [List.length_nil];omega) ht;rw [List.nil_append] at q1;have hmem:∀ m,m∈s'.1↔∃ t∈ts,m∈mOf k t:=fun m=>q1.mem.trans Mg
 have hkind:∀ m∈s'.1,m.length=k/\dY m:=fun m hm=>by
  obtain ⟨t,_,h⟩:=(hmem m).mp hm;exact ⟨(aQ.mp h).1,(aQ.mp h).2.1⟩
 refine ⟨s'.1,s'.2,?_,by rw [q1.ks];exact su List.nodup_nil,hkind,fun m hm=>?_,fun t ht m hm=>(hmem m).mpr ⟨t,ht,hm⟩⟩
 .rw [Qe rfl uY rfl];delta fL;simpa only [K8,Iz];rw [bind_eq (a:=eGr eM s'.1 s'.2)]
  .simpa only [Jm]
  .simpa only [] using q2;exact q2
 .rw [q1.fn,Mx (hkind m hm).1 (hkind m hm).2]
theorem ur {α:Type}{enc:α->D} (h:∀ a,ndD (enc a)=true):∀ l:List α,gR (l.map enc)=true
 | []=>rfl
 | a::l=>by rw [List.map_cons,gR,h a,ur h l];rfl
theorem abt (m:Meet):ndD (eM m)=true:=ur (fun p=>rfl) m
variable {ks:List Meet}
theorem PlOk.ndc {f:Meet->List D} (h:PlOk k ts ks f):ndC (eGr eM ks f)=true:=by
 show (gR (ks.map eM) && gR (ks.map fun m=>D.lst (f m)))=true
 have key:∀ l:List Meet,(∀ m∈l,m∈ks)->gR (l.map fun m=>D.lst (f m))=true:=by
  intro l;induction l with
  | nil=>intro _;rfl
  | cons m l ih =>
   intro hl;rw [List.map_cons,gR,ih fun x hx=>hl x (List.mem_cons_of_mem _ hx)];have:ndD (D.lst (f m))=true:=by
    rw [h.fn m (hl m List.mem_cons_self)];exact ur (fun _=>rfl) _
   rw [this];rfl
 rw [ur abt,key ks fun _ hm=>hm];rfl
def Uq (ms:List Meet):∀ (A:Meet->Bool) (x:Meet),ms.foldl fB A x=(A x && decide (x ∉ ms)):=by
 induction ms with
 | nil=>intro A x;simp
 | cons m ms ih =>
  intro A x;rw [List.foldl_cons,ih,fB,Bool.and_assoc,Bool.eq_iff_iff];simp
def DY {f:Meet->List D} (h:PlOk k ts ks f) (ms:List Meet) (A:Meet->Bool) :
  au tab aG (n+1) (1000+26) [.lst (ms.map eM),eGr eM (ks.filter A) f,.lst ((ts.map (gA k A)).map D.int)]=.ok (.tup [eGr eM (ks.filter (ms.foldl fB A)) f,.lst ((ts.map (gA k (ms.foldl fB A))).map D.int)]):=by
 rw [Qp rfl Nh (by decide) rfl (by decide +kernel)];delta nD;simpa only [];rw [bind_eq (a:=.nx [some (.lst (ms.map eM)),some (eGr eM (ks.filter (ms.foldl fB A)) f),some (.lst ((ts.map (gA k (ms.foldl fB A))).map D.int)),none,none,none])]
 .simpa only [Yj]
 .refine bU eM (fun A:Meet->Bool=>[some (.lst (ms.map eM)),some (eGr eM (ks.filter A) f),some (.lst ((ts.map (gA k A)).map D.int)),none,none,none]) fB (fun _ _=>True) (fun A m rest _=>⟨trivial,?_⟩) ms A trivial;have ef:((ks.filter A).filter fun x=>decide (x≠m))=ks.filter (fB A m):=by
   rw [List.filter_filter];exact List.filter_congr fun x _=>by unfold fB;rw [Bool.and_comm]
  simpa only [XR (h.nd.filter A),ef];by_cases hm:m∈ks.filter A
  .have hA:=(yY.mp hm).2;have hk:=(yY.mp hm).1;rw [if_pos hm,h.fn m hk];have eg:(plc m 0 ts).foldl vh (ts.map (gA k A))=ts.map (gA k (fB A m)):=by
    have:=Lg m (gA k A) ts [];rw [List.nil_append,List.nil_append] at this;rw [show plc m 0 ts=plc m ([]:List Int).length ts from rfl,this];refine List.map_congr_left fun t ht=>?_
    rw [Qs,hA];have:decide (m∈mOf k t)=aL t m:=by
     rw [Bool.eq_iff_iff,decide_eq_true_eq,aQ];exact ⟨fun z=>z.2.2,fun z=>⟨(h.kind m hk).1,(h.kind m hk).2,z⟩⟩
    rw [this,Bool.true_and]
   rw [bind_eq (a:=.nx [some (.lst (ms.map eM)),some (eGr eM (ks.filter (fB A m)) f),some (.lst ((ts.map (gA k (fB A m))).map D.int)),some (eM m),some (.lst ((plc m 0 ts).map eN)),none])]
   .exact ⟨_,rfl,by simp [aM]⟩
   .rw [<- eg];refine bU eN (fun g:List Int=>[some (.lst (ms.map eM)),some (eGr eM (ks.filter (fB A m)) f),some (.lst (g.map D.int)),some (eM m),some (.lst ((plc m 0 ts).map eN)),none]) vh (fun g rest=>g.length=ts.length/\∀ p∈rest,p < ts.length) (fun g p rest hP=>⟨⟨by rw [Wa];exact hP.1,fun q hq=>hP.2 q (vy _ hq)⟩,?_⟩) (plc m 0 ts) (ts.map (gA k A)) ⟨by simp,fun p hp=>by have:=R8 m ts 0 p hp;omega⟩;have hpl:p < g.length:=by rw [hP.1];exact hP.2 p vz
    simpa only [ac1 hpl,abm hpl];exact ⟨_,rfl,by simp [aM,vh]⟩
  .rw [if_neg hm];have eg:ts.map (gA k (fB A m))=ts.map (gA k A):=by
    refine List.map_congr_left fun t ht=>?_
    rw [Qs,if_neg];intro z;simp only [Bool.and_eq_true,decide_eq_true_eq] at z;exact hm (yY.mpr ⟨h.all t ht m z.2,z.1⟩)
   rw [eg];exact ⟨_,rfl,by simp [aM,jm]⟩
def Fj {us:zv} (h1:m.length=k) (h2:dY m):(mOf k t).foldl fB (c7 us) m=c7 (us++[t]) m:=by
 rw [Uq,uO];congr 1;have:decide (m∈mOf k t)=aL t m:=by
  rw [Bool.eq_iff_iff,decide_eq_true_eq,aQ];exact ⟨fun z=>z.2.2,fun z=>⟨h1,h2,z⟩⟩
 rw [<- this];by_cases e:m∈mOf k t <;> simp [e]
def Tv {f:Meet->List D} (h:PlOk k ts ks f) (us:zv) (t:zz) :
  au tab aG (n+1) (1000+26) [.lst ((mOf k t).map eM),eGr eM (ks.filter (c7 us)) f,.lst ((ts.map (gN k us)).map D.int)]=.ok (.tup [eGr eM (ks.filter (c7 (us++[t]))) f,.lst ((ts.map (gN k (us++[t]))).map D.int)]):=by
 rw [DY h];have e1:ks.filter ((mOf k t).foldl fB (c7 us))=ks.filter (c7 (us++[t])):=List.filter_congr fun m hm=>Fj (h.kind m hm).1 (h.kind m hm).2
 have e2:∀ x,gA k ((mOf k t).foldl fB (c7 us)) x=gN k (us++[t]) x:=fun x=>by
  unfold gN gA;rw [List.filter_congr fun m hm=>Fj (us:=us) (t:=t) (aQ.mp hm).1 (aQ.mp hm).2.1]
 rw [e1,List.map_congr_left fun x _=>e2 x]
variable {α:Type}
theorem Xd [DecidableEq α] {enc:α->D} (E:Enc enc) (hk:∀ a b,like (enc a) (enc b)=true) (i:α) (l:List α):inD (enc i) (.lst (l.map enc))=.ok (decide (i∈l)):=by
 have h4:=E.dp;show (if ((l.map enc).all (fun d=>bN d (enc i)) && decide (dep (enc i)<=30))=true then R.ok ((l.map enc).any fun d=>aF d (enc i)) else .stuck)=_
 rw [if_pos]
 .congr 1;rw [Bool.eq_iff_iff,List.any_eq_true,decide_eq_true_eq];constructor
  .rintro ⟨d,hd,e⟩;obtain ⟨j,hj,rfl⟩:=yo.mp hd;rw [E.eq1,decide_eq_true_eq] at e;rw [<- e];exact hj
  .intro hi;exact ⟨enc i,yo.mpr ⟨i,hi,rfl⟩,by rw [E.eq1];simp⟩
 .rw [Bool.and_eq_true,List.all_eq_true];refine ⟨fun d hd=>?_,yi (by have:=h4 i;omega)⟩;obtain ⟨j,hj,rfl⟩:=yo.mp hd;unfold bN;rw [decide_eq_true (show dep (enc j)<=30 by have:=h4 j;omega),decide_eq_true (show dep (enc i)<=30 by have:=h4 i;omega),hk];rfl
theorem ace (i:Nat) (l:zz):inD (.int (i:Int)) (.lst (l.map eN))=.ok (decide (i∈l)):=Xd yq (fun _ _=>rfl) i l
theorem Y0 (l:List Int):lfL (.lst (l.map D.int))=true:=uc (fun _=>rfl) l
theorem YL (l:zz):lfL (.lst (l.map eN))=true:=uc (fun _=>rfl) l
def ux (k:Nat) (ts:zv) (ks:List Meet) (f:Meet->List D) (taken:zz):En :=
 [some (.lst []),some (.lst (ts.map aq)),some (.int (k:Int)),some (eGr eM (ks.filter (c7 (taken.map fun i=>ts.getD i []))) f),some (.lst ((ts.map (gN k (taken.map fun i=>ts.getD i []))).map D.int)),some (.lst (taken.map eN)),none,none,none]
def Y7 (hk:k<=3)  (ht:∀ t∈ts,t.length<=6) (hts:ts.length<=400) {f:Meet->List D} (h:PlOk k ts ks f) :
  ∀ (r fuel:Nat) (taken:zz),((List.range ts.length).filter fun i=>!decide (i∈taken)).length<=r->r < fuel->taken.length+r<=ts.length->(∀ i∈taken,i < ts.length)->(∀ i∈taken,gN k (taken.map fun i=>ts.getD i []) (ts.getD i [])=0) ->
   ∃ taken',taken'.length<=ts.length/\(∀ i∈taken',i < ts.length) /\
    uF (fun ρ=>do let x <- evE (au tab aG (n+4)) (.cmp .gt (.maxd (.var 4) 0) (.con (.int 0))) ρ;cJ x) (fun ρ=>cj (au tab aG (n+4)) [.setB (.one 7) (.idx 4 (.blt .maxl [(.var 4)])),.app 5 (.var 7),.call2 3 4 26 (.call 18 [(.ix (.var 1) (.var 7)),(.var 2)])] ρ) (ux k ts ks f []) fuel (ux k ts ks f taken)=.ok (.nx (ux k ts ks f taken')):=by
 have hlim:lim=100000:=rfl;intro r fuel;induction fuel generalizing r with
 | zero=>intro taken _ hf;omega
 | succ fuel ih =>
  intro taken hR hf htl hlt hz;generalize hus:(taken.map fun i=>ts.getD i [])=us at hz;by_cases hM:0 < mxL (ts.map (gN k us))
  .have hnei:ts.map (gN k us)≠[]:=fun z=>by rw [z] at hM;exact absurd hM (by decide)
   obtain ⟨j,i1⟩:∃ j,(ts.map (gN k us)).findIdx? (fun a=>decide (a=mxL (ts.map (gN k us))))=some j:=by
    cases e:(ts.map (gN k us)).findIdx? (fun a=>decide (a=mxL (ts.map (gN k us)))) with
    | some j=>exact ⟨j,rfl⟩
    | none =>
     have:=List.findIdx?_eq_none_iff.mp e _ (Ms hnei);simp at this
   obtain ⟨hj1,hj2,_⟩:=List.findIdx?_eq_some_iff_getElem.mp i1;have hjl:j < ts.length:=by simpa using hj1
   have htj2:ts[j]?=some (ts.getD j []):=by
    rw [List.getElem?_eq_getElem hjl];simp [hjl]
   have hgj:gN k us (ts.getD j [])=mxL (ts.map (gN k us)):=by
    simp only [List.getElem_map,decide_eq_true_eq] at hj2;rw [<- hj2];simp [hjl]
   have hnt:j ∉ taken:=fun z=>by
    have:=hz j z;omega
   have hjR:j∈((List.range ts.length).filter fun i=>!decide (i∈taken)):=yY.mpr ⟨by simpa using hjl,by simpa using hnt⟩;have hRpos:=List.length_pos_of_mem hjR;have htj:(taken++[j]).map (fun i=>ts.getD i [])=us++[ts.getD j []]:=by rw [List.map_append,hus];rfl
   obtain ⟨taken',t1,t0,t2⟩:=ih (r - 1) (taken++[j]) (by
    rw [<- O6];have:=(List.length_filter_lt_length_iff_exists (p:=fun i=>decide (i≠j)) (l:=(List.range ts.length).filter fun i=>!decide (i∈taken))).mpr ⟨j,hjR,by simp⟩;omega) (by omega) (by rw [List.length_append,List.length_singleton];omega) (fun i hi=>by
    rcases yy.mp hi with hi | hi
    .exact hlt i hi
    .rw [List.mem_singleton.mp hi];exact hjl) (fun i hi=>by
    rw [htj];rcases yy.mp hi with hi | hi
    .have h1:=YF k us (ts.getD j []) (ts.getD i []);have h2:=ab5 k (us++[ts.getD j []]) (ts.getD i []);have h3:=hz i hi;omega
    .rw [List.mem_singleton.mp hi];exact Zy k us _)
   refine ⟨taken',t1,t0,?_⟩;rw [<- t2];have ht6:(ts.getD j []).length<=6:=ht _ (List.mem_of_getElem? htj2);have hle:(aO 0 (ts.getD j [])).length<=16:=by rw [dG];omega
   have htl':taken.length < lim:=by omega
   rw [uF];unfold ux;rw [hus,htj];have eapp:=oA (enc:=eN) (l:=taken) (a:=j) htl';simpa only [Ij,decide_eq_true hM,qR,Tj hnei,abG i1,show lfD (.int (j:Int))=true from rfl,eapp,Ie (enc:=aq) htj2,fP (n:=n+1) hk hle,if_neg (show ¬ (3:Nat)=4 by decide)];rw [bind_eq (Tv (n:=n+3) h us (ts.getD j []))];simpa only [Dq]
  .refine ⟨taken,by omega,hlt,?_⟩;unfold uF ux;rw [hus];simpa only [Ij,decide_eq_false hM]
def ab8 (hk:k<=3)  (ht:∀ t∈ts,t.length<=6) (hts:ts.length<=200):∃ L:zv,au tab aG (n+5) 27 [.lst [],.lst (ts.map aq),.int k]=.ok (.lst (L.map aq))/\(∀ t,t∈L↔t∈ts)/\L.length<=400:=by
 have hlim:lim=100000:=rfl;obtain ⟨ks,f,q1,q2⟩:=NK (n:=n) hk ht (by omega);have e0:ks.filter (c7 [])=ks:=List.filter_eq_self.mpr fun m _=>rfl
 have hr0:((List.range ts.length).filter fun i=>!decide (i∈([]:zz)))=List.range ts.length:=List.filter_eq_self.mpr fun i _=>by simp
 obtain ⟨taken,t1,t0,t2⟩:=Y7 (n:=n) hk ht (by omega) q2 ts.length wfu [] (by rw [hr0];simp) (by show ts.length < 1000;omega) (by simp) (fun i hi=>by cases hi) (fun i hi=>by cases hi);have eE:ux k ts ks f []=[some (.lst []),some (.lst (ts.map aq)),some (.int (k:Int)),some (eGr eM ks f),some (.lst ((ts.map (gN k [])).map D.int)),some (.lst []),none,none,none]:=by
  unfold ux;rw [List.map_nil,e0];rfl
 rw [eE] at t2;have em:au tab aG (n+4) 19 [.lst [],.int (k:Int)]=.ok (.dct [] []):=Vr (n:=n) (ts:=[]) hk (fun t h=>by cases h) (by decide);have et:au tab aG (n+4) (1000+26) [.lst [],eGr eM ks f,.lst ((ts.map (gN k [])).map D.int)]=.ok (.tup [eGr eM ks f,.lst ((ts.map (gN k [])).map D.int)]):=by
  have:=DY (n:=n+3) q2 [] (c7 []);rw [List.foldl_nil,e0] at this;exact this
 have hrl:=yn (fun i=>!decide (i∈taken)) (List.range ts.length);rw [List.length_range] at hrl;have hTm:∀ i∈taken++((List.range ts.length).filter fun i=>!decide (i∈taken)),i < ts.length:=fun i hi=>by
  rcases yy.mp hi with hi | hi
  .exact t0 i hi
  .simpa using (List.mem_filter.mp hi).1
 have hTa:∀ i,i < ts.length->i∈taken++((List.range ts.length).filter fun i=>!decide (i∈taken)):=fun i hi=>by
  by_cases z:i∈taken
  .exact vE _ z
  .exact vF _ (yY.mpr ⟨by simpa using hi,by simpa using z⟩)
 generalize hrest:((List.range ts.length).filter fun i=>!decide (i∈taken))=rest at hrl hTm hTa;have hg:∀ i,i < ts.length->ts[i]?=some (ts.getD i []):=fun i hil=>by rw [List.getElem?_eq_getElem hil];simp [hil]
 refine ⟨(taken++rest).map fun i=>ts.getD i [],?_,fun t=>⟨fun z=>?_,fun z=>?_⟩,by rw [List.length_map,List.length_append];omega⟩
 .rw [bG yt rfl];delta gG;simpa only [q1,q2.ndc];rw [bind_eq (a:=(ts.map (gN k [])).map D.int)]
  .simpa only [List.length_map,if_pos (show ts.length<=lim by omega),Y0,em,et,if_pos (show 0<=lim from Nat.zero_le _),if_neg (show ¬ (3:Nat)=4 by decide)];rw [bind_eq (a:=.nx (ux k ts ks f taken)) (by rw [Te];exact t2)];unfold ux;simpa only [gP ts.length (show ts.length<=lim by omega)];rw [bind_eq (a:=rest.map eN)]
   .simpa only [List.length_map,if_pos (show rest.length<=lim by omega),YL];rw [bind_eq (GP (enc:=eN) (show taken.length+rest.length<=lim by omega))];simpa only [];rw [bind_eq (a:=(taken++rest).map fun i=>aq (ts.getD i []))]
    .simpa only [List.length_map,List.length_append,if_pos (show taken.length+rest.length<=lim by omega),List.map_map,Function.comp_def]
    .refine cG (taken++rest) fun i hi=>?_
     simpa only [Ie (enc:=aq) (hg i (hTm i hi))]
   .rw [<- hrest];refine cC (List.range ts.length) fun i hi=>?_
    simpa only [ace];cases decide (i∈taken) <;> simpa []
  .rw [List.map_map];refine cG ts fun t htm=>?_
   have hle:(aO 0 t).length<=16:=by rw [dG];have:=ht t htm;omega
   simpa only [fP (n:=n+1) hk hle];have:gN k [] t=((mOf k t).length:Nat):=by
    unfold gN gA;rw [show (mOf k t).filter (c7 [])=mOf k t from List.filter_eq_self.mpr fun m _=>rfl]
   simp only [Function.comp,this]
 .obtain ⟨i,hi,rfl⟩:=yo.mp z;exact List.mem_of_getElem? (hg i (hTm i hi))
 .obtain ⟨i,hi,rfl⟩:=List.getElem_of_mem z;exact yo.mpr ⟨i,hTa i hi,by simp [hi]⟩
def O5 (h:WB lv bs)  (h1:1<=k) (h3:k<=3) (hk:k<=lv.length)  (ht:∀ t∈ts,t∈tests lv bs) (hts:ts.length<=200):∃ L:zv,au tab aG (n+8) 28 [eB lv bs,.int k,.lst (ts.map aq)]=.ok (.lst (L.map aq))/\(∀ t,t∈L↔t∈ts)/\L.length<=400:=by
 obtain ⟨L,q1,q2,q3⟩:=ab8 (n:=n+2) h3 (fun t hh=>yR h t (ht t hh)) hts;refine ⟨L,?_,q2,q3⟩;rw [bG Nu rfl];delta n8;simpa only [yx h h1 h3 hk ht,if_pos (show 0<=lim from Nat.zero_le _),q1]
theorem Dl (hk:k<=3)  (ht:t.length<=6):(mOf k t).length<=216:=Ss hk ht
def Gh (hk:k<=3) (ht:∀ t∈ts,t.length<=6) (hts:ts.length<=400):cj (au tab aG (n+3)) gC.body ([D.lst (ts.map aq),D.int k].map some++List.replicate (gC.nn - gC.np) none)=.ok (.ro (eT eM (ts.flatMap (mOf k)))):=by
 have hlim:lim=100000:=rfl;have hfl:(ts.flatMap (mOf k)).length<=ts.length * 216:=ji ts fun t h=>Dl hk (ht t h)
 delta gC;simpa only [];rw [bind_eq (a:=.nx [some (.lst (ts.map aq)),some (.int (k:Int)),some (eT eM (ts.flatMap (mOf k))),none,none])]
 .simpa only []
 .refine (cU aq (fun acc:List Meet=>[some (.lst (ts.map aq)),some (.int (k:Int)),some (eT eM acc),none,none]) (mOf k) 90000 ts (fun acc t htm hB=>?_) [] (by rw [List.length_nil];omega));have hle:(aO 0 t).length<=16:=by rw [dG];have:=ht t htm;omega
  simpa only [fP hk hle];rw [bind_eq (a:=.nx [some (.lst (ts.map aq)),some (.int (k:Int)),some (eT eM (acc++mOf k t)),some (aq t),none])]
  .exact ⟨_,rfl,by simp [aM]⟩
  .have hfm:(mOf k t).flatMap (fun m=>[m])=mOf k t:=by rw [fC (fun m=>m)];simp
   refine (cU eM (fun acc:List Meet=>[some (.lst (ts.map aq)),some (.int (k:Int)),some (eT eM acc),some (aq t),none]) (fun m=>[m]) 90000 (mOf k t) (fun acc m hm hB=>?_) acc (by rw [hfm];exact hB)).trans (by rw [hfm]);simp only [List.length_cons,List.length_nil] at hB;simpa only [PN vV];rw [bind_eq (Xb vV (show acc.length < lim by omega))];exact ⟨_,rfl,by simp [aM]⟩
def Ge (hk:k<=3) (ht:∀ t∈ts,t.length<=6) (hts:ts.length<=400):au tab aG (n+4) (2000+21) [.lst (ts.map aq),.int k]=.ok (eT eM (ts.flatMap (mOf k))):=by
 rw [Qe rfl KJ rfl,Gh hk ht hts,Jm]
variable {ms:List Meet}
def Dc {c:Meet->Int} (h:∀ m∈ms,m∈ks) (hl:ms.length<=lim):au tab aG (n+1) 22 [.lst (ms.map eM),eC eM ks c]=.ok (.bl (ms.all fun m=>decide (1 < c m))):=by
 rw [bG CV rfl];delta jh;simpa only [];rw [bind_eq (a:=ms.map fun m=>D.bl (decide (1 < c m)))]
 .simpa only [List.length_map,if_pos hl];rw [bind_eq (Gu (fun m=>decide (1 < c m)) ms)];simpa []
 .refine cG ms fun m hm=>?_
  simpa only [V0 vV (h m hm)]
def Bw {c:Meet->Int} (hn:ms.Nodup) (h:∀ m∈ms,m∈ks) (hl:ks.length < lim):au tab aG (n+1) (1000+23) [.lst (ms.map eM),eC eM ks c]=.ok (.tup [eC eM ks fun m=>if m∈ms then c m - 1 else c m,eC eM ks fun m=>if m∈ms then c m - 1 else c m]):=by
 rw [Qp rfl HD (by decide) rfl (by decide +kernel)];delta jW;simpa only [];have ef:∀ (l:List Meet) (c:Meet->Int),l.Nodup->l.foldl (fun c m=>sE c m (c m - 1)) c=fun m=>if m∈l then c m - 1 else c m:=by
  intro l;induction l with
  | nil=>intro c _;funext m;simp
  | cons a l ih =>
   intro c hn;rw [List.nodup_cons] at hn;rw [List.foldl_cons,ih _ hn.2];funext m;unfold sE;by_cases e:m=a
   .subst e;simp [hn.1]
   .simp [e]
 rw [bind_eq (a:=.nx [some (.lst (ms.map eM)),some (eC eM ks fun m=>if m∈ms then c m - 1 else c m),none])]
 .simpa only [Yv]
 .refine (bU eM (fun c:Meet->Int=>[some (.lst (ms.map eM)),some (eC eM ks c),none]) (fun c m=>sE c m (c m - 1)) (fun _ rest=>∀ m∈rest,m∈ks) (fun c m rest hp=>⟨fun x hx=>hp x (vy _ hx),?_⟩) ms c h).trans (by rw [ef ms c hn]);have hm:=hp m vz;simpa only [V0 vV hm];rw [bind_eq (Xg vV c m (c m - 1) hl)];have ea:bR ks m=ks:=by unfold bR;rw [if_pos hm]
  simpa only [ea];exact ⟨_,rfl,by simp [aM]⟩
def abY (l:List Meet) (m:Meet):@List.count Meet instBEqOfDecidableEq m l=l.count m:=by
 unfold List.count;have e:=fun x=>@beq_iff_eq Meet instBEqOfDecidableEq inferInstance x m
 exact List.countP_congr fun x _=>(e x).trans beq_iff_eq.symm
theorem Zv (k:Nat) (ts:zv) (m:Meet):iI k ts.reverse m=iI k ts m:=((List.reverse_perm ts).flatMap_right (mOf k)).count_eq m
def Bd (k:Nat) (a:zv × zv):zv × zv:=match a.2 with
 | []=>a
 | t::rest=>if cT k t (a.1++rest) then (a.1,rest) else (a.1++[t],rest)
theorem uX (k:Nat) (l r:zv) (t:zz):Bd k (l,t::r)=if cT k t (l++r) then (l,r) else (l++[t],r):=rfl
theorem xq {β:Type} (k:Nat):∀ (xs:List β) (l r:zv),r.length=xs.length->xs.foldl (fun a _=>Bd k a) (l,r)=(fj k l r,[])
 | [],l,[],_=>rfl
 | x::xs,l,t::r,h=>by
  rw [List.foldl_cons,uX,fj];have h':r.length=xs.length:=by simpa using h
  split
  .exact xq k xs l r h'
  .exact xq k xs (l++[t]) r h'
def Q8 (h:WB lv bs)  (h1:1<=k) (h3:k<=3) (hk:k<=lv.length)  (ht:∀ t∈ts,t∈tests lv bs) (hts:ts.length<=400):au tab aG (n+8) 24 [eB lv bs,.int k,.lst (ts.map aq)]=.ok (.lst ((fj k [] ts.reverse).reverse.map aq)):=by
 have hlim:lim=100000:=rfl;have hsh:∀ t∈ts,t.length<=6:=fun t hh=>yR h t (ht t hh)
 have hfl:(ts.flatMap (mOf k)).length<=ts.length * 216:=ji ts fun t h=>Dl h3 (hsh t h)
 have hkl:=jJ (ts.flatMap (mOf k)) [];rw [List.length_nil] at hkl;have hT:eT eM (ts.flatMap (mOf k))=eC eM ((ts.flatMap (mOf k)).foldl bR []) fun m=>(iI k ([]++ts.reverse) m:Int):=by
  unfold eT;congr 1;funext m;rw [List.nil_append,Zv];exact congrArg Nat.cast (abY _ m)
 rw [bG RM rfl];delta pN;simpa only [yx h h1 h3 hk ht,Ge h3 hsh hts,hT,acA abt,if_pos (show 0<=lim from Nat.zero_le _),Oa];rw [bind_eq (a:=.nx [some (eB lv bs),some (.int (k:Int)),some (.lst (ts.map aq)),some (eC eM ((ts.flatMap (mOf k)).foldl bR []) fun m=>(iI k (fj k [] ts.reverse++[]) m:Int)),some (.lst ((fj k [] ts.reverse).map aq)),none,none])]
 .simpa only [Q9]
 .refine (bU aq (fun a:zv × zv=>[some (eB lv bs),some (.int (k:Int)),some (.lst (ts.map aq)),some (eC eM ((ts.flatMap (mOf k)).foldl bR []) fun m=>(iI k (a.1++a.2) m:Int)),some (.lst (a.1.map aq)),none,none]) (fun a _=>Bd k a) (fun a xs=>a.2=xs/\(∀ t∈xs,t∈ts)/\a.1.length+xs.length<=400) (fun a t rest hp=>?_) ts.reverse ([],ts.reverse) ⟨rfl,fun t ht=>List.mem_reverse.mp ht,by simp;omega⟩).trans (by rw [xq k ts.reverse [] ts.reverse rfl]);obtain ⟨l,r⟩:=a;obtain ⟨rfl,hin,hsz⟩:=hp;have htm:=hin t vz;have hs:=hsh t htm;have hle:(aO 0 t).length<=16:=by rw [dG];omega
  have hml:=Dl h3 hs;have hkeys:∀ m∈mOf k t,m∈(ts.flatMap (mOf k)).foldl bR []:=fun m hmm=>DQ.mpr (yT.mpr ⟨_,htm,hmm⟩)
  have e:=Vi k l rest t;simp only [List.length_cons] at hsz;simp only [uX];simpa only [fP h3 hle,Dc (n:=n+6) (c:=fun m=>(iI k (l++t::rest) m:Int)) hkeys (by omega),e];cases hc:cT k t (l++rest) with
  | true =>
   refine ⟨⟨rfl,fun x hx=>hin x (vy _ hx),by simp;omega⟩,?_⟩;simpa only [Bw (n:=n+6) (c:=fun m=>(iI k (l++t::rest) m:Int)) (rK k t) hkeys (by omega),if_pos (show (3:Nat)=3 from rfl),Dq];have hc2:(fun m=>if m∈mOf k t then (iI k (l++t::rest) m:Int) - 1 else (iI k (l++t::rest) m:Int))=fun m=>(iI k (l++rest) m:Int):=by
    funext m;rw [IW];split <;> omega
   refine ⟨_,rfl,?_⟩;simp [aM,hc2]
  | false =>
   refine ⟨⟨rfl,fun x hx=>hin x (vy _ hx),by simp;omega⟩,?_⟩;simpa only [];rw [bind_eq (oA (enc:=aq) (l:=l) (a:=t) (by omega))];refine ⟨_,rfl,?_⟩;simp [aM]
theorem Lx (ht:t∈tests lv bs):∀ m∈mOf k t,m∈bV lv bs k:=fun m hm=>by
 obtain ⟨q1,q2,q3⟩:=aQ.mp hm;exact rG.mpr ⟨q1,q2,t,ht,q3⟩
theorem Iu (h3:k<=3)  (ht:∀ t∈ts,t∈tests lv bs):∀ m∈bV lv bs k,(∀ t∈ts,∀ p∈m,p.1 < t.length)/\m.length<=lim:=fun m hm=>by
 have hlim:lim=100000:=rfl;have hmo:=oV.mp (yY.mp hm).1;exact ⟨fun t htm=>Mj (mG (ht t htm)) hmo.2,by omega⟩
def abR (h:i<=ts.length):slD (.lst (ts.map aq)) none (some (i:Int))=.ok (.lst ((ts.take i).map aq)):=by
 simp only [slD,aaQ (ts.map aq) i (by rw [List.length_map];exact h),List.map_take]
def ab3 (h:i+1<=ts.length):slD (.lst (ts.map aq)) (some ((i:Int)+1)) none=.ok (.lst ((ts.drop (i+1)).map aq)):=by
 have:=ZL (ts.map aq) (i+1) (by rw [List.length_map];exact h);rw [show ((i+1:Nat):Int)=(i:Int)+1 by omega] at this;simp only [slD,this,List.map_drop]
theorem acI (a b:Bool):bQ .eq (.bl a) (.bl b)=.ok (decide (a=b)):=by cases a <;> cases b <;> rfl
def aae (h:i < ts.length) (m:Meet):(ts.any fun u=>aL u m)=(aL (ts.getD i []) m || (ts.take i++ts.drop (i+1)).any fun u=>aL u m):=by
 have e:=J0 h;have e2:(ts.any fun u=>aL u m)=((ts.take i++ts.getD i []::ts.drop (i+1)).any fun u=>aL u m):=by rw [<- e]
 rw [e2];simp only [List.any_append,List.any_cons];rw [<- Bool.or_assoc,<- Bool.or_assoc,Bool.or_comm (aL (ts.getD i []) m)]
theorem Ao {k:Nat}:∀ (r l:zv),∀ t∈fj k l r,t∈l++r
 | [],l,t,h=>by rw [List.append_nil];exact h
 | u::r,l,t,h=>by
  rw [fj] at h;split at h
  .have:=Ao r l t h;rcases yy.mp this with z | z
   .exact vE _ z
   .exact vF _ (vy _ z)
  .have:=Ao r (l++[u]) t h
   rwa [List.append_assoc] at this
theorem Av {k:Nat}:∀ (r l:zv),(fj k l r).length<=l.length+r.length
 | [],l=>v4 _
 | u::r,l=>by
  rw [fj,List.length_cons];split
  .have:=Av (k:=k) r l;omega
  .have:=Av (k:=k) r (l++[u]);rw [List.length_append,List.length_singleton] at this;omega
theorem Ar {k:Nat}{m:Meet} (h1:m.length=k) (h2:dY m):∀ (r l:zv),(∃ t∈l++r,aL t m=true)->∃ t∈fj k l r,aL t m=true
 | [],l,h=>by rw [List.append_nil] at h;exact h
 | u::r,l,h=>by
  rw [fj];split
  .rename_i hc;refine Ar h1 h2 r l ?_;obtain ⟨t,ht,e⟩:=h;rcases yy.mp ht with z | z
   .exact ⟨t,vE _ z,e⟩
   .rcases w6.mp z with rfl | z
    .exact List.any_eq_true.mp (yB.mp hc m (aQ.mpr ⟨h1,h2,e⟩))
    .exact ⟨t,vF _ z,e⟩
  .refine Ar h1 h2 r (l++[u]) ?_
   rwa [List.append_assoc]
def QG {X Y:zv} (h:∀ u∈X,u∈Y) (hc:cT k t Y=false):cT k t X=false:=by
 cases e:cT k t X with
 | false=>rfl
 | true =>
  rw [<- hc];refine (yB.mpr fun m hm=>?_).symm;obtain ⟨u,hu,z⟩:=List.any_eq_true.mp (yB.mp e m hm);exact List.any_eq_true.mpr ⟨u,h u hu,z⟩
theorem tW {k:Nat}:∀ (r l:zv),(∀ a t b,l=a++t::b->cT k t (a++b++r)=false)->∀ a t b,fj k l r=a++t::b->cT k t (a++b)=false
 | [],l,h,a,t,b,e=>by
  have:=h a t b e
  rwa [List.append_nil] at this
 | u::r,l,h,a,t,b,e=>by
  rw [fj] at e;split at e
  .refine tW r l (fun a t b q=>QG (fun x hx=>?_) (h a t b q)) a t b e;rcases yy.mp hx with z | z
   .exact vE _ z
   .exact vF _ (vy _ z)
  .rename_i hc;refine tW r (l++[u]) (fun a t b q=>?_) a t b e;rcases List.eq_nil_or_concat b with rfl | ⟨b',x,rfl⟩
   .obtain ⟨rfl,q2⟩:=List.append_inj' q rfl;cases q2;rw [List.append_nil];simpa using hc
   .rw [List.concat_eq_append,<- List.cons_append,<- List.append_assoc] at q;obtain ⟨q1,q2⟩:=List.append_inj' q rfl;cases q2;have:=h a t b' q1;simpa using this
theorem W3:∀ {G S:List Meet},G.Nodup->(∀ m∈G,m∈S)->G.length<=S.length
 | [],S,_,_=>ye _
 | m::G,S,hn,h=>by
  rw [List.nodup_cons] at hn;have hm:=h m vz;have h1:=W3 (S:=S.erase m) hn.2 fun x hx=>(List.mem_erase_of_ne (show x≠m from fun z=>hn.1 (by rw [<- z];exact hx))).mpr (h x (vy _ hx))
  rw [List.length_erase_of_mem hm] at h1;have:=List.length_pos_of_mem hm;rw [List.length_cons];omega
noncomputable def Dm (l:zv) (a:zz):Nat:=@List.count (zz) instBEqOfDecidableEq a l
def aaI {fo:zv} (hn:ps.Nodup) (h:∀ m∈ps,∃ t∈fo,aL t m=true) (key:zz):Dm (ps.map fun m=>m.map (·.1)) key<=fo.length:=by
 unfold Dm List.count;rw [List.countP_map,List.countP_eq_length_filter,<- List.length_map (as:=fo) (f:=fun t=>key.map fun i=>(i,t.getD i 0))];refine W3 (hn.filter _) fun m hm=>?_
 obtain ⟨hm,e⟩:=yY.mp hm;obtain ⟨t,ht,hb⟩:=h m hm;refine yo.mpr ⟨t,ht,?_⟩;have e':m.map (·.1)=key:=(@beq_iff_eq (zz) instBEqOfDecidableEq inferInstance _ _).mp e;rw [<- e',List.map_map];refine (List.map_congr_left fun p hp=>?_).trans (List.map_id m);have:=pD.mp hb p hp;simp [Function.comp,List.getD,this]
def YD (h:WB lv bs)  (h1:1<=k) (h3:k<=3) (hk:k<=lv.length):∃ fo:zv,au tab aG (n+9) 29 [eB lv bs,.int k]=.ok (.lst (fo.map aq))/\(∀ t∈fo,t∈tests lv bs)/\(∀ m∈bV lv bs k,∃ t∈fo,aL t m=true)/\(∀ i,i < fo.length->Pj k fo i=false)/\fo.length<=400:=by
 have htl:=rO h;obtain ⟨L,q1,q2,q3⟩:=O5 (n:=n) h h1 h3 hk (ts:=tests lv bs) (fun _ z=>z) (by omega);have hL:∀ t∈L,t∈tests lv bs:=fun t ht=>(q2 t).mp ht
 refine ⟨(fj k [] L.reverse).reverse,?_,fun t ht=>?_,fun m hm=>?_,fun i hi=>?_,?_⟩
 .rw [bG XJ rfl];delta xJ;simpa only [Lr (n:=n+2) h h1 h3 hk,K4 (n:=n+2) h,q1,Q8 (n:=n) h h1 h3 hk hL q3]
 .have:=Ao _ _ t (List.mem_reverse.mp ht);rw [List.nil_append,List.mem_reverse] at this;exact hL t this
 .obtain ⟨a,b,t,ht,e⟩:=rG.mp hm;obtain ⟨u,hu,e2⟩:=Ar a b L.reverse [] ⟨t,by rw [List.nil_append,List.mem_reverse];exact (q2 t).mpr ht,e⟩;exact ⟨u,List.mem_reverse.mpr hu,e2⟩
 .have e:=congrArg List.reverse (J0 hi);rw [List.reverse_reverse,List.reverse_append,List.reverse_cons,List.append_assoc,List.singleton_append] at e;have:=tW L.reverse [] (fun a t b q=>by cases a <;> cases q) _ _ _ e;rw [HS] at this;exact this
 .have:=Av (k:=k) L.reverse [];rw [List.length_reverse,List.length_nil] at this;rw [List.length_reverse];omega
theorem acW {l:zv}{a:zz} (h:a∈l.foldl bR []):ixD (eT aq l) (aq a)=.ok (.int (Dm l a:Int)):=V0 HF h
theorem ne_nil:bQ .ne (.lst []) (.lst [])=.ok false:=rfl
theorem Yq [DecidableEq α] {enc:α->D} (l:List α):itemsOf .seq [eT enc l]=.ok ((l.foldl bR []).map enc):=rfl
theorem Y5 (m:Meet):D.tup (m.map fun p=>eN p.1)=aq (m.map (·.1)):=by
 unfold aq;rw [List.map_map];rfl
def TJ (ns:List Int) (hns:ns.length<=63):au tab aG 31 40 [.lst (ns.map D.int)]=.ok (.bl true):=by
 have W:=Zu ns 1;obtain ⟨k,h1,h3,hk,hs⟩:=Kg (n:=29) W (dg ns 0);have hlim:lim=100000:=rfl;have hcell:au tab aG 30 30 [.lst (ns.map D.int),.int 0]=.ok (.int (dg ns 0)):=vq (n:=29) ns 0;have hbook:au tab aG 30 32 [.lst (ns.map D.int),.int 1]=.ok (eB (iw ns 1) (oZ ns 1)):=abe (n:=28) hns 1
 revert hs hbook hk W
 generalize iw ns 1=lv;generalize oZ ns 1=bs;intro W hk hs hbook;obtain ⟨fo,b1,b2,b3,b4,b5⟩:=YD (n:=21) W h1 h3 hk;have hpl:=Vx W h1 h3;have htl:=rO W;have hnd:(bV lv bs k).Nodup:=List.Pairwise.filter _ ((yN lv k).imp fun h=>HX h);have hl0:rD (bV lv bs k) fo=[]:=List.filter_eq_nil_iff.mpr fun m hm=>by
  rw [List.any_eq_true.mpr (b3 m hm)];decide
 have hb1:au tab aG 30 29 [eB lv bs,.int k]=.ok (.lst (fo.map aq)):=b1;have hmx:mxL ((((bV lv bs k).map fun m=>m.map (·.1)).foldl bR []).map fun key=>(Dm ((bV lv bs k).map fun m=>m.map (·.1)) key:Int))<=(fo.length:Int):=by
  by_cases e:((((bV lv bs k).map fun m=>m.map (·.1)).foldl bR []).map fun key=>(Dm ((bV lv bs k).map fun m=>m.map (·.1)) key:Int))=[]
  .rw [e];show (0:Int)<=_
   omega
  .obtain ⟨key,_,q⟩:=yo.mp (Ms e);rw [<- q];have:=aaI hnd b3 key;omega
 have hem:fo.isEmpty=(bV lv bs k).isEmpty:=by
  cases e:bV lv bs k with
  | cons m l =>
   obtain ⟨t,ht,_⟩:=b3 m (by rw [e];exact vz);cases fo with
   | nil=>cases ht
   | cons _ _=>rfl
  | nil =>
   cases fo with
   | nil=>rfl
   | cons t fo =>
    have:=b4 0 (by simp);have h0:mOf k t=[]:=List.eq_nil_iff_forall_not_mem.mpr fun m hm=>by
     have:=Lx (b2 t vz) m hm;rw [e] at this;cases this
    have h2:Pj k (t::fo) 0=((mOf k t).all fun m=>(fo.any fun u=>aL u m)):=rfl;rw [h2,h0] at this;cases this
 have hkl:=jJ ((bV lv bs k).map fun m=>m.map (·.1)) [];rw [List.length_map,List.length_nil] at hkl;show au tab aG (30+1) 40 _=_
 rw [bG acj rfl];delta Gx;simpa only [hbook,hcell,hs,hb1,Ig (n:=28) W,La (n:=27) W h1 h3];rw [bind_eq (a:=([]:List D))]
 .simpa only [if_pos (show 0<=lim from Nat.zero_le _),List.isEmpty_nil,Sw (n:=28) (Iu (bs:=bs) h3 b2) (show (bV lv bs k).length<=lim by omega) (show fo.length<=lim by omega),hl0,List.map_nil,ne_nil,gP fo.length (show fo.length<=lim by omega)];rw [bind_eq (a:=.nx [some (.lst (ns.map D.int)),some (eB lv bs),some (.int (k:Int)),some (.lst (fo.map aq)),some (.lst ((tests lv bs).map aq)),some (.lst ((bV lv bs k).map eM)),none,none,none,none,none,none])]
  .simpa only [];rw [bind_eq (a:=.nx [some (.lst (ns.map D.int)),some (eB lv bs),some (.int (k:Int)),some (.lst (fo.map aq)),some (.lst ((tests lv bs).map aq)),some (.lst ((bV lv bs k).map eM)),none,some (eT aq ((bV lv bs k).map fun m=>m.map (·.1))),none,none,none,none])]
   .simpa only [Yq];rw [bind_eq (a:=(((((bV lv bs k).map fun m=>m.map (·.1)).foldl bR []).map fun key=>(Dm ((bV lv bs k).map fun m=>m.map (·.1)) key:Int))).map D.int)]
    .simpa only [List.length_map,if_pos (show (((bV lv bs k).map fun m=>m.map (·.1)).foldl bR []).length<=lim by omega),Ij,decide_eq_true hmx,lF.cmpEq0,j7.cmpEq0,if_pos (show 0<=lim from Nat.zero_le _),hem,acI,decide_true]
    .rw [List.map_map];refine cG (((bV lv bs k).map fun m=>m.map (·.1)).foldl bR []) fun key hkey=>?_
     simpa only [acW hkey,Function.comp]
   .refine (cU eM (fun acc:zv=>[some (.lst (ns.map D.int)),some (eB lv bs),some (.int (k:Int)),some (.lst (fo.map aq)),some (.lst ((tests lv bs).map aq)),some (.lst ((bV lv bs k).map eM)),none,some (eT aq acc),none,none,none,none]) (fun m=>[m.map (·.1)]) lim (bV lv bs k) (fun acc m hm hB=>?_) [] ?_).trans ?_
    .have hml:m.length<=lim:=by
      have:=(DN m hm).1;omega
     have hal:acc.length < lim:=by simp only [List.length_singleton] at hB;omega
     simpa only [];rw [bind_eq (a:=m.map fun p=>eN p.1)]
     .simpa only [List.length_map,if_pos hml,Y5,PN HF];rw [bind_eq (Xb HF hal)];exact ⟨_,rfl,by simp [aM]⟩
     .refine cG m fun p hp=>?_
      simpa only []
    .rw [fC,List.length_map,List.length_nil];omega
    .rw [fC];rfl
  .refine (cU eN (fun _:zz=>[some (.lst (ns.map D.int)),some (eB lv bs),some (.int (k:Int)),some (.lst (fo.map aq)),some (.lst ((tests lv bs).map aq)),some (.lst ((bV lv bs k).map eM)),none,none,none,none,none,none]) (fun _=>[]) lim (List.range fo.length) (fun acc i hi hB=>?_) [] (by
    rw [show (List.range fo.length).flatMap (fun _=>([]:zz))=[] from List.flatMap_eq_nil_iff.mpr fun _ _=>rfl];exact ye _))
   have hi':=y0.mp hi;have hm:fo.getD i []∈fo:=by simp [List.getD,hi']
   have hos:∀ u∈fo.take i++fo.drop (i+1),u∈tests lv bs:=fun u hu=>b2 u (by
    rcases yy.mp hu with hu | hu
    .exact List.mem_of_mem_take hu
    .exact List.mem_of_mem_drop hu)
   have hol2:(fo.take i).length+(fo.drop (i+1)).length<=lim:=by
    rw [List.length_take,List.length_drop];omega
   have hc:=Wv (os:=fo.take i++fo.drop (i+1)) (aae hi') DN (Lx (bs:=bs) (k:=k) (b2 _ hm));have hnb:cT k (fo.getD i []) (fo.take i++fo.drop (i+1))=Pj k fo i:=rfl;rw [hnb,b4 i hi',hl0] at hc;have hne:(rD (bV lv bs k) (fo.take i++fo.drop (i+1))).isEmpty=false:=by
    cases e:rD (bV lv bs k) (fo.take i++fo.drop (i+1)) with
    | nil=>rw [e] at hc;simp at hc
    | cons _ _=>rfl
   simpa only [abR (show i<=fo.length by omega),ab3 (show i+1<=fo.length by omega),GP (enc:=aq) hol2,Sw (n:=28) (Iu (bs:=bs) h3 hos) (show (bV lv bs k).length<=lim by omega) (show (fo.take i++fo.drop (i+1)).length<=lim by rw [List.length_append];exact hol2),j7.cmpEq0,hne,if_pos (show 0<=lim from Nat.zero_le _)];exact ⟨_,rfl,by simp [aM]⟩
 .have:(fo.filter fun t=>!decide (t∈tests lv bs))=[]:=List.filter_eq_nil_iff.mpr fun t ht=>by simp [b2 t ht]
  refine (cC (enc:=aq) (e:=aq) (p:=fun t=>!decide (t∈tests lv bs)) fo fun t ht=>?_).trans (by rw [this];rfl);simpa only [Xd lF (fun _ _=>rfl),decide_eq_true (b2 t ht)];exact if_neg (by simp [b2 t ht])
end E07
namespace E07
open PySem L2 Mi
variable (P:Params)
theorem Fz:FF (heap P) "check_list" (top 24):=aW (f:=156) (by kernel_rfl) (show (heap P).lookup 156=some uZ by kernel_rfl) (by kernel_rfl) (by kernel_rfl)
theorem kcl:((heap P).all fun q=>Uz q.2)=true:=by kernel_rfl
theorem recs:((PyProof.Rows.recsOf view).any fun d=>decide (d.name=Str.ofString "check_tests"))=true:=by kernel_rfl
theorem K6:FF (heap P) "is_whole" (top 11):=aW (f:=77) (by kernel_rfl) (show (heap P).lookup 77=some Bp by kernel_rfl) (by kernel_rfl) (by kernel_rfl)
theorem Ld:FF (heap P) "is_tuple" (top 12):=aW (f:=84) (by kernel_rfl) (show (heap P).lookup 84=some Bt by kernel_rfl) (by kernel_rfl) (by kernel_rfl)
theorem Gm:FF (heap P) "are_levels" (top 13):=aW (f:=91) (by kernel_rfl) (show (heap P).lookup 91=some vo by kernel_rfl) (by kernel_rfl) (by kernel_rfl)
theorem Gk:FF (heap P) "is_setting" (top 14):=aW (f:=98) (by kernel_rfl) (show (heap P).lookup 98=some xr by kernel_rfl) (by kernel_rfl) (by kernel_rfl)
theorem Gb:FF (heap P) "is_meeting" (top 15):=aW (f:=105) (by kernel_rfl) (show (heap P).lookup 105=some u0 by kernel_rfl) (by kernel_rfl) (by kernel_rfl)
theorem N6:FF (heap P) "is_book" (top 16):=aW (f:=110) (by kernel_rfl) (show (heap P).lookup 110=some DP by kernel_rfl) (by kernel_rfl) (by kernel_rfl)
theorem NT:FF (heap P) "checked" (top 17):=aW (f:=117) (by kernel_rfl) (show (heap P).lookup 117=some EY by kernel_rfl) (by kernel_rfl) (by kernel_rfl)
theorem VG:FF (heap P) "meets" (top 18):=aW (f:=122) (by kernel_rfl) (show (heap P).lookup 122=some Ly by kernel_rfl) (by kernel_rfl) (by kernel_rfl)
theorem JN:FF (heap P) "meets_any" (top 19):=aW (f:=127) (by kernel_rfl) (show (heap P).lookup 127=some yG by kernel_rfl) (by kernel_rfl) (by kernel_rfl)
theorem Lb:FF (heap P) "all_rows" (top 20):=aW (f:=132) (by kernel_rfl) (show (heap P).lookup 132=some BP by kernel_rfl) (by kernel_rfl) (by kernel_rfl)
theorem JK:FF (heap P) "all_tests" (top 21):=aW (f:=137) (by kernel_rfl) (show (heap P).lookup 137=some yO by kernel_rfl) (by kernel_rfl) (by kernel_rfl)
theorem Qt:FF (heap P) "is_row" (top 22):=aW (f:=142) (by kernel_rfl) (show (heap P).lookup 142=some JM by kernel_rfl) (by kernel_rfl) (by kernel_rfl)
theorem NP:FF (heap P) "is_test" (top 23):=aW (f:=149) (by kernel_rfl) (show (heap P).lookup 149=some Eu by kernel_rfl) (by kernel_rfl) (by kernel_rfl)
theorem Dt:FL (heap P) "check_tests" (top 25):=acn (f:=163) (by kernel_rfl) (show (heap P).lookup 163=some uT by kernel_rfl) (by kernel_rfl) (by kernel_rfl) (by kernel_rfl)
theorem yW:FF (heap P) "most_strength" (top 27):=aW (f:=170) (by kernel_rfl) (show (heap P).lookup 170=some rB by kernel_rfl) (by kernel_rfl) (by kernel_rfl)
theorem mZ:FF (heap P) "check_book_and_strength" (top 28):=aW (f:=177) (by kernel_rfl) (show (heap P).lookup 177=some iK by kernel_rfl) (by kernel_rfl) (by kernel_rfl)
theorem Jz:FF (heap P) "is_behind" (top 29):=aW (f:=184) (by kernel_rfl) (show (heap P).lookup 184=some yS by kernel_rfl) (by kernel_rfl) (by kernel_rfl)
theorem yr:FF (heap P) "meetings_among" (top 30):=aW (f:=189) (by kernel_rfl) (show (heap P).lookup 189=some oW by kernel_rfl) (by kernel_rfl) (by kernel_rfl)
theorem CP:FF (heap P) "meetings_of" (top 31):=aW (f:=196) (by kernel_rfl) (show (heap P).lookup 196=some uV by kernel_rfl) (by kernel_rfl) (by kernel_rfl)
theorem Rv:FF (heap P) "met_by" (top 32):=aW (f:=203) (by kernel_rfl) (show (heap P).lookup 203=some Hu by kernel_rfl) (by kernel_rfl) (by kernel_rfl)
theorem JH:FF (heap P) "check_all" (top 34):=aW (f:=210) (by kernel_rfl) (show (heap P).lookup 210=some yV by kernel_rfl) (by kernel_rfl) (by kernel_rfl)
theorem Ka:FF (heap P) "times_met" (top 35):=aW (f:=217) (by kernel_rfl) (show (heap P).lookup 217=some yI by kernel_rfl) (by kernel_rfl) (by kernel_rfl)
theorem Bj:FF (heap P) "meet_without" (top 36):=aW (f:=222) (by kernel_rfl) (show (heap P).lookup 222=some sH by kernel_rfl) (by kernel_rfl) (by kernel_rfl)
theorem Gf:FF (heap P) "count_less" (top 37):=aW (f:=229) (by kernel_rfl) (show (heap P).lookup 229=some vH by kernel_rfl) (by kernel_rfl) (by kernel_rfl)
theorem Pk:FF (heap P) "trimmed" (top 38):=aW (f:=236) (by kernel_rfl) (show (heap P).lookup 236=some Fq by kernel_rfl) (by kernel_rfl) (by kernel_rfl)
theorem uq:FF (heap P) "places_by_meeting" (top 39):=aW (f:=243) (by kernel_rfl) (show (heap P).lookup 243=some kW by kernel_rfl) (by kernel_rfl) (by kernel_rfl)
theorem K3:FF (heap P) "take_out" (top 40):=aW (f:=250) (by kernel_rfl) (show (heap P).lookup 250=some Bh by kernel_rfl) (by kernel_rfl) (by kernel_rfl)
theorem vm:FF (heap P) "in_order_behind" (top 41):=aW (f:=255) (by kernel_rfl) (show (heap P).lookup 255=some nA by kernel_rfl) (by kernel_rfl) (by kernel_rfl)
theorem KH:FF (heap P) "in_order" (top 42):=aW (f:=262) (by kernel_rfl) (show (heap P).lookup 262=some BZ by kernel_rfl) (by kernel_rfl) (by kernel_rfl)
theorem Uj:FF (heap P) "built" (top 44):=aW (f:=269) (by kernel_rfl) (show (heap P).lookup 269=some Mu by kernel_rfl) (by kernel_rfl) (by kernel_rfl)
theorem J1:FF (heap P) "_law_cell" (top 46):=aW (f:=276) (by kernel_rfl) (show (heap P).lookup 276=some yJ by kernel_rfl) (by kernel_rfl) (by kernel_rfl)
theorem Kh:FF (heap P) "_law_mix" (top 47):=aW (f:=283) (by kernel_rfl) (show (heap P).lookup 283=some Cu by kernel_rfl) (by kernel_rfl) (by kernel_rfl)
theorem HY:FF (heap P) "_law_book" (top 48):=aW (f:=288) (by kernel_rfl) (show (heap P).lookup 288=some yK by kernel_rfl) (by kernel_rfl) (by kernel_rfl)
theorem J8:FF (heap P) "_law_rows" (top 49):=aW (f:=293) (by kernel_rfl) (show (heap P).lookup 293=some yL by kernel_rfl) (by kernel_rfl) (by kernel_rfl)
theorem FZ:FF (heap P) "_law_meets" (top 50):=aW (f:=298) (by kernel_rfl) (show (heap P).lookup 298=some vN by kernel_rfl) (by kernel_rfl) (by kernel_rfl)
theorem Gd:FF (heap P) "_law_tests" (top 51):=aW (f:=303) (by kernel_rfl) (show (heap P).lookup 303=some v9 by kernel_rfl) (by kernel_rfl) (by kernel_rfl)
theorem Aa:FF (heap P) "_law_meetings" (top 52):=aW (f:=308) (by kernel_rfl) (show (heap P).lookup 308=some rJ by kernel_rfl) (by kernel_rfl) (by kernel_rfl)
theorem Aq:FF (heap P) "_law_possible" (top 53):=aW (f:=313) (by kernel_rfl) (show (heap P).lookup 313=some pP by kernel_rfl) (by kernel_rfl) (by kernel_rfl)
theorem J2:FF (heap P) "_law_left" (top 54):=aW (f:=318) (by kernel_rfl) (show (heap P).lookup 318=some yC by kernel_rfl) (by kernel_rfl) (by kernel_rfl)
theorem Ae:FF (heap P) "_law_strength" (top 55):=aW (f:=325) (by kernel_rfl) (show (heap P).lookup 325=some pL by kernel_rfl) (by kernel_rfl) (by kernel_rfl)
theorem Qy:FF (heap P) "law" (top 56):=aW (f:=330) (by kernel_rfl) (show (heap P).lookup 330=some o_law by kernel_rfl) (by kernel_rfl) (by kernel_rfl)
theorem CJ:GF (heap P) "MOST_THINGS" (.int 6):=Cm (t:=266) (by kernel_rfl)
theorem Af:GF (heap P) "MOST_SETTINGS" (.int 4):=Cm (t:=268) (by kernel_rfl)
theorem JT:GF (heap P) "MOST_ROWS" (.int 400):=Cm (t:=270) (by kernel_rfl)
theorem Jk:GF (heap P) "MOST_BANS" (.int 12):=Cm (t:=272) (by kernel_rfl)
theorem vU:GF (heap P) "MOST_IN_MEETING" (.int 3):=Cm (t:=274) (by kernel_rfl)
theorem bl:∀ f∈lA,PySem.W.nsIn (heap P) mainGlobals f=some none:=by
 intro f hf;simp only [lA,List.mem_cons,List.not_mem_nil,or_false] at hf;rcases hf with rfl | rfl | rfl | rfl | rfl | rfl | rfl | rfl | rfl | rfl | rfl | rfl | rfl | rfl | rfl | rfl <;> kernel_rfl
end E07
theorem PySem.W.Fast.te16183074262913094996:True:=trivial
open PySem PySem.W PyProof.Rows
set_option maxRecDepth 100000 in
set_option maxHeartbeats 0 in
theorem PySem.Challenge.cw_pairtests_k07_built_holds : PySem.Challenge.rw_pairtests_k07_built.Holds := by
 w_on;o_law
 refine PySem.W.holds_open (q:=E07.view) (loose:=[]) (Xt:=fun s=>PySem.W.xlAt E07.view [] s && PySem.W.recOk (PySem.W.RowW.records (PySem.W.OpenRow.toRowW PySem.Challenge.rw_pairtests_k07_built.row)) s) (XP:=XL E07.view []) (Yf:=Hook.obs E07.hook) (Ya:=Hook.val E07.hook) (YP:=Hook.says E07.hook) (N:=4480) E07.left (Hook.of E07.hook) (Hook.keeps E07.hook) (fun s e=>xl_of s (Bool.and_eq_true_iff.mp e).1) XL.keeps (by rfl) (by rfl) (by rfl) (fun s e=>recFacts_of (Bool.and_eq_true_iff.mp e).2) (by rfl) (by first | assumption | decide +kernel) (by decide +kernel) ⟨rfl,rfl,rfl,rfl,rfl,by decide +kernel⟩ ?hw ?hc
 (case hw=>w_witness2)
 exact Mi.abS (l:=PySem.Challenge.rw_pairtests_k07_built) (T:=E07.T) (tab:=E07.tab) (xt:=E07.aG) (n:=30) (fl:=40) (par:="_law_script") (N:=["_law_script","_law_book_here","_law_strength_here","_law_found","_law_tests_here","_law_some","_law_at","_law_counts","_law_one","_law_key","_law_test","_law_pair"]) (st:=E07.top 56) rfl rfl ⟨rfl,by decide,by decide⟩ rfl rfl E07.SJ (fun w h Y=>Y) (fun p=>Mi.acv (E07.kcl p)) (fun w s₀ mg mb h G Y=>Mi.tab_of E07.recs G) (fun w mg h KX G=>E07.pr KX G (E07.K6 w.params) (E07.Ld w.params) (E07.Gm w.params) (E07.Gk w.params) (E07.Gb w.params) (E07.N6 w.params) (E07.NT w.params) (E07.VG w.params) (E07.JN w.params) (E07.Lb w.params) (E07.JK w.params) (E07.Qt w.params) (E07.NP w.params) (E07.Dt w.params) (E07.yW w.params) (E07.mZ w.params) (E07.Jz w.params) (E07.yr w.params) (E07.CP w.params) (E07.Rv w.params) (E07.JH w.params) (E07.Ka w.params) (E07.Bj w.params) (E07.Gf w.params) (E07.Pk w.params) (E07.uq w.params) (E07.K3 w.params) (E07.vm w.params) (E07.KH w.params) (E07.Uj w.params) (E07.J1 w.params) (E07.Kh w.params) (E07.HY w.params) (E07.J8 w.params) (E07.FZ w.params) (E07.Gd w.params) (E07.Aa w.params) (E07.Aq w.params) (E07.J2 w.params) (E07.Ae w.params) (E07.Qy w.params) (E07.Fz w.params) (E07.CJ w.params) (E07.Af w.params) (E07.JT w.params) (E07.Jk w.params) (E07.vU w.params) (E07.bl w.params)) (fun w=>E07.Qy w.params) (fun _ _ _ _ _ _ _=>rfl) E07.TJ
