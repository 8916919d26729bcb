import PyProof.Rows.All
import KE.KBits
import KE.KTryMore
import KE.KStateDown
import PySem.Challenge.RW_nesthall_k30_a_nest_keeps_its_stand
set_option Elab.async false
set_option linter.all false
set_option maxRecDepth 100000
set_option maxHeartbeats 0
set_option genSizeOf false
set_option genSizeOfSpec false
noncomputable section
abbrev ae:=PySem.Shared
abbrev af:=PySem.FuncData
abbrev ag:=PySem.Program
abbrev ai:=PySem.Around
abbrev ar:=PySem.Addr
abbrev av:=PySem.Value
abbrev aw:=@List
abbrev aE:=@Option
abbrev aI:=PySem.World
abbrev aS:=@PySem.wpAny_bind
abbrev aT:=@PySem.wpAny_pure
abbrev ba:=@of_decide_eq_true
abbrev bb:=@Or.inl
abbrev bo:=@Nat.zero_le
abbrev bp:=@decide_eq_false
abbrev bq:=@decide_eq_true
abbrev br:=@Nat.le_trans
abbrev bt:=@List.map_cons
abbrev bE:=@Ne.symm
abbrev bP:=@of_decide_eq_false
abbrev bS:=@decide_eq_decide
abbrev bX:=@List.append_assoc
abbrev c8:=@PySem.wpAny_mono
abbrev c9:=@False.elim
abbrev cf:=@Int.zero_add
abbrev ck:=@PySem.Heap.get?_update_other
abbrev cm:=@PySem.Heap.get?_update_self
abbrev cq:=@PySem.wpAny_holding
abbrev cv:=@PySem.W.kia_one
abbrev cy:=@PySem.mem_of_lookup
abbrev cE:=@PySem.W.mg_of
abbrev cK:=@if_neg
abbrev cS:=@if_pos
abbrev df:=@List.getElem?_set_ne
abbrev dy:=@List.getElem?_set_self
abbrev dA:=@List.length_replicate
abbrev dE:=@beq_self_eq_true
abbrev dP:=@Bool.and_eq_true_iff
abbrev dQ:=@beq_eq_false_iff_ne
abbrev dS:=@List.replicate_succ
abbrev e7:=@Array.length_toList
abbrev e9:=@True.intro
abbrev eu:=@absurd
abbrev eA:=@Array.getElem?_eq_getElem
abbrev eB:=@Array.getElem?_eq_some_iff
abbrev eC:=@Array.getElem?_toList
abbrev eD:=@Bool.and_eq_true
abbrev eI:=@Bool.decide_and
abbrev eJ:=@Bool.eq_false_iff
abbrev eK:=@Bool.eq_iff_iff
abbrev eL:=@Bool.false_and
abbrev eM:=@Bool.false_or
abbrev eP:=@Bool.or_eq_true
abbrev eR:=@Bool.true_and
abbrev eS:=@PySem.Heap.get?_none_of_le
abbrev eT:=@PySem.Heap.size_push
abbrev eW:=@Int.fdiv_eq_ediv_of_nonneg
abbrev fb:=@Int.natCast_nonneg
abbrev fe:=@Int.toNat_of_nonneg
abbrev ff:=@List.all_eq_true
abbrev fg:=@List.all_eq_true
abbrev fh:=@List.any_cons
abbrev fi:=@List.any_eq_true
abbrev fk:=@List.any_map
abbrev fm:=@List.append_inj'
abbrev fo:=@List.eq_nil_of_length_eq_zero
abbrev fq:=@List.eraseIdxIfInBounds_toArray
abbrev ft:=@List.ext_getElem?
abbrev fw:=@List.filterMap_cons
abbrev fz:=@List.filter_append
abbrev fA:=@List.filter_cons
abbrev fE:=@List.flatten_cons
abbrev fF:=@List.foldl_cons
abbrev fN:=@List.getElem?_eq_none
abbrev fR:=@List.length_drop
abbrev fS:=@List.length_eraseIdx_of_lt
abbrev fT:=@List.length_nil
abbrev gu:=@List.length_set
abbrev gy:=@List.lookup_cons
abbrev gz:=@List.map_map
abbrev gE:=@List.map_take
abbrev gL:=@List.mem_append_left
abbrev gN:=@List.mem_append_right
abbrev gT:=@List.mem_iff_getElem?
abbrev gX:=@List.mem_of_mem_take
abbrev hJ:=@List.mem_range
abbrev hU:=@List.mem_reverse
abbrev hV:=@List.nodup_cons
abbrev hZ:=@List.of_mem_zip
abbrev i0:=@List.pairwise_cons
abbrev ia:=@List.size_toArray
abbrev ib:=@List.take_length
abbrev ic:=@Nat.add_le_add_left
abbrev ij:=@Nat.le_of_lt
abbrev ip:=@Nat.le_succ
abbrev iq:=@Nat.lt_irrefl
abbrev iA:=@Nat.lt_of_le_of_lt
abbrev iE:=@Nat.lt_succ_of_lt
abbrev iF:=@Nat.lt_succ_self
abbrev iL:=@Nat.lt_trans
abbrev iN:=@Nat.min_eq_left
abbrev iO:=@Nat.ne_of_gt
abbrev iP:=@Nat.pow_le_pow_right
abbrev iS:=@Nat.sub_self
abbrev iX:=@Nat.succ_le_succ
abbrev ja:=@Nat.zero_add
abbrev jv:=@Option.isSome_iff_exists
abbrev jI:=@Option.map_eq_some_iff
abbrev jS:=@Option.map_some
abbrev kb:=@PyProof.Rows.boot_all
abbrev kc:=@PyProof.Rows.boot_any
abbrev ke:=@PyProof.Rows.boot_int
abbrev kf:=@PyProof.Rows.boot_list
abbrev kg:=@PyProof.Rows.boot_sorted
abbrev ki:=@PyProof.Rows.callWith_builtin1
abbrev kn:=@PyProof.Rows.callWith_type1
abbrev kq:=@PyProof.Rows.slot_tuple_getitem
abbrev kr:=@PySem.F.args_tuple_add_2
abbrev ku:=@PySem.F.entry_tuple_add
abbrev ky:=@PySem.F.excBase_ValueError
abbrev kz:=@PySem.F.slot_list_extend
abbrev kB:=@PySem.F.slot_tuple_add
abbrev kC:=@PySem.F.type_list_extend
abbrev bV:=PySem.W.Frag
abbrev fM:=@PySem.Heap.get?_push_of_some
abbrev gQ:=@PySem.Heap.lt_size
abbrev qy:=@PySem.Heap.get?_push_size
abbrev zw3:=@List.getElem?_append_left
abbrev zw4:=@List.getElem?_append_right
abbrev FZ:=@List.mem_cons_self
abbrev SX:=@List.mem_of_getElem?
abbrev KR:=@Nat.lt_of_lt_of_le
abbrev jQ:=@Nat.ne_of_lt
abbrev Hr:=@List.mem_cons_of_mem
abbrev bj:=@PySem.boot_len
abbrev iu:=@PySem.F.plainAttrs_list
abbrev yz:=@PySem.F.slot_list_append
abbrev yx:=@PySem.F.type_list_append
abbrev qt:=@PyProof.Rows.boot_tuple
abbrev xN:=@PyProof.Rows.boot_isinstance
abbrev j7:=@Int.emod_nonneg
abbrev jR:=@Int.emod_lt_of_pos
abbrev qDI:=@List.getElem?_range
abbrev bT:=@List.length_map
abbrev fQ:=@List.getElem?_eq_getElem
abbrev j8:=@List.length_append
abbrev bD:=@Nat.le_refl
abbrev oW:=@List.getElem?_eq_some_iff
abbrev CV:=@List.size_toArray
abbrev rA:=@Bool.false_ne_true
abbrev kJ:=@Option.some.inj
abbrev qz:=@List.map_append
abbrev DX:=@List.take_of_length_le
abbrev jA:=@List.mem_singleton
abbrev jT:=@List.getD_eq_getElem?_getD
abbrev dG:=@List.length_cons
abbrev iQ:=@List.length_take
abbrev mq:=@List.take_add_one
abbrev vG:=@List.length_singleton
abbrev dD:=@List.mem_cons
abbrev oY:=@List.append_nil
abbrev jz:=@List.mem_append
abbrev eX:=@List.mem_map
abbrev dZ:=@List.getElem?_map
abbrev vD:=@List.length_filter_le
abbrev lQ:=@List.getElem_mem
abbrev lO:=@List.mem_filter
abbrev T3:=@Int.toNat_natCast
abbrev KI(K:PySem.W.Frag)(a:PySem.Addr):Prop:=PySem.W.keepIn K (.ref a)=true
namespace L2
open PySem
noncomputable def inClass(s:Stmt)(j:Nat):Stmt:=match s with
 | .ClassDef _ _ _ b _ _ _ _ _ _ _=>b.getD j (.Pass ⟨0,0,0,0⟩)
 | _=>.Pass ⟨0,0,0,0⟩
def qd(s:Stmt):Arguments:=match s with
 | .FunctionDef _ a _ _ _ _ _ _ _ _=>a
 | _=>{ posonlyargs:=[],args:=[],vararg:=none,kwonlyargs:=[],kw_defaults:=[],kwarg:=none,defaults:=[] }
def jE(s:Stmt):aw Stmt:=match s with
 | .FunctionDef _ _ b _ _ _ _ _ _ _=>b
 | _=>[]
def aA(s:Stmt):Scope:=match s with
 | .FunctionDef _ _ _ _ _ _ S _ _ _=>S
 | _=>{ kind:=.function,names:=[],isGenerator:=false,isCoroutine:=false }
end L2
namespace jP
open PySem L2
def top(i:Nat):Stmt:=PySem.Challenge.pw_nesthall_k30_a_nest_keeps_its_stand.main.body.getD i (.Pass ⟨0,0,0,0⟩)
abbrev pJ:Stmt:=top 1
abbrev tZ:Stmt:=top 9
abbrev Fw:Stmt:=top 23
abbrev tV:Stmt:=top 24
abbrev pI:Stmt:=top 25
abbrev yZ:Stmt:=top 26
abbrev Fz:Stmt:=top 27
abbrev yj:Stmt:=top 28
abbrev pK:Stmt:=top 29
abbrev uA:Stmt:=top 30
abbrev tW:Stmt:=top 31
abbrev xu:Stmt:=top 32
abbrev Fy:Stmt:=top 33
abbrev je:Stmt:=top 34
abbrev ye:Stmt:=top 35
abbrev yg:Stmt:=top 36
abbrev uD:Stmt:=top 37
abbrev GC:Stmt:=top 38
abbrev O5:Stmt:=top 39
abbrev xx:Stmt:=top 40
abbrev yh:Stmt:=top 41
abbrev yf:Stmt:=top 42
abbrev yX:Stmt:=top 53
abbrev Fx:Stmt:=top 54
abbrev Iz:Stmt:=top 55
abbrev yc:Stmt:=top 56
abbrev qX:Stmt:=top 57
abbrev Aj:Stmt:=top 59
abbrev O3:Stmt:=top 60
abbrev sIn:Stmt:=top 61
abbrev U4:Stmt:=top 62
abbrev uC:Stmt:=top 66
abbrev qU:Stmt:=top 67
abbrev O6:Stmt:=top 68
abbrev uE:Stmt:=top 70
abbrev lg:Stmt:=top 71
abbrev uB:Stmt:=top 72
abbrev tu:Stmt:=top 73
abbrev jd:Stmt:=top 75
abbrev yd:Stmt:=top 76
abbrev tX:Stmt:=top 77
abbrev Ai:Stmt:=top 78
abbrev jb:Stmt:=top 81
abbrev jZ:Stmt:=top 82
abbrev iT:Stmt:=top 83
abbrev qM:Stmt:=top 84
abbrev pH:Stmt:=top 85
abbrev fc:Stmt:=top 86
abbrev Fp:Stmt:=top 87
abbrev pG:Stmt:=top 89
abbrev tO:Stmt:=top 90
abbrev xq:Stmt:=top 91
abbrev O7:Stmt:=top 95
abbrev Ah:Stmt:=top 96
abbrev tQ:Stmt:=top 97
abbrev tR:Stmt:=top 98
abbrev qT:Stmt:=top 99
abbrev jL:Stmt:=top 100
abbrev nJ:Stmt:=top 101
abbrev Fv:Stmt:=top 102
abbrev lY:Stmt:=top 103
abbrev lZ:Stmt:=top 104
abbrev Iw:Stmt:=top 105
abbrev qR:Stmt:=top 106
abbrev kY:Stmt:=top 107
abbrev jc:Stmt:=top 108
abbrev wX:Stmt:=top 109
abbrev fj:Stmt:=inClass (top 46) 0
abbrev O4:Stmt:=inClass (top 64) 0
abbrev YM:Stmt:=inClass (top 64) 1
abbrev Fq:Stmt:=inClass (top 64) 2
abbrev tU:Stmt:=inClass (top 64) 3
abbrev kW:Stmt:=inClass (top 93) 0
abbrev qP:Stmt:=inClass (top 93) 1
abbrev xn:Stmt:=inClass (top 93) 2
abbrev qN:Stmt:=inClass (top 93) 3
abbrev qO:Stmt:=inClass (top 93) 4
abbrev qEF:Str := "_law_near"
end jP
namespace FP
open PySem
abbrev xr:Stmt:=jP.top 2
abbrev qW:Stmt:=jP.top 3
abbrev jd:Stmt:=jP.top 4
abbrev vO:Stmt:=jP.top 5
end FP
namespace Stg
open PySem PySem.W PyProof.Rows
noncomputable def Ra(T:String->aE Builtin)(p:ag)(w:aI)(N:Nat)(a:aE av):Nat->ae->Thread->aE (ae×Thread)
 | 0,s,t=>some (s,t)
 | n+1,s,t=>match through t with
  | true=>none
  | false=>match stepOk N a t with
   | false=>none
   | true=>match step (denote T) p w s t with
    | .go s' t'=>Ra T p w N a n s' t'
    | .halt _ _=>none
section
variable{tb:String->aE Builtin}{p:ag}{w:aI}{n₀:Nat}{ann:aE av}
theorem Oz:∀ {k N:Nat} {s:ae} {t:Thread} {s':ae} {t':Thread},Ra tb p w n₀ ann k s t=some (s',t')->topRun tb p w n₀ ann (k+N) s t=topRun tb p w n₀ ann N s' t'
 | 0,N,s,t,s',t',h=>by
  cases h
  rw[ja]
 | k+1,N,s,t,s',t',h=>by
  rw[Nat.succ_add];unfold Ra at h
  conv=>lhs;unfold topRun
  split at h
  .cases h
  split at h
  .cases h
  split at h
  .rename_i a _ E _ S T e
   rw[a,E];show (match step (denote tb) p w s t with | .go s' t'=>topRun tb p w n₀ ann (k+N) s' t' | .halt _ _=>none)=_;rw[e];exact Oz h
  .cases h
theorem P0:∀ {k j:Nat} {s:ae} {t:Thread} {s':ae} {t':Thread},Ra tb p w n₀ ann k s t=some (s',t')->Ra tb p w n₀ ann (k+j) s t=Ra tb p w n₀ ann j s' t'
 | 0,j,s,t,s',t',h=>by
  cases h
  rw[ja]
 | k+1,j,s,t,s',t',h=>by
  rw[Nat.succ_add];unfold Ra at h
  conv=>lhs;unfold Ra
  split at h
  .cases h
  split at h
  .cases h
  split at h
  .rename_i a _ E _ S T e
   exact P0 h
  .cases h
end
noncomputable def mkS(base:ae)(n m T:Nat)(lo o:Nat->Obj):ae:={ base with heap:={ base.heap with objs:=((List.range n).map fun i=>if i<m then lo i else o i).toArray },toks:=T,gens:=#[] }
def qEL{s base:ae}{n m T:Nat}{lo:Nat->Obj}(d:Obj)(f:s.heap.objs.size=n)(h:(List.range m).map s.heap.get? = (List.range m).map fun i=>some (lo i))(ht:s.toks=T)(j:s.gens = #[])(hd:s.drawn=base.drawn)(q:s.os=base.os)(a:s.heap.life=base.heap.life):s=mkS base n m T lo fun i=>(s.heap.objs[i]?).getD d:=by
 have k:s.heap.objs=((List.range n).map fun i=>if i<m then lo i else (s.heap.objs[i]?).getD d).toArray:=by
  refine Array.ext (by simpa using f) fun i H _=>?_;have g:s.heap.objs[i]? = some s.heap.objs[i]:=eA H
  have p:((List.range n).map fun i=>if i<m then lo i else (s.heap.objs[i]?).getD d).toArray[i]=if i<m then lo i else (s.heap.objs[i]?).getD d:=by simp
  rw[p]
  by_cases c:i<m
  .rw[cS c];have e:=congrArg (·[i]?) h;simp only[List.getElem?_map]at e;rw[qDI c]at e;have b:some (s.heap.get? i)=some (some (lo i)):=e;have E:=((Heap.get?_eq_some _ _ _).mp (kJ b)).1;rw[g]at E;exact kJ E
  .rw[cK c,g];rfl
 obtain⟨⟨o,l⟩,G,drawn,t,os⟩:=s;subst hd q a j ht;show (⟨⟨o,_⟩,_,_,_,_⟩:ae)=⟨⟨_,_⟩,_,_,_,_⟩;congr 2
theorem stage{b:String->aE Builtin}{p:ag}{w:aI}{N:Nat}{a:aE av}{k:Nat}{s base:ae}{t t1:Thread}{n m T:Nat}{lo:Nat->Obj}(d:Obj)
  (h:(Ra b p w N a k s t).map (fun r=>(r.2,r.1.heap.objs.size,(List.range m).map r.1.heap.get?,r.1.toks,r.1.gens,r.1.drawn,r.1.os,r.1.heap.life))=some (t1,n,(List.range m).map (fun i=>some (lo i)),T,#[],base.drawn,base.os,base.heap.life)) :
  ∃ o,Ra b p w N a k s t=some (mkS base n m T lo o,t1):=by
 cases e:Ra b p w N a k s t with
 | none=>rw[e]at h;cases h
 | some r=>
  obtain⟨_,_⟩:=r;rw[e]at h;have h:=kJ h;simp only[Prod.mk.injEq]at h;obtain⟨H,l,q,j,f,c,u,g⟩:=h;exact⟨_,by rw[<-H,<-qEL d l q j f c u g]⟩
noncomputable def chk(p:ag)(S s:ae):aE ae:=match staticsOk (importedModules p.main.body) S.heap s.heap&&namesBound p s.heap&&gensDone s&&laidKept S.heap s.heap with
 | true=>some s
 | false=>none
def Za{T:String->aE Builtin}{p:ag}{w:aI}{N k n:Nat}{s S:ae}{t1:Thread}(f0:fencedOpening T p w N=some s)(g0:(s.heap.isNs mainGlobals&&s.gens.size==0)=true)(e:N=k+n)
  (A:Ra T p w s.heap.objs.size (s.heap.nsMap mainGlobals "__annotations__") k s (topStub p)=some (S,t1)) :
  openEnds T p w N=(topRun T p w s.heap.objs.size (s.heap.nsMap mainGlobals "__annotations__") n S t1).bind (chk p s):=by unfold openEnds;rw[f0];show topFrom T p w N s=_;unfold topFrom;rw[g0,<-Oz A,<-e];rfl
end Stg
namespace wH
open PySem L2 jP
def cJ(x q:Str)(st:Stmt)(p c:av):af:=PySem.W.fnOf x q (qd st) (jE st) (aA st) .none .none .none p none c .none
def cD(d:af):Obj:=⟨.type "function",none,.func d,#[]⟩
def n0_:PySem.Value:=.str "law_nesthall_k30_a_nest_keeps_its_stand" 1022
def n1_:PySem.Value:=.str "nesthall.guards" 187
def n2_:PySem.Value:=.str "nesthall.charts" 240
def n3_:PySem.Value:=.str "nesthall.doors" 794
def n4_:PySem.Value:=.str "nesthall.nesting" 619
def n5_:PySem.Value:=.str "nesthall.goings" 666
def n6_:PySem.Value:=.str "nesthall.stands" 833
def n7_:PySem.Value:=.str "nesthall.deeds" 757
def n8_:PySem.Value:=.str "nesthall.passing" 870
def n9_:PySem.Value:=.str "nesthall.runs" 932
def n10_:PySem.Value:=.str "nesthall.letters" 703
def n11_:PySem.Value:=.str "nesthall.nest" 957
def fd1:af:=cJ "_law_cell_at" "_law_cell_at" O7 n0_ (.ref 590)
def fd2:af:=cJ "_law_mixed" "_law_mixed" Ah n0_ (.ref 597)
def fd3:af:=cJ "holds" "holds" pJ n1_ (.ref 20)
def fd4:af:=cJ "guards_within" "guards_within" FP.xr n1_ (.ref 27)
def fd5:af:=cJ "height" "height" FP.qW n1_ (.ref 32)
def fd6:af:=cJ "plain_guards" "plain_guards" FP.jd n1_ (.ref 39)
def fd7:af:=cJ "asked" "asked" FP.vO n1_ (.ref 44)
noncomputable def fd8:af:=cJ "is_word" "is_word" tZ (.str "nesthall.words" 228) (.ref 49)
def fd9:af:=cJ "is_number_of" "is_number_of" Fw n2_ (.ref 58)
def qIE:af:=cJ "is_in_reach" "is_in_reach" tV n2_ (.ref 65)
def qID:af:=cJ "name_has_fault" "name_has_fault" yZ n2_ (.ref 77)
def qIC:af:=cJ "names_of" "names_of" pI n2_ (.ref 70)
def qIB:af:=cJ "box_has_fault" "box_has_fault" Fz n2_ (.ref 84)
def qIA:af:=cJ "deed_has_fault" "deed_has_fault" yj n2_ (.ref 91)
def qI9:af:=cJ "deeds_have_fault" "deeds_have_fault" pK n2_ (.ref 96)
def qI8:af:=cJ "depth_has_fault" "depth_has_fault" uA n2_ (.ref 103)
def qI7:af:=cJ "keeps_has_fault" "keeps_has_fault" tW n2_ (.ref 110)
def qI6:af:=cJ "room_has_fault" "room_has_fault" xu n2_ (.ref 117)
def qI5:af:=cJ "end_has_fault" "end_has_fault" Fy n2_ (.ref 124)
def qI4:af:=cJ "guard_has_fault" "guard_has_fault" je n2_ (.ref 129)
def qI3:af:=cJ "goal_has_fault" "goal_has_fault" ye n2_ (.ref 136)
def qI2:af:=cJ "door_has_fault" "door_has_fault" yg n2_ (.ref 143)
def qI1:af:=cJ "bound_faults" "bound_faults" uD n2_ (.ref 150)
def qI0:af:=cJ "box_faults" "box_faults" GC n2_ (.ref 157)
def qHZ:af:=cJ "event_faults" "event_faults" O5 n2_ (.ref 164)
def qHY:af:=cJ "room_faults" "room_faults" xx n2_ (.ref 171)
def qHX:af:=cJ "door_faults" "door_faults" yh n2_ (.ref 178)
def qHW:af:=cJ "faults" "faults" yf n2_ (.ref 185)
def qHV:af:=cJ "answers" "answers" uE n3_ (.ref 437)
def qHU:af:=cJ "end_of" "end_of" Fx n4_ (.ref 324)
def qHT:af:=cJ "parent" "parent" yX n4_ (.ref 317)
def qHS:af:=cJ "lies_in" "lies_in" yc n4_ (.ref 336)
def qHR:af:=cJ "hall_over" "hall_over" qX n4_ (.ref 343)
def qHQ:af:=cJ "kids" "kids" Iz n4_ (.ref 329)
def qHP:af:=cJ "bears_goal" "bears_goal" Aj n5_ (.ref 348)
def qHO:af:=cJ "next_in" "next_in" O3 n5_ (.ref 355)
def qHN:af:=cJ "goings_in" "goings_in" sIn n5_ (.ref 362)
def qHM:af:=cJ "goings_out" "goings_out" U4 n5_ (.ref 367)
def qHL:af:=cJ "plain_ones" "plain_ones" jd n6_ (.ref 459)
def qHK:af:=cJ "kept_of" "kept_of" yd n6_ (.ref 466)
def qHJ:af:=cJ "keeping" "keeping" tX n6_ (.ref 473)
def qHI:af:=cJ "is_outdone" "is_outdone" lg n3_ (.ref 442)
def qHH:af:=cJ "chosen" "chosen" uB n3_ (.ref 447)
def qHG:af:=cJ "changed" "changed" uC n7_ (.ref 416)
def qHF:af:=cJ "recorded" "recorded" qU n7_ (.ref 423)
def qHE:af:=cJ "done" "done" O6 n7_ (.ref 430)
def qHD:af:=cJ "sizes_of" "sizes_of" jb n8_ (.ref 483)
def qHC:af:=cJ "rooms_left" "rooms_left" fc n8_ (.ref 510)
def qHB:af:=cJ "steps_in" "steps_in" jZ n8_ (.ref 488)
def qHA:af:=cJ "steps_out" "steps_out" iT n8_ (.ref 493)
def qH9:af:=cJ "stepped" "stepped" qM n8_ (.ref 500)
def qH8:af:=cJ "goals_of" "goals_of" tu n3_ (.ref 454)
def qH7:af:=cJ "passed" "passed" pH n8_ (.ref 505)
def qH6:af:=cJ "turn" "turn" Fp n8_ (.ref 517)
def qH5:af:=cJ "rested" "rested" pG n9_ (.ref 522)
def qH4:af:=cJ "begun" "begun" tO n9_ (.ref 527)
def qH3:af:=cJ "after" "after" xq n9_ (.ref 534)
def qH2:af:=cJ "lamps" "lamps" Ai n6_ (.ref 478)
def qH1:af:=cJ "_law_name" "_law_name" tQ n0_ (.ref 604)
def qH0:af:=cJ "_law_deed" "_law_deed" tR n0_ (.ref 611)
def qGZ:af:=cJ "_law_deeds" "_law_deeds" qT n0_ (.ref 618)
def qGY:af:=cJ "_law_guard" "_law_guard" jL n0_ (.ref 625)
def qGX:af:=cJ "_law_depths" "_law_depths" nJ n0_ (.ref 632)
def qGW:af:=cJ "_law_rooms" "_law_rooms" Fv n0_ (.ref 639)
def qGV:af:=cJ "_law_doors" "_law_doors" lY n0_ (.ref 644)
def qGU:af:=cJ "_law_chart" "_law_chart" lZ n0_ (.ref 649)
def qGT:af:=cJ "_law_same" "_law_same" Iw n0_ (.ref 656)
def qGS:af:=cJ "_law_event" "_law_event" qR n0_ (.ref 663)
def qGR:af:=cJ "_law_refused" "_law_refused" kY n0_ (.ref 670)
def qGQ:af:=cJ "_law_stands" "_law_stands" jc n0_ (.ref 675)
def ZX:af:=cJ "law" "law" wX n0_ (.ref 682)
def Wh:af:=cJ "__init__" "Letters.__init__" O4 n10_ (.ref 381)
def Wg:af:=cJ "add" "Letters.add" YM n10_ (.ref 388)
def Wf:af:=cJ "taken" "Letters.taken" Fq n10_ (.ref 395)
noncomputable def We:af:=cJ "waiting" "Letters.waiting" tU n10_ (.ref 402)
def Wd:af:=cJ "__init__" "Nest.__init__" kW n11_ (.ref 548)
def Wc:af:=cJ "first" "Nest.first" qP n11_ (.ref 555)
def Wb:af:=cJ "run" "Nest.run" xn n11_ (.ref 562)
def Wa:af:=cJ "stand" "Nest.stand" qN n11_ (.ref 569)
def WY:af:=cJ "lamps" "Nest.lamps" qO n11_ (.ref 576)
noncomputable def WX:af:=cJ "__init__" "NoEvent.__init__" fj (.str "nesthall.errors" 451) (.ref 231)
def kE(P:Params)(x:Str)(n:Nat)(v:av):DictEntry:=⟨PyData.keyHash P x,.str x n,v⟩
noncomputable def cO(x q:Str)(a:Nat)(l n:Int)(r:Nat)(k:Int):Obj:=⟨.type "code",none,.fields #[.str x a,.str q (a+1),.str "/claim/cut.py" (a+2),.int l 0,.int n 0,.int 0 0,.int 0 0,.int 3 0,.ref r,.bool true,.int 181 0,.ref (r+1),.none,.ref (r+2),.ref (r+3),.ref (r+4),.int k 0,.int l 0,.str "/claim/cut.py" (k.toNat+1)],#[]⟩
noncomputable def cN(x q:Str)(a:Nat)(l n:Int)(r:Nat)(k:Int):Obj:=⟨.type "code",none,.fields #[.str x a,.str q (a+1),.str "/claim/cut.py" (a+2),.int l 0,.int n 0,.int 0 0,.int 0 0,.int 3 0,.ref r,.bool true,.int 181 0,.ref (r+1),.none,.none,.none,.ref (r+2),.int k 0,.int l 0,.str "/claim/cut.py" (k.toNat+1)],#[]⟩
noncomputable def KO(P:Params):bV:=[
 (3,⟨.type "dict",none,.dict #[kE P "__name__" 165 (.str "law_nesthall_k30_a_nest_keeps_its_stand" 1022),kE P "__doc__" 166 .none,kE P "__package__" 167 .none,kE P "__loader__" 168 (.builtin "__main__.__loader__#opaque"),kE P "__spec__" 169 .none,kE P "__annotations__" 170 (.ref 6),kE P "__builtins__" 171 (.ref 4),kE P "__file__" 173 (.str "/claim/cut.py" 172),kE P "__cached__" 174 .none,kE P "holds" 198 (.ref 21),kE P "guards_within" 205 (.ref 28),kE P "height" 211 (.ref 33),kE P "plain_guards" 221 (.ref 40),kE P "asked" 227 (.ref 45),kE P "SMALL_LETTERS" 231 (.str "abcdefghijklmnopqrstuvwxyz" 230),kE P "LONGEST" 233 (.int (12) 232),kE P "is_word" 239 (.ref 50),kE P "ORDERS" 244 (.ref 51),kE P "KINDS" 248 (.ref 52),kE P "MOST_LETTERS" 250 (.int (12) 249),kE P "MOST_TURNS" 252 (.int (20) 251),kE P "MOST_BOXES" 254 (.int (6) 253),kE P "MOST_EVENTS" 256 (.int (8) 255),kE P "MOST_ROOMS" 258 (.int (40) 257),kE P "MOST_DOORS" 260 (.int (60) 259),kE P "MOST_DEEDS" 262 (.int (8) 261),kE P "DEEPEST" 264 (.int (12) 263),kE P "HIGHEST" 266 (.int (6) 265),kE P "GREATEST" 268 (.int (1000000000000000000000000000000) 267),kE P "is_number_of" 276 (.ref 59),kE P "is_in_reach" 283 (.ref 66),kE P "names_of" 289 (.ref 71),kE P "name_has_fault" 297 (.ref 78),kE P "box_has_fault" 307 (.ref 85),kE P "deed_has_fault" 318 (.ref 92),kE P "deeds_have_fault" 324 (.ref 97),kE P "depth_has_fault" 332 (.ref 104),kE P "keeps_has_fault" 340 (.ref 111),kE P "room_has_fault" 352 (.ref 118),kE P "end_has_fault" 361 (.ref 125),kE P "guard_has_fault" 367 (.ref 130),kE P "goal_has_fault" 376 (.ref 137),kE P "door_has_fault" 386 (.ref 144),kE P "bound_faults" 394 (.ref 151),kE P "box_faults" 404 (.ref 158),kE P "event_faults" 414 (.ref 165),kE P "room_faults" 426 (.ref 172),kE P "door_faults" 439 (.ref 179),kE P "faults" 450 (.ref 186),kE P "NestError" 470 (.ref 196),kE P "BadChart" 495 (.ref 216),kE P "NoEvent" 520 (.ref 235),kE P "TooWide" 545 (.ref 254),kE P "NoWords" 561 (.ref 266),kE P "Unread" 586 (.ref 285),kE P "NoRow" 602 (.ref 297),kE P "NoName" 618 (.ref 309),kE P "parent" 630 (.ref 318),kE P "end_of" 640 (.ref 325),kE P "kids" 646 (.ref 330),kE P "lies_in" 655 (.ref 337),kE P "hall_over" 665 (.ref 344),kE P "bears_goal" 673 (.ref 349),kE P "next_in" 684 (.ref 356),kE P "goings_in" 696 (.ref 363),kE P "goings_out" 702 (.ref 368),kE P "Letters" 756 (.ref 406),kE P "changed" 770 (.ref 417),kE P "recorded" 780 (.ref 424),kE P "done" 793 (.ref 431),kE P "answers" 809 (.ref 438),kE P "is_outdone" 815 (.ref 443),kE P "chosen" 821 (.ref 448),kE P "goals_of" 832 (.ref 455),kE P "plain_ones" 840 (.ref 460),kE P "kept_of" 850 (.ref 467),kE P "keeping" 862 (.ref 474),kE P "lamps" 868 (.ref 479),kE P "lamps_stands" 869 (.ref 479),kE P "sizes_of" 877 (.ref 484),kE P "steps_in" 883 (.ref 489),kE P "steps_out" 889 (.ref 494),kE P "stepped" 904 (.ref 501),kE P "passed" 910 (.ref 506),kE P "rooms_left" 916 (.ref 511),kE P "turn" 931 (.ref 518),kE P "rested" 939 (.ref 523),kE P "begun" 945 (.ref 528),kE P "after" 956 (.ref 535),kE P "Nest" 1021 (.ref 580),kE P "_law_cell_at" 1031 (.ref 591),kE P "_law_mixed" 1043 (.ref 598),kE P "_law_name" 1053 (.ref 605),kE P "_law_deed" 1065 (.ref 612),kE P "_law_deeds" 1080 (.ref 619),kE P "_law_guard" 1092 (.ref 626),kE P "_law_depths" 1102 (.ref 633),kE P "_law_rooms" 1120 (.ref 640),kE P "_law_doors" 1126 (.ref 645),kE P "_law_chart" 1132 (.ref 650),kE P "_law_same" 1141 (.ref 657),kE P "_law_event" 1151 (.ref 664),kE P "_law_refused" 1162 (.ref 671),kE P "_law_stands" 1168 (.ref 676),kE P "law" 1185 (.ref 683)] 105,#[]⟩),
 (590,cO "_law_cell_at" "_law_cell_at" 1024 437 2 585 1029),
 (591,cD fd1),
 (597,cO "_law_mixed" "_law_mixed" 1032 441 3 592 1041),
 (598,cD fd2),
 (20,cO "holds" "holds" 189 2 3 15 196),
 (21,cD fd3),
 (27,cO "guards_within" "guards_within" 199 17 1 22 203),
 (28,cD fd4),
 (32,cN "height" "height" 206 23 1 29 209),
 (33,cD fd5),
 (39,cO "plain_guards" "plain_guards" 212 25 1 34 219),
 (40,cD fd6),
 (44,cN "asked" "asked" 222 33 1 41 225),
 (45,cD fd7),
 (49,cN "is_word" "is_word" 234 41 1 46 237),
 (50,cD fd8),
 (58,cO "is_number_of" "is_number_of" 269 56 2 53 274),
 (59,cD fd9),
 (65,cO "is_in_reach" "is_in_reach" 277 58 1 60 281),
 (66,cD qIE),
 (77,cO "name_has_fault" "name_has_fault" 290 62 2 72 295),
 (78,cD qID),
 (70,cN "names_of" "names_of" 284 60 1 67 287),
 (71,cD qIC),
 (84,cO "box_has_fault" "box_has_fault" 298 64 2 79 305),
 (85,cD qIB),
 (91,cO "deed_has_fault" "deed_has_fault" 308 70 3 86 316),
 (92,cD qIA),
 (96,cN "deeds_have_fault" "deeds_have_fault" 319 82 3 93 322),
 (97,cD qI9),
 (103,cO "depth_has_fault" "depth_has_fault" 325 84 2 98 330),
 (104,cD qI8),
 (110,cO "keeps_has_fault" "keeps_has_fault" 333 88 2 105 338),
 (111,cD qI7),
 (117,cO "room_has_fault" "room_has_fault" 341 94 4 112 350),
 (118,cD qI6),
 (124,cO "end_has_fault" "end_has_fault" 353 104 2 119 359),
 (125,cD qI5),
 (129,cN "guard_has_fault" "guard_has_fault" 362 109 3 126 365),
 (130,cD qI4),
 (136,cO "goal_has_fault" "goal_has_fault" 368 118 3 131 374),
 (137,cD qI3),
 (143,cO "door_has_fault" "door_has_fault" 377 124 4 138 384),
 (144,cD qI2),
 (150,cO "bound_faults" "bound_faults" 387 130 1 145 392),
 (151,cD qI1),
 (157,cO "box_faults" "box_faults" 395 139 1 152 402),
 (158,cD qI0),
 (164,cO "event_faults" "event_faults" 405 145 1 159 412),
 (165,cD qHZ),
 (171,cO "room_faults" "room_faults" 415 151 3 166 424),
 (172,cD qHY),
 (178,cO "door_faults" "door_faults" 427 157 4 173 437),
 (179,cD qHX),
 (185,cO "faults" "faults" 440 163 1 180 448),
 (186,cD qHW),
 (437,cO "answers" "answers" 796 297 3 432 807),
 (438,cD qHV),
 (324,cO "end_of" "end_of" 631 209 2 319 638),
 (325,cD qHU),
 (317,cO "parent" "parent" 621 203 2 312 628),
 (318,cD qHT),
 (336,cO "lies_in" "lies_in" 647 218 3 331 653),
 (337,cD qHS),
 (343,cO "hall_over" "hall_over" 656 220 3 338 663),
 (344,cD qHR),
 (329,cN "kids" "kids" 641 215 2 326 644),
 (330,cD qHQ),
 (348,cN "bears_goal" "bears_goal" 668 228 3 345 671),
 (349,cD qHP),
 (355,cO "next_in" "next_in" 674 231 3 350 682),
 (356,cD qHO),
 (362,cO "goings_in" "goings_in" 685 239 3 357 694),
 (363,cD qHN),
 (367,cN "goings_out" "goings_out" 697 247 3 364 700),
 (368,cD qHM),
 (459,cN "plain_ones" "plain_ones" 835 323 2 456 838),
 (460,cD qHL),
 (466,cO "kept_of" "kept_of" 841 325 3 461 848),
 (467,cD qHK),
 (473,cO "keeping" "keeping" 851 330 4 468 860),
 (474,cD qHJ),
 (442,cN "is_outdone" "is_outdone" 810 305 3 439 813),
 (443,cD qHI),
 (447,cN "chosen" "chosen" 816 310 3 444 819),
 (448,cD qHH),
 (416,cO "changed" "changed" 759 273 3 411 768),
 (417,cD qHG),
 (423,cO "recorded" "recorded" 771 282 3 418 778),
 (424,cD qHF),
 (430,cO "done" "done" 781 289 4 425 791),
 (431,cD qHE),
 (483,cN "sizes_of" "sizes_of" 872 340 1 480 875),
 (484,cD qHD),
 (510,cN "rooms_left" "rooms_left" 911 372 1 507 914),
 (511,cD qHC),
 (488,cN "steps_in" "steps_in" 878 342 2 485 881),
 (489,cD qHB),
 (493,cN "steps_out" "steps_out" 884 344 2 490 887),
 (494,cD qHA),
 (500,cO "stepped" "stepped" 890 346 4 495 902),
 (501,cD qH9),
 (454,cO "goals_of" "goals_of" 822 314 3 449 830),
 (455,cD qH8),
 (505,cN "passed" "passed" 905 355 4 502 908),
 (506,cD qH7),
 (517,cO "turn" "turn" 917 374 4 512 929),
 (518,cD qH6),
 (522,cN "rested" "rested" 934 386 4 519 937),
 (523,cD qH5),
 (527,cN "begun" "begun" 940 397 1 524 943),
 (528,cD qH4),
 (534,cO "after" "after" 946 405 3 529 954),
 (535,cD qH3),
 (478,cN "lamps" "lamps" 863 336 2 475 866),
 (479,cD qH2),
 (604,cO "_law_name" "_law_name" 1044 448 2 599 1051),
 (605,cD qH1),
 (611,cO "_law_deed" "_law_deed" 1054 452 3 606 1063),
 (612,cD qH0),
 (618,cO "_law_deeds" "_law_deeds" 1066 467 5 613 1078),
 (619,cD qGZ),
 (625,cO "_law_guard" "_law_guard" 1081 474 4 620 1090),
 (626,cD qGY),
 (632,cO "_law_depths" "_law_depths" 1093 490 2 627 1100),
 (633,cD qGX),
 (639,cO "_law_rooms" "_law_rooms" 1103 495 4 634 1118),
 (640,cD qGW),
 (644,cN "_law_doors" "_law_doors" 1121 513 5 641 1124),
 (645,cD qGV),
 (649,cN "_law_chart" "_law_chart" 1127 532 1 646 1130),
 (650,cD qGU),
 (656,cO "_law_same" "_law_same" 1133 550 2 651 1139),
 (657,cD qGT),
 (663,cO "_law_event" "_law_event" 1142 565 3 658 1149),
 (664,cD qGS),
 (670,cO "_law_refused" "_law_refused" 1152 574 3 665 1160),
 (671,cD qGR),
 (675,cN "_law_stands" "_law_stands" 1163 589 3 672 1166),
 (676,cD qGQ),
 (682,cO "law" "law" 1169 593 1 677 1183),
 (683,cD ZX),
 (406,⟨.type "type",none,.cls ⟨"Letters",[.type "object"],[.ref 406,.type "object"],405,"Letters",true,[],[],false,none,false⟩,#[none,none,some (.str "Letters" 705),some (.str "Letters" 713),some (.builtin "object.__new__"),some (.bool true)]⟩),
 (405,⟨.type "dict",none,.dict #[kE P "__module__" 712 (.str "nesthall.letters" 703),kE P "__firstlineno__" 716 (.int (253) 715),kE P "__init__" 724 (.ref 382),kE P "add" 732 (.ref 389),kE P "taken" 739 (.ref 396),kE P "waiting" 746 (.ref 403),kE P "__static_attributes__" 749 (.ref 404),kE P "__dict__" 751 (.ref 407),kE P "__weakref__" 753 (.ref 408),kE P "__doc__" 754 .none] 4,#[]⟩),
 (381,cO "__init__" "Letters.__init__" 717 255 2 376 722),
 (382,cD Wh),
 (388,cO "add" "Letters.add" 725 259 2 383 730),
 (389,cD Wg),
 (395,cO "taken" "Letters.taken" 733 265 1 390 737),
 (396,cD Wf),
 (402,cO "waiting" "Letters.waiting" 740 270 1 397 744),
 (403,cD We),
 (580,⟨.type "type",none,.cls ⟨"Nest",[.type "object"],[.ref 580,.type "object"],579,"Nest",true,[],[],false,none,false⟩,#[none,none,some (.str "Nest" 959),some (.str "Nest" 967),some (.builtin "object.__new__"),some (.bool true)]⟩),
 (579,⟨.type "dict",none,.dict #[kE P "__module__" 966 (.str "nesthall.nest" 957),kE P "__firstlineno__" 970 (.int (410) 969),kE P "__init__" 980 (.ref 549),kE P "first" 987 (.ref 556),kE P "run" 996 (.ref 563),kE P "stand" 1003 (.ref 570),kE P "lamps" 1010 (.ref 577),kE P "__static_attributes__" 1014 (.ref 578),kE P "__dict__" 1016 (.ref 581),kE P "__weakref__" 1018 (.ref 582),kE P "__doc__" 1019 .none] 4,#[]⟩),
 (548,cO "__init__" "Nest.__init__" 971 412 2 543 978),
 (549,cD Wd),
 (555,cO "first" "Nest.first" 981 421 1 550 985),
 (556,cD Wc),
 (562,cO "run" "Nest.run" 988 424 2 557 994),
 (563,cD Wb),
 (569,cO "stand" "Nest.stand" 997 431 1 564 1001),
 (570,cD Wa),
 (576,cO "lamps" "Nest.lamps" 1004 434 1 571 1008),
 (577,cD WY),
 (235,⟨.type "type",none,.cls ⟨"NoEvent",[.ref 196],[.ref 235,.ref 196,.type "ValueError",.type "Exception",.type "BaseException",.type "object"],234,"NoEvent",true,[],[],false,none,false⟩,#[some (.ref 219),none,some (.str "NoEvent" 496),some (.str "NoEvent" 504),some (.builtin "ValueError.__new__"),some (.bool true)]⟩),
 (234,⟨.type "dict",none,.dict #[kE P "__module__" 503 (.str "nesthall.errors" 451),kE P "__firstlineno__" 507 (.int (181) 506),kE P "__init__" 515 (.ref 232),kE P "__static_attributes__" 517 (.ref 233),kE P "__doc__" 518 .none] 2,#[]⟩),
 (231,cO "__init__" "NoEvent.__init__" 508 183 2 226 513),
 (232,cD WX),
 (196,⟨.type "type",none,.cls ⟨"NestError",[.type "ValueError"],[.ref 196,.type "ValueError",.type "Exception",.type "BaseException",.type "object"],195,"NestError",true,[],[.ref 216,.ref 235,.ref 254,.ref 266,.ref 285,.ref 297,.ref 309],false,none,false⟩,#[some (.ref 187),none,some (.str "NestError" 453),some (.str "NestError" 461),some (.builtin "ValueError.__new__"),some (.bool true)]⟩),
 (195,⟨.type "dict",none,.dict #[kE P "__module__" 460 (.str "nesthall.errors" 451),kE P "__firstlineno__" 464 (.int (174) 463),kE P "__static_attributes__" 465 (.ref 194),kE P "__weakref__" 467 (.ref 197),kE P "__doc__" 468 .none] 3,#[]⟩),
 (216,⟨.type "type",none,.cls ⟨"BadChart",[.ref 196],[.ref 216,.ref 196,.type "ValueError",.type "Exception",.type "BaseException",.type "object"],215,"BadChart",true,[],[],false,none,false⟩,#[some (.ref 200),none,some (.str "BadChart" 471),some (.str "BadChart" 479),some (.builtin "ValueError.__new__"),some (.bool true)]⟩),
 (215,⟨.type "dict",none,.dict #[kE P "__module__" 478 (.str "nesthall.errors" 451),kE P "__firstlineno__" 482 (.int (176) 481),kE P "__init__" 490 (.ref 213),kE P "__static_attributes__" 492 (.ref 214),kE P "__doc__" 493 .none] 2,#[]⟩),
 (309,⟨.type "type",none,.cls ⟨"NoName",[.ref 196],[.ref 309,.ref 196,.type "ValueError",.type "Exception",.type "BaseException",.type "object"],308,"NoName",true,[],[],false,none,false⟩,#[some (.ref 300),none,some (.str "NoName" 603),some (.str "NoName" 611),some (.builtin "ValueError.__new__"),some (.bool true)]⟩),
 (308,⟨.type "dict",none,.dict #[kE P "__module__" 610 (.str "nesthall.errors" 451),kE P "__firstlineno__" 614 (.int (200) 613),kE P "__static_attributes__" 615 (.ref 307),kE P "__doc__" 616 .none] 2,#[]⟩),
 (297,⟨.type "type",none,.cls ⟨"NoRow",[.ref 196],[.ref 297,.ref 196,.type "ValueError",.type "Exception",.type "BaseException",.type "object"],296,"NoRow",true,[],[],false,none,false⟩,#[some (.ref 288),none,some (.str "NoRow" 587),some (.str "NoRow" 595),some (.builtin "ValueError.__new__"),some (.bool true)]⟩),
 (296,⟨.type "dict",none,.dict #[kE P "__module__" 594 (.str "nesthall.errors" 451),kE P "__firstlineno__" 598 (.int (198) 597),kE P "__static_attributes__" 599 (.ref 295),kE P "__doc__" 600 .none] 2,#[]⟩),
 (266,⟨.type "type",none,.cls ⟨"NoWords",[.ref 196],[.ref 266,.ref 196,.type "ValueError",.type "Exception",.type "BaseException",.type "object"],265,"NoWords",true,[],[],false,none,false⟩,#[some (.ref 257),none,some (.str "NoWords" 546),some (.str "NoWords" 554),some (.builtin "ValueError.__new__"),some (.bool true)]⟩),
 (265,⟨.type "dict",none,.dict #[kE P "__module__" 553 (.str "nesthall.errors" 451),kE P "__firstlineno__" 557 (.int (191) 556),kE P "__static_attributes__" 558 (.ref 264),kE P "__doc__" 559 .none] 2,#[]⟩),
 (254,⟨.type "type",none,.cls ⟨"TooWide",[.ref 196],[.ref 254,.ref 196,.type "ValueError",.type "Exception",.type "BaseException",.type "object"],253,"TooWide",true,[],[],false,none,false⟩,#[some (.ref 238),none,some (.str "TooWide" 521),some (.str "TooWide" 529),some (.builtin "ValueError.__new__"),some (.bool true)]⟩),
 (253,⟨.type "dict",none,.dict #[kE P "__module__" 528 (.str "nesthall.errors" 451),kE P "__firstlineno__" 532 (.int (186) 531),kE P "__init__" 540 (.ref 251),kE P "__static_attributes__" 542 (.ref 252),kE P "__doc__" 543 .none] 2,#[]⟩),
 (285,⟨.type "type",none,.cls ⟨"Unread",[.ref 196],[.ref 285,.ref 196,.type "ValueError",.type "Exception",.type "BaseException",.type "object"],284,"Unread",true,[],[],false,none,false⟩,#[some (.ref 269),none,some (.str "Unread" 562),some (.str "Unread" 570),some (.builtin "ValueError.__new__"),some (.bool true)]⟩),
 (284,⟨.type "dict",none,.dict #[kE P "__module__" 569 (.str "nesthall.errors" 451),kE P "__firstlineno__" 573 (.int (193) 572),kE P "__init__" 581 (.ref 282),kE P "__static_attributes__" 583 (.ref 283),kE P "__doc__" 584 .none] 2,#[]⟩),
 (51,⟨.type "tuple",none,.seq #[.str "inner" 242,.str "outer" 243] 0,#[]⟩),
 (52,⟨.type "tuple",none,.seq #[.str "plain" 245,.str "one" 246,.str "all" 247] 0,#[]⟩),
 (2,⟨.none,none,.dict #[] 0,#[]⟩)]
noncomputable def KA:aw ar:=[3,590,591,597,598,20,21,27,28,32,33,39,40,44,45,49,50,58,59,65,66,77,78,70,71,84,85,91,92,96,97,103,104,110,111,117,118,124,125,129,130,136,137,143,144,150,151,157,158,164,165,171,172,178,179,185,186,437,438,324,325,317,318,336,337,343,344,329,330,348,349,355,356,362,363,367,368,459,460,466,467,473,474,442,443,447,448,416,417,423,424,430,431,483,484,510,511,488,489,493,494,500,501,454,455,505,506,517,518,522,523,527,528,534,535,478,479,604,605,611,612,618,619,625,626,632,633,639,640,644,645,649,650,656,657,663,664,670,671,675,676,682,683,406,405,381,382,388,389,395,396,402,403,580,579,548,549,555,556,562,563,569,570,576,577,235,234,231,232,196,195,216,215,309,308,297,296,266,265,254,253,285,284,51,52,2]
def PW:ag:=PySem.Challenge.pw_nesthall_k30_a_nest_keeps_its_stand
def QV:ag:=PySem.W.view PW [109]
noncomputable def LS:aw Str:=[Str.ofString "__name__",Str.ofString "holds",Str.ofString "guards_within",Str.ofString "height",Str.ofString "plain_guards",Str.ofString "asked",Str.ofString "SMALL_LETTERS",Str.ofString "LONGEST",Str.ofString "is_word",Str.ofString "ORDERS",Str.ofString "KINDS",Str.ofString "MOST_LETTERS",Str.ofString "MOST_TURNS",Str.ofString "MOST_BOXES",Str.ofString "MOST_EVENTS",Str.ofString "MOST_ROOMS",Str.ofString "MOST_DOORS",Str.ofString "MOST_DEEDS",Str.ofString "DEEPEST",Str.ofString "HIGHEST",Str.ofString "GREATEST",Str.ofString "is_number_of",Str.ofString "is_in_reach",Str.ofString "names_of",Str.ofString "name_has_fault",Str.ofString "box_has_fault",Str.ofString "deed_has_fault",Str.ofString "deeds_have_fault",Str.ofString "depth_has_fault",Str.ofString "keeps_has_fault",Str.ofString "room_has_fault",Str.ofString "end_has_fault",Str.ofString "guard_has_fault",Str.ofString "goal_has_fault",Str.ofString "door_has_fault",Str.ofString "bound_faults",Str.ofString "box_faults",Str.ofString "event_faults",Str.ofString "room_faults",Str.ofString "door_faults",Str.ofString "faults",Str.ofString "NestError",Str.ofString "BadChart",Str.ofString "NoEvent",Str.ofString "TooWide",Str.ofString "NoWords",Str.ofString "Unread",Str.ofString "NoRow",Str.ofString "NoName",Str.ofString "parent",Str.ofString "end_of",Str.ofString "kids",Str.ofString "lies_in",Str.ofString "hall_over",Str.ofString "bears_goal",Str.ofString "next_in",Str.ofString "goings_in",Str.ofString "goings_out",Str.ofString "Letters",Str.ofString "changed",Str.ofString "recorded",Str.ofString "done",Str.ofString "answers",Str.ofString "is_outdone",Str.ofString "chosen",Str.ofString "goals_of",Str.ofString "plain_ones",Str.ofString "kept_of",Str.ofString "keeping",Str.ofString "lamps",Str.ofString "lamps_stands",Str.ofString "sizes_of",Str.ofString "steps_in",Str.ofString "steps_out",Str.ofString "stepped",Str.ofString "passed",Str.ofString "rooms_left",Str.ofString "turn",Str.ofString "rested",Str.ofString "begun",Str.ofString "after",Str.ofString "Nest",Str.ofString "_law_cell_at",Str.ofString "_law_mixed",Str.ofString "_law_name",Str.ofString "_law_deed",Str.ofString "_law_deeds",Str.ofString "_law_guard",Str.ofString "_law_depths",Str.ofString "_law_rooms",Str.ofString "_law_doors",Str.ofString "_law_chart",Str.ofString "_law_same",Str.ofString "_law_event",Str.ofString "_law_refused",Str.ofString "_law_stands"]
def HK:PySem.W.Hook:=PySem.W.kHook KO KA fun _=>by kernel_rfl
def qD4:Stmt->Pos
 | .FunctionDef _ _ _ _ _ _ _ _ _ p=>p
 | _=>⟨0,0,0,0⟩
noncomputable def Mu:DefRec:=⟨"law",qd wX,jE wX,aA wX,qD4 wX⟩
noncomputable def MG(P:Params)(x:av)(m:aw DictEntry)(n:Nat):Obj:=⟨.type "dict",none,.dict ⟨⟨PyData.keyHash P "__name__",.str "__name__" 165,x⟩::⟨PyData.keyHash P "__doc__",.str "__doc__" 166,.none⟩::⟨PyData.keyHash P "__package__",.str "__package__" 167,.none⟩::⟨PyData.keyHash P "__loader__",.str "__loader__" 168,.builtin "__main__.__loader__#opaque"⟩::⟨PyData.keyHash P "__spec__",.str "__spec__" 169,.none⟩::⟨PyData.keyHash P "__annotations__",.str "__annotations__" 170,.ref 6⟩::⟨PyData.keyHash P "__builtins__",.str "__builtins__" 171,.ref 4⟩::⟨PyData.keyHash P "__file__",.str "__file__" 173,.str "/claim/cut.py" 172⟩::⟨PyData.keyHash P "__cached__",.str "__cached__" 174,.none⟩::⟨PyData.keyHash P "holds",.str "holds" 198,.ref 21⟩::⟨PyData.keyHash P "guards_within",.str "guards_within" 205,.ref 28⟩::⟨PyData.keyHash P "height",.str "height" 211,.ref 33⟩::⟨PyData.keyHash P "plain_guards",.str "plain_guards" 221,.ref 40⟩::⟨PyData.keyHash P "asked",.str "asked" 227,.ref 45⟩::⟨PyData.keyHash P "SMALL_LETTERS",.str "SMALL_LETTERS" 231,.str "abcdefghijklmnopqrstuvwxyz" 230⟩::⟨PyData.keyHash P "LONGEST",.str "LONGEST" 233,.int (12) 232⟩::⟨PyData.keyHash P "is_word",.str "is_word" 239,.ref 50⟩::⟨PyData.keyHash P "ORDERS",.str "ORDERS" 244,.ref 51⟩::⟨PyData.keyHash P "KINDS",.str "KINDS" 248,.ref 52⟩::⟨PyData.keyHash P "MOST_LETTERS",.str "MOST_LETTERS" 250,.int (12) 249⟩::⟨PyData.keyHash P "MOST_TURNS",.str "MOST_TURNS" 252,.int (20) 251⟩::⟨PyData.keyHash P "MOST_BOXES",.str "MOST_BOXES" 254,.int (6) 253⟩::⟨PyData.keyHash P "MOST_EVENTS",.str "MOST_EVENTS" 256,.int (8) 255⟩::⟨PyData.keyHash P "MOST_ROOMS",.str "MOST_ROOMS" 258,.int (40) 257⟩::⟨PyData.keyHash P "MOST_DOORS",.str "MOST_DOORS" 260,.int (60) 259⟩::⟨PyData.keyHash P "MOST_DEEDS",.str "MOST_DEEDS" 262,.int (8) 261⟩::⟨PyData.keyHash P "DEEPEST",.str "DEEPEST" 264,.int (12) 263⟩::⟨PyData.keyHash P "HIGHEST",.str "HIGHEST" 266,.int (6) 265⟩::⟨PyData.keyHash P "GREATEST",.str "GREATEST" 268,.int (1000000000000000000000000000000) 267⟩::⟨PyData.keyHash P "is_number_of",.str "is_number_of" 276,.ref 59⟩::⟨PyData.keyHash P "is_in_reach",.str "is_in_reach" 283,.ref 66⟩::⟨PyData.keyHash P "names_of",.str "names_of" 289,.ref 71⟩::⟨PyData.keyHash P "name_has_fault",.str "name_has_fault" 297,.ref 78⟩::⟨PyData.keyHash P "box_has_fault",.str "box_has_fault" 307,.ref 85⟩::⟨PyData.keyHash P "deed_has_fault",.str "deed_has_fault" 318,.ref 92⟩::⟨PyData.keyHash P "deeds_have_fault",.str "deeds_have_fault" 324,.ref 97⟩::⟨PyData.keyHash P "depth_has_fault",.str "depth_has_fault" 332,.ref 104⟩::⟨PyData.keyHash P "keeps_has_fault",.str "keeps_has_fault" 340,.ref 111⟩::⟨PyData.keyHash P "room_has_fault",.str "room_has_fault" 352,.ref 118⟩::⟨PyData.keyHash P "end_has_fault",.str "end_has_fault" 361,.ref 125⟩::⟨PyData.keyHash P "guard_has_fault",.str "guard_has_fault" 367,.ref 130⟩::⟨PyData.keyHash P "goal_has_fault",.str "goal_has_fault" 376,.ref 137⟩::⟨PyData.keyHash P "door_has_fault",.str "door_has_fault" 386,.ref 144⟩::⟨PyData.keyHash P "bound_faults",.str "bound_faults" 394,.ref 151⟩::⟨PyData.keyHash P "box_faults",.str "box_faults" 404,.ref 158⟩::⟨PyData.keyHash P "event_faults",.str "event_faults" 414,.ref 165⟩::⟨PyData.keyHash P "room_faults",.str "room_faults" 426,.ref 172⟩::⟨PyData.keyHash P "door_faults",.str "door_faults" 439,.ref 179⟩::⟨PyData.keyHash P "faults",.str "faults" 450,.ref 186⟩::⟨PyData.keyHash P "NestError",.str "NestError" 470,.ref 196⟩::⟨PyData.keyHash P "BadChart",.str "BadChart" 495,.ref 216⟩::⟨PyData.keyHash P "NoEvent",.str "NoEvent" 520,.ref 235⟩::⟨PyData.keyHash P "TooWide",.str "TooWide" 545,.ref 254⟩::⟨PyData.keyHash P "NoWords",.str "NoWords" 561,.ref 266⟩::⟨PyData.keyHash P "Unread",.str "Unread" 586,.ref 285⟩::⟨PyData.keyHash P "NoRow",.str "NoRow" 602,.ref 297⟩::⟨PyData.keyHash P "NoName",.str "NoName" 618,.ref 309⟩::m⟩ n,#[]⟩
noncomputable def C12(m:aw av):Obj:=⟨.none,none,.fields ⟨.int (2) 0::.int (0) 0::.ref 20::.int (17) 0::.int (0) 0::.ref 27::.int (23) 0::.int (0) 0::.ref 32::.int (25) 0::.int (0) 0::.ref 39::.int (33) 0::.int (0) 0::.ref 44::.int (41) 0::.int (0) 0::.ref 49::.int (56) 0::.int (0) 0::.ref 58::.int (58) 0::.int (0) 0::.ref 65::.int (60) 0::.int (0) 0::.ref 70::.int (62) 0::.int (0) 0::.ref 77::.int (64) 0::.int (0) 0::.ref 84::.int (70) 0::.int (0) 0::.ref 91::.int (82) 0::.int (0) 0::.ref 96::.int (84) 0::.int (0) 0::.ref 103::.int (88) 0::.int (0) 0::.ref 110::.int (94) 0::.int (0) 0::.ref 117::.int (104) 0::.int (0) 0::.ref 124::.int (109) 0::.int (0) 0::.ref 129::.int (118) 0::.int (0) 0::.ref 136::.int (124) 0::.int (0) 0::.ref 143::.int (130) 0::.int (0) 0::.ref 150::.int (139) 0::.int (0) 0::.ref 157::.int (145) 0::.int (0) 0::.ref 164::.int (151) 0::.int (0) 0::.ref 171::.int (157) 0::.int (0) 0::.ref 178::.int (163) 0::.int (0) 0::.ref 185::.int (174) 0::.int (0) 0::.ref 192::.int (176) 0::.int (0) 0::.ref 205::.int (181) 0::.int (0) 0::.ref 224::.int (186) 0::.int (0) 0::.ref 243::.int (191) 0::.int (0) 0::.ref 262::.int (193) 0::.int (0) 0::.ref 274::.int (198) 0::.int (0) 0::.ref 293::.int (200) 0::.int (0) 0::.ref 305::m⟩,#[]⟩
def m3(P:Params):aw DictEntry:=[⟨PyData.keyHash P "parent",.str "parent" 630,.ref 318⟩,⟨PyData.keyHash P "end_of",.str "end_of" 640,.ref 325⟩,⟨PyData.keyHash P "kids",.str "kids" 646,.ref 330⟩,⟨PyData.keyHash P "lies_in",.str "lies_in" 655,.ref 337⟩,⟨PyData.keyHash P "hall_over",.str "hall_over" 665,.ref 344⟩,⟨PyData.keyHash P "bears_goal",.str "bears_goal" 673,.ref 349⟩,⟨PyData.keyHash P "next_in",.str "next_in" 684,.ref 356⟩,⟨PyData.keyHash P "goings_in",.str "goings_in" 696,.ref 363⟩,⟨PyData.keyHash P "goings_out",.str "goings_out" 702,.ref 368⟩,⟨PyData.keyHash P "Letters",.str "Letters" 756,.ref 406⟩,⟨PyData.keyHash P "changed",.str "changed" 770,.ref 417⟩,⟨PyData.keyHash P "recorded",.str "recorded" 780,.ref 424⟩,⟨PyData.keyHash P "done",.str "done" 793,.ref 431⟩,⟨PyData.keyHash P "answers",.str "answers" 809,.ref 438⟩,⟨PyData.keyHash P "is_outdone",.str "is_outdone" 815,.ref 443⟩,⟨PyData.keyHash P "chosen",.str "chosen" 821,.ref 448⟩,⟨PyData.keyHash P "goals_of",.str "goals_of" 832,.ref 455⟩,⟨PyData.keyHash P "plain_ones",.str "plain_ones" 840,.ref 460⟩,⟨PyData.keyHash P "kept_of",.str "kept_of" 850,.ref 467⟩,⟨PyData.keyHash P "keeping",.str "keeping" 862,.ref 474⟩,⟨PyData.keyHash P "lamps",.str "lamps" 868,.ref 479⟩,⟨PyData.keyHash P "lamps_stands",.str "lamps_stands" 869,.ref 479⟩,⟨PyData.keyHash P "sizes_of",.str "sizes_of" 877,.ref 484⟩,⟨PyData.keyHash P "steps_in",.str "steps_in" 883,.ref 489⟩,⟨PyData.keyHash P "steps_out",.str "steps_out" 889,.ref 494⟩,⟨PyData.keyHash P "stepped",.str "stepped" 904,.ref 501⟩,⟨PyData.keyHash P "passed",.str "passed" 910,.ref 506⟩,⟨PyData.keyHash P "rooms_left",.str "rooms_left" 916,.ref 511⟩,⟨PyData.keyHash P "turn",.str "turn" 931,.ref 518⟩,⟨PyData.keyHash P "rested",.str "rested" 939,.ref 523⟩]
def m12:aw av:=[.int (203) 0,.int (0) 0,.ref 317,.int (209) 0,.int (0) 0,.ref 324,.int (215) 0,.int (0) 0,.ref 329,.int (218) 0,.int (0) 0,.ref 336,.int (220) 0,.int (0) 0,.ref 343,.int (228) 0,.int (0) 0,.ref 348,.int (231) 0,.int (0) 0,.ref 355,.int (239) 0,.int (0) 0,.ref 362,.int (247) 0,.int (0) 0,.ref 367,.int (253) 0,.int (0) 0,.ref 374,.int (273) 0,.int (0) 0,.ref 416,.int (282) 0,.int (0) 0,.ref 423,.int (289) 0,.int (0) 0,.ref 430,.int (297) 0,.int (0) 0,.ref 437,.int (305) 0,.int (0) 0,.ref 442,.int (310) 0,.int (0) 0,.ref 447,.int (314) 0,.int (0) 0,.ref 454,.int (323) 0,.int (0) 0,.ref 459,.int (325) 0,.int (0) 0,.ref 466,.int (330) 0,.int (0) 0,.ref 473,.int (336) 0,.int (0) 0,.ref 478,.int (340) 0,.int (0) 0,.ref 483,.int (342) 0,.int (0) 0,.ref 488,.int (344) 0,.int (0) 0,.ref 493,.int (346) 0,.int (0) 0,.ref 500,.int (355) 0,.int (0) 0,.ref 505,.int (372) 0,.int (0) 0,.ref 510,.int (374) 0,.int (0) 0,.ref 517,.int (386) 0,.int (0) 0,.ref 522]
noncomputable def YS(w:aI):ae:=(PySem.W.fencedOpening treeTable PW w 10960).getD {}
def f0(w:aI):PySem.W.fencedOpening treeTable PW w 10960=some (YS w):=by kernel_rfl
def g0(w:aI):((YS w).heap.isNs mainGlobals&&(YS w).gens.size==0)=true:=by kernel_rfl
abbrev gk(w:aI)(k:Nat)(s:ae)(t:Thread):=Stg.Ra treeTable PW w (YS w).heap.objs.size ((YS w).heap.nsMap mainGlobals "__annotations__") k s t
noncomputable abbrev go(w:aI)(k:Nat):=gk w k (YS w) (PySem.W.topStub PW)
noncomputable def early(w:aI):ae×Thread:=(go w 12).getD ({},PySem.W.topStub PW)
def qIF(w:aI):Env:=match (early w).2.code with
 | .body _ e=>e
 | _=>default
noncomputable def t1(w:aI)(j:Nat)(pos:Pos):Thread:={ (early w).2 with cur:=(do return .done (← (execs ((PySem.W.behindTheImports PW).drop j) (qIF w)).onRaise (leaving (qIF w)))),pos:=pos }
noncomputable def lo(w:aI)(g c:Obj)(i:Nat):Obj:=if i=3 then g else if i=12 then c else ((early w).1.heap.get? i).getD c
abbrev upto(m n:Nat)(a:ar):Bool:=Nat.ble m a&&Nat.blt a n
abbrev up:=upto 15 312
abbrev up2:=upto 312 524
abbrev up3:=upto 15 524
abbrev sees(r:ae×Thread):=(r.2,r.1.heap.objs.size,(List.range 15).map r.1.heap.get?,r.1.toks,r.1.gens,r.1.drawn,r.1.os,r.1.heap.life)
abbrev lo1(w:aI):=lo w (MG w.params (.str "nesthall.errors" 451) [] 57) (C12 [])
abbrev lo2(w:aI):=lo w (MG w.params (.str "nesthall.runs" 932) (m3 w.params) 87) (C12 m12)
abbrev T1(w:aI):=t1 w 52 ⟨200,0,201,8⟩
abbrev T2(w:aI):=t1 w 90 ⟨386,0,396,23⟩
abbrev inK(w:aI)(q:ar->Bool):=((KO w.params).filter fun p=>q p.1).map fun p=>some p.2
def stA(w:aI):(go w 2773).map (fun r=>(sees r,(KA.filter up).map r.1.heap.get?))=some ((T1 w,312,(List.range 15).map (fun i=>some (lo1 w i)),619,#[],(early w).1.drawn,(early w).1.os,(early w).1.heap.life),inK w up):=by kernel_rfl
def gt(x:aE Obj):aE Obj:=match x with
 | some ⟨_,_,.freed,_⟩=>none
 | r=>r
abbrev ofO(o:Nat->Obj)(q:ar->Bool):aw (aE Obj):=(KA.filter q).foldr (fun a l=>gt (some (o a))::l) []
abbrev S1(w:aI)(o:Nat->Obj):ae:=Stg.mkS (early w).1 312 15 619 (lo1 w) o
abbrev S2(w:aI)(o:Nat->Obj):ae:=Stg.mkS (early w).1 524 15 940 (lo2 w) o
def stB(w:aI)(o:Nat->Obj):(gk w 1241 (S1 w o) (T1 w)).map (fun r=>(sees r,(KA.filter up).map r.1.heap.get?,(KA.filter up2).map r.1.heap.get?))=some ((T2 w,524,(List.range 15).map (fun i=>some (lo2 w i)),940,#[],(early w).1.drawn,(early w).1.os,(early w).1.heap.life),ofO o up,inK w up2):=by kernel_rfl
def qLU(w:aI)(o:Nat->Obj):(KA.filter up).map (S1 w o).heap.get? = ofO o up:=by kernel_rfl
def qLT(w:aI)(o:Nat->Obj):(KA.filter up3).map (S2 w o).heap.get? = ofO o up3:=by kernel_rfl
abbrev qBM(w:aI)(o:Nat->Obj):aE ae:=(PySem.W.topRun treeTable PW w (YS w).heap.objs.size ((YS w).heap.nsMap mainGlobals "__annotations__") 6946 (S2 w o) (T2 w)).bind (Stg.chk PW (YS w))
def stC(w:aI)(o:Nat->Obj):(qBM w o).map (fun s=>(PySem.W.openSeen QV LS (importedModules PW.main.body) (fun s=>PySem.W.xlAt QV [] s&&PySem.W.recOk [] s) true s,(KA.filter fun a => !up3 a).map s.heap.get?,(KA.filter up3).map s.heap.get?))=some (PySem.W.openGood QV LS,inK w fun a => !up3 a,ofO o up3):=by kernel_rfl
theorem of_two{α β γ:Type}{f:α->β}{g:α->γ}{x:aE α}{a:β}{b:γ}(h:x.map (fun s=>(f s,g s))=some (a,b)):x.map f=some a/\x.map g=some b:=by
 cases x with
 | none=>cases h
 | some y=>cases h;exact⟨rfl,rfl⟩
theorem map_two{α β γ:Type}{f:α->β}{g:α->γ}{x:aE α}{a:β}{b:γ}(H:x.map f=some a)(l:x.map g=some b):x.map (fun s=>(f s,g s))=some (a,b):=by
 cases x with
 | none=>cases H
 | some y=>cases H;cases l;rfl
def eKA(P:Params):KA=(KO P).map (·.1):=by kernel_rfl
def qDB{w:aI}{q:ar->Bool}{f:ar->aE Obj}(h:(KA.filter q).map f=inK w q)(p:ar×Obj)(m:p∈KO w.params)(e:q p.1=true):f p.1=some p.2:=by rw[eKA w.params,List.filter_map,gz]at h;exact List.map_inj_left.mp h p (lO.mpr ⟨m,e⟩)
def qIW{w:aI}{q:ar->Bool}{f g:ar->aE Obj}(h:(KA.filter q).map f=(KA.filter q).map g)(p:ar×Obj)(m:p∈KO w.params)(e:q p.1=true):f p.1=g p.1:=by rw[eKA w.params]at h;exact List.map_inj_left.mp h p.1 (lO.mpr ⟨List.mem_map_of_mem m,e⟩)
theorem left:PySem.W.LeftO PW QV LS (fun s=>PySem.W.xlAt QV [] s&&PySem.W.recOk [] s) HK.obs HK.val 10960:=fun w=>by
 obtain⟨H,z⟩:=of_two (stA w);obtain⟨o,A⟩:=Stg.stage (C12 []) H;obtain⟨d,z2⟩:=of_two (stB w o);obtain⟨O,a⟩:=Stg.stage (C12 []) d;rw[show go w 2773=_ from A]at z;rw[show gk w 1241 (S1 w o) (T1 w)=_ from a]at z2;have z:=kJ z;have z2:=Prod.mk.inj (kJ z2);show Option.map _ (PySem.W.openEnds treeTable PW w 10960)=_;rw[Stg.Za (f0 w) (g0 w) (show 10960=(2773+1241)+6946 from rfl) ((Stg.P0 A).trans a)];obtain⟨b,B⟩:=of_two (stC w O);show Option.map _ (qBM w O)=_;generalize qBM w O=x at b B;refine map_two b ?_
 cases x with
 | none=>cases b
 | some y=>
  have c:=Prod.mk.inj (kJ B);have C:=c.2.trans (qLT w O).symm;have z3:=z2.1.trans (qLU w o).symm;refine congrArg some ?_;show KA.map y.heap.get? = (KO w.params).map fun p=>some p.2;rw[eKA w.params,gz];refine List.map_inj_left.mpr fun p m=>?_;show y.heap.get? p.1=some p.2
  cases e:up3 p.1 with
  | false=>exact qDB c.1 p m (by rw[e];rfl)
  | true=>
   rw[qIW C p m e]
   cases e2:up2 p.1 with
   | true=>exact qDB z2.2 p m e2
   | false=>
    have E:up p.1=true:=by
     simp only[up,up2,up3,upto,Bool.and_eq_true,Bool.and_eq_false_iff,Nat.ble_eq,Nat.blt_eq]at e e2 ⊢
     have n:Nat.ble 312 p.1=false->p.1<312:=fun h=>Nat.lt_of_not_le fun l=>by rw[Nat.ble_eq_true_of_le l]at h;cases h
     rcases e2 with h | h
     .exact⟨e.1,n h⟩
     .rw[show Nat.blt p.1 524=true from Nat.ble_eq_true_of_le e.2]at h;cases h
    rw[qIW z3 p m E];exact qDB z p m E
def qEE:PySem.Challenge.rw_nesthall_k30_a_nest_keeps_its_stand.row.wellSaid=true:=by kernel_rfl
def said:PySem.Challenge.rw_nesthall_k30_a_nest_keeps_its_stand.wellSaid=true:=by
 unfold PySem.W.OpenLaw.wellSaid;rw[qEE]
 kernel_rfl
end wH
namespace L2
open PySem PySem.Spec PyProof.Rows
abbrev Key:=Sum Int Str
noncomputable def Ei:Key->av->Bool
 | .inl k,v=>Value.isInt k v
 | .inr x,v=>Value.isStrOf x v
def qKU(w:aI):Key->Int
 | .inl k=>hashInt k
 | .inr x=>hashStr w x
theorem bz:∀ {k:Key} {v:av},Ei k v=true->(∃ i t,k=Sum.inl i/\v=Value.int i t)∨(∃ x t,k=Sum.inr x/\v=Value.str x t)
 | .inl i,v,h=>by
  obtain⟨t,e⟩:=Value.isInt_shape (k:=i) (v:=v) h;exact .inl ⟨i,t,rfl,e⟩
 | .inr x,v,h=>by
  obtain⟨t,e⟩:=Value.isStrOf_shape (x:=x) (v:=v) h;exact .inr ⟨x,t,rfl,e⟩
def RN(i:Int)(t:Tok):Ei (.inl i) (.int i t)=true:=by simp [Ei,Value.isInt]
def RM(x:Str)(t:Tok):Ei (.inr x) (.str x t)=true:=by simp [Ei,Value.isStrOf]
def qCP(a b:Int):decide ((Sum.inl a:Key)=Sum.inl b)=(a==b):=by
 by_cases e:a=b
 .subst e;simp
 .have h:¬ (Sum.inl a:Key)=Sum.inl b:=fun q=>e (Sum.inl.inj q);rw[bp h];exact (dQ.mpr e).symm
def qCM(a b:Str):decide ((Sum.inr a:Key)=Sum.inr b)=decide (a=b):=by
 by_cases e:a=b
 .subst e;simp
 .have h:¬ (Sum.inr a:Key)=Sum.inr b:=fun q=>e (Sum.inr.inj q);rw[bp h,bp e]
def qCO(a:Int)(b:Str):decide ((Sum.inl a:Key)=Sum.inr b)=false:=bp (fun q=>nomatch q)
def qCN(a:Str)(b:Int):decide ((Sum.inr a:Key)=Sum.inl b)=false:=bp (fun q=>nomatch q)
def bu(prog:ag)(w:aI):PySem.KeyKind prog w Key where
 is:=Ei
 hash:=qKU w
 inj:=fun v a b d c=>by
  rcases bz d with ⟨i,t,rfl,rfl⟩ | ⟨x,t,rfl,rfl⟩
  .rcases bz c with ⟨j,u,rfl,e⟩ | ⟨y,u,rfl,e⟩
   .injection e with E _;rw[E]
   .exact nomatch e
  .rcases bz c with ⟨j,u,rfl,e⟩ | ⟨y,u,rfl,e⟩
   .exact nomatch e
   .injection e with E _;rw[E]
 byValue:=fun k v h=>by
  rcases bz h with ⟨i,t,rfl,rfl⟩ | ⟨x,t,rfl,rfl⟩ <;> rfl
 pyHash:=fun H h=>by
  rcases bz H with ⟨i,t,rfl,rfl⟩ | ⟨x,t,rfl,rfl⟩
  .exact wpAny_pyHash_int h
  .exact wpAny_pyHash_str h
 eqBool:=fun f H h=>by
  rcases bz f with ⟨i,t,rfl,rfl⟩ | ⟨x,t,rfl,rfl⟩
  .rcases bz H with ⟨j,u,rfl,rfl⟩ | ⟨y,u,rfl,rfl⟩
   .rw[qCP]at h;exact wpAny_eqBool_int h
   .rw[qCO]at h;exact SeqAt.EqAt.int_str i t y u _ _ _ _ h
  .rcases bz H with ⟨j,u,rfl,rfl⟩ | ⟨y,u,rfl,rfl⟩
   .rw[qCN]at h;exact SeqAt.EqAt.str_int x t j u _ _ _ _ h
   .rw[qCM]at h;exact wpAny_eqBool_str h
 «strs»:=fun k x t v h=>by
  rcases bz h with ⟨i,u,rfl,e⟩ | ⟨y,u,rfl,e⟩
  .exact nomatch e
  .injection e with E _;subst E
   cases v <;> rfl
def JZ(prog:ag)(w:aI)(i:Int)(t:Tok):(bu prog w).is (.inl i) (.int i t)=true:=RN i t
def JX(prog:ag)(w:aI)(x:Str)(t:Tok):(bu prog w).is (.inr x) (.str x t)=true:=RM x t
inductive V where
 | non | bl (b:Bool) | int (i:Int) | str (x:Str) | Sv (b:Array UInt8) | flt (b:UInt64) | ref (a:Addr) | ty (n:String)
 deriving DecidableEq
def RelV:V->av->Prop
 | .non,u=>u=Value.none
 | .bl b,u=>u=Value.bool b
 | .int i,u => ∃ t,u=Value.int i t
 | .str x,u => ∃ t,u=Value.str x t
 | .Sv b,u => ∃ t,u=Value.bytes b t
 | .flt b,u => ∃ t,u=Value.float b t
 | .ref a,u=>u=Value.ref a
 | .ty n,u=>u=Value.type n
abbrev Vals:aw V->aw av->Prop:=Paired RelV
def Vals.length(r:Vals xs us):xs.length=us.length:=Paired.length r
theorem Vals.get:∀ {xs:aw V} {us:aw av} {i:Nat} {x:V},Vals xs us->xs[i]? = some x->∃ u,us[i]? = some u/\RelV x u
 | _,_,_,_,.nil,e=>by simp at e
 | _,_,0,_,.cons r _,e=>by simp at e;subst e;exact⟨_,rfl,r⟩
 | _,_,i+1,x,.cons _ t,e=>by
  obtain⟨u,H,l⟩:=Vals.get (i:=i) (x:=x) t (by simpa using e);exact⟨u,by simpa using H,l⟩
theorem Vals.set(r:RelV x u):∀ {xs:aw V} {us:aw av} (i:Nat),Vals xs us->Vals (xs.set i x) (us.set i u)
 | _,_,_,.nil=>.nil
 | _,_,0,.cons _ t=>.cons r t
 | _,_,i+1,.cons q t=>.cons q (Vals.set r i t)
theorem Vals.append:∀ {xs ys:aw V} {us w:aw av},Vals xs us->Vals ys w->Vals (xs++ys) (us++w)
 | _,_,_,_,.nil,s=>s
 | _,_,_,_,.cons r t,s=>.cons r (Vals.append t s)
theorem Vals.take:∀ {xs:aw V} {us:aw av} (n:Nat),Vals xs us->Vals (xs.take n) (us.take n)
 | _,_,0,_=>.nil
 | _,_,_+1,.nil=>.nil
 | _,_,n+1,.cons r t=>.cons r (Vals.take n t)
theorem Vals.drop:∀ {xs:aw V} {us:aw av} (n:Nat),Vals xs us->Vals (xs.drop n) (us.drop n)
 | _,_,0,r=>r
 | _,_,_+1,.nil=>.nil
 | _,_,n+1,.cons _ t=>Vals.drop n t
def oH:aE V->aE av->Prop
 | some v,some u=>RelV v u
 | none,none=>True
 | _,_=>False
def KV{κ:Type}:aw (κ×V)->aw (κ×av)->Prop:=Paired fun (p:κ×V) (q:κ×av)=>p.1=q.1/\RelV p.2 q.2
def kV:Key->V
 | .inl i=>.int i
 | .inr x=>.str x
inductive HO where
 | lst (xs:List V)
 | tup (xs:List V)
 | dK (kvs:List (Key×V)) | dT (kvs:List (List Key×V))
 | set (S:Int->Bool) (n:Nat)
 | ins (C dx:Addr) (fs:List (Str×V))
 | own (x:Addr)
 | xd (fs:List (Str×V))
 | met (f x:Addr)
 | rng (lo hi:Int)
 | Mh (o:Obj) (u:HO)
 | tbl (ps:Array Value)
 | ext (φ:Heap->Prop)
abbrev Hp:=ar->aE HO
noncomputable def upd(H:Hp)(a:ar)(o:HO):Hp:=fun b=>if b=a then some o else H b
def zC:upd H a o a=some o:=by unfold upd;rw[cS rfl]
def zR(h:b≠a):upd H a o b=H b:=by unfold upd;rw[cK h]
def gU{H:Hp}{a b:ar}{o u:HO}(h:H a=some o)(h':H b=some u)(d:o≠u):a≠b:=by intro e;subst e;rw[h]at h';exact d (kJ h')
def zN{H:Hp}{a b:ar}{o:HO}(h:H a=some o)(h':H b=none):a≠b:=by intro e;subst e;rw[h]at h';cases h'
section
variable(P:ag)(w:aI)
def bM(H:Hp)(h:Heap)(a:ar):HO->Prop
 | .lst xs=>xs.length<=sizeLine/\∃(its:aw av)(n:Nat),Vals xs its/\h.get? a=some { cls:=.type "list",data:=.seq its.toArray n }
 | .tup xs=>xs.length<=sizeLine/\∃ its:aw av,Vals xs its/\IsTup h a its.toArray
 | .dK k=>k.length<=sizeLine/\(a==sysModules)=false/\∃ vs,KV k vs/\h.DictOf (bu P w) a vs
 | .dT k=>k.length<=sizeLine/\(a==sysModules)=false/\∃ xs:aw (aw Key×ar×av),
   Paired (fun (p:aw Key×V) (q:aw Key×ar×av)=>p.1=q.1/\H q.2.1=some (.tup (p.1.map kV))/\RelV p.2 q.2.2) k xs ∧
   ∃ o e ep,h.get? a=some o/\o.ExactDict/\o.data = .dict e ep/\e.toList=xs.map (entryOfKey (tupleKind (bu P w)))/\(xs.map (·.1)).Nodup
 | .set S n=>h.SetOf (intKind P w) a S n
 | .ins C d fs=>H d=some (.own a)/\fs.length<=1000/\d≠a/\h.get? a=some (PySem.W.instObj C d) ∧
   ∃ m,h.Ns1 d m/\(∀ f,oH (fs.lookup f) (m f))/\PySem.Within m (fs.map (·.1))
 | .own _ => ∃ o,h.get? a=some o
 | .xd fs => ∃ m,h.Ns1 a m/\∀ f,oH (fs.lookup f) (m f)
 | .rng lo i => ∃ t u v,h.get? a=some { cls:=.type "range",data:=.fields #[.int lo t,.int i u,.int 1 v] }
 | .Mh o u=>h.get? a=some o/\bM H h a u
 | .tbl ps=>h.get? a=some { cls:=.none,data:=.fields ps }
 | .met f x=>h.get? a=some (PySem.W.methodObj (.ref f) (.ref x))
 | .ext φ=>φ h/\(∃ o,h.get? a=some o)/\∀ b l:Heap,φ b->(∀ o,b.get? a=some o->l.get? a=some o)->φ l
def lM(H:Hp)(h:Heap):Prop:=∀ a o,H a=some o->bM P w H h a o
end
section
variable{P:ag}{w:aI}{H H':Hp}{h h':Heap}{a:ar}{o:HO}
theorem bM.lt(x:bM P w H h a o):a<h.objs.size:=by
 cases o with
 | lst xs=>obtain⟨_,_,_,_,e⟩:=x;exact gQ e
 | tup xs=>obtain⟨_,_,_,p⟩:=x;exact p.lt
 | dK k=>obtain⟨_,_,_,_,o,_,_,e,_⟩:=x;exact gQ e
 | dT k=>obtain⟨_,_,_,_,o,_,_,e,_⟩:=x;exact gQ e
 | set S n=>obtain⟨o,_,_,_,e,_⟩:=x;exact gQ e
 | ins C d fs=>obtain⟨_,_,_,e,_⟩:=x;exact gQ e
 | own y=>obtain⟨_,e⟩:=x;exact gQ e
 | xd fs=>obtain⟨_,⟨_,_,_,e,_⟩,_⟩:=x;exact gQ e
 | rng lo i=>obtain⟨_,_,_,e⟩:=x;exact gQ e
 | Mh O u=>obtain⟨e,_⟩:=x;exact gQ e
 | tbl ps=>exact gQ (show h.get? a=some _ from x)
 | met f y=>exact gQ (show h.get? a=some _ from x)
 | ext φ=>obtain⟨_,⟨_,e⟩,_⟩:=x;exact gQ e
theorem Paired.qCJ:∀ {l:aw α} {L:aw β},Paired F l L->(∀ a b,F a b->G a b)->Paired G l L
 | _,_,.nil,_=>.nil
 | _,_,.cons r t,f=>.cons (f _ _ r) (Paired.qCJ t f)
theorem bM.stay(x:bM P w H h a o)(k:∀ b u,(b=a∨H b=some (.own a))->h.get? b=some u->h'.get? b=some u)
  (j:∀ b,H b=some (.own a)->H' b=some (.own a)) (ht:∀ b xs,H b=some (.tup xs)->H' b=some (.tup xs)):bM P w H' h' a o:=by
 induction o with
 | lst xs=>obtain⟨z,its,n,r,e⟩:=x;exact⟨z,its,n,r,k _ _ (.inl rfl) e⟩
 | tup xs=>obtain⟨z,its,r,O,e,c⟩:=x;exact⟨z,its,r,O,k _ _ (.inl rfl) e,c⟩
 | dK s=>obtain⟨z,y,vs,r,O,E,ep,e,c⟩:=x;exact⟨z,y,vs,r,O,E,ep,k _ _ (.inl rfl) e,c⟩
 | dT s=>
  obtain⟨z,y,xs,r,O,E,ep,e,c⟩:=x;exact⟨z,y,xs,Paired.qCJ r fun p q z=>⟨z.1,ht _ _ z.2.1,z.2.2⟩,O,E,ep,k _ _ (.inl rfl) e,c⟩
 | set S n=>obtain⟨O,E,ep,t,e,c⟩:=x;exact⟨O,E,ep,t,k _ _ (.inl rfl) e,c⟩
 | ins C D fs=>
  obtain⟨d,z,ne,e,m,⟨od,E,ep,g,c⟩,r⟩:=x;exact⟨j _ d,z,ne,k _ _ (.inl rfl) e,m,⟨od,E,ep,k _ _ (.inr d) g,c⟩,r⟩
 | own y=>obtain⟨O,e⟩:=x;exact⟨O,k _ _ (.inl rfl) e⟩
 | xd fs=>obtain⟨m,⟨od,E,ep,e,c⟩,r⟩:=x;exact⟨m,⟨od,E,ep,k _ _ (.inl rfl) e,c⟩,r⟩
 | rng lo l=>obtain⟨t,u,v,e⟩:=x;exact⟨t,u,v,k _ _ (.inl rfl) e⟩
 | Mh O u i=>obtain⟨e,q⟩:=x;exact⟨k _ _ (.inl rfl) e,i q⟩
 | tbl ps=>
  have e:h.get? a=some { cls:=.none,data:=.fields ps }:=x;show h'.get? a=some { cls:=.none,data:=.fields ps };exact k a _ (.inl rfl) e
 | met f y=>
  have e:h.get? a=some (PySem.W.methodObj (.ref f) (.ref y)):=x;show h'.get? a=some (PySem.W.methodObj (.ref f) (.ref y));exact k a _ (.inl rfl) e
 | ext φ=>obtain⟨p,⟨o,e⟩,st⟩:=x;exact⟨st _ _ p fun o q=>k _ _ (.inl rfl) q,⟨o,k _ _ (.inl rfl) e⟩,st⟩
def lM.lt(x:lM P w H h)(e:H a=some o):a<h.objs.size:=(x a o e).lt
theorem lM.fresh(x:lM P w H h)(e:h.objs.size<=a):H a=none:=by
 cases q:H a with
 | none=>rfl
 | some u=>exact eu (KR (x.lt q) e) (iq _)
def lM.kept(x:lM P w H h)(k:∀ b u,h.get? b=some u->h'.get? b=some u):lM P w H h':=fun a o e=>
 (x a o e).stay (fun b u _ q=>k b u q) (fun _ q=>q) fun _ _ q=>q
def lM.laid(x:lM P w H h)(k:∀ b u,h.get? b=some u->h'.get? b=some u)(p:h.objs.size<=a)(new:bM P w (upd H a o) h' a o):lM P w (upd H a o) h':=fun b u e=>by
 have f:=x.fresh p
 by_cases d:b=a
 .subst d;rw[zC]at e;cases e;exact new
 .rw[zR d]at e
  exact (x b u e).stay (fun c v _ q=>k c v q) (fun c q=>by rw[zR (zN q f)];exact q) fun c _ q=>by rw[zR (zN q f)];exact q
end
def Rd(H:Hp)(a:ar)(u:HO):Prop:=H a=some u ∨ ∃ o,H a=some (.Mh o u)
def Rd.ok(r:Rd H a u)(x:lM P w H h):bM P w H h a u:=by
 rcases r with r | ⟨o,r⟩
 .exact x a u r
 .obtain⟨_,q⟩:=x a _ r;exact q
def Mut:aE HO->Prop
 | some (.lst _)=>True
 | some (.dK _)=>True
 | some (.dT _)=>True
 | some (.set _ _)=>True
 | some (.ins _ _ _)=>True
 | some (.ext _)=>True
 | _=>False
section
variable{P:ag}{w:aI}{H:Hp}{h h':Heap}{x e:ar}{o':HO}
def lM.write(ok:lM P w H h)(m:Mut (H x))(i:e=x∨H e=some (.own x))(k:∀ b u,b≠e->h.get? b=some u->h'.get? b=some u)(o:∃ u,h'.get? e=some u)
  (new:bM P w (upd H x o') h' x o'):lM P w (upd H x o') h':=fun b u q=>by
 have Q:∀ c y,H c=some (.own y)->c≠x:=fun c y r z=>by subst z;rw[r]at m;exact m
 have E:∀ c xs,H c=some (.tup xs)->c≠x:=fun c xs r z=>by subst z;rw[r]at m;exact m
 by_cases d:b=x
 .subst d;rw[zC]at q;cases q;exact new
 .rw[zR d]at q
  by_cases a:b=e
  .have g:H b=some (.own x):=by
    rcases i with z | z
    .exact eu (a.trans z) d
    .rw[a];exact z
   rw[q]at g;cases g;obtain⟨v,j⟩:=o;exact⟨v,by rw[a];exact j⟩
  .refine (ok b u q).stay (fun c v f r=>k c v ?_ r) (fun c r=>by rw[zR (Q c b r)];exact r) fun c xs r=>by rw[zR (E c xs r)];exact r
   rcases f with rfl | f
   .exact a
   .rintro rfl;rcases i with z | z
    .exact Q c b f z
    .rw[f]at z;cases z;exact d rfl
end
structure Un(fs ex:List Addr)(H H':Hp)(h h':Heap):Prop where
 keep:∀ b o,h.get? b=some o->H b=none->b∉fs->b∉ex->h'.get? b=some o
 slot:∀ b o,h.get? b=some o->H b=none->b∈fs->b∉ex->∃ sl,h'.get? b=some { o with slots:=sl }
 free:∀ b o,h.get? b=some o->H b=none->b∉ex->H' b=none
 there:∀ b o,h.get? b=some o->b∉ex->∃ o',h'.get? b=some o'
 tups:∀ b xs,H b=some (.tup xs)->H' b=some (.tup xs)
 uZ:∀ b o u,H b=some (.Mh o u)->H' b=some (.Mh o u)
 vH:∀ b ps,H b=some (.tbl ps)->∃ more,H' b=some (.tbl (ps++more))
section
variable{fs fs' ex ex':aw ar}{H H1 H2:Hp}{h h1 h2 h':Heap}{a x e:ar}{o:HO}
def Un.any(u:Un fs ex H H1 h h1)(q:h.get? b=some ob)(n:H b=none)(x:b∉ex):∃ s,h1.get? b=some { ob with slots:=s }:=by
 by_cases c:b∈fs
 .exact u.slot b ob q n c x
 .exact⟨ob.slots,u.keep b ob q n c x⟩
def Un.kept(k:∀ b u,h.get? b=some u->h'.get? b=some u):Un fs ex H H h h':=
 ⟨fun b O q _ _ _=>k b O q,fun b O q _ _ _=>⟨O.slots,k b O q⟩,fun _ _ _ n _=>n,fun b O q _=>⟨O,k b O q⟩,fun _ _ q=>q,fun _ _ _ q=>q,fun _ _ q=>⟨#[],by rw[q];simp⟩⟩
def Un.refl:Un fs ex H H h h:=Un.kept fun _ _ q=>q
def Un.laid(k:∀ b u,h.get? b=some u->h'.get? b=some u)(p:h.objs.size<=a)(f:H a=none):Un fs ex H (upd H a o) h h' where
 keep:=fun b u q _ _ _=>k b u q
 slot:=fun b u q _ _ _=>⟨u.slots,k b u q⟩
 free:=fun b u q n _=>by rw[zR (jQ (KR (gQ q) p))];exact n
 there:=fun b u q _=>⟨u,k b u q⟩
 tups:=fun b xs q=>by rw[zR (zN q f)];exact q
 uZ:=fun b u xs q=>by rw[zR (zN q f)];exact q
 vH:=fun b _ q=>⟨#[],by rw[zR (zN q f),q];simp⟩
def Un.write(m:Mut (H x))(i:e=x∨H e=some (.own x))(k:∀ b u,b≠e->h.get? b=some u->h'.get? b=some u)(d:∃ u,h'.get? e=some u):Un fs ex H (upd H x o) h h':=by
 have g:∀ b,H b=none->b≠x:=fun b n z=>by subst z;rw[n]at m;exact m
 have f:∀ b,H b=none->b≠e:=fun b n z=>by
  subst z;rcases i with r | r
  .exact g b n r
  .rw[n]at r;cases r
 have c:∀ b u,H b=some u->¬ Mut (some u)->b≠x:=fun b u q nm z=>by subst z;rw[q]at m;exact nm m
 refine⟨fun b u q n _ _=>k b u (f b n) q,fun b u q n _ _=>⟨u.slots,k b u (f b n) q⟩,fun b u q n _=>by rw[zR (g b n)];exact n,fun b u q _=>?_,
  fun b xs q=>by rw[zR (c b _ q fun z=>z)];exact q,fun b u xs q=>by rw[zR (c b _ q fun z=>z)];exact q,fun b _ q=>⟨#[],by rw[zR (c b _ q fun z=>z),q];simp⟩⟩
 by_cases a:b=e
 .subst a;exact d
 .exact⟨u,k b u a q⟩
end
def trk(h:Heap)(H:Hp):aw ar:=(List.range h.objs.size).filter fun a=>(H a).isSome
def Gr(h:Heap)(H:Hp):Heap:=PySem.W.hideAll h (trk h H)
def RX(h:Heap)(H:Hp):(Gr h H).objs.size=h.objs.size:=PySem.W.hideAll_size _ _
def Vz(e:h.get? b=some o)(n:H b=none):(Gr h H).get? b=some o:=
 PySem.W.hideAll_get _ e fun c=>by
  have q:(H b).isSome=true:=(lO.mp c).2;rw[n]at q;simp at q
theorem Z3(e:(Gr h H).get? b=some o):h.get? b=some o/\H b=none:=by
 have E:h.get? b=some o:=PySem.W.of_hideAll (trk h H) e;refine⟨E,?_⟩
 cases q:H b with
 | none=>rfl
 | some x=>
  have c:b∈trk h H:=List.mem_filter.mpr ⟨List.mem_range.mpr (Heap.lt_size E),by simp [q]⟩;have z:(Gr h H).get? b=none:=PySem.W.hideAll_none (trk h H) c;rw[z]at e;cases e
noncomputable def Zx(g h:Heap)(L:ar):aw (ar×Obj):=(List.range h.objs.size).filterMap fun a=>if a=L∨(g.get? a).isSome=true then none else (h.get? a).map fun o=>(a,o)
def rest(g h:Heap)(L d:ar):aw (ar×Obj):=(Zx g h L).filter fun p=>decide (p.1≠d)
structure Mod(K:bV)(mg:Str->Option Value)(base:Heap):Prop where
 kin:K.In base
 glob:base.Ns mainGlobals mg
 blt:∃ mb,base.Ns builtinsNs mb/\∀ x:Str,x ≠ "__name__" -> mb x=bootBuiltins x
 nolimit:base.NoLimit
structure Cx where
 prog:Program
 w:World
 K:bV
 mg:Str->Option Value
 base:Heap
 A:Around
 N:List Str
 s₀:Shared
 H₀:Hp
 env:Env
 outer:List Env
 stack:List Env
 ex:List Addr
 fn:Str->Bool
 calm:Bool
 pn:List (Addr×Obj)
 xe:Value->Shared->Prop
def frs(l:aw Env):aw ar:=l.filterMap (·.frame)
abbrev Cx.fs(X:Cx):aw ar:=frs X.outer
def Vis(S:Scope)(x:Str):Prop:=S.names.lookup x=some .local∨S.names.lookup x=some .cell∨S.names.lookup x=some .free
def Loc(S:Scope)(x:Str):Prop:=S.names.lookup x=some .local∨S.names.lookup x=some .cell
def Look(e:Env)(h:Heap)(m:Str->aE av)(x:Str)(u:av):Prop:=
 (e.kindOf x=some .local/\m x=some u)∨((e.kindOf x=some .cell∨e.kindOf x=some .free)/\∃ c,e.cells.lookup x=some c/\h.IsCell c (some u))
structure Cx.Ok(X:Cx):Prop where
 mod:Mod X.K X.mg X.base
 kind:X.env.scope.kind = .function
 glob:X.env.globals=mainGlobals
 blt:X.env.builtins=builtinsNs
 above:X.s₀.heap.objs.size<=X.env.locals
 inj:∀ x y c,X.env.cells.lookup x=some c->X.env.cells.lookup y=some c->x=y
 has:∀ x,(X.env.kindOf x=some .cell∨X.env.kindOf x=some .free)->∃ c,X.env.cells.lookup x=some c
 cab:∀ x c,X.fn x=true->X.env.cells.lookup x=some c->X.s₀.heap.objs.size<=c
 hd:X.calm=true->X.A.handled=none
 frames:X.A.frames=some X.stack
 stk:X.stack=X.outer∨(X.stack=X.env::X.outer/\X.env.frame=some X.env.locals)
 exf:∀ b∈X.ex,b≠X.env.locals/\∀ x c,X.env.cells.lookup x=some c->c≠b
 bs:∀ b o,X.base.get? b=some o->X.s₀.heap.get? b=some o/\X.H₀ b=none
 Xw:X.base.objs.size<=X.s₀.heap.objs.size
 R9:∀ b o,X.base.get? b=some o->b∉X.ex
 Wj:∀ b∈X.ex,b∉X.fs
 uY:X.s₀.heap.FunFrames X.base X.outer
 ZR:∀ b∈X.fs,X.H₀ b=none
structure Inv(X:Cx)(pins:List (Addr×Obj))(σ:List (Option V))(H:Hp)(s:Shared):Prop where
 ok:X.Ok
 os:s.os=X.s₀.os
 bare:AllBare s.gens
 base:Un X.fs X.ex X.H₀ H X.s₀.heap s.heap
 loc:∃ m,s.heap.Ns X.env.locals m/\∀(i:Nat)(x:Str)(v:V),X.N[i]? = some x->σ[i]? = some (some v)->Vis X.env.scope x->∃ u,RelV v u/\Look X.env s.heap m x u
 cell:∀ x c,X.env.cells.lookup x=some c->∃ v,s.heap.IsCell c v
 free:H X.env.locals=none
 jq:∀ x c,X.env.cells.lookup x=some c->H c=none
 pin:∀ p∈X.pn++pins,s.heap.get? p.1=some p.2/\H p.1=none/\p.1≠X.env.locals/\p.1∉X.fs/\∀ v,p.2.data≠.cell v
 hok:lM X.prog X.w H s.heap
 len:σ.length=X.N.length
section
variable{X:Cx}{pins:aw (ar×Obj)}{σ:aw (aE V)}{H H':Hp}{s:ae}{h':Heap}
def Cx.Ok.qKJ(ok:X.Ok)(e:X.base.get? b=some o):b∉X.fs:=fun c=>by
 have:=(ok.uY.mem c).1;rw[e]at this;cases this
def Inv.bs(I:Inv X pins σ H s):∀ b o,X.base.get? b=some o->s.heap.get? b=some o/\H b=none:=fun b o e=>
 ⟨I.base.keep b o (I.ok.bs b o e).1 (I.ok.bs b o e).2 (I.ok.qKJ e) (I.ok.R9 b o e),I.base.free b o (I.ok.bs b o e).1 (I.ok.bs b o e).2 (I.ok.R9 b o e)⟩
def Inv.bk(I:Inv X pins σ H s):∀ b o,X.base.get? b=some o->s.heap.get? b=some o:=fun b o e=>(I.bs b o e).1
def Inv.mod(I:Inv X pins σ H s):Mod X.K X.mg X.base:=I.ok.mod
def Inv.mQ(I:Inv X pins σ H s):X.K.In s.heap:=I.ok.mod.kin.keeps I.bk
def Inv.lt(I:Inv X pins σ H s):X.env.locals<s.heap.objs.size:=let ⟨_,f,_⟩:=I.loc;f.lt
def Inv.sz(I:Inv X pins σ H s):X.s₀.heap.objs.size<=s.heap.objs.size:=br I.ok.above (ij I.lt)
def Inv.qKI(I:Inv X pins σ H s)(h:s.heap.objs.size<=a):a∉X.fs:=fun c=>by
 obtain⟨_,o,q,_⟩:=I.ok.uY.mem c;exact eu (KR (gQ q) (br I.sz h)) (iq _)
def Inv.Zh(I:Inv X pins σ H s):∀ x c,X.env.cells.lookup x=some c->c≠X.env.locals:=fun x c e z=>by
 obtain⟨v,o,q,hd⟩:=I.cell x c e;obtain⟨m,⟨_,_,_,h,a,_⟩,_⟩:=I.loc;rw[z,h]at q;cases q;rw[a]at hd;cases hd
theorem Inv.uY(I:Inv X pins σ H s):s.heap.FunFrames X.base X.outer:=by
 have all:∀(l:aw Env),(∀ b∈frs l,b∈X.fs)->X.s₀.heap.FunFrames X.base l->s.heap.FunFrames X.base l:=by
  intro l
  induction l with
  | nil=>intro _ _;trivial
  | cons E r i=>
   intro a d;obtain⟨k,⟨L,o,f,n,q,hd⟩,g⟩:=d;have h:L∈X.fs:=a L (by unfold frs;rw[fw,f];exact FZ);obtain⟨_,e⟩:=I.base.slot L o q (I.ok.ZR L h) h fun z=>I.ok.Wj L z h;exact⟨k,⟨L,_,f,n,e,hd⟩,i (fun b c=>a b (by unfold frs;rw[fw,f];exact Hr _ c)) g⟩
 exact all X.outer (fun _ c=>c) I.ok.uY
def Inv.stack(I:Inv X pins σ H s):s.heap.FunFrames X.base X.stack:=by
 rcases I.ok.stk with e | ⟨e,h⟩
 .rw[e];exact I.uY
 .rw[e];obtain⟨m,f,_⟩:=I.loc;refine .cons (by rw[I.ok.kind];decide) h f ?_ I.uY;exact eS (br I.ok.Xw I.ok.above)
def Inv.Kq(I:Inv X pins σ H s):∀ b∈frs X.stack,b∈X.env.locals::X.fs:=fun b c=>by
 rcases I.ok.stk with e | ⟨e,f⟩
 .rw[e]at c;exact Hr _ c
 .rw[e]at c;unfold frs at c;rw[fw,f]at c;exact c
def Inv.xg(I:Inv X pins σ H s):∀ b∈frs X.stack,H b=none:=fun b c=>by
 rcases dD.mp (I.Kq b c) with e | c
 .rw[e];exact I.free
 .obtain⟨_,o,q,_⟩:=I.ok.uY.mem c;exact I.base.free b o q (I.ok.ZR b c) fun z=>I.ok.Wj b z c
def Inv.step{g':Array GenState}{t':Nat}{d':Drawn}{ch:aw ar}(I:Inv X pins σ H s)
  (a:∀ b∈ch,(b∈X.ex∨X.s₀.heap.objs.size<=b)/\b≠X.env.locals/\(∀ x c,X.env.cells.lookup x=some c->c≠b)/\∀ p∈X.pn++pins,p.1≠b)
  (keep:∀ b o,b≠X.env.locals->b∉X.fs->b∉ch->s.heap.get? b=some o->H b=none->h'.get? b=some o)
  (S:∀ b o,b≠X.env.locals->b∈X.fs->b∉ch->s.heap.get? b=some o->H b=none->∃ w,h'.get? b=some { o with slots:=w }) (free:∀ b o,b∉ch->s.heap.get? b=some o->H b=none->H' b=none)
  (there:∀ b o,b∉ch->s.heap.get? b=some o->∃ O,h'.get? b=some O)
  (T:∀ b xs,H b=some (.tup xs)->H' b=some (.tup xs)) (U:∀ b o u,H b=some (.Mh o u)->H' b=some (.Mh o u)) (F:∀ b ps,H b=some (.tbl ps)->∃ more,H' b=some (.tbl (ps++more)))
  (ns:∀ m,s.heap.Ns X.env.locals m->h'.Ns X.env.locals m) (hok:lM X.prog X.w H' h') (Q:AllBare g') :
  Inv X pins σ H' { s with heap:=h',gens:=g',drawn:=d',toks:=t' }:=by
 have L:∀ b o,X.s₀.heap.get? b=some o->b≠X.env.locals:=fun b o e=>jQ (KR (gQ e) I.ok.above)
 have f:∀ b o,X.s₀.heap.get? b=some o->b∉X.ex->b∉ch:=fun b o e h g=>by
  rcases (a b g).1 with z | z
  .exact h z
  .exact eu (KR (gQ e) z) (iq _)
 have C:∀ x c,X.env.cells.lookup x=some c->∀ v,s.heap.IsCell c v->h'.IsCell c v:=fun x c e v ⟨o,j,hd⟩=>by
  have N:c∉ch:=fun z=>(a c z).2.2.1 x c e rfl
  by_cases A:c∈X.fs
  .obtain⟨w,q⟩:=S c o (I.Zh x c e) A N j (I.jq x c e);exact⟨_,q,hd⟩
  .exact⟨o,keep c o (I.Zh x c e) A N j (I.jq x c e),hd⟩
 refine⟨I.ok,I.os,Q,⟨fun b o e n g h=>?_,fun b o e n g h=>?_,fun b o e n h=>?_,fun b o e h=>?_,fun b xs e=>T b xs (I.base.tups b xs e),fun b o xs e=>U b o xs (I.base.uZ b o xs e),fun b ps e=>?_⟩,?_,fun x c e=>?_,?_,fun x c e=>?_,fun p D=>?_,hok,I.len⟩
 .exact keep b o (L b o e) g (f b o e h) (I.base.keep b o e n g h) (I.base.free b o e n h)
 .obtain⟨w,E⟩:=I.base.slot b o e n g h;obtain⟨y,t⟩:=S b _ (L b o e) g (f b o e h) E (I.base.free b o e n h);exact⟨y,t⟩
 .obtain⟨O,E⟩:=I.base.there b o e h;exact free b O (f b o e h) E (I.base.free b o e n h)
 .obtain⟨O,E⟩:=I.base.there b o e h;exact there b O (f b o e h) E
 .obtain⟨R,E⟩:=I.base.vH b ps e;obtain⟨P,t⟩:=F b _ E;exact⟨R++P,by rw[t,Array.append_assoc]⟩
 .obtain⟨m,M,G⟩:=I.loc;refine⟨m,ns m M,fun i x v E t J=>?_⟩;obtain⟨u,r,l⟩:=G i x v E t J;refine⟨u,r,?_⟩;rcases l with l | ⟨k,c,e,z⟩
  .exact .inl l
  .exact .inr ⟨k,c,e,C x c e _ z⟩
 .obtain⟨v,z⟩:=I.cell x c e;exact⟨v,C x c e v z⟩
 .obtain⟨m,⟨o,_,_,j,_⟩,_⟩:=I.loc;exact free _ o (fun z=>(a _ z).2.1 rfl) j I.free
 .obtain⟨v,o,j,hd⟩:=I.cell x c e;exact free c o (fun z=>(a c z).2.2.1 x c e rfl) j (I.jq x c e)
 .obtain⟨e,n,ne,B,d⟩:=I.pin p D;have N:p.1∉ch:=fun z=>(a p.1 z).2.2.2 p D rfl;exact⟨keep p.1 p.2 ne B N e n,free p.1 p.2 N e n,ne,B,d⟩
def Inv.un{t':Nat}(I:Inv X pins σ H s)(u:Un X.fs [] H H' s.heap h')(hok:lM X.prog X.w H' h'):Inv X pins σ H' { s with heap:=h',toks:=t' }:=by
 obtain⟨m,⟨o,_,_,q,r⟩,_⟩:=id I.loc;obtain⟨_,L⟩:=u.any q I.free (by simp)
 exact I.step (g':=s.gens) (d':=s.drawn) (ch:=[]) (fun _ z=>nomatch z) (fun b o _ c _ e n=>u.keep b o e n c (by simp)) (fun b o _ c _ e n=>u.slot b o e n c (by simp)) (fun b o _ e n=>u.free b o e n (by simp)) (fun b o _ e=>u.there b o e (by simp)) u.tups u.uZ u.vH (fun _ d=>by
  obtain⟨_,a,E,h,R⟩:=d;rw[q]at h;cases h
  exact⟨_,a,E,L,R⟩) hok I.bare
def Inv.call{g':Array GenState}{t':Nat}{d':Drawn}{ch:aw ar}(I:Inv X pins σ H s)(u:Un (frs X.stack) ch H H' s.heap h')(hok:lM X.prog X.w H' h')(j:AllBare g')
  (a:∀ b∈ch,(b∈X.ex∨X.s₀.heap.objs.size<=b)/\b≠X.env.locals/\(∀ x c,X.env.cells.lookup x=some c->c≠b)/\∀ p∈X.pn++pins,p.1≠b) :
  Inv X pins σ H' { s with heap:=h',gens:=g',drawn:=d',toks:=t' }:=by
 obtain⟨m,⟨o,_,_,q,r⟩,_⟩:=id I.loc;obtain⟨_,L⟩:=u.any q I.free fun z=>(a _ z).2.1 rfl
 exact I.step (ch:=ch) a (fun b o L g f e n=>u.keep b o e n (fun z=>(dD.mp (I.Kq b z)).elim L g) f) (fun b o _ _ f e n=>u.any e n f) (fun b o f e n=>u.free b o e n f) (fun b o f e=>u.there b o e f) u.tups u.uZ u.vH (fun _ i=>by
  obtain⟨_,d,E,h,R⟩:=i;rw[q]at h;cases h
  exact⟨_,d,E,L,R⟩) hok j
def Inv.turned{t':Nat}{i:ar}(I:Inv X pins σ H s)(k:∀ b o,b≠i->s.heap.get? b=some o->h'.get? b=some o)(g:H i=none)(h:i≠X.env.locals)
  (a:i∈X.ex∨X.s₀.heap.objs.size<=i) (l:∀ x c,X.env.cells.lookup x=some c->c≠i) (t:∀ p∈X.pn++pins,p.1≠i):Inv X pins σ H { s with heap:=h',toks:=t' }:=by
 have N:∀ b u,H b=some u->b≠i:=fun b u e z=>by rw[z,g]at e;cases e
 refine I.step (g':=s.gens) (d':=s.drawn) (ch:=[i]) (fun b d=>?_) (fun b o _ _ f e _=>k b o (fun z=>f (by simp [z])) e) (fun b o _ _ f e _=>⟨o.slots,k b o (fun z=>f (by simp [z])) e⟩) (fun _ _ _ _ n=>n)
  (fun b o f e=>⟨o,k b o (fun z=>f (by simp [z])) e⟩) (fun _ _ e=>e) (fun _ _ _ e=>e) (fun b _ e=>⟨#[],by rw[e];simp⟩) (fun m j=>?_) (fun b u e=>?_) I.bare
 .have e:b=i:=by simpa using d
  subst e;exact⟨a,h,l,t⟩
 .obtain⟨o,E,ep,w,r⟩:=j;exact⟨o,E,ep,k _ o (bE h) w,r⟩
 .refine (I.hok b u e).stay (fun c v f q=>k c v ?_ q) (fun _ q=>q) fun _ _ q=>q;rcases f with z | z
  .rw[z];exact N b u e
  .exact N c _ z
def Inv.tok(I:Inv X pins σ H s)(t:Nat):Inv X pins σ H { s with toks:=t }:=I.un (h':=s.heap) (t':=t) Un.refl I.hok
def Inv.kept(I:Inv X pins σ H s)(k:∀ b u,s.heap.get? b=some u->h'.get? b=some u):Inv X pins σ H { s with heap:=h',toks:=t' }:=I.un (Un.kept k) (I.hok.kept k)
def Inv.laid(I:Inv X pins σ H s)(k:∀ b u,s.heap.get? b=some u->h'.get? b=some u)(p:s.heap.objs.size<=a)(new:bM X.prog X.w (upd H a o) h' a o) :
  Inv X pins σ (upd H a o) { s with heap:=h',toks:=t' }:=I.un (Un.laid k p (I.hok.fresh p)) (I.hok.laid k p new)
def Inv.write(I:Inv X pins σ H s)(m:Mut (H x))(i:e=x∨H e=some (.own x))(k:∀ b u,b≠e->s.heap.get? b=some u->h'.get? b=some u)(h:∃ u,h'.get? e=some u)
  (new:bM X.prog X.w (upd H x o) h' x o):Inv X pins σ (upd H x o) { s with heap:=h',toks:=t' }:=I.un (Un.write m i k h) (I.hok.write m i k h new)
def Inv.uJ(I:Inv X pins σ H s)(h:∀ p∈qEU,s.heap.get? p.1=some p.2/\H p.1=none/\p.1≠X.env.locals/\p.1∉X.fs/\∀ v,p.2.data≠.cell v):Inv X qEU σ H s:=
 ⟨I.ok,I.os,I.bare,I.base,I.loc,I.cell,I.free,I.jq,fun p a=>(jz.mp a).elim (fun z=>I.pin p (gL _ z)) (h p),I.hok,I.len⟩
def BV{N:aw Str}(h:N.Nodup){i j:Nat}{x:Str}(a:N[i]? = some x)(b:N[j]? = some x):i=j:=by obtain⟨_,e⟩:=oW.mp a;obtain⟨_,E⟩:=oW.mp b;exact (List.getElem_inj h).mp (e.trans E.symm)
def Dh{M:Model}{A:ai}{E:av->ae->Prop}{i:Nat}{x:Str}{v:V}{u:av}{Q:Unit->ae->Prop}(I:Inv X pins σ H s)(hN:X.N.Nodup)(S:X.N[i]? = some x)(w:Loc X.env.scope x)(r:RelV v u)
  (h:∀ s',Inv X pins (σ.set i (some v)) H s'->(∃ a,Heap.SameBut a s.heap s'.heap/\(a=X.env.locals∨X.env.cells.lookup x=some a))->Q () s') (hf:X.fn x=true∨X.env.scope.names.lookup x=some .local:=by first | exact .inl rfl | exact .inr rfl | assumption):wpAny M A (storeName X.env x u) Q E s:=by
 obtain⟨m,hn,hl⟩:=id I.loc
 have P:(X.env.scope.kind==.class||(X.env.scope.kind==.module&&X.env.locals != X.env.globals))=false:=by rw[I.ok.kind];rfl
 have D:i<σ.length:=by rw[I.len];exact (oW.mp S).1
 have Zh:=I.Zh
 have t:∀ {a:ar} {h':Heap},(∃ o,s.heap.get? a=some o/\H a=none)->Heap.SameBut a s.heap h'->lM X.prog X.w H h':=fun {a h'} ha f b ob e=>by
  obtain⟨_,_,B⟩:=ha;refine (I.hok b ob e).stay (fun c W l q=>(f.2 c ?_).trans q) (fun _ q=>q) fun _ _ q=>q;rintro rfl;rcases l with rfl | l
  .rw[B]at e;cases e
  .rw[B]at l;cases l
 rcases w with F | F
 .refine wpAny_storeName_local F hn (fun h' hn' f=>?_) P;obtain⟨oL,_,_,Y,_⟩:=id hn;refine h _ ⟨I.ok,I.os,I.bare,⟨fun b o e n L w=>?_,fun b o e n L w=>?_,I.base.free,fun b o e w=>?_,I.base.tups,I.base.uZ,I.base.vH⟩,⟨_,hn',fun j y v' g C Z=>?_⟩,fun y c e=>?_,I.free,I.jq,fun p hp=>?_,t ⟨oL,Y,I.free⟩ f,by simpa using I.len⟩ ⟨_,f,.inl rfl⟩
  .exact (f.2 b (jQ (KR (gQ e) I.ok.above))).trans (I.base.keep b o e n L w)
  .obtain⟨sl,g⟩:=I.base.slot b o e n L w;exact⟨sl,(f.2 b (jQ (KR (gQ e) I.ok.above))).trans g⟩
  .obtain⟨o',g⟩:=I.base.there b o e w;exact⟨o',(f.2 b (jQ (KR (gQ e) I.ok.above))).trans g⟩
  .by_cases G:j=i
   .subst G;rw[S]at g;cases g;rw[dy D]at C
    cases C
    exact⟨u,r,.inl ⟨F,by simp⟩⟩
   .rw[df (bE G)]at C;obtain⟨u',r',q⟩:=hl j y v' g C Z;refine⟨u',r',?_⟩;rcases q with ⟨k,e⟩ | ⟨k,c,e,z⟩
    .refine .inl ⟨k,?_⟩;have:y≠x:=fun e=>G (BV hN g (e▸S));simp [this,e]
    .exact .inr ⟨k,c,e,z.sameBut f (Zh y c e)⟩
  .obtain⟨W,z⟩:=I.cell y c e;exact⟨W,z.sameBut f (Zh y c e)⟩
  .obtain⟨e,n,ne,nf,d⟩:=I.pin p hp;exact⟨(f.2 p.1 ne).trans e,n,ne,nf,d⟩
 .have J:X.fn x=true:=by
   rcases hf with z | z
   .exact z
   .rw[z]at F;cases F
  obtain⟨c,l⟩:=I.ok.has x (.inl F);obtain⟨W,z⟩:=I.cell x c l;refine wpAny_storeName_cell I.ok.kind F l z (fun h' R f=>?_);obtain⟨oc,N,U⟩:=id z;refine h { s with heap:=h' } ⟨I.ok,I.os,I.bare,⟨fun b o e n L w=>?_,fun b o e n L w=>?_,I.base.free,fun b o e w=>?_,I.base.tups,I.base.uZ,I.base.vH⟩,⟨m,hn.sameBut f (Ne.symm (Zh x c l)),fun j y v' g C Z=>?_⟩,fun y T e=>?_,I.free,I.jq,fun p hp=>?_,t ⟨oc,N,I.jq x c l⟩ f,by simpa using I.len⟩ ⟨c,f,.inr l⟩
  .exact (f.2 b (jQ (KR (gQ e) (I.ok.cab x c J l)))).trans (I.base.keep b o e n L w)
  .obtain⟨sl,g⟩:=I.base.slot b o e n L w;exact⟨sl,(f.2 b (jQ (KR (gQ e) (I.ok.cab x c J l)))).trans g⟩
  .obtain⟨o',g⟩:=I.base.there b o e w;exact⟨o',(f.2 b (jQ (KR (gQ e) (I.ok.cab x c J l)))).trans g⟩
  .by_cases G:j=i
   .subst G;rw[S]at g;cases g;rw[dy D]at C
    cases C
    exact⟨u,r,.inr ⟨.inl F,c,l,R⟩⟩
   .rw[df (bE G)]at C;obtain⟨u',r',q⟩:=hl j y v' g C Z;refine⟨u',r',?_⟩;rcases q with q | ⟨k,T,e,z'⟩
    .exact .inl q
    .refine .inr ⟨k,T,e,z'.sameBut f ?_⟩;rintro rfl;exact G (BV hN g (I.ok.inj _ _ _ e l▸S))
  .by_cases O:T=c
   .subst O;exact⟨_,R⟩
   .obtain⟨w2,z2⟩:=I.cell y T e;exact⟨w2,z2.sameBut f O⟩
  .obtain⟨e,n,ne,nf,d⟩:=I.pin p hp;refine⟨(f.2 p.1 ?_).trans e,n,ne,nf,d⟩;intro q;rw[q,N]at e;have q':oc=p.2:=kJ e;exact d W (by rw[<-q'];exact U)
def oZ(I:Inv X pins σ H s)(N:X.N.Nodup)(b:X.N[i]? = some x)(c:Loc X.env.scope x)(r:RelV v u)
  (h:∀ s',Inv X pins (σ.set i (some v)) H s'->Q () s') (f:X.fn x=true∨X.env.scope.names.lookup x=some .local:=by first | exact .inl rfl | exact .inr rfl | assumption):wpAny M A (storeName X.env x u) Q E s:=
 Dh I N b c r (fun s' a _=>h s' a) f
def Inv.call'(I:Inv X pins σ H s)(q:s'.os=s.os)(u:Un (frs X.stack) ch H H' s.heap s'.heap)(hok:lM X.prog X.w H' s'.heap)(j:AllBare s'.gens)
  (a:∀ b∈ch,(b∈X.ex∨X.s₀.heap.objs.size<=b)/\b≠X.env.locals/\(∀ x c,X.env.cells.lookup x=some c->c≠b)/\∀ p∈X.pn++pins,p.1≠b):Inv X pins σ H' s':=by obtain⟨_,g',d',t',O⟩:=s';have e:O=s.os:=q;subst e;exact I.call (g':=g') (t':=t') (d':=d') u hok j a
end
abbrev XK:=av->aE ar->Hp->Prop
abbrev St:=aw (aE V)
abbrev VK:=V->Hp->Prop
abbrev TE:=St->Hp->VK->Prop
abbrev TT:=St->Hp->(Bool->Hp->Prop)->Prop
abbrev TA:=St->Hp->(aw V->Hp->Prop)->Prop
structure Ends where
 nx:St->Hp->Prop
 rt:VK
 bk:St->Hp->Prop:=fun _ _=>False
 ct:St->Hp->Prop:=fun _ _=>False
abbrev TS:=Ends->St->Hp->Prop
def EP(X:Cx)(p:aw (ar×Obj))(σ:St)(Q:VK)(u:av)(s':ae):Prop:=∃ v H,Inv X p σ H s'/\RelV v u/\Q v H
def TP(X:Cx)(p:aw (ar×Obj))(σ:St)(Q:Bool->Hp->Prop)(b:Bool)(s':ae):Prop:=∃ H,Inv X p σ H s'/\Q b H
def AP(X:Cx)(p:aw (ar×Obj))(σ:St)(Q:aw V->Hp->Prop)(us:aw av)(s':ae):Prop:=∃ vs H,Inv X p σ H s'/\Vals vs us/\Q vs H
def SP(X:Cx)(p:aw (ar×Obj))(D:Ends)(f:Flow)(s':ae):Prop:=
 match f with
 | .next => ∃ σ' H,Inv X p σ' H s'/\D.nx σ' H
 | .brk => ∃ σ' H,Inv X p σ' H s'/\D.bk σ' H
 | .cont => ∃ σ' H,Inv X p σ' H s'/\D.ct σ' H
 | .ret u => ∃ v σ' H,Inv X p σ' H s'/\RelV v u/\D.rt v H
def PE(X:Cx)(e:Expr)(t:TE):Prop:=
 ∀(p:aw (ar×Obj))(s:ae)(σ:St)(H:Hp)(Q:VK),Inv X p σ H s->t σ H Q->wpAny (model X.prog X.w) X.A (eval e X.env) (EP X p σ Q) X.xe s
def PT(X:Cx)(e:Expr)(t:TT):Prop:=
 ∀(p:aw (ar×Obj))(s:ae)(σ:St)(H:Hp)(Q:Bool->Hp->Prop),Inv X p σ H s->t σ H Q->wpAny (model X.prog X.w) X.A (isTrue e X.env (eval e X.env)) (TP X p σ Q) X.xe s
def PW(X:Cx)(e:Expr)(t:TT):Prop:=
 ∀(w:Sem av)(p:aw (ar×Obj))(s:ae)(σ:St)(H:Hp)(Q:Bool->Hp->Prop),Inv X p σ H s->t σ H Q->wpAny (model X.prog X.w) X.A (isTrue e X.env w) (TP X p σ Q) X.xe s
def PW.pt(h:PW X e t):PT X e t:=h _
def PA(X:Cx)(e:aw Expr)(t:TA):Prop:=
 ∀(P:Pos)(p:aw (ar×Obj))(s:ae)(σ:St)(H:Hp)(Q:aw V->Hp->Prop),Inv X p σ H s->t σ H Q->wpAny (model X.prog X.w) X.A (spliced (backTo P (starEach e X.env))) (AP X p σ Q) X.xe s
def PS(X:Cx)(st:Stmt)(t:TS):Prop:=
 ∀(p:aw (ar×Obj))(s:ae)(σ:St)(H:Hp)(D:Ends),Inv X p σ H s->t D σ H->wpAny (model X.prog X.w) X.A (exec st X.env) (SP X p D) X.xe s
def Cw(X:Cx)(st:aw Stmt)(t:TS):Prop:=
 ∀(p:aw (ar×Obj))(s:ae)(σ:St)(H:Hp)(D:Ends),Inv X p σ H s->t D σ H->wpAny (model X.prog X.w) X.A (execs st X.env) (SP X p D) X.xe s
def bH(h:wpAny M A t Q E s)(H:∀ a s,Q a s->Q' a s):wpAny M A t Q' E s:=c8 h H fun _ _ x=>x
section
variable{X:Cx}
inductive qB9(i:Nat)(σ:St)(H:Hp)(Q:VK):Prop
 | mk (v) (_:σ[i]? = some (some v)) (_:Q v H)
def tC(v:V):TE:=fun _ H Q=>Q v H
def qBX(N:X.N[i]? = some x)(o:Vis X.env.scope x)(hd:(x==("__debug__" : Str))=false:=by decide)(d:(x==("__classdict__" : Str))=false:=by decide):PE X (.Name x pos) (qB9 i):=by
 intro p s σ H Q I h;obtain⟨v,e,h⟩:=h;obtain⟨m,n,g⟩:=I.loc;obtain⟨u,r,l⟩:=g i x v N e o;have f:EP X p σ Q u s:=⟨v,H,I,r,h⟩;rcases l with ⟨k,j⟩ | ⟨k,c,b,a⟩
 .exact wpAny_Name (wpAny_loadName_local I.ok.kind k n j f) hd
 .rcases k with k | k
  .exact wpAny_Name (wpAny_loadName_cell I.ok.kind k b a f) hd
  .exact wpAny_Name (wpAny_loadName_free I.ok.kind k b a f d) hd
def zB {i j P}:PE X (.Constant (.int i) j P) (tC (.int i)):=fun _ _ _ H _ I h=>wpAny_Constant_int ⟨.int i,H,I.tok _,⟨_,rfl⟩,h⟩
def gG {b j P}:PE X (.Constant (.bool b) j P) (tC (.bl b)):=fun _ _ _ H _ I h=>Constant_bool ⟨.bl b,H,I,rfl,h⟩
def iw {j P}:PE X (.Constant .none j P) (tC .non):=fun _ _ _ H _ I h=>Constant_none ⟨.non,H,I,rfl,h⟩
def zQ {x j P}:PE X (.Constant (.str x) j P) (tC (.str x)):=fun _ _ _ H _ I h=>Calls.Constant_str ⟨.str x,H,I.tok _,⟨_,rfl⟩,h⟩
def Gl(X:Cx)(x:Str):Prop:=X.env.kindOf x=some .globalImplicit
def nW(I:Inv X pins σ H s)(j:Gl X x)(c:X.mg x=some u)(h:Q u s)
  (hd:(x==("__debug__" : Str))=false:=by decide):wpAny (model X.prog X.w) X.A (eval (.Name x pos) X.env) Q E s:=
 Calls.Name_function_global I.ok.kind j (Calls.loadGlobal_global (by rw[I.ok.glob];exact I.mod.glob.keeps I.bk) c h) hd
def jm(I:Inv X pins σ H s)(j:Gl X x)(c:X.mg x=none)(v:bootBuiltins x=some u)(h:Q u s)
  (f:x ≠ "__name__" := by decide) (hd:(x==("__debug__" : Str))=false:=by decide):wpAny (model X.prog X.w) X.A (eval (.Name x pos) X.env) Q E s:=by obtain⟨_,a,l⟩:=I.mod.blt;exact Calls.Name_function_global I.ok.kind j (Calls.loadGlobal_builtin (by rw[I.ok.glob];exact I.mod.glob.keeps I.bk) c (by rw[I.ok.blt];exact a.keeps I.bk) ((l x f).trans v) h) hd
def bC(j:Gl X x)(c:X.mg x=some u)(r:RelV v u)(hd:(x==("__debug__" : Str))=false:=by decide):PE X (.Name x pos) (tC v):=
 fun _ _ _ H _ I h=>nW I j c ⟨v,H,I,r,h⟩ hd
def iK(j:Gl X x)(c:X.mg x=none)(a:bootBuiltins x=some u)(r:RelV v u)(f:x ≠ "__name__" := by decide)(hd:(x==("__debug__" : Str))=false:=by decide):PE X (.Name x pos) (tC v):=
 fun _ _ _ H _ I h=>jm I j c a ⟨v,H,I,r,h⟩ f hd
variable{a b:Expr}{ta tb:TE}{pos:Pos}
def PC(X:Cx)(o:CmpOp)(a b:Expr)(t:TE):Prop:=
 ∀(p:aw (ar×Obj))(s:ae)(σ:St)(H:Hp)(Q:VK),Inv X p σ H s->t σ H Q →
  wpAny (model X.prog X.w) X.A (eval a X.env) (fun v S=>wpAny (model X.prog X.w) X.A (eval b X.env) (fun u c=>wpAny (model X.prog X.w) X.A (compareOp o v u) (EP X p σ Q) X.xe c) X.xe S) X.xe s
inductive isB(x:V)(H:Hp)(Q:Bool->Hp->Prop):Prop
 | mk (c:Bool) (_:x = .bl c) (_:Q c H)
def tB(t:TE):TT:=fun σ H Q=>t σ H fun x h=>isB x h Q
def qBT(h:PC X op a b t)(e:behindInMarks op b=false:=by first | exact nobehind _ (by decide) (by decide) | rfl):PT X (.Compare a [op] [b] pos) (tB t):=by
 intro p s σ H Q I w;refine wpAny_isTrue_Compare1 (bH (h p s σ H _ I w) fun v _ e=>bH e fun u _ l=>bH l fun c _ ⟨x,g,i,r,f⟩=>?_) e;obtain⟨d,rfl,q⟩:=f
 cases r
 exact wpAny_truthy_bool ⟨g,i,q⟩
def aY(h:PE X e t)(c:∀ w,isTrue e X.env w=(do let v ← w;standAt e.pos;holding [v] (truthy v)):=by intro _;rfl):PT X e (tB t):=by
 intro p s σ H Q I a;refine isTrue_plain (bH (h p s σ H _ I a) fun v _ ⟨x,b,i,r,f⟩=>?_) (c _);obtain⟨d,rfl,q⟩:=f
 cases r
 exact wpAny_truthy_bool ⟨b,i,q⟩
variable{tA tB':TT}{rest:aw Expr}
def qJX(t u:TT):TT:=fun σ H Q=>t σ H fun c h=>if c=true then u σ h Q else Q false h
def tOr(t u:TT):TT:=fun σ H Q=>t σ H fun c h=>if c=true then Q true h else u σ h Q
def qJQ(t:TT):TT:=fun σ H Q=>t σ H fun c h=>Q (!c) h
theorem yQ(d:PT X a tA):PW X (.BoolOp .And [a] pos) tA:=by
 intro _ p s σ H Q I h;refine isTrue_and (bH (d p s σ H Q I h) fun c _ e=>?_)
 cases c with
 | true=>exact isTrue_and_nil e
 | false=>exact e
theorem pw_or1(d:PT X a tA):PW X (.BoolOp .Or [a] pos) tA:=by
 intro _ p s σ H Q I h;refine isTrue_or (bH (d p s σ H Q I h) fun c _ e=>?_)
 cases c with
 | false=>exact isTrue_or_nil e
 | true=>exact e
theorem pw_and(e:PT X a tA)(g:PW X (.BoolOp .And (b::rest) pos) tB'):PW X (.BoolOp .And (a::b::rest) pos) (qJX tA tB'):=by
 intro w p s σ H Q I h;refine isTrue_and (bH (e p s σ H _ I h) fun c S ⟨d,i,f⟩=>?_)
 cases c with
 | true=>exact g w p S σ d Q i f
 | false=>exact⟨d,i,f⟩
theorem pw_or(e:PT X a tA)(g:PW X (.BoolOp .Or (b::rest) pos) tB'):PW X (.BoolOp .Or (a::b::rest) pos) (tOr tA tB'):=by
 intro w p s σ H Q I h;refine isTrue_or (bH (e p s σ H _ I h) fun c S ⟨d,i,f⟩=>?_)
 cases c with
 | true=>exact⟨d,i,f⟩
 | false=>exact g w p S σ d Q i f
def bY(d:PT X a tA):PT X (.UnaryOp .Not a pos) (qJQ tA):=by intro p s σ H Q I h;exact isTrue_not (d p s σ H (fun c b=>Q (!c) b) I h)
def qE8(ta tb:TE):TE:=fun σ H Q=>ta σ H fun x h => ∃ c,x = .bl c/\if c=true then tb σ h Q else Q (.bl false) h
def qJP(ta tb:TE):TE:=fun σ H Q=>ta σ H fun x h => ∃ c,x = .bl c/\if c=true then Q (.bl true) h else tb σ h Q
def qDV(ta:TE):TE:=fun σ H Q=>ta σ H fun x h => ∃ c,x = .bl c/\Q (.bl (!c)) h
def gB {o} (h:PE X a t):PE X (.BoolOp o [a] pos) t:=fun p s σ H Q I w=>BoolOp_one (h p s σ H Q I w)
theorem rT(e:PE X a ta)(g:PE X (.BoolOp .And (b::rest) pos) tb):PE X (.BoolOp .And (a::b::rest) pos) (qE8 ta tb):=by
 intro p s σ H Q I h;refine BoolOp_and (bH (e p s σ H _ I h) fun v S ⟨x,d,i,r,f⟩=>?_);obtain⟨c,rfl,f⟩:=f
 cases r
 refine wpAny_truthy_bool ?_
 cases c with
 | true=>exact g p S σ d Q i f
 | false=>exact⟨.bl false,d,i,rfl,f⟩
theorem wj(e:PE X a ta)(g:PE X (.BoolOp .Or (b::rest) pos) tb):PE X (.BoolOp .Or (a::b::rest) pos) (qJP ta tb):=by
 intro p s σ H Q I h;refine BoolOp_or (bH (e p s σ H _ I h) fun v S ⟨x,d,i,r,f⟩=>?_);obtain⟨c,rfl,f⟩:=f
 cases r
 refine wpAny_truthy_bool ?_
 cases c with
 | false=>exact g p S σ d Q i f
 | true=>exact⟨.bl true,d,i,rfl,f⟩
def gC(d:PE X a ta):PE X (.UnaryOp .Not a pos) (qDV ta):=by
 intro p s σ H Q I h;refine UnaryOp_ (bH (d p s σ H _ I h) fun v _ ⟨x,b,i,r,f⟩=>?_);obtain⟨c,rfl,f⟩:=f
 cases r
 exact not_of (wpAny_truthy_bool ⟨.bl (!c),b,i,rfl,f⟩)
def tIf(t:TT)(ta tb:TE):TE:=fun σ H Q=>t σ H fun c h=>if c=true then ta σ h Q else tb σ h Q
theorem mC(k:PT X c tA)(g:PE X a ta)(j:PE X b tb):PE X (.IfExp c a b pos) (tIf tA ta tb):=by
 intro p s σ H Q I h;refine wpAny_IfExp (bH (k p s σ H _ I h) fun d S ⟨e,i,f⟩=>?_)
 cases d with
 | true=>exact g p S σ e Q i f
 | false=>exact j p S σ e Q i f
end
def aU(K:bV)(H:Hp)(a:ar)(xs:aw V):Prop:=
 Rd H a (.lst xs) ∨
  ∃(o:Obj)(its:Array av)(n:Nat),K.lookup a=some o/\o.cls = .type "list" /\ o.dict=none/\o.data = .seq its n/\its.size<=sizeLine/\Vals xs its.toList
def aJ(K:bV)(H:Hp)(a:ar)(xs:aw V):Prop:=
 Rd H a (.tup xs) ∨
  ∃(o:Obj)(its:Array av)(n:Nat),K.lookup a=some o/\o.cls = .type "tuple" /\ o.data = .seq its n/\its.size<=sizeLine/\Vals xs its.toList
noncomputable def qLW:av->aE V
 | .none=>some .non
 | .bool b=>some (.bl b)
 | .int i _=>some (.int i)
 | .str x _=>some (.str x)
 | .bytes b _=>some (.Sv b)
 | .float b _=>some (.flt b)
 | .ref a=>some (.ref a)
 | .type n=>some (.ty n)
 | _=>none
theorem RelV.abs(r:RelV x u):qLW u=some x:=by
 cases x with
 | non=>cases r;rfl
 | bl _=>cases r;rfl
 | int _=>obtain⟨t,rfl⟩:=r;rfl
 | str _=>obtain⟨t,rfl⟩:=r;rfl
 | Sv _=>obtain⟨t,rfl⟩:=r;rfl
 | flt _=>obtain⟨t,rfl⟩:=r;rfl
 | ref _=>cases r;rfl
 | ty _=>cases r;rfl
def RelV.inj(r:RelV x u)(q:RelV y u):x=y:=kJ (r.abs.symm.trans q.abs)
theorem Vals.inj:∀ {xs ys:aw V} {us:aw av},Vals xs us->Vals ys us->xs=ys
 | _,_,_,.nil,.nil=>rfl
 | _,_,_,.cons r t,.cons R t'=>by rw[r.inj R,Vals.inj t t']
section
variable{X:Cx}{pins:aw (ar×Obj)}{σ:St}{H:Hp}{s:ae}{a:ar}{xs ys:aw V}
def aU.of{K:bV}(h:H a=some (.lst xs)):aU K H a xs:=.inl (.inl h)
def aJ.of{K:bV}(h:H a=some (.tup xs)):aJ K H a xs:=.inl (.inl h)
def Inv.list(I:Inv X pins σ H s)(h:aU X.K H a xs):∃ its:aw av,Vals xs its/\PlainL s.heap a its.toArray/\xs.length<=sizeLine:=by
 rcases h with h | ⟨o,its,n,k,f,hd,b,c,r⟩
 .obtain⟨z,its,n,r,e⟩:=h.ok I.hok;exact⟨its,r,⟨_,n,e,rfl,rfl,rfl⟩,z⟩
 .refine⟨its.toList,r,⟨o,n,I.mQ a o k,f,hd,by simpa using b⟩,?_⟩;have e:=r.length;simp only[Array.length_toList]at e;lia
def Inv.tuple(I:Inv X pins σ H s)(h:aJ X.K H a xs):∃ its:aw av,Vals xs its/\IsTup s.heap a its.toArray/\xs.length<=sizeLine:=by
 rcases h with h | ⟨o,its,n,k,f,b,c,r⟩
 .obtain⟨z,its,r,p⟩:=h.ok I.hok;exact⟨its,r,p,z⟩
 .refine⟨its.toList,r,⟨o,I.mQ a o k,f,n,by simpa using b⟩,?_⟩;have e:=r.length;simp only[Array.length_toList]at e;lia
def Inv.Vl(I:Inv X pins σ H s)(h:aU X.K H a xs)(h':aU X.K H a ys):xs=ys:=by
 obtain⟨its,r,⟨o,n,e,_,_,d⟩,_⟩:=I.list h;obtain⟨its',R,⟨_,_,E,_,_,d'⟩,_⟩:=I.list h';rw[e]at E;cases E;rw[d]at d';injection d' with D _
 have:its=its':=by simpa using congrArg Array.toList D
 subst this;exact r.inj R
def Inv.Df(I:Inv X pins σ H s)(h:aJ X.K H a xs)(h':aJ X.K H a ys):xs=ys:=by
 obtain⟨its,r,⟨o,e,_,n,d⟩,_⟩:=I.tuple h;obtain⟨its',R,⟨_,E,_,_,d'⟩,_⟩:=I.tuple h';rw[e]at E;cases E;rw[d]at d';injection d' with D _
 have:its=its':=by simpa using congrArg Array.toList D
 subst this;exact r.inj R
end
abbrev Cx.wish(X:Cx)(E:av->ae->Prop):Cx:={ X with xe:=E }
noncomputable abbrev Cx.nox(X:Cx):Cx:=X.wish fun _ _=>False
def Cx.Ok.wish{X:Cx}(ok:X.Ok)(E:av->ae->Prop):(X.wish E).Ok:=
 ⟨ok.mod,ok.kind,ok.glob,ok.blt,ok.above,ok.inj,ok.has,ok.cab,ok.hd,ok.frames,ok.stk,ok.exf,ok.bs,ok.Xw,ok.R9,ok.Wj,ok.uY,ok.ZR⟩
def Cx.Ok.jU{X:Cx}{E:av->ae->Prop}(ok:(X.wish E).Ok):X.Ok:=
 ⟨ok.mod,ok.kind,ok.glob,ok.blt,ok.above,ok.inj,ok.has,ok.cab,ok.hd,ok.frames,ok.stk,ok.exf,ok.bs,ok.Xw,ok.R9,ok.Wj,ok.uY,ok.ZR⟩
section
variable{X:Cx}{pins:aw (ar×Obj)}{σ:St}{H:Hp}{s:ae}{E:av->ae->Prop}
def Inv.wish(I:Inv X pins σ H s)(E:av->ae->Prop):Inv (X.wish E) pins σ H s:=⟨I.ok.wish E,I.os,I.bare,I.base,I.loc,I.cell,I.free,I.jq,I.pin,I.hok,I.len⟩
def Inv.jU(I:Inv (X.wish E) pins σ H s):Inv X pins σ H s:=⟨I.ok.jU,I.os,I.bare,I.base,I.loc,I.cell,I.free,I.jq,I.pin,I.hok,I.len⟩
theorem SP.jU(h:SP (X.wish E) pins D f s'):SP X pins D f s':=by
 cases f with
 | next=>obtain⟨σ',H,I,q⟩:=h;exact⟨σ',H,I.jU,q⟩
 | brk=>obtain⟨σ',H,I,q⟩:=h;exact⟨σ',H,I.jU,q⟩
 | cont=>obtain⟨σ',H,I,q⟩:=h;exact⟨σ',H,I.jU,q⟩
 | ret u=>obtain⟨v,σ',H,I,r,q⟩:=h;exact⟨v,σ',H,I.jU,r,q⟩
def Cw.nox{st:aw Stmt}{t:TS}(h:Cw X.nox st t):Cw X st t:=fun pins s σ H D I w=>
 c8 (h pins s σ H D (I.wish _) w) (fun _ _ q=>q.jU) fun _ _ z=>c9 z
end
section
variable{X:Cx}{st:Stmt}{rest:aw Stmt}{t u:TS}{e:Expr}{te:TE}{pos:Pos}
def qDX:TS:=fun D σ H=>D.nx σ H
def Y4(t u:TS):TS:=fun D σ H=>t { D with nx:=u D } σ H
def zU:Cw X [] qDX:=fun _ _ σ H _ I h=>wpAny_execs_nil ⟨σ,H,I,h⟩
theorem zE(a:PS X st t)(l:Cw X rest u):Cw X (st::rest) (Y4 t u):=by
 intro p s σ H D I h;refine wpAny_execs_cons (bH (a p s σ H { D with nx:=u D } I h) fun f S q=>?_)
 cases f with
 | next=>
  obtain⟨σ',b,i,q⟩:=q;exact l p S σ' b D i q
 | ret v=>exact q
 | brk=>exact q
 | cont=>exact q
theorem zG(a:PS X st t):Cw X [st] t:=by
 intro p s σ H D I h;refine wpAny_execs_cons (bH (a p s σ H D I h) fun f _ q=>?_)
 cases f with
 | next=>exact wpAny_execs_nil q
 | ret v=>exact q
 | brk=>exact q
 | cont=>exact q
def Inv.quiet(I:Inv X pins σ H s):interactive X.env=false:=by simp [interactive,I.ok.kind]
def qE2(te:TE):TS:=fun D σ H=>te σ H fun _ h=>D.nx σ h
def yJ(c:PE X e te)(b:swapsWith e none pos.line X.env=pure false:=by rfl):PS X (.Expr e pos) (qE2 te):=by intro p s σ H D I h;exact wpAny_Expr_any (bH (c p s σ H _ I h) fun v _ ⟨x,a,i,_,f⟩=>⟨σ,a,i,f⟩) I.quiet b
def qJO(te:TE):TS:=fun D σ H=>te σ H D.rt
def zP(b:PE X e te):PS X (.Return (some e) pos) (qJO te):=by intro p s σ H D I h;exact wpAny_Return_some (bH (b p s σ H _ I h) fun v _ ⟨x,a,i,r,f⟩=>⟨x,σ,a,i,r,f⟩)
def qJR(c:TT)(t u:TS):TS:=fun D σ H=>c σ H fun b h=>if b=true then t D σ h else u D σ h
theorem yE(k:PT X c tc)(g:Cw X a t)(j:Cw X b u):PS X (.If c a b pos) (qJR tc t u):=by
 intro p s σ H D I h;refine wpAny_If (bH (k p s σ H _ I h) fun d S ⟨e,i,f⟩=>?_)
 cases d with
 | true=>exact g p S σ e D i f
 | false=>exact j p S σ e D i f
def TJ:TS:=fun _ _ _=>False
def Ua:PS X st TJ:=fun _ _ _ _ _ _ h=>h.elim
def bB:Cw X sts TJ:=fun _ _ _ _ _ _ h=>h.elim
end
abbrev TG:=V->St->Hp->(St->Hp->Prop)->Prop
abbrev TGs:=aw V->St->Hp->(St->Hp->Prop)->Prop
def PG(X:Cx)(T:Expr)(t:TG):Prop:=
 ∀(p:aw (ar×Obj))(s:ae)(σ:St)(H:Hp)(v:V)(u:av)(Q:St->Hp->Prop),Inv X p σ H s->RelV v u->t v σ H Q →
  wpAny (model X.prog X.w) X.A (assign T X.env u) (fun _ s'=>∃ σ' h,Inv X p σ' h s'/\Q σ' h) X.xe s
def PGs(X:Cx)(T:aw Expr)(t:TGs):Prop:=
 ∀(p:aw (ar×Obj))(s:ae)(σ:St)(H:Hp)(vs:aw V)(us:aw av)(Q:St->Hp->Prop),Inv X p σ H s->Vals vs us->t vs σ H Q →
  wpAny (model X.prog X.w) X.A (assignInOrder ((assignEach T X.env).map (·.2)) us) (fun _ s'=>∃ σ' h,Inv X p σ' h s'/\Q σ' h) X.xe s
abbrev qJ6:=V->V->V->Hp->(Hp->Prop)->Prop
def qJ7(X:Cx)(t:qJ6):Prop:=
 ∀(p:aw (ar×Obj))(s:ae)(σ:St)(H:Hp)(o i v:V)(O I u:av)(Q:Hp->Prop),Inv X p σ H s->RelV o O->RelV i I->RelV v u->t o i v H Q →
  wpAny (model X.prog X.w) X.A (setItem O I u) (fun _ s'=>∃ h,Inv X p σ h s'/\Q h) X.xe s
abbrev TIp:=V->V->Hp->VK->Prop
def PIp(X:Cx)(o:Operator)(t:TIp):Prop:=
 ∀(p:aw (ar×Obj))(s:ae)(σ:St)(H:Hp)(x y:V)(v u:av)(Q:VK),Inv X p σ H s->RelV x v->RelV y u->t x y H Q →
  wpAny (model X.prog X.w) X.A (inplaceOp o v u) (EP X p σ Q) X.xe s
section
variable{X:Cx}{pos:Pos}
def PB(i:Nat):TG:=fun v σ H Q=>Q (σ.set i (some v)) H
def yK(N:X.N.Nodup)(b:X.N[i]? = some x)(c:Loc X.env.scope x)(f:X.fn x=true∨X.env.scope.names.lookup x=some .local:=by first | exact .inl rfl | exact .inr rfl | assumption):PG X (.Name x pos) (PB i):=by intro _ s σ H v u Q I r h;exact wpAny_assign_Name (oZ I N b c r (fun _ a=>⟨_,H,a,h⟩) f)
def qLS:TGs:=fun vs σ H Q=>vs=[]/\Q σ H
def qGP(t:TG)(u:TGs):TGs:=fun vs σ H Q => ∃ v r,vs=v::r/\t v σ H fun σ' h=>u r σ' h Q
def qY:PGs X [] qLS:=by
 intro _ s σ H _ _ Q I r h;obtain⟨e,h⟩:=h;subst e
 cases r
 exact assignInOrder_nil ⟨σ,H,I,h⟩
theorem cX(a:PG X e t)(l:PGs X es u)
  (c:(assignEach (e::es) X.env).map (·.2)=assign e X.env::(assignEach es X.env).map (·.2):=by rfl):PGs X (e::es) (qGP t u):=by
 intro p s σ H _ _ Q I r h;obtain⟨v,_,E,h⟩:=h;subst E
 cases r with
 | cons r R=>
  rw[c];refine assignInOrder_cons (bH (a p s σ H _ _ _ I r h) fun _ S ⟨σ1,b,i,f⟩=>?_);exact l p S σ1 b _ _ Q i R f
def qLQ(K:bV)(n:Nat)(t:TGs):TG:=fun v σ H Q => ∃ a xs,v = .ref a/\aJ K H a xs/\xs.length=n/\t xs σ H Q
def vU(d:X.calm=true)(h:PGs X es t)
  (f:(assignEach es X.env).length=n:=by rfl) (c:(assignEach es X.env).findIdx? (·.1)=none:=by rfl):PG X (.Tuple es k pos) (qLQ X.K n t):=by
 intro p s σ H v u Q I r w;obtain⟨a,xs,E,q,l,w⟩:=w;subst E
 cases r
 obtain⟨_,R,ht,_⟩:=I.tuple q;refine assign_Tuple_tuple (I.ok.hd d) ht (by simp [f,<-l,R.length]) c fun h' x=>?_;have i:Inv X p σ H { s with heap:=h' }:=I.kept (t':=s.toks) fun b o e=>x b o (jQ (gQ e)) e;exact h p _ σ H xs _ Q i (by simpa using R) w
def qLR(to T:TE)(t:qJ6):TG:=fun v σ H Q=>to σ H fun o b=>T σ b fun i a=>t o i v a fun h=>Q σ h
def Ud(f:PE X o to)(z:PE X i ti)(d:qJ7 X t)
  (j:∀ v,assign (.Subscript o i pos) X.env v=(do
   let O ← holding [v] (eval o X.env)
   let a ← holding [v,O] (eval i X.env)
   standAt pos
   holding [v,O,a] (setItem O a v)
   release [v,O,a] []):=by intro _;rfl):PG X (.Subscript o i pos) (qLR to ti t):=by intro p s σ H v u Q I r h;rw[j];refine aS (cq (bH (f p s σ H _ I h) fun O S ⟨x,c,n,e,w⟩=>?_));refine aS (cq (bH (z p S σ c _ n w) fun a k ⟨y,A,b,R,q⟩=>?_));refine aS (wpAny_standAt (aS (cq (bH (d p k σ A x y v O a u _ b e R r q) fun _ _ ⟨l,g,m⟩=>?_))));exact wpAny_release ⟨σ,l,g,m⟩
def Y8(t:TE)(g:TG):TS:=fun D σ H=>t σ H fun x h=>g x σ h D.nx
def Ub(d:PE X e te)(j:PG X tg g)(c:swapsWithSole [tg] e pos.line X.env=pure false:=by rfl)(w:swappedStores [tg] e X.env=pure none:=by rfl)
  (a:(assignEach [tg] X.env).map (·.2)=[assign tg X.env]:=by rfl):PS X (.Assign [tg] e pos) (Y8 te g):=by intro p s σ H D I h;refine wpAny_Assign_stores (bH (d p s σ H _ I h) fun v S ⟨x,b,i,r,f⟩=>?_) c w;rw[a];exact bH (j p S σ b x v _ i r f) fun _ _ q=>q
def zL(N:X.N.Nodup)(d:X.N[i]? = some x)(j:Loc X.env.scope x)(k:PE X e te)(g:swapsWith e (some (.Name x pos')) pos.line X.env=pure false:=by rfl)(f:X.fn x=true∨X.env.scope.names.lookup x=some .local:=by first | exact .inl rfl | exact .inr rfl | assumption) :
  PS X (.Assign [.Name x pos'] e pos) (Y8 te (PB i)):=by intro p s σ H D I h;refine wpAny_Assign_Name (bH (k p s σ H _ I h) fun v _ ⟨y,c,a,r,q⟩=>?_) g;exact oZ a N d j r (fun _ b=>⟨_,c,b,q⟩) f
def qJW(i:Nat)(t:TE)(T:TIp):TS:=fun D σ H => ∃ x,σ[i]? = some (some x)/\t σ H fun y h=>T x y h fun z a=>D.nx (σ.set i (some z)) a
def qBV(N:X.N.Nodup)(j:X.N[i]? = some x)(f:Loc X.env.scope x)(n:PE X e te)(J:PIp X op ti)(B:X.fn x=true∨X.env.scope.names.lookup x=some .local:=by first | exact .inl rfl | exact .inr rfl | assumption) :
  PS X (.AugAssign (.Name x pos') op e pos) (qJW i te ti):=by
 intro p s σ H D I h;obtain⟨v,F,h⟩:=h;obtain⟨m,E,q⟩:=I.loc
 have g:Vis X.env.scope x:=by rcases f with k | k;exact .inl k;exact .inr (.inl k)
 obtain⟨u,r,l⟩:=q i x v j F g;refine wpAny_AugAssign_Name ?_
 have go:wpAny (model X.prog X.w) X.A (eval e X.env) (fun w S=>wpAny (model X.prog X.w) X.A (inplaceOp op u w) (fun r d=>wpAny (model X.prog X.w) X.A (storeName X.env x r) (fun _=>SP X p D .next) X.xe d) X.xe S) X.xe s:=by
  refine bH (n p s σ H _ I h) fun w o ⟨y,A,M,C,O⟩=>?_;refine bH (J p o σ A v y u w _ M r C O) fun z _ ⟨_,T,t,R,Q⟩=>?_;exact oZ t N j f R (fun _ L=>⟨_,T,L,Q⟩) B
 rcases l with ⟨a,P⟩ | ⟨a,c,G,b⟩
 .exact wpAny_loadName_local I.ok.kind a E P go
 .rcases a with a | a
  .exact wpAny_loadName_cell I.ok.kind a G b go
  .rcases f with k | k
   .have:X.env.scope.names.lookup x=some .free:=a;rw[k]at this;cases this
   .have:X.env.scope.names.lookup x=some .free:=a;rw[k]at this;cases this
def ipI(f:Int->Int->Int):TIp:=fun x y H Q => ∃ i j,x = .int i/\y = .int j/\Q (.int (f i j)) H
def qCQ:PIp X .Add (ipI fun i j=>i+j):=by intro _ s σ H x y v u Q I r R h;obtain⟨i,j,a,E,q⟩:=h;subst a;subst E;obtain⟨t,rfl⟩:=r;obtain⟨_,rfl⟩:=R;exact iadd_int ⟨.int _,H,I.tok _,⟨_,rfl⟩,q⟩
def qB8(c:TT)(T:TS):TS:=fun D σ H => ∃ W:Nat->St->Hp->Prop,(∃ m,W m σ H)/\∀ m σ H,W m σ H →
 c σ H fun b h=>if b=true then ∃ N:St->Hp->Prop,(∀ σ' a,N σ' a->∃ m',m'<m/\W m' σ' a)/\T { D with nx:=N,ct:=N,bk:=D.nx } σ h else D.nx σ h
theorem Aw(o:PassesOwn (model X.prog X.w) X.A X.env X.xe)(y:PT X c tc)(B:Cw X body tb):PS X (.While c body [] pos) (qB8 tc tb):=by
 intro p s σ H D I h;obtain⟨W,⟨M,x⟩,t⟩:=h;refine wpAny_While (codeAny_whileLoop (fun n s'=>∃ σ' l,Inv X p σ' l s'/\W n σ' l) ?_ M ⟨σ,H,I,x⟩);rintro n S ⟨σ1,k,A,u⟩;refine wpAny_passesOwn o (bH (y p S σ1 k _ A (t n σ1 k u)) fun b z ⟨r,j,q⟩=>?_)
 cases b with
 | true=>
  obtain⟨N,i,q⟩:=q;rw[cS rfl];refine wpAny_passesOwn o (bH (B p z σ1 r _ j q) fun f _ m=>?_)
  cases f with
  | next=>
   obtain⟨σ3,a,g,d⟩:=m;obtain⟨m',e,w⟩:=i σ3 a d;exact⟨m',e,σ3,a,g,w⟩
  | cont=>
   obtain⟨σ3,a,g,d⟩:=m;obtain⟨m',e,w⟩:=i σ3 a d;exact⟨m',e,σ3,a,g,w⟩
  | brk=>exact m
  | ret v=>exact m
 | false=>
  rw[cK rA];exact wpAny_execs_nil ⟨σ1,r,j,q⟩
end
structure It where
 go:Nat->Hp->Prop
 Xy:Nat->Hp->V->Hp->Prop
 stop:Nat->Hp->Prop
def oJ(X:Cx)(P:aw (ar×Obj))(H:Hp)(b:ar):Prop:=
 H b=none/\b≠X.env.locals/\b∉X.fs/\(b∈X.ex∨X.s₀.heap.objs.size<=b)/\(∀ x c,X.env.cells.lookup x=some c->c≠b)/\∀ p∈X.pn++P,p.1≠b
def Inv.Cr(I:Inv X pins σ H s)(h:s.heap.objs.size<=b)(f:H' b=none):oJ X pins H' b:=by
 refine⟨f,iO (KR I.lt h),I.qKI h,.inr (br I.sz h),fun x c e z=>?_,fun p a z=>?_⟩
 .obtain⟨v,q⟩:=I.cell x c e;exact eu (KR q.lt (by rw[z];exact h)) (iq _)
 .exact eu (KR (gQ (I.pin p a).1) (by rw[z];exact h)) (iq _)
structure Turn(P:Program)(w:World)(K:bV)(tg:Expr)(J:It)(fp:List Addr)(it:Addr)(tn:Nat->Heap->Prop):Prop where
 mem:it∈fp
 obj:∀ i h,tn i h->∀ b∈fp,∃ o,h.get? b=some o/\∀ v,o.data≠.cell v
 keep:∀ i h h',tn i h->(∀ b∈fp,∀ o,h.get? b=some o->h'.get? b=some o)->tn i h'
 item:∀(X:Cx),X.prog=P->X.w=w->X.K=K->X.calm=true->∀(i:Nat)(pins:List (Addr×Obj))(s:Shared)(σ:St)(H:Hp)(E:Value->Shared->Prop),Inv X pins σ H s->(∀ b∈fp,oJ X pins H b)->tn i s.heap->J.go i H →
  wpAny (model P w) X.A (pyNext (.ref it)) (fun r s1 => ∃ u,r=some u ∧
   wpAny (model P w) X.A (letOwnedTupleGo tg (.ref it) u) (fun _ s2 => ∃ x H',Inv X pins σ H' s2/\RelV x u/\J.Xy i H x H'/\tn (i+1) s2.heap/\∀ b∈fp,H' b=none) E s1) E s
 done:∀(X:Cx),X.prog=P->X.w=w->X.K=K->X.calm=true->∀(i:Nat)(pins:List (Addr×Obj))(s:Shared)(σ:St)(H:Hp)(E:Value->Shared->Prop),Inv X pins σ H s->(∀ b∈fp,oJ X pins H b)->tn i s.heap->J.stop i H →
  wpAny (model P w) X.A (pyNext (.ref it)) (fun r s1=>r=none/\Inv X pins σ H s1) E s
 self:∀(A:Around)(i:Nat)(s:Shared)(Q E:Value->Shared->Prop),tn i s.heap->Q (.ref it) s->wpAny (model P w) A (pyIter (.ref it)) Q E s
abbrev TI:=St->Hp->(It->Hp->Prop)->Prop
def PIE(X:Cx)(p:aw (ar×Obj))(σ:St)(T:Expr)(R:It->Hp->Prop)(i:av)(S:ae):Prop:=
 ∃(I:ar)(f:aw ar)(t:Nat->Heap->Prop)(J:It)(H:Hp),i = .ref I/\Inv X p σ H S/\Turn X.prog X.w X.K T J f I t/\t 0 S.heap/\(∀ b∈f,oJ X p H b)/\R J H
def PI(X:Cx)(T iter:Expr)(w:TI):Prop:=
 ∀(p:aw (ar×Obj))(s:ae)(σ:St)(H:Hp)(R:It->Hp->Prop),Inv X p σ H s->w σ H R →
  wpAny (model X.prog X.w) X.A (eval iter X.env) (fun v S=>wpAny (model X.prog X.w) X.A (pyIter v) (PIE X p σ T R) X.xe S) X.xe s
theorem Em(q:s.heap.get? it=some o)(f:o.cls = .type n)(hd:o.data = .fields vs)
  (a:["enumerate","zip","dict_itemiterator","dict_reverseitemiterator","odict_iterator","itertools.zip_longest","itertools.pairwise"].contains n=false) (H:Q () s):wpAny M A (letOwnedTupleGo tg (.ref it) u) Q E s:=by
 unfold letOwnedTupleGo
 cases tg <;> first
  | exact aT H
  | (cases u <;> first
    | exact aT H
    | (refine aS (wpAny_load q ?_)
       rw[f,hd];show wpAny M A (if (["enumerate","zip","dict_itemiterator","dict_reverseitemiterator","odict_iterator","itertools.zip_longest","itertools.pairwise"].contains n&&vs[0]?==some (rawInt _))=true then _ else _) Q E s;rw[cK (by intro h;rw[a,eL]at h;cases h)]
       exact aT H))
def Itl(K:bV)(a:ar):It:=
 ⟨fun i H => ∃ xs x,aU K H a xs/\xs[i]? = some x,fun i H x h=>h=H/\∀ xs,aU K H a xs->xs[i]? = some x,fun i H => ∃ xs,aU K H a xs/\xs.length<=i⟩
def Itt(K:bV)(a:ar):It:=
 ⟨fun i H => ∃ xs x,aJ K H a xs/\xs[i]? = some x,fun i H x h=>h=H/\∀ xs,aJ K H a xs->xs[i]? = some x,fun i H => ∃ xs,aJ K H a xs/\xs.length<=i⟩
def Itr(lo:Int)(n:Nat):It:=⟨fun i _=>i<n,fun i H x h=>h=H/\x = .int (lo+i),fun i _=>n<=i⟩
def QD{P:ag}{w:aI}{K:bV}{T:Expr}(a t:ar):Turn P w K T (Itl K a) [t] t (fun i h=>h.IsListIter t a i) where
 mem:=by simp
 obj:=fun i h st b g=>by
  have e:b=t:=by simpa using g
  subst e;obtain⟨o,e,c,d⟩:=st;exact⟨o,e,fun v z=>by rw[d]at z;cases z⟩
 keep:=fun i h h' st k=>st.at fun o e=>k t (by simp) o e
 item:=by
  intro X n y A D i f s σ H E I j st C;subst n y A;obtain⟨xs,x,q,r⟩:=C;obtain⟨its,R,p,Q⟩:=I.list q;obtain⟨u,L,M⟩:=R.get r;obtain⟨f0,m,O,B,l,F⟩:=j t (by simp);refine wpAny_pyNext_list_item st p.isList (x:=u) (by simpa using L) fun h' S G=>?_;have U:Inv X f σ H { s with heap:=h' }:=I.turned (t':=s.toks) (fun b o g e=>(G.2 b g).trans e) f0 m B l F;obtain⟨o,e,c,d⟩:=id S;exact⟨u,rfl,Em (s:={ s with heap:=h' }) e c d (by decide) ⟨x,H,U,M,⟨rfl,fun _ N=>by rw[I.Vl N q];exact r⟩,S,fun b g=>(j b g).1⟩⟩
 done:=by
  intro X n y A D i f s σ H E I j st C;subst n y A;obtain⟨xs,q,r⟩:=C;obtain⟨its,R,p,Q⟩:=I.list q;obtain⟨f0,m,O,B,l,F⟩:=j t (by simp);have W:=R.length;exact wpAny_pyNext_list_end (I.ok.hd D) st p.isList (by simp;lia) fun h' J=>⟨rfl,I.turned (t':=s.toks) (fun b o g e=>J b o g e) f0 m B l F⟩
 self:=fun _ _ _ _ _ st h=>wpAny_pyIter_listiter st h
def Kh{P:ag}{w:aI}{K:bV}{T:Expr}(a t:ar):Turn P w K T (Itt K a) [t] t (fun i h=>h.IsTupleIter t a i) where
 mem:=by simp
 obj:=fun i h st b g=>by
  have e:b=t:=by simpa using g
  subst e;obtain⟨o,e,c,d⟩:=st;exact⟨o,e,fun v z=>by rw[d]at z;cases z⟩
 keep:=fun i h h' st k=>st.at fun o e=>k t (by simp) o e
 item:=by
  intro X n y A D i f s σ H E I j st C;subst n y A;obtain⟨xs,x,q,r⟩:=C;obtain⟨its,R,p,Q⟩:=I.tuple q;obtain⟨u,L,M⟩:=R.get r;obtain⟨f0,m,O,B,l,F⟩:=j t (by simp);refine wpAny_pyNext_tuple_item st (show s.heap.IsTuple a its.toArray from p) (x:=u) (by simpa using L) fun h' S G=>?_;have U:Inv X f σ H { s with heap:=h' }:=I.turned (t':=s.toks) (fun b o g e=>(G.2 b g).trans e) f0 m B l F;obtain⟨o,e,c,d⟩:=id S;exact⟨u,rfl,Em (s:={ s with heap:=h' }) e c d (by decide) ⟨x,H,U,M,⟨rfl,fun _ N=>by rw[I.Df N q];exact r⟩,S,fun b g=>(j b g).1⟩⟩
 done:=by
  intro X n y A D i f s σ H E I j st C;subst n y A;obtain⟨xs,q,r⟩:=C;obtain⟨its,R,p,Q⟩:=I.tuple q;obtain⟨f0,m,O,B,l,F⟩:=j t (by simp);have W:=R.length;exact wpAny_pyNext_tuple_end (I.ok.hd D) st (show s.heap.IsTuple a its.toArray from p) (by simp;lia) fun h' J=>⟨rfl,I.turned (t':=s.toks) (fun b o g e=>J b o g e) f0 m B l F⟩
 self:=fun _ _ _ _ _ st h=>wpAny_pyIter_tupleiter st h
def Kl{P:ag}{w:aI}{K:bV}{r:Expr}(a:ar)(lo:Int)(n:Nat):Turn P w K r (Itr lo n) [a] a (fun i h=>IsRangeIter h a (lo+(i:Nat)*1) ((n:Int)-(i:Nat)) 1) where
 mem:=by simp
 obj:=fun i h st b c=>by
  have e:b=a:=by simpa using c
  subst e
  exact⟨_,st,fun v z=>by
   have Z:Data.fields _=Data.cell v:=z
   cases Z⟩
 keep:=fun i h h' st k=>k a (by simp) _ st
 item:=by
  intro X d g A j i p s σ H E I f st q;subst d g A;obtain⟨f0,m,O,B,l,F⟩:=f a (by simp);have W:=Walks.range (prog:=X.prog) (w:=X.w) (I.ok.hd j) a lo 1 n;refine W.item i s _ _ q st fun v h' T u S x=>?_;obtain⟨t,rfl⟩:=u;have y:Inv X p σ H { s with heap:=h',toks:=T }:=I.turned (fun b o c e=>x b o (by simpa using c) e) f0 m B l F;refine⟨_,rfl,Em (s:={ s with heap:=h',toks:=T }) (n := "range_iterator") S rfl rfl (by decide) ⟨.int (lo+i),H,y,⟨t,?_⟩,⟨rfl,rfl⟩,S,fun b c=>(f b c).1⟩⟩;rw[Int.mul_one]
 done:=by
  intro X d g A j i p s σ H E I f st q;subst d g A;obtain⟨f0,m,O,B,l,F⟩:=f a (by simp);exact wpAny_pyNext_range_end (I.ok.hd j) st (by have:n<=i:=q;lia) fun h' J=>⟨rfl,I.turned (t':=s.toks) (fun b o c e=>J b o c e) f0 m B l F⟩
 self:=fun _ _ _ _ _ st h=>wpAny_pyIter_rangeiter st h
section
variable{X:Cx}{tg:Expr}
def qFV(K:bV)(t:TE):TI:=fun σ H R=>t σ H fun x h => ∃ a,x = .ref a/\(∃ xs,aU K h a xs)/\R (Itl K a) h
def qKV(K:bV)(t:TE):TI:=fun σ H R=>t σ H fun x h => ∃ a,x = .ref a/\(∃ xs,aJ K h a xs)/\R (Itt K a) h
def yN{l:Expr}{t:TE}(c:PE X l t):PI X tg l (qFV X.K t):=by
 intro P s σ H R I h;refine bH (c P s σ H _ I h) fun v S ⟨x,g,i,r,Q⟩=>?_;obtain⟨a,e,⟨_,d⟩,q⟩:=Q;subst e
 cases r
 obtain⟨_,_,p,_⟩:=i.list d;refine wpAny_pyIter_list p.isList ?_;refine⟨S.heap.objs.size,[S.heap.objs.size],_,_,g,rfl,i.kept (t':=S.toks) fun b o e=>fM _ e,QD a _,⟨_,qy _ rfl,rfl,rfl⟩,fun b f=>?_,q⟩
 have e:b=S.heap.objs.size:=by simpa using f
 subst e;exact i.Cr (bD _) (i.hok.fresh (bD _))
def nQ{l:Expr}{t:TE}(c:PE X l t):PI X tg l (qKV X.K t):=by
 intro P s σ H R I h;refine bH (c P s σ H _ I h) fun v S ⟨x,g,i,r,Q⟩=>?_;obtain⟨a,e,⟨_,d⟩,q⟩:=Q;subst e
 cases r
 obtain⟨its,_,p,_⟩:=i.tuple d;refine wpAny_pyIter_tuple (show S.heap.IsTuple a its.toArray from p) ?_;refine⟨S.heap.objs.size,[S.heap.objs.size],_,_,g,rfl,i.kept (t':=S.toks) fun b o e=>fM _ e,Kh a _,⟨_,qy _ rfl,rfl,rfl⟩,fun b f=>?_,q⟩
 have e:b=S.heap.objs.size:=by simpa using f
 subst e;exact i.Cr (bD _) (i.hok.fresh (bD _))
def J8{p:aw (ar×Obj)}{σ:St}{H:Hp}{s:ae}{R:It->Hp->Prop}{E:av->ae->Prop}{lo i:Int}{t u v:Tok}{T:Nat}(I:Inv X p σ H s)(h : -(2 ^ 62)<=lo)(l:lo<2 ^ 62)(c : -(2 ^ 62)<=i)(j:i<2 ^ 62)
  (q:R (Itr lo (i-lo).toNat) H):wpAny (model X.prog X.w) X.A (pyIter (.ref s.heap.objs.size)) (PIE X p σ tg R) E { s with heap:=s.heap.push { cls:=.type "range",data:=.fields #[.int lo t,.int i u,.int 1 v] },toks:=T }:=by
 refine wpAny_pyIter_range (IsRange.new ..) (small_one h l c j) ?_;have a:Inv X p σ H { s with heap:=s.heap.push { cls:=.type "range",data:=.fields #[.int lo t,.int i u,.int 1 v] },toks:=T }:=I.kept fun b o e=>fM _ e
 refine⟨(s.heap.push { cls:=.type "range",data:=.fields #[.int lo t,.int i u,.int 1 v] }).objs.size,[(s.heap.push { cls:=.type "range",data:=.fields #[.int lo t,.int i u,.int 1 v] }).objs.size],_,_,H,rfl,
  a.kept (t':=T) fun b o e=>fM _ e,Kl _ lo (i-lo).toNat,?_,fun b f=>?_,q⟩
 .have g:lo+((0:Nat):Int)*1=lo:=by simp
  have d:(((i-lo).toNat:Nat):Int)-((0:Nat):Int)=Builtin.Range.rangeSize lo i 1:=by rw[rangeSize_one];split <;> lia
  show IsRangeIter _ _ (lo+((0:Nat):Int)*1) ((((i-lo).toNat:Nat):Int)-((0:Nat):Int)) 1;rw[g,d];exact qy _ rfl
 .have e:b=(s.heap.push { cls:=.type "range",data:=.fields #[.int lo t,.int i u,.int 1 v] }).objs.size:=by simpa using f
  subst e;exact a.Cr (bD _) (a.hok.fresh (bD _))
def qFL(t:TA):TI:=fun σ H R=>t σ H fun vs h => ∃ j:Int,vs=[.int j] /\ -(2 ^ 62)<=j/\j<2 ^ 62/\R (Itr 0 j.toNat) h
def qFK(t:TA):TI:=fun σ H R=>t σ H fun vs h => ∃ i j:Int,vs=[.int i,.int j]/\(-(2 ^ 62)<=i/\i<2 ^ 62 /\ -(2 ^ 62)<=j/\j<2 ^ 62)/\R (Itr i (j-i).toNat) h
theorem cg{a:Expr}{T:TA}{p P:Pos}(g:Gl X "range")(m:X.mg "range" = none)(d:PA X [a] T)(k:starEach [a] X.env=[(false,eval a X.env)]:=by rfl):PI X tg (.Call (.Name "range" p) [a] [] P) (qFL T):=by
 intro b s σ H R I h;refine Call_ (jm I g m boot_range (kn (bH (d P b s σ H _ I h) fun _ _ ⟨_,_,i,c,f⟩=>?_) k rfl));obtain⟨j,e,f,Q,q⟩:=f;subst e
 cases c with
 | cons r l=>
  cases l
  obtain⟨t,rfl⟩:=r;exact call_range_1 (J8 i (by lia) (by lia) f Q (by simpa using q))
theorem vR(u:Gl X "range")(o:X.mg "range" = none)(k:PA X [a,b] ta)(v:starEach [a,b] X.env=[(false,eval a X.env),(false,eval b X.env)]:=by rfl)(c:starEach [b] X.env=[(false,eval b X.env)]:=by rfl) :
  PI X tg (.Call (.Name "range" p) [a,b] [] pos) (qFK ta):=by
 intro P s σ H R I h;refine Call_ (jm I u o boot_range (kn (bH (k pos P s σ H _ I h) fun _ _ ⟨_,_,n,g,f⟩=>?_) (by rw[v,c]) (by rw[c];rfl)));obtain⟨i,j,e,⟨f,Q,m,w⟩,q⟩:=f;subst e
 cases g with
 | cons r d=>
  cases d with
  | cons l d=>
   cases d
   obtain⟨t,rfl⟩:=r;obtain⟨_,rfl⟩:=l;exact call_range_2 (J8 n f Q m w q)
def qJS(w:TI)(g:TG)(T:TS):TS:=fun D σ H=>w σ H fun J a => ∃ W:Nat->Nat->St->Hp->Prop,(∃ m,W 0 m σ a)/\∀ i m σ H,W i m σ H →
 (J.stop i H/\D.nx σ H)∨(J.go i H/\∃ N:St->Hp->Prop,(∀ σ' h,N σ' h->∃ m',m'<m/\W (i+1) m' σ' h)/\∀ x h,J.Xy i H x h->g x σ h fun σ2 b=>T { D with nx:=N,ct:=N,bk:=D.nx } σ2 b)
def vQ(f:aw ar)(h:Heap):aw (ar×Obj):=f.filterMap fun b=>(h.get? b).map fun o=>(b,o)
def nU(c:b∈fp)(e:h.get? b=some o):(b,o)∈vQ fp h:=List.mem_filterMap.mpr ⟨b,c,by rw[e];rfl⟩
theorem R5(H:p∈vQ fp h):p.1∈fp/\h.get? p.1=some p.2:=by
 obtain⟨b,c,e⟩:=List.mem_filterMap.mp H
 cases q:h.get? b with
 | none=>rw[q]at e;cases e
 | some o=>
  rw[q]at e;have E:(b,o)=p:=kJ e;subst E;exact⟨c,q⟩
def Inv.pinned(I:Inv X pins σ H s)(f:∀ b∈fp,oJ X pins H b)(q:∀ b∈fp,∃ o,s.heap.get? b=some o/\∀ v,o.data≠.cell v):Inv X (pins++vQ fp s.heap) σ H s:=
 I.uJ fun p h=>(jz.mp h).elim (fun z=>I.pin p (gN _ z)) fun z=>by
  obtain⟨c,e⟩:=R5 z;obtain⟨f0,m,O,_⟩:=f p.1 c;obtain⟨o,E,d⟩:=q p.1 c;rw[e]at E;cases E;exact⟨e,f0,m,O,d⟩
def Inv.zf(I:Inv X (pins++pl) σ H s):Inv X pins σ H s:=I.uJ fun p h=>I.pin p (gN _ (gL _ h))
theorem bf(B:PassesOwn (model X.prog X.w) X.A X.env X.xe)(R:X.calm=true)(hi:PI X tg iter wi)(hg:PG X tg g)(k:Cw X body tb)
  (hs:∀ x,foldedSetIterable iter X.env x=pure x:=by intro _;rfl):PS X (.For tg iter body [] pos) (qJS wi g tb):=by
 intro p s σ H D I h;refine wpAny_For (bH (hi p s σ H _ I h) fun v _ h1=>bH h1 fun _ _ h2=>?_) hs;obtain⟨_,y,P,J,H2,e,I2,T,O,Z,W,⟨m0,w0⟩,z⟩:=h2;subst e;have S:∀ {l:Hp},(∀ b∈y,l b=none)->∀ b∈y,oJ X p l b:=fun hn b k=>⟨hn b k,(Z b k).2⟩;refine codeAny_forLoop_any (fun n s'=>∃ i σ' l,Inv X p σ' l s'/\P i s'.heap/\(∀ b∈y,l b=none)/\W i n σ' l) ?_ m0 ⟨0,σ,H2,I2,O,fun b k=>(Z b k).1,w0⟩;rintro n s3 ⟨i,σ3,C,U,A,F,w3⟩;rcases z i n σ3 C w3 with ⟨w,qn⟩ | ⟨go,N,hN,step⟩
 .refine wpAny_passesOwn B (bH (T.done X rfl rfl rfl R i p s3 σ3 C X.xe U (S F) A w) fun r s4 ⟨M,I4⟩=>?_);subst M;exact wpAny_execs_nil ⟨σ3,C,I4,qn⟩
 .refine wpAny_passesOwn B (bH (T.item X rfl rfl rfl R i p s3 σ3 C X.xe U (S F) A go) fun r s4 ⟨u,M,h4⟩=>?_);subst M;refine wpAny_passesOwn B (bH h4 fun _ s5 ⟨x,Q,I5,r5,y5,Y,E⟩=>?_);have L:=I5.pinned (S E) (T.obj _ _ Y);refine wpAny_passesOwn B (bH (hg _ s5 σ3 Q x u _ L r5 (step x Q y5)) fun _ s6 ⟨σ6,H6,I6,q6⟩=>?_);refine wpAny_passesOwn B (bH (k _ s6 σ6 H6 _ I6 q6) fun f G q=>?_)
  have again:∀ {a:St} {j:Hp},Inv X (p++vQ y s5.heap) a j G->N a j->∃ m,m<n/\∃ i σ' l,Inv X p σ' l G/\P i G.heap/\(∀ b∈y,l b=none)/\W i m σ' l:=fun {a j} c t=>by
   obtain⟨m',hm,w7⟩:=hN a j t;refine⟨m',hm,i+1,a,j,c.zf,T.keep _ _ _ Y fun b k o e=>(c.pin (b,o) (gN _ (gN _ (nU k e)))).1,fun b k=>?_,w7⟩;obtain⟨o,e,d⟩:=T.obj _ _ Y b k;exact (c.pin (b,o) (gN _ (gN _ (nU k e)))).2.1
  cases f with
  | next=>obtain⟨a,j,c,t⟩:=q;exact again c t
  | cont=>obtain⟨a,j,c,t⟩:=q;exact again c t
  | brk=>obtain⟨a,j,c,q⟩:=q;exact⟨a,j,c.zf,q⟩
  | ret v=>obtain⟨x7,a,j,c,r7,q⟩:=q;exact⟨x7,a,j,c.zf,r7,q⟩
end
def pX{K:bV}{a:ar}{xs:aw V}{g:TG}{T:TS}{D:Ends}{σ:St}{H:Hp}(Pv:Nat->St->Hp->Prop)(d:Pv 0 σ H)(l:∀ i σ H,i<=xs.length->Pv i σ H->aU K H a xs)
  (s:∀ i x σ H,xs[i]? = some x->Pv i σ H->g x σ H fun σ2 b=>T { D with nx:=Pv (i+1),ct:=Pv (i+1),bk:=D.nx } σ2 b) (hd:∀ σ H,Pv xs.length σ H->D.nx σ H) :
  ∃ W:Nat->Nat->St->Hp->Prop,(∃ m,W 0 m σ H)/\∀ i m σ H,W i m σ H →
   ((Itl K a).stop i H/\D.nx σ H)∨((Itl K a).go i H/\∃ N:St->Hp->Prop,(∀ σ' h,N σ' h->∃ m',m'<m/\W (i+1) m' σ' h)/\∀ x h,(Itl K a).Xy i H x h->g x σ h fun σ2 b=>T { D with nx:=N,ct:=N,bk:=D.nx } σ2 b):=by
 refine⟨fun i m σ H=>m=xs.length-i/\i<=xs.length/\Pv i σ H,⟨xs.length,by simp,Nat.zero_le _,d⟩,?_⟩;rintro i m σ H ⟨rfl,c,p⟩;have q:=l i σ H c p
 by_cases t:i<xs.length
 .refine .inr ⟨⟨xs,xs[i],q,by simp [t]⟩,Pv (i+1),fun σ' h p'=>⟨xs.length-(i+1),by lia,rfl,t,p'⟩,fun x h y=>?_⟩;obtain⟨e,y⟩:=y;subst e;exact s i x σ _ (y xs q) p
 .have e:i=xs.length:=by lia
  subst e;exact .inl ⟨⟨xs,q,bD _⟩,hd σ H p⟩
def ZS{K:bV}{a:ar}{xs:aw V}{g:TG}{T:TS}{D:Ends}{σ:St}{H:Hp}(Pv:Nat->St->Hp->Prop)(d:Pv 0 σ H)(l:∀ i σ H,i<=xs.length->Pv i σ H->aJ K H a xs)
  (s:∀ i x σ H,xs[i]? = some x->Pv i σ H->g x σ H fun σ2 b=>T { D with nx:=Pv (i+1),ct:=Pv (i+1),bk:=D.nx } σ2 b) (hd:∀ σ H,Pv xs.length σ H->D.nx σ H) :
  ∃ W:Nat->Nat->St->Hp->Prop,(∃ m,W 0 m σ H)/\∀ i m σ H,W i m σ H →
   ((Itt K a).stop i H/\D.nx σ H)∨((Itt K a).go i H/\∃ N:St->Hp->Prop,(∀ σ' h,N σ' h->∃ m',m'<m/\W (i+1) m' σ' h)/\∀ x h,(Itt K a).Xy i H x h->g x σ h fun σ2 b=>T { D with nx:=N,ct:=N,bk:=D.nx } σ2 b):=by
 refine⟨fun i m σ H=>m=xs.length-i/\i<=xs.length/\Pv i σ H,⟨xs.length,by simp,Nat.zero_le _,d⟩,?_⟩;rintro i m σ H ⟨rfl,c,p⟩;have q:=l i σ H c p
 by_cases t:i<xs.length
 .refine .inr ⟨⟨xs,xs[i],q,by simp [t]⟩,Pv (i+1),fun σ' h p'=>⟨xs.length-(i+1),by lia,rfl,t,p'⟩,fun x h y=>?_⟩;obtain⟨e,y⟩:=y;subst e;exact s i x σ _ (y xs q) p
 .have e:i=xs.length:=by lia
  subst e;exact .inl ⟨⟨xs,q,bD _⟩,hd σ H p⟩
def cI{lo:Int}{n:Nat}{g:TG}{T:TS}{D:Ends}{σ:St}{H:Hp}(Pv:Nat->St->Hp->Prop)(d:Pv 0 σ H)
  (s:∀ i σ H,i<n->Pv i σ H->g (.int (lo+i)) σ H fun σ2 a=>T { D with nx:=Pv (i+1),ct:=Pv (i+1),bk:=D.nx } σ2 a) (hd:∀ σ H,Pv n σ H->D.nx σ H) :
  ∃ W:Nat->Nat->St->Hp->Prop,(∃ m,W 0 m σ H)/\∀ i m σ H,W i m σ H →
   ((Itr lo n).stop i H/\D.nx σ H)∨((Itr lo n).go i H/\∃ N:St->Hp->Prop,(∀ σ' h,N σ' h->∃ m',m'<m/\W (i+1) m' σ' h)/\∀ x h,(Itr lo n).Xy i H x h->g x σ h fun σ2 a=>T { D with nx:=N,ct:=N,bk:=D.nx } σ2 a):=by
 refine⟨fun i m σ H=>m=n-i/\i<=n/\Pv i σ H,⟨n,by simp,Nat.zero_le _,d⟩,?_⟩;rintro i m σ H ⟨rfl,_,p⟩
 by_cases t:i<n
 .refine .inr ⟨t,Pv (i+1),fun σ' h p'=>⟨n-(i+1),by lia,rfl,t,p'⟩,fun x h y=>?_⟩;obtain⟨e,y⟩:=y;subst e y;exact s i σ _ t p
 .have e:i=n:=by lia
  subst e;exact .inl ⟨bD _,hd σ H p⟩
abbrev R2:=V->V->Hp->VK->Prop
def lJ(X:Cx)(f:av->av->Sem av)(r:R2):Prop:=
 ∀(p:aw (ar×Obj))(s:ae)(σ:St)(H:Hp)(x y:V)(v u:av)(Q:VK),Inv X p σ H s->RelV x v->RelV y u->r x y H Q →
  wpAny (model X.prog X.w) X.A (f v u) (EP X p σ Q) X.xe s
def UnR(X:Cx)(f:av->Sem av)(r:V->Hp->VK->Prop):Prop:=
 ∀(p:aw (ar×Obj))(s:ae)(σ:St)(H:Hp)(x:V)(v:av)(Q:VK),Inv X p σ H s->RelV x v->r x H Q →
  wpAny (model X.prog X.w) X.A (f v) (EP X p σ Q) X.xe s
def ir(X:Cx)(f:av)(r:aw V->Hp->VK->Prop):Prop:=
 ∀(p:aw (ar×Obj))(s:ae)(σ:St)(H:Hp)(xs:aw V)(us:aw av)(Q:VK),Inv X p σ H s->Vals xs us->r xs H Q →
  wpAny (model X.prog X.w) X.A (call f us) (EP X p σ Q) X.xe s
def tOp(r:R2)(t T:TE):TE:=fun σ H Q=>t σ H fun x h=>T σ h fun y a=>r x y a Q
def tUn(r:V->Hp->VK->Prop)(t:TE):TE:=fun σ H Q=>t σ H fun x h=>r x h Q
def rI(C:Int->Int->Prop)(g:Int->Int->V):R2:=fun x y H Q => ∃ i j,x = .int i/\y = .int j/\C i j/\Q (g i j) H
def Le(g:Int->Int->V):R2:=fun x y H Q => ∃ i j,x = .int i/\y = .int j/\Q (g i j) H
def rU(g:Int->V):V->Hp->VK->Prop:=fun x H Q => ∃ i,x = .int i/\Q (g i) H
section
variable{X:Cx}{a b c:Expr}{ta tb tc:TE}{pos:Pos}
def qD9(k:PE X a ta)(l:PE X b tb){p:aw (ar×Obj)}{s:ae}{σ:St}{H:Hp}{R:V->V->Hp->Prop}(I:Inv X p σ H s)
  (h:ta σ H fun x g=>tb σ g fun y c=>R x y c) {Q:av->ae->Prop} {f:av->av->Sem av}
  (t:∀ v u e x y c,Inv X p σ c e->RelV x v->RelV y u->R x y c->wpAny (model X.prog X.w) X.A (f v u) Q X.xe e) :
  wpAny (model X.prog X.w) X.A (eval a X.env) (fun v S=>wpAny (model X.prog X.w) X.A (eval b X.env) (fun u d=>wpAny (model X.prog X.w) X.A (f v u) Q X.xe d) X.xe S) X.xe s:=by refine bH (k p s σ H _ I h) fun v i ⟨x,g,m,j,q⟩=>?_;refine bH (l p i σ g _ m q) fun u e ⟨y,c,n,r,o⟩=>?_;exact t v u e x y c n j r o
def yD{o:Operator}{r:R2}(g:lJ X (binaryOp o) r)(d:PE X a ta)(e:PE X b tb):PE X (.BinOp a o b pos) (tOp r ta tb):=by intro p s σ H Q I h;exact wpAny_BinOp (qD9 d e I h fun v u S x y f i R c q=>g p S σ f x y v u Q i R c q)
def Ay(q:UnR X (unaryOp op) r)(d:PE X a ta):PE X (.UnaryOp op a pos) (tUn r ta):=by intro p s σ H Q I h;exact UnaryOp_ (bH (d p s σ H _ I h) fun v S ⟨x,b,i,R,f⟩=>q p S σ b x v Q i R f)
def opI{f:av->av->Sem av}{C:Int->Int->Prop}{g:Int->Int->Int}
  (rule:∀(i j:Int)(t u:Tok)(s:ae)(Q E:av->ae->Prop),C i j->Q (.int (g i j) s.toks) { s with toks:=s.toks+1 }->wpAny (model X.prog X.w) X.A (f (.int i t) (.int j u)) Q E s) :
  lJ X f (rI C fun i j=>.int (g i j)):=by intro _ s σ H x y v u Q I R r h;obtain⟨i,j,rfl,rfl,c,q⟩:=h;obtain⟨t,rfl⟩:=R;obtain⟨t',rfl⟩:=r;exact rule i j t t' s _ _ c ⟨.int (g i j),H,I.tok _,⟨_,rfl⟩,q⟩
def qC0{f:av->av->Sem av}{g:Int->Int->Int}
  (rule:∀(i j:Int)(t u:Tok)(s:ae)(Q E:av->ae->Prop),Q (.int (g i j) s.toks) { s with toks:=s.toks+1 }->wpAny (model X.prog X.w) X.A (f (.int i t) (.int j u)) Q E s) :
  lJ X f (Le fun i j=>.int (g i j)):=by intro _ s σ H x y v u Q I R c h;obtain⟨i,j,rfl,rfl,q⟩:=h;obtain⟨t,rfl⟩:=R;obtain⟨t',rfl⟩:=c;exact rule i j t t' s _ _ ⟨.int (g i j),H,I.tok _,⟨_,rfl⟩,q⟩
def Ys{f:av->av->Sem av}{g:Int->Int->Bool}
  (rule:∀(i j:Int)(t u:Tok)(s:ae)(Q E:av->ae->Prop),Q (.bool (g i j)) s->wpAny (model X.prog X.w) X.A (f (.int i t) (.int j u)) Q E s) :
  lJ X f (Le fun i j=>.bl (g i j)):=by intro _ s σ H x y v u Q I R c h;obtain⟨i,j,rfl,rfl,q⟩:=h;obtain⟨t,rfl⟩:=R;obtain⟨t',rfl⟩:=c;exact rule i j t t' s _ _ ⟨.bl (g i j),H,I,rfl,q⟩
def qM2(i j:Int):Prop:=0<j/\j<1073741824
def qM1(i j:Int):Prop:=0<=j/\j<=1000000/\i.natAbs<2 ^ 64
def qA8(i j:Int):Prop:=(-(2 ^ 64)<i/\i<2 ^ 64)∨(-(2 ^ 64)<j/\j<2 ^ 64)
def qA8.ok(h:qA8 i j):IntMulOk i j:=by
 rcases h with ⟨H,l⟩ | ⟨H,l⟩
 .exact .of_left (intBits_le_64 H l)
 .exact .of_right (intBits_le_64 H l)
def Kg(k:Nat):(0:Int)<=2 ^ k:=by rw[two_pow_cast];exact fb _
def yG:lJ X (binaryOp .Add) (Le fun i j=>.int (i+j)):=qC0 fun _ _ _ _ _ _ _ q=>add_int q
def lF:lJ X (binaryOp .Sub) (Le fun i j=>.int (i-j)):=qC0 fun _ _ _ _ _ _ _ q=>sub_int q
def iB:lJ X (binaryOp .Mult) (rI qA8 fun i j=>.int (i*j)):=opI fun _ _ _ _ _ _ _ f q=>mul_int q f.ok
def yM:lJ X (binaryOp .FloorDiv) (rI qM2 fun i j=>.int (i/j)):=opI fun i j _ _ _ _ _ f q=>by
 have H:(0:Int)<j:=f.1;have l:j<1073741824:=f.2;exact floordiv_int (by lia) (by rw[eW i (by lia)];exact q) (.inl (PyProof.noPylong_small (by lia)))
def zZ:lJ X (binaryOp .Mod) (rI (fun _ j=>0<j) fun i j=>.int (i%j)):=opI fun i j _ _ _ _ _ f q=>by
 have H:(0:Int)<j:=f;exact mod_int' (by lia) (by rw[Int.fmod_eq_emod_of_nonneg i (by lia)];exact q)
def GP:lJ X (binaryOp .Pow) (rI qM1 fun i j=>.int (i ^ j.toNat)):=opI fun _ _ _ _ _ _ _ f q=>pow_int_small f.1 f.2.1 f.2.2 q
def qBZ:lJ X (binaryOp .RShift) (rI (fun _ j=>0<=j) fun i j=>.int (i/2 ^ j.toNat)):=opI fun i j _ _ _ _ _ f q=>
 rshift_int f (by rw[eW i (Kg _)];exact q)
def Up:lJ X (binaryOp .BitAnd) (Le fun i j=>.int (Builtin.bitAnd i j)):=qC0 fun _ _ _ _ _ _ _ q=>and_int q
def unI{f:av->Sem av}{g:Int->Int}
  (rule:∀(i:Int)(t:Tok)(s:ae)(Q E:av->ae->Prop),Q (.int (g i) s.toks) { s with toks:=s.toks+1 }->wpAny (model X.prog X.w) X.A (f (.int i t)) Q E s) :
  UnR X f (rU fun i=>.int (g i)):=by intro _ s σ H x v Q I R h;obtain⟨i,rfl,q⟩:=h;obtain⟨t,rfl⟩:=R;exact rule i t s _ _ ⟨.int (g i),H,I.tok _,⟨_,rfl⟩,q⟩
def rH:UnR X (unaryOp .USub) (rU fun i=>.int (-i)):=unI fun _ _ _ _ _ q=>neg_int q
noncomputable def qED:V->V->Bool
 | .non,.non=>true | .non,.int _=>true | .int _,.non=>true | .non,.bl _=>true | .bl _,.non=>true | .non,.str _=>true | .str _,.non=>true
 | .int _,.int _=>true | .bl _,.bl _=>true | .str _,.str _=>true | .Sv _,.Sv _=>true
 | .int _,.str _=>true | .str _,.int _=>true | .bl _,.str _=>true | .str _,.bl _=>true
 | _,_=>false
def rEq:R2:=fun x y H Q=>qED x y=true/\Q (.bl (decide (x=y))) H
def rNe:R2:=fun x y H Q=>qED x y=true/\Q (.bl (!decide (x=y))) H
def PX:decide (V.int i=V.int j)=(i==j):=by rw[eK];simp
def Wu:decide (V.bl i=V.bl j)=(i==j):=by rw[eK];simp
def PQ:decide (V.str i=V.str j)=(i==j):=by rw[eK];simp
def Pa:decide (V.Sv i=V.Sv j)=(i.toList==j.toList):=by
 rw[eK]
 cases i
 cases j
 simp
def au(I:Inv X pins σ H s)(q:Q (.bl k) H)(e:k=k'):EP X pins σ Q (.bool k') s:=by subst e;exact⟨.bl k,H,I,rfl,q⟩
theorem yH:lJ X (compareOp .Eq) rEq:=by
 intro _ s σ H x y v u Q I R c h;obtain⟨a,q⟩:=h
 cases x with
 | non=>
  cases R
  cases y with
  | non=>cases c;exact PySem.EqNone.eq_none_none (au I q (by simp))
  | bl j=>cases c;exact PySem.EqNone.eq_none_bool (au I q (by simp))
  | int j=>obtain⟨t',rfl⟩:=c;exact PySem.EqNone.eq_none_int (au I q (by simp))
  | str j=>obtain⟨t',rfl⟩:=c;exact PySem.EqNone.eq_none_str (au I q (by simp))
  | _=>exact eu (show false=true from a) rA
 | bl i=>
  cases R
  cases y with
  | non=>cases c;exact PySem.EqNone.eq_bool_none (au I q (by simp))
  | bl j=>cases c;exact eq_bool (au I q Wu)
  | str j=>obtain⟨t',rfl⟩:=c;exact PySem.EqMixed.eq_bool_str (au I q (by simp))
  | _=>exact eu (show false=true from a) rA
 | int i=>
  obtain⟨t,rfl⟩:=R
  cases y with
  | non=>cases c;exact PySem.EqNone.eq_int_none (au I q (by simp))
  | int j=>obtain⟨t',rfl⟩:=c;exact eq_int (au I q PX)
  | str j=>obtain⟨t',rfl⟩:=c;exact PySem.EqMixed.eq_int_str (au I q (by simp))
  | _=>exact eu (show false=true from a) rA
 | str i=>
  obtain⟨t,rfl⟩:=R
  cases y with
  | non=>cases c;exact PySem.EqNone.eq_str_none (au I q (by simp))
  | bl j=>cases c;exact PySem.EqMixed.eq_str_bool (au I q (by simp))
  | int j=>obtain⟨t',rfl⟩:=c;exact PySem.EqMixed.eq_str_int (au I q (by simp))
  | str j=>obtain⟨t',rfl⟩:=c;exact eq_str (au I q PQ)
  | _=>exact eu (show false=true from a) rA
 | Sv i=>
  obtain⟨t,rfl⟩:=R
  cases y with
  | Sv j=>obtain⟨t',rfl⟩:=c;exact PySem.W.eq_bytes (au I q Pa)
  | _=>exact eu (show false=true from a) rA
 | _=>cases y <;> exact eu (show false=true from a) rA
theorem pN:lJ X (compareOp .NotEq) rNe:=by
 intro _ s σ H x y v u Q I R c h;obtain⟨a,q⟩:=h
 cases x with
 | non=>
  cases R
  cases y with
  | non=>cases c;exact PySem.EqNone.ne_none_none (au I q (by simp))
  | bl j=>cases c;exact PySem.EqNone.ne_none_bool (au I q (by simp))
  | int j=>obtain⟨t',rfl⟩:=c;exact PySem.EqNone.ne_none_int (au I q (by simp))
  | str j=>obtain⟨t',rfl⟩:=c;exact PySem.EqNone.ne_none_str (au I q (by simp))
  | _=>exact eu (show false=true from a) rA
 | bl i=>
  cases R
  cases y with
  | non=>cases c;exact PySem.EqNone.ne_bool_none (au I q (by simp))
  | bl j=>cases c;exact ne_bool (au I q (congrArg not Wu))
  | str j=>obtain⟨t',rfl⟩:=c;exact PySem.EqMixed.ne_bool_str (au I q (by simp))
  | _=>exact eu (show false=true from a) rA
 | int i=>
  obtain⟨t,rfl⟩:=R
  cases y with
  | non=>cases c;exact PySem.EqNone.ne_int_none (au I q (by simp))
  | int j=>obtain⟨t',rfl⟩:=c;exact ne_int (au I q (congrArg not PX))
  | str j=>obtain⟨t',rfl⟩:=c;exact PySem.EqMixed.ne_int_str (au I q (by simp))
  | _=>exact eu (show false=true from a) rA
 | str i=>
  obtain⟨t,rfl⟩:=R
  cases y with
  | non=>cases c;exact PySem.EqNone.ne_str_none (au I q (by simp))
  | bl j=>cases c;exact PySem.EqMixed.ne_str_bool (au I q (by simp))
  | int j=>obtain⟨t',rfl⟩:=c;exact PySem.EqMixed.ne_str_int (au I q (by simp))
  | str j=>obtain⟨t',rfl⟩:=c;exact ne_str (au I q (congrArg not PQ))
  | _=>exact eu (show false=true from a) rA
 | Sv i=>
  obtain⟨t,rfl⟩:=R
  cases y with
  | Sv j=>obtain⟨t',rfl⟩:=c;exact PySem.W.ne_bytes (au I q (congrArg not Pa))
  | _=>exact eu (show false=true from a) rA
 | _=>cases y <;> exact eu (show false=true from a) rA
def mH:lJ X (compareOp .Lt) (Le fun i j=>.bl (decide (i<j))):=Ys fun _ _ _ _ _ _ _ q=>lt_int q
def fJ:lJ X (compareOp .LtE) (Le fun i j=>.bl (decide (i<=j))):=Ys fun _ _ _ _ _ _ _ q=>le_int q
def cY:lJ X (compareOp .Gt) (Le fun i j=>.bl (decide (j<i))):=Ys fun _ _ _ _ _ _ _ q=>gt_int q
def qEX:lJ X (compareOp .GtE) (Le fun i j=>.bl (decide (j<=i))):=Ys fun _ _ _ _ _ _ _ q=>ge_int q
def Qe:lJ X (compareOp .In) (fun x y H Q => ∃ i j,x = .str i/\y = .str j/\Q (.bl (!(Builtin.Str.occurrences j i 0 j.length 1).isEmpty)) H):=by intro _ s σ H x y v u Q I R c h;obtain⟨i,j,rfl,rfl,q⟩:=h;obtain⟨t,rfl⟩:=R;obtain⟨_,rfl⟩:=c;exact in_str (au I q rfl)
theorem Li:lJ X (compareOp .Is) (fun x y H Q=>y = .non/\Q (.bl (decide (x = .non))) H):=by
 intro _ s σ H x y v u Q I R c h;obtain⟨rfl,q⟩:=h
 cases c
 refine is_none_gen (au I q ?_)
 cases x <;> first
  | (cases R;rfl)
  | (obtain⟨t,rfl⟩:=R;rfl)
theorem GQ:lJ X (compareOp .IsNot) (fun x y H Q=>y = .non/\Q (.bl (!decide (x = .non))) H):=by
 intro _ s σ H x y v u Q I R c h;obtain⟨rfl,q⟩:=h
 cases c
 refine isnot_none_gen (au I q ?_)
 cases x <;> first
  | (cases R;rfl)
  | (obtain⟨t,rfl⟩:=R;rfl)
def lJ.or(h:lJ X f r)(h':lJ X f r'):lJ X f (fun x y H Q=>r x y H Q∨r' x y H Q):=by
 intro p s σ H x y v u Q I R c q;rcases q with q | q
 .exact h p s σ H x y v u Q I R c q
 .exact h' p s σ H x y v u Q I R c q
def zS(b:Expr)(h:op≠.In:=by decide)(l:op≠.NotIn:=by decide):behindInMarks op b=false:=by
 have a:(op==CmpOp.In)=false:=by cases op <;> first | rfl | exact eu rfl h
 have E:(op==CmpOp.NotIn)=false:=by cases op <;> first | rfl | exact eu rfl l
 cases b <;> simp [behindInMarks,a,E]
def bK{o:CmpOp}{r:R2}(g:lJ X (compareOp o) r)(d:PE X a ta)(e:PE X b tb)(m:behindInMarks o b=false):PE X (.Compare a [o] [b] pos) (tOp r ta tb):=by intro p s σ H Q I h;exact wpAny_Compare1 (qD9 d e I h fun v u S x y f i R c q=>g p S σ f x y v u Q i R c q) m
def qAA(t:TE):TT:=fun σ H Q=>t σ H fun x h=>isB x h Q
def zM(o:lJ X (compareOp op) r)(l:PE X a ta)(n:PE X b tb)(C:behindInMarks op b=false):PT X (.Compare a [op] [b] pos) (qAA (tOp r ta tb)):=by
 intro p s σ H Q I h
 refine wpAny_isTrue_Compare1 (bH (l p s σ H _ I h) fun v S ⟨x,f,A,g,B⟩=>bH (n p S σ f _ A B) fun u m ⟨y,D,i,R,q⟩=>
  bH (o p m σ D x y v u _ i g R q) fun c _ ⟨z,t,j,d,k,e,w⟩=>?_) C
 subst e
 cases d
 exact wpAny_truthy_bool ⟨t,j,w⟩
def qBE(r R:R2)(ta tb tc:TE):TE:=fun σ H Q=>ta σ H fun x b=>tb σ b fun y c=>r x y c fun z h => ∃ k,z = .bl k ∧
 (if k=true then tc σ h fun W a=>R y W a Q else Q (.bl false) h)
theorem Ug(E:lJ X (compareOp O) r)(f:lJ X (compareOp o) J)(F:PE X a ta)(L:PE X b tb)(D:PE X c tc)
  (P:lastMarks [O,o] [b,c]=false:=by with_unfolding_all rfl):PE X (.Compare a [O,o] [b,c] pos) (qBE r J ta tb tc):=by
 intro p s σ H Q I h
 refine Compare_chain (bH (F p s σ H _ I h) fun v S ⟨x,w,M,B,N⟩=>chain_link (bH (L p S σ w _ M N) fun u G ⟨y,U,t,R,A⟩=>
  bH (E p G σ U x y v u _ t B R A) fun d Y ⟨z,i,g,l,k,e,m⟩=>?_)) P
 subst e
 cases l
 refine wpAny_truthy_bool ?_
 cases k with
 | false=>exact ite_ff ⟨.bl false,i,g,rfl,m⟩
 | true=>exact ite_tt (chain_last (bH (D p Y σ i _ g m) fun W q ⟨Z,C,n,j,T⟩=>f p q σ C y Z u W Q n R j T))
def vh:(sizeLine:Nat)<2 ^ 63:=by rw[sizeLine_eq];decide
def BP:lJ X (binaryOp .Add) (fun x y H Q => ∃ i j,x = .str i/\y = .str j/\i.length+j.length<=sizeLine/\Q (.str (i++j)) H):=by intro _ s σ H x y v u Q I R c h;obtain⟨i,j,rfl,rfl,z,q⟩:=h;obtain⟨t,rfl⟩:=R;obtain⟨t',rfl⟩:=c;exact add_str (fun t' _=>⟨.str (i++j),H,I.tok _,⟨_,rfl⟩,q⟩) z
theorem vals1(r:Vals [x] us):∃ u,us=[u]/\RelV x u:=by
 cases r with
 | cons a R=>cases R;exact⟨_,rfl,a⟩
theorem vals2(r:Vals [x,y] us):∃ u W,us=[u,W]/\RelV x u/\RelV y W:=by
 cases r with
 | cons a R=>
  cases R with
  | cons d j=>cases j;exact⟨_,_,rfl,a,d⟩
def Rq(f:X.calm=true):ir X (.builtin "max") (fun xs H Q => ∃ i j,xs=[.int i,.int j]/\Q (.int (if j>i then j else i)) H):=by
 intro _ s σ H xs _ Q I r h;obtain⟨i,j,rfl,q⟩:=h;obtain⟨u,_,rfl,⟨t,rfl⟩,⟨_,rfl⟩⟩:=vals2 r;refine max_two_ints (I.ok.hd f) fun _ _ k=>⟨_,H,I.kept k,?_,q⟩
 by_cases G:j>i
 .rw[cS G,cS G];exact⟨_,rfl⟩
 .rw[cK G,cK G];exact⟨_,rfl⟩
def Ep(f:X.calm=true):ir X (.builtin "min") (fun xs H Q => ∃ i j,xs=[.int i,.int j]/\Q (.int (if j<i then j else i)) H):=by
 intro _ s σ H xs _ Q I r h;obtain⟨i,j,rfl,q⟩:=h;obtain⟨u,_,rfl,⟨t,rfl⟩,⟨_,rfl⟩⟩:=vals2 r;refine min_two_ints (I.ok.hd f) fun _ _ k=>⟨_,H,I.kept k,?_,q⟩
 by_cases G:j<i
 .rw[cS G,cS G];exact⟨_,rfl⟩
 .rw[cK G,cK G];exact⟨_,rfl⟩
def Er:ir X (.type "int") (fun xs H Q=>(∃ i,xs=[.int i]/\Q (.int i) H) ∨ ∃ k,xs=[.bl k]/\Q (.int (if k then 1 else 0)) H):=by
 intro _ s σ H xs _ Q I r h;rcases h with ⟨i,rfl,q⟩ | ⟨k,rfl,q⟩
 .obtain⟨u,rfl,t,rfl⟩:=vals1 r;exact call_int_int ⟨.int i,H,I,⟨_,rfl⟩,q⟩
 .obtain⟨u,rfl,R⟩:=vals1 r
  cases R
  exact call_int_bool ⟨.int (if k then 1 else 0),H,I.tok _,⟨_,rfl⟩,q⟩
end
structure Mz(h:Heap)(x dx C:Addr)(mA:Str->Option Value):Prop where
 obj:h.get? x=some (PySem.W.instObj C dx)
 ns:h.Ns1 dx mA
 ne:dx≠x
def Ef{h:Heap}{d:ar}{m:Str->aE av}(n:h.Ns1 d m):∃ od,h.get? d=some od/\∀ name,PySem.W.lookIn name od=some (m name):=by
 obtain⟨o,E,_,b,hd,k,_,c⟩:=n;refine⟨o,b,fun name=>?_⟩;have e:=c name;unfold nsFind findBy at e;rw[<-Array.find?_toList]at e;unfold PySem.W.lookIn;rw[hd]
 dsimp only
 split
 .rename_i y q
  rw[q]at e;exact congrArg some e
 .rename_i q
  rw[q]at e
  have a:E.toList.any (·.refKey)=false:=by
   rw[List.any_eq_false];intro y N;obtain⟨z,t,H⟩:=k y (Array.mem_toList_iff.mp N);simp [DictEntry.refKey,H]
  have A:¬ E.toList.any (·.refKey)=true:=by rw[a];exact rA
  rw[cK A];exact congrArg some e
def Mz.look(I:Mz h x dx C mA):∃ od,PySem.W.InstAt h x (PySem.W.instObj C dx) C (some od)/\∀ name,PySem.W.lookIn name od=some (mA name):=
 let ⟨od,q,a⟩:=Ef I.ns
 ⟨od,⟨I.obj,rfl,rfl,q⟩,a⟩
section
variable{prog:ag}{w:aI}{A:ai}{E:av->ae->Prop}{s:ae}{K:bV}{x dx C f:ar}{mA:Str->aE av}{name:Str}{v:av}
def get_map(X:K.In s.heap)(I:Mz s.heap x dx C mA)(j:PySem.W.plainGet K C name=true)(b:PySem.W.hasDictIn K C=true)
  (d:PySem.W.findIn K (.ref C) name=some none) (c:mA name=some v) (H:PySem.W.handedIn v=true) (h:Q v { s with toks:=s.toks+1 }) :
  wpAny (model prog w) A (getAttr (.ref x) name expr) Q E s:=by obtain⟨_,J,a⟩:=I.look;exact PySem.W.get_value X J (PySem.W.plainGet_of j).1 (PySem.W.findObj_own b d rfl (by rw[a,c])) H h
def WL(X:K.In s.heap)(I:Mz s.heap x dx C mA)(j:PySem.W.plainGet K C name=true)
  (b:PySem.W.findIn K (.ref C) name=some (some (.ref f))) (ht:PySem.W.isFn K (.ref f)=true) (H:mA name=none) (h:Q (.ref f,[.ref x]) s) :
  wpAny (model prog w) A (getMethod (.ref x) name pl) Q E s:=by obtain⟨od,J,a⟩:=I.look;exact PySem.W.method_fn X J (PySem.W.plainGet_of j).1 (PySem.W.plainGet_of j).2 b (beq_iff_eq.mp ht) (by show (PySem.W.lookIn name od).map (·.isSome)=some false;rw[a,H];rfl) h
def YH(X:K.In s.heap)(I:Mz s.heap x dx C mA)
  (l:PySem.W.findIn K (.ref C) "__setattr__" = some (some (.builtin "object.__setattr__"))) (p:PySem.W.plainOver K C=true) (ht:PySem.W.takerIn K C name=some none) (i:PySem.W.hasDictIn K C=true)
  (j:PySem.Within mA ns) (hsz:ns.length<=sizeLine)
  (h:∀ h',Mz h' x dx C (fun y=>if y=name then some v else mA y)->Heap.SameBut dx s.heap h'->Q () { s with heap:=h',toks:=s.toks+2 }) :
  wpAny (model prog w) A (setAttr (.ref x) name v) Q E s:=by obtain⟨_,J,_⟩:=I.look;refine PySem.W.set_plain X J l (PySem.W.osa_open (s:={ s with toks:=s.toks+1 }) (r:=none) X J p ht fun b=>?_);obtain⟨_,k,d⟩:=PySem.W.any_some i;have g:s.heap.get? x=some ⟨.ref C,some dx,.plain,#[]⟩:=I.obj;refine aS (aT (aS (aS (wpAny_loadPart g (aS (PySem.W.Looks.here (s:={ s with toks:=s.toks+1 }) (PySem.W.looks_clsIn X k) ?_))))));rw[d];refine aT (a:=some dx) (aS (aT (aS ?_)));refine wpAny_nsSet1 (s:={ s with toks:=s.toks+1 }) I.ns fun h' H c=>?_;obtain⟨_,_,_,f,D,e⟩:=H.count (PySem.Within.cons name v j);refine aS (wpAny_lookBehind f (by rw[D];exact pastItsLine_dict (br e (by rw[dG];lia))) ?_);exact aT (h _ ⟨(c.2 _ (bE I.ne)).trans I.obj,H,I.ne⟩ c)
def Vf(X:K.In s.heap)(c:PySem.W.makesIn K C=true)
  (i:PySem.W.findIn K (.ref C) "__init__" = some (some (.ref f))) (H:PySem.W.typeIn K (.ref f)=some (.type "function"))
  (h:codeAny (model prog w) (A.under (.builtin "type.__call__" ⟨.ref C::vs,kw⟩)) (.call (.ref f) ⟨.ref (s.heap.objs.size+1)::vs,kw⟩) (PySem.W.InitBack (s.heap.objs.size+1) R)
   { s with heap:=(s.heap.push PySem.W.emptyDict).push (PySem.W.instObj C s.heap.objs.size) }) :
  codeAny (model prog w) A (.call (.ref C) ⟨vs,kw⟩) R s:=by obtain⟨_,g,d,t,_⟩:=s;exact PySem.W.make_core (PySem.W.makes_of X c) (PySem.W.looks_findIn X i) (fun S=>PySem.W.bind_fn X S H) (.inl rfl) h
end
noncomputable def cP(f:Str)(v:V):aw (Str×V)->aw (Str×V)
 | []=>[(f,v)]
 | (g,x)::r=>if g=f then (g,v)::r else (g,x)::cP f v r
theorem aV(f g:Str)(v:V):∀ fs:aw (Str×V),(cP f v fs).lookup g=if g=f then some v else fs.lookup g
 | []=>by
  show List.lookup g [(f,v)]=_
  by_cases h:g=f
  .have c:(g==f)=true:=beq_iff_eq.mpr h;simp only[List.lookup,c,if_pos h]
  .have c:(g==f)=false:=dQ.mpr h;simp only[List.lookup,c,if_neg h]
 | (k,x)::r=>by
  have i:=aV f g v r;rw[show cP f v ((k,x)::r)=(if k=f then (k,v)::r else (k,x)::cP f v r) from rfl]
  by_cases H:k=f
  .rw[cS H]
   by_cases h:g=k
   .have c:(g==k)=true:=beq_iff_eq.mpr h;simp only[List.lookup,c,if_pos (h.trans H)]
   .have c:(g==k)=false:=dQ.mpr h;simp only[List.lookup,c,if_neg (fun e:g=f=>h (e.trans H.symm))]
  .rw[cK H]
   by_cases h:g=k
   .have c:(g==k)=true:=beq_iff_eq.mpr h;simp only[List.lookup,c,if_neg (fun e:g=f=>H (h.symm.trans e))]
   .have c:(g==k)=false:=dQ.mpr h;simp only[List.lookup,c];exact i
theorem vm(f:Str)(v:V):∀ fs:aw (Str×V),f∈(cP f v fs).map (·.1)/\∀ g,g∈fs.map (·.1)->g∈(cP f v fs).map (·.1)
 | []=>⟨by simp [cP],fun g h=>by simp at h⟩
 | (k,x)::r=>by
  obtain⟨I,i⟩:=vm f v r;rw[show cP f v ((k,x)::r)=(if k=f then (k,v)::r else (k,x)::cP f v r) from rfl]
  by_cases H:k=f
  .rw[cS H];subst H;exact⟨by simp,fun g h=>by simpa using h⟩
  .rw[cK H];refine⟨?_,fun g h=>?_⟩
   .rw[bt];exact Hr _ I
   .rw[bt]at h ⊢;rcases dD.mp h with e | e
    .exact dD.mpr (.inl e)
    .exact Hr _ (i g e)
theorem xF(f:Str)(v:V):∀ fs:aw (Str×V),(cP f v fs).length<=fs.length+1
 | []=>by simp [cP]
 | (k,x)::r=>by
  have i:=xF f v r;rw[show cP f v ((k,x)::r)=(if k=f then (k,v)::r else (k,x)::cP f v r) from rfl]
  by_cases h:k=f
  .rw[cS h,dG,dG];lia
  .rw[cK h,dG,dG];lia
theorem oH.some_of(r:oH (some v) o):∃ u,o=some u/\RelV v u:=by
 cases o with
 | none=>exact (show False from r).elim
 | some u=>exact⟨u,rfl,r⟩
theorem oH.none_of(r:oH none o):o=none:=by
 cases o with
 | none=>rfl
 | some u=>exact (show False from r).elim
theorem El(r:RelV v u):PySem.W.handedIn u=true:=by
 cases v with
 | non=>cases (show u=Value.none from r);rfl
 | bl b=>cases (show u=Value.bool b from r);rfl
 | int i=>obtain⟨t,e⟩:=(show ∃ t,u=Value.int i t from r);cases e;rfl
 | str x=>obtain⟨t,e⟩:=(show ∃ t,u=Value.str x t from r);cases e;rfl
 | Sv b=>obtain⟨t,e⟩:=(show ∃ t,u=Value.bytes b t from r);cases e;rfl
 | flt b=>obtain⟨t,e⟩:=(show ∃ t,u=Value.float b t from r);cases e;rfl
 | ref a=>cases (show u=Value.ref a from r);rfl
 | ty n=>cases (show u=Value.type n from r);rfl
section
variable{P:ag}{w:aI}{H H':Hp}{h h':Heap}{a C dx:ar}{fs fs':aw (Str×V)}
def yq(hok:lM P w H h)(e:H a=some (.ins C dx fs)):∃ m,Mz h a dx C m/\(∀ f,oH (fs.lookup f) (m f))/\PySem.Within m (fs.map (·.1))/\fs.length<=1000/\H dx=some (.own a):=by obtain⟨d,z,ne,O,m,n,r,q⟩:=(show bM P w H h a (.ins C dx fs) from hok a _ e);exact⟨m,⟨O,n,ne⟩,r,q,z,d⟩
end
structure vC(K:bV)(C:Addr):Prop where
 pg:PySem.W.plainGet K C Str.empty=true
 hd:PySem.W.hasDictIn K C=true
 po:PySem.W.plainOver K C=true
 sa:PySem.W.findIn K (.ref C) "__setattr__" = some (some (.builtin "object.__setattr__"))
def vC.get{K:bV}{C:ar}(c:vC K C)(f:Str):PySem.W.plainGet K C f=true:=c.pg
def cA(K:bV)(C:ar)(f:Str):Prop:=PySem.W.findIn K (.ref C) f=some none
def cA.taker{K:bV}{C:ar}{f:Str}(n:cA K C f):PySem.W.takerIn K C f=some none:=by unfold PySem.W.takerIn;rw[show PySem.W.findIn K (.ref C) f=some none from n];rfl
structure Con(K:bV)(C:Addr)(f:Str)(v:V)(u:Value):Prop where
 at_:PySem.W.findIn K (.ref C) f=some (some u)
 rel:RelV v u
 get:PySem.W.specialIn K u "__get__" = some none
 cp:PySem.W.copiedNames.contains f=false
structure Meth(K:bV)(C:Addr)(m:Str)(f:Addr):Prop where
 at_:PySem.W.findIn K (.ref C) m=some (some (.ref f))
 fn:PySem.W.isFn K (.ref f)=true
 kp:KI K f
section
variable{X:Cx}{pins:aw (ar×Obj)}{σ:St}{H:Hp}{s:ae}{a C dx:ar}{fs:aw (Str×V)}{f:Str}{v:V}{A:ai}{E:av->ae->Prop}
def Mg(I:Inv X pins σ H s)(e:H a=some (.ins C dx fs))(c:vC X.K C)(n:cA X.K C f)(l:fs.lookup f=some v)
  (h:∀ u s',Inv X pins σ H s'->RelV v u->Q u s'):wpAny (model X.prog X.w) A (getAttr (.ref a) f b) Q E s:=by obtain⟨m,O,r,_,_,_⟩:=yq I.hok e;obtain⟨u,d,M⟩:=oH.some_of (v:=v) (o:=m f) (by rw[<-l];exact r f);exact get_map I.mQ O (c.get f) c.hd n d (El M) (h u _ (I.tok _) M)
def rZ(I:Inv X pins σ H s)(e:H a=some (.ins C dx fs))(c:vC X.K C)(k:Meth X.K C m g)(l:fs.lookup m=none)
  (h:Q (.ref g,[.ref a]) s):wpAny (model X.prog X.w) A (getMethod (.ref a) m pl) Q E s:=by obtain⟨M,O,r,_,_,_⟩:=yq I.hok e;have f:M m=none:=oH.none_of (by rw[<-l];exact r m);exact WL I.mQ O (c.get m) k.at_ k.fn f h
def LC(I:Inv X pins σ H s)(e:H a=some (.ins C dx fs))(c:vC X.K C)(n:cA X.K C f)(t:fs.length<1000)(R:RelV y u)
  (h:∀ s',Inv X pins σ (upd H a (.ins C dx (cP f y fs))) s'->Q () s'):wpAny (model X.prog X.w) A (setAttr (.ref a) f u) Q E s:=by
 obtain⟨m,O,r,w,_,i⟩:=yq I.hok e
 have l:(fs.map (·.1)).length<=sizeLine:=by rw[bT,sizeLine_eq];lia
 refine YH I.mQ O c.sa c.po n.taker c.hd w l fun h' d G=>h _ ?_;have hd:∃ o,h'.get? dx=some o:=let ⟨o,_,_,j,_⟩:=d.ns;⟨o,j⟩;refine I.write (x:=a) (e:=dx) (by rw[e];exact e9) (.inr i) (fun b q k z=>(G.2 b k).trans z) hd ?_;refine⟨by rw[zR O.ne];exact i,?_,O.ne,d.obj,_,d.ns,fun g=>?_,fun g p=>?_⟩
 .have:=xF f y fs;lia
 .show oH ((cP f y fs).lookup g) (if g=f then some u else m g);rw[aV]
  by_cases q:g=f
  .rw[cS q,cS q];exact R
  .rw[cK q,cK q];exact r g
 .by_cases q:g=f
  .rw[q];exact (vm f y fs).1
  .refine (vm f y fs).2 g (w g fun z=>p ?_);show (if g=f then some u else m g)=none;rw[cK q];exact z
def Inv.made(I:Inv X pins σ H s):Inv X pins σ (upd (upd H s.heap.objs.size (.own (s.heap.objs.size+1))) (s.heap.objs.size+1) (.ins C s.heap.objs.size []))
  { s with heap:=(s.heap.push PySem.W.emptyDict).push (PySem.W.instObj C s.heap.objs.size) }:=by
 have E:(s.heap.push PySem.W.emptyDict).get? s.heap.objs.size=some PySem.W.emptyDict:=qy s.heap rfl
 have d:((s.heap.push PySem.W.emptyDict).push (PySem.W.instObj C s.heap.objs.size)).get? (s.heap.objs.size+1)=some (PySem.W.instObj C s.heap.objs.size):=by
  have:=qy (s.heap.push PySem.W.emptyDict) (o:=PySem.W.instObj C s.heap.objs.size) rfl
  rwa [eT]at this
 have c:(s.heap.push PySem.W.emptyDict).Ns s.heap.objs.size (fun _=>none):=⟨PySem.W.emptyDict,#[],_,E,rfl,(fun e h=>absurd h (by simp)),fun _=>rfl⟩;have i:=I.laid (a:=s.heap.objs.size) (o:=.own (s.heap.objs.size+1)) (h':=s.heap.push PySem.W.emptyDict) (t':=s.toks) (fun b u q=>fM _ q) (bD _) ⟨_,E⟩;refine i.laid (a:=s.heap.objs.size+1) (o:=.ins C s.heap.objs.size []) (t':=s.toks) (fun b u q=>fM _ q) (Nat.le_of_eq (eT _ _)) ?_;have ne:s.heap.objs.size≠s.heap.objs.size+1:=jQ (iF _);refine⟨by rw[zR ne,zC],bo _,ne,d,fun _=>none,(Heap.Ns1.of_empty c).at fun o q=>fM _ q,fun _=>e9,fun y N=>eu rfl N⟩
def Py(c:attributeBase e f env (eval e env)=eval e env)
  (h:wpAny (model prog w) A (eval e env) (fun o S=>wpAny (model prog w) A (getAttr o f true) Q E S) E s):wpAny (model prog w) A (eval (.Attribute e f pos) env) Q E s:=
 Attribute_any_ h (by rw[arm_eval_Attribute,c])
end
def qJT(K:bV)(t:TE)(f:Str):TE:=fun σ H Q=>t σ H fun x h => ∃ a C d fs v,x = .ref a/\h a=some (.ins C d fs)/\vC K C/\cA K C f/\fs.lookup f=some v/\Q v h
def qK2(K:bV)(t T:TE)(f:Str):TS:=fun D σ H=>T σ H fun y b=>t σ b fun x h => ∃ a C d fs,x = .ref a/\h a=some (.ins C d fs)/\vC K C/\cA K C f/\fs.length<1000 ∧
 D.nx σ (upd h a (.ins C d (cP f y fs)))
section
variable{X:Cx}{o e value:Expr}{f:Str}{pos pos' tpos:Pos}{ta tv:TE}
def gq(k:PE X e ta)(b:attributeBase e f X.env (eval e X.env)=eval e X.env):PE X (.Attribute e f pos) (qJT X.K ta f):=by intro p s σ H Q I h;refine Py b (bH (k p s σ H _ I h) fun u _ hz_=>?_);obtain⟨x,g,i,R,a,C,_,_,v,j,E,c,n,l,q⟩:=hz_;subst j;obtain rfl:u=Value.ref a:=R;exact Mg i E c n l fun _ _ d M=>⟨v,g,d,M,q⟩
def vP(d:PE X o ta)(v:PE X value tv)(k:swapsWith value (some (.Attribute o f pos')) pos.line X.env=pure false):PS X (.Assign [.Attribute o f pos'] value pos) (qK2 X.K ta tv f):=by intro p s σ H D I h;refine plainObj_wpAny_Assign_Attribute (bH (v p s σ H _ I h) fun u S ⟨y,e,i,r,q⟩=>bH (d p S σ e _ i q) fun O _ hz_=>?_) k;obtain⟨x,_,b,R,a,C,_,_,j,E,c,n,l,Q⟩:=hz_;subst j;obtain rfl:O=Value.ref a:=R;exact LC b E c n l r fun _ g=>⟨σ,_,g,Q⟩
end
section
variable{X:Cx}{pins:aw (ar×Obj)}{σ:St}{H:Hp}{s:ae}{A:ai}{E:av->ae->Prop}{Q:av->ae->Prop}{c:av}{b:Bool}
inductive wG(K:bV)(H:Hp):V->Value->Prop where
 | non:wG K H .non (.type "NoneType")
 | bl (x:Bool):wG K H (.bl x) (.type "bool")
 | int (i:Int):wG K H (.int i) (.type "int")
 | str (x:Str):wG K H (.str x) (.type "str")
 | flt (x:UInt64):wG K H (.flt x) (.type "float")
 | lst {a:Addr} {xs:List V} (e:H a=some (.lst xs)):wG K H (.ref a) (.type "list")
 | Mh {a:Addr} {o:Obj} {xs:List V} (e:H a=some (.Mh o (.lst xs))):wG K H (.ref a) (.type "list")
 | tup {a:Addr} {xs:List V} (e:H a=some (.tup xs)):wG K H (.ref a) (.type "tuple")
 | dK {a:Addr} {kvs:List (Key×V)} (e:H a=some (.dK kvs)):wG K H (.ref a) (.type "dict")
 | dT {a:Addr} {kvs:List (List Key×V)} (e:H a=some (.dT kvs)):wG K H (.ref a) (.type "dict")
 | ins {a C dx:Addr} {fs:List (Str×V)} (e:H a=some (.ins C dx fs)) (cl:vC K C) (ha:PySem.W.findIn K (.ref C) "__class__" = some (some (.builtin "object.__class__")))
   (hn:PySem.W.specialIn K (.builtin "object.__class__") "__get__" = some (some (.builtin "getset_descriptor.__get__"))) (htk:PySem.W.takesIn K (.builtin "object.__class__")=some true)
   (hm:PySem.W.mroIn K C (.type "object")=some true):wG K H (.ref a) (.ref C)
theorem RT(I:Inv X pins σ H s)(R:RelV x u)(ty:wG X.K H x t)(e:PySem.W.kitOne X.K t c=some b)(h:∀ T,Q (.bool b) { s with toks:=T }) :
  wpAny (model X.prog X.w) A (call (.builtin "isinstance") [u,c]) Q E s:=by
 cases ty with
 | non=>cases (show u=Value.none from R);exact cv PySem.W.kitx_none I.mQ e9 e (fun z=>nomatch z) h
 | bl y=>cases (show u=Value.bool y from R);exact cv PySem.W.kitx_bool I.mQ e9 e (fun z=>nomatch z) h
 | int i=>obtain⟨t,q⟩:=(show ∃ t,u=Value.int i t from R);cases q;exact cv PySem.W.kitx_int I.mQ e9 e (fun z=>nomatch z) h
 | str y=>obtain⟨t,q⟩:=(show ∃ t,u=Value.str y t from R);cases q;exact cv PySem.W.kitx_str I.mQ e9 e (fun z=>nomatch z) h
 | flt y=>obtain⟨t,q⟩:=(show ∃ t,u=Value.float y t from R);cases q;exact cv PySem.W.kitx_float I.mQ e9 e (fun z=>nomatch z) h
 | @lst a xs d=>
  cases (show u=Value.ref a from R)
  obtain⟨_,_,n,_,f⟩:=(show bM X.prog X.w H s.heap a (.lst xs) from I.hok a _ d);exact cv PySem.W.kitx_list I.mQ ⟨_,f,rfl⟩ e (fun z=>nomatch z) h
 | @Mh a w xs d=>
  cases (show u=Value.ref a from R)
  obtain⟨_,_,_,n,_,f⟩:=(show bM X.prog X.w H s.heap a (.Mh w (.lst xs)) from I.hok a _ d);exact cv PySem.W.kitx_list I.mQ ⟨_,f,rfl⟩ e (fun z=>nomatch z) h
 | @tup a xs d=>
  cases (show u=Value.ref a from R)
  obtain⟨_,_,_,p⟩:=(show bM X.prog X.w H s.heap a (.tup xs) from I.hok a _ d);obtain⟨o,f,l,_⟩:=p;exact cv PySem.W.kitx_tuple I.mQ ⟨o,f,l⟩ e (fun z=>nomatch z) h
 | @dK a k d=>
  cases (show u=Value.ref a from R)
  obtain⟨_,_,_,_,p⟩:=(show bM X.prog X.w H s.heap a (.dK k) from I.hok a _ d);obtain⟨o,r,ep,f,l,_⟩:=p;exact cv PySem.W.kitx_dict I.mQ ⟨o,f,l.1⟩ e (fun z=>nomatch z) h
 | @dT a k d=>
  cases (show u=Value.ref a from R)
  obtain⟨_,_,xs,_,o,r,ep,f,l,_⟩:=(show bM X.prog X.w H s.heap a (.dT k) from I.hok a _ d);exact cv PySem.W.kitx_dict I.mQ ⟨o,f,l.1⟩ e (fun z=>nomatch z) h
 | @ins a C D fs d j m v g B=>
  cases (show u=Value.ref a from R)
  obtain⟨_,O,_⟩:=yq I.hok d;obtain⟨_,J,_⟩:=O.look;exact cv (PySem.W.kitx_own (j.get _) j.hd m v g B) I.mQ J e (fun z=>nomatch z) h
end
structure fP(k:Nat)(A:Around):Prop where
 hd:A.handled=none
 dp:A.depth+3*k+5<recursionLimit
 un:A.units+16*k+200<cLine
def fP.mono(r:fP k A)(h:j<=k):fP j A:=⟨r.hd,by have:=r.dp;lia,by have:=r.un;lia⟩
def fP.deeper(r:fP (k+1) A)(e:Env):fP k (A.deeper e):=
 ⟨r.hd,by have:=r.dp;show A.depth+1+3*k+5<_;lia,by have:=r.un;show A.units+3+16*k+200<_;lia⟩
def MJ{A:ai}{C:ar}{us:aw av}{k:aw (Str×av)}:(A.under (.builtin "type.__call__" ⟨.ref C::us,k⟩)).depth=A.depth+1:=by first | rfl | simp [Around.under,Code.weight,Code.isCreation,Code.isGuard,Code.isCaller,Code.frames,Code.isFrame,guardIds]
def MF{A:ai}{C:ar}{us:aw av}{k:aw (Str×av)}:(A.under (.builtin "type.__call__" ⟨.ref C::us,k⟩)).units=A.units+1:=by first | rfl | simp [Around.under,Code.cUnits,Code.frames,Code.isFrame]
def fP.make(r:fP (k+1) A)(C:ar)(us:aw av)(w:aw (Str×av)):fP k (A.under (.builtin "type.__call__" ⟨.ref C::us,w⟩)):=
 ⟨r.hd,by have:=r.dp;rw[MJ];lia,by have:=r.un;rw[MF];lia⟩
def fP.depth(r:fP k A):A.depth<recursionLimit:=by have:=r.dp;lia
def fP.units(r:fP k A):A.units+64<cLine:=by have:=r.un;lia
def qDW:TA:=fun _ H Q=>Q [] H
def TQ(T:TE)(t:TA):TA:=fun σ H Q=>T σ H fun x h=>t σ h fun xs a=>Q (x::xs) a
section
variable{X:Cx}{e:Expr}{es:aw Expr}{te:TE}{t:TA}{pos:Pos}
def zD:PA X [] qDW:=fun _ _ _ _ H Q I h=>Calls.spliced_nil ⟨[],H,I,.nil,h⟩
def zA(d:PE X e te)(g:PA X es t)(j:starEach (e::es) X.env=(false,eval e X.env)::starEach es X.env:=by rfl):PA X (e::es) (TQ te t):=by intro pos p s σ H Q I h;rw[j];show wpAny _ _ (spliced ((false,eval e X.env)::backTo pos (starEach es X.env))) _ _ s;refine Calls.spliced_cons (bH (d p s σ H _ I h) fun u S ⟨x,a,i,r,f⟩=>?_);exact bH (g pos p S σ a _ i f) fun _ _ ⟨xs,c,b,R,q⟩=>⟨x::xs,c,b,.cons r R,q⟩
def qJM(t:TA):TE:=fun σ H Q=>t σ H fun xs h=>xs.length<=sizeLine/\∀ p,h p=none->Q (.ref p) (upd h p (.tup xs))
def qE0(t:TA):TE:=fun σ H Q=>t σ H fun xs h=>xs.length<=sizeLine/\∀ p,h p=none->Q (.ref p) (upd h p (.lst xs))
def zX {x} (h:PA X es t):PE X (.Tuple es x pos) (qJM t):=by intro p s σ H Q I c;refine wpAny_Tuple_spliced (bH (h pos p s σ H _ I c) fun us S ⟨xs,a,i,r,z,q⟩=>⟨by rw[<-r.length];exact z,?_⟩);have f:a S.heap.objs.size=none:=i.hok.fresh (bD _);refine⟨.ref S.heap.objs.size,upd a S.heap.objs.size (.tup xs),i.laid (t':=S.toks) (fun b u e=>fM _ e) (bD _) ?_,rfl,q _ f⟩;exact⟨z,us,r,⟨_,qy _ rfl,rfl,_,rfl⟩⟩
def yL(h:PA X es t):PE X (.List es pos) (qE0 t):=by intro p s σ H Q I c;refine wpAny_List_spliced (bH (h pos p s σ H _ I c) fun us S ⟨xs,a,i,r,z,q⟩=>⟨by rw[<-r.length];exact z,?_⟩);have f:a S.heap.objs.size=none:=i.hok.fresh (bD _);refine⟨.ref S.heap.objs.size,upd a S.heap.objs.size (.lst xs),i.laid (t':=S.toks) (fun b u e=>fM _ e) (bD _) ?_,rfl,q _ f⟩;exact⟨z,us,0,r,qy _ rfl⟩
end
abbrev Sp:=aw V->Hp->VK->XK->Prop
abbrev KQ:=aw Env->Hp->ae->XK->av->ae->Prop
structure N7(P:Program)(w:World)(K:bV)(mg:Str->Option Value)(base:Heap)(A:Around)(outer:List Env)(s:Shared)(H:Hp):Prop where
 frames:A.frames=some outer
 mod:Mod K mg base
 bs:∀ b o,base.get? b=some o->s.heap.get? b=some o/\H b=none
 Xw:base.objs.size<=s.heap.objs.size
 uY:s.heap.FunFrames base outer
 ZR:∀ b∈frs outer,H b=none
 hok:lM P w H s.heap
 bare:AllBare s.gens
def CE(o:aw Env)(P:ag)(w:aI)(H:Hp)(s:ae)(Q:VK)(u:av)(s':ae):Prop:=
 ∃ v h,s'.os=s.os/\AllBare s'.gens/\Un (frs o) [] H h s.heap s'.heap/\lM P w h s'.heap/\RelV v u/\Q v h
def CR(CX:KQ)(o:aw Env)(P:ag)(w:aI)(H:Hp)(s:ae)(Q:VK)(E:XK)(r:Result)(s':ae):Prop:=
 match r with
 | .ok (.ret u)=>CE o P w H s Q u s'
 | .ok _=>False
 | .error e=>CX o H s E e s'
structure aL(P:Program)(w:World)(K:bV)(mg:Str->Option Value)(base:Heap)(CX:KQ)(k:Nat)(f:Addr)(fd:FuncData)(ps:List Str)(sp:Sp):Prop where
 len:∀ vs H Q E,sp vs H Q E->vs.length=ps.length
 run:∀(A:Around)(outer:List Env)(s:Shared)(H:Hp)(args:Args)(us:List Value)(vs:List V)(Q:VK)(E:XK),fP k A->N7 P w K mg base A outer s H->BindsTo s fd args (ps.zip us)->Vals vs us->sp vs H Q E →
  codeAny (model P w) A (.call (.ref f) args) (CR CX outer P w H s Q E) s
def aL.mono{P:ag}{w:aI}{K:bV}{mg:Str->aE av}{base:Heap}{CX:KQ}{j k:Nat}{f:ar}{d:af}{ps:aw Str}{sp:Sp}(F:aL P w K mg base CX j f d ps sp)(h:j<=k) :
  aL P w K mg base CX k f d ps sp:=⟨F.len,fun A o s H a us vs Q E g=>F.run A o s H a us vs Q E (g.mono h)⟩
def aL.imp{P:ag}{w:aI}{K:bV}{mg:Str->aE av}{base:Heap}{CX:KQ}{k:Nat}{f:ar}{d:af}{ps:aw Str}{sp S:Sp}(F:aL P w K mg base CX k f d ps sp)
  (h:∀ vs H Q E,S vs H Q E->sp vs H Q E):aL P w K mg base CX k f d ps S:=
 ⟨fun vs H Q E q=>F.len vs H Q E (h _ _ _ _ q),fun A o s H a us vs Q E g i c v b=>F.run A o s H a us vs Q E g i c v (h _ _ _ _ b)⟩
def N7.make{P:ag}{w:aI}{K:bV}{mg:Str->aE av}{base:Heap}{A:ai}{o:aw Env}{s:ae}{H:Hp}(e:N7 P w K mg base A o s H)(C:ar)(us:aw av)(k:aw (Str×av)) :
  N7 P w K mg base (A.under (.builtin "type.__call__" ⟨.ref C::us,k⟩)) o s H:=⟨by first | exact e.frames | (simpa [Around.under,Code.envs,Code.isFrame,pushEnvs] using e.frames),e.mod,e.bs,e.Xw,e.uY,e.ZR,e.hok,e.bare⟩
section
variable{X:Cx}{pins:aw (ar×Obj)}{σ:St}{H:Hp}{s s':ae}
def Inv.env0(I:Inv X pins σ H s):N7 X.prog X.w X.K X.mg X.base X.A X.stack s H:=
 ⟨I.ok.frames,I.ok.mod,I.bs,br I.ok.Xw I.sz,I.stack,I.xg,I.hok,I.bare⟩
def Inv.after(I:Inv X pins σ H s)(h:CE X.stack X.prog X.w H s Q u s'):EP X pins σ Q u s':=by obtain⟨v,c,os,B,un,hok,r,q⟩:=h;obtain⟨a,g,d,t,o⟩:=s';obtain rfl:o=s.os:=os;exact⟨v,c,I.call (h':=a) (g':=g) (d':=d) (t':=t) (ch:=[]) un hok B (fun b z=>absurd z (by simp)),r,q⟩
end
def qAE(sp:Sp)(q:aw V)(E:XK)(t:TA):TE:=fun σ H Q=>t σ H fun vs h=>sp (vs++q) h Q E
def qAB(C:ar)(m:Str)(sp:Sp)(q:aw V)(E:XK)(T:TE)(t:TA):TE:=fun σ H Q=>T σ H fun x h => ∃ a d fs,x = .ref a/\h a=some (.ins C d fs)/\fs.lookup m=none ∧
 t σ h fun vs b=>sp (x::(vs++q)) b Q E
def qDZ(C:ar)(sp:Sp)(q:aw V)(E:XK)(t:TA):TE:=fun σ H Q=>t σ H fun vs h => ∀ x d,h x=none->h d=none->d≠x →
 sp (.ref x::(vs++q)) (upd (upd h d (.own x)) x (.ins C d [])) (fun v a=>v = .non/\Q (.ref x) a) E
def Binds(K:bV)(f:af)(ps:aw Str)(d:aw av):Prop:=
 ∀(s:ae)(us:aw av),K.In s.heap->(us++d).length=ps.length->BindsTo s f ⟨us,[]⟩ (ps.zip (us++d))
def Binds.all{K:bV}{d:af}{ps:aw Str}(h:∀ us:aw av,us.length=ps.length->bindArgs d ⟨us,[]⟩=pure (ps.zip us)):Binds K d ps []:=fun s us _ a=>by
 rw[oY]at a ⊢;exact .of_eq (h us a)
def Passes(CX:KQ)(X:Cx)(E:XK):Prop:=∀(p:aw (ar×Obj))(σ:St)(H:Hp)(s:ae)(e:av)(s':ae),Inv X p σ H s->CX X.stack H s E e s'->X.xe e s'
section
variable{X:Cx}{CX:KQ}{k:Nat}{f C:ar}{fd:af}{ps:aw Str}{sp:Sp}{qw:aw V}{ds:aw av}{E:XK}{x m:Str}{p pos apos:Pos}{e o:Expr}{es:aw Expr}{ta:TE}{t:TA}
theorem La(F:aL X.prog X.w X.K X.mg X.base CX k f fd ps sp)(g:fP k X.A)(c:Binds X.K fd ps ds)(hd:Vals qw ds)(x:Passes CX X E)
  (I:Inv X pins σ H s) (r:Vals vs us) (h:sp (vs++qw) H Q E):wpAny (model X.prog X.w) X.A (call (.ref f) us) (EP X pins σ Q) X.xe s:=by
 have R:Vals (vs++qw) (us++ds):=r.append hd
 have a:(us++ds).length=ps.length:=by rw[<-R.length];exact F.len _ _ _ _ h
 refine wpAny_call (codeAny_mono (F.run X.A X.stack s H ⟨us,[]⟩ (us++ds) (vs++qw) Q E g I.env0 (c s us I.mQ a) R h) fun r s' q=>?_)
 cases r with
 | error e=>exact x pins σ H s e s' I q
 | ok l=>
  cases l with
  | ret u=>exact I.after q
  | next=>exact c9 q
  | brk=>exact c9 q
  | cont=>exact c9 q
def zK(F:aL X.prog X.w X.K X.mg X.base CX k f fd ps sp)(g:fP k X.A)(j:Gl X x)(m:X.mg x=some (.ref f))(a:PySem.W.keepIn X.K (.ref f)=true)(c:Binds X.K fd ps ds)(hd:Vals qw ds)(n:Passes CX X E)
  (d:PA X (e::es) t) (b:(x==("__debug__" : Str))=false:=by decide) (o:starEach (e::es) X.env=(false,eval e X.env)::starEach es X.env:=by rfl) (l:(backTo pos (starEach es X.env)).any (·.1)=false:=by rfl) :
  PE X (.Call (.Name x p) (e::es) [] pos) (qAE sp qw E t):=by intro P s σ H Q I h;refine wpAny_Call_Name_kw (nW I j m ?_ b);refine PySem.W.callWith_K (h₀:=X.base) I.ok.mod.kin a (bH (d pos P s σ H _ I h) fun _ _ ⟨_,_,i,r,q⟩=>⟨i.mQ,?_⟩) o l;exact La F g c hd n i r q
def Od(G:PE X o ta)(c:vC X.K C)(j:Meth X.K C m f)(F:aL X.prog X.w X.K X.mg X.base CX k f fd ps sp)(w:fP k X.A)(y:Binds X.K fd ps ds)(hd:Vals qw ds)(D:Passes CX X E)(v:PA X (e::es) t)
  (b:starEach (e::es) X.env=(false,eval e X.env)::starEach es X.env:=by rfl) (d:(backTo pos (starEach es X.env)).any (·.1)=false:=by rfl)
  (ht:eval (.Call (.Attribute o m apos) (e::es) [] pos) X.env=(do
   let ov ← eval o X.env
   standAt apos.atName
   let (f,first) ← holding [ov] (getMethod ov m pl)
   callWith pos f first (backTo pos (starEach (e::es) X.env)) (backToKw pos (keywordEach [] X.env))):=by rfl) :
  PE X (.Call (.Attribute o m apos) (e::es) [] pos) (qAB C m sp qw E ta t):=by intro p s σ H Q I h;refine PySem.W.methodCall_KW (pl:=pl) (bH (G p s σ H _ I h) fun u S hz_=>?_) ht;obtain⟨x,A,i,R,a,_,_,B,z,l,q⟩:=hz_;subst B;obtain rfl:u=Value.ref a:=R;refine rZ i z c j l ?_;refine PySem.W.callWith_K (first:=[.ref a]) (h₀:=X.base) I.ok.mod.kin j.kp (bH (v pos p S σ A _ i q) fun us _ ⟨vs,_,g,r,n⟩=>⟨g.mQ,?_⟩) b d;exact La (us:=.ref a::us) (vs:=.ref a::vs) F w y hd D g (.cons rfl r) n
def jg(r:PE X o ta)(c:vC X.K C)(b:Meth X.K C m f)(F:aL X.prog X.w X.K X.mg X.base CX k f fd ps sp)(g:fP k X.A)(d:Binds X.K fd ps ds)(hd:Vals qw ds)(n:Passes CX X E)
  (ht:eval (.Call (.Attribute o m apos) [] [] pos) X.env=(do
   let ov ← eval o X.env
   standAt apos.atName
   let (f,first) ← holding [ov] (getMethod ov m pl)
   callWith pos f first (backTo pos (starEach [] X.env)) (backToKw pos (keywordEach [] X.env))):=by rfl) :
  PE X (.Call (.Attribute o m apos) [] [] pos) (qAB C m sp qw E ta qDW):=by intro p s σ H Q I h;refine PySem.W.methodCall_KW (pl:=pl) (bH (r p s σ H _ I h) fun u _ hz_=>?_) ht;obtain⟨x,_,i,R,a,_,_,j,e,l,q⟩:=hz_;subst j;obtain rfl:u=Value.ref a:=R;refine rZ i e c b l ?_;exact PySem.W.callWith_K0 (first:=[.ref a]) i.mQ b.kp (La (us:=[.ref a]) (vs:=[.ref a]) F g d hd n i (.cons rfl .nil) q)
structure Mk(K:bV)(C f:Addr):Prop where
 makes:PySem.W.makesIn K C=true
 init:PySem.W.findIn K (.ref C) "__init__" = some (some (.ref f))
 fn:PySem.W.isFn K (.ref f)=true
 kp:KI K C
theorem U7(M:Mk X.K C f)(F:aL X.prog X.w X.K X.mg X.base CX k f fd ps sp)(m:fP (k+1) X.A)(n:Binds X.K fd ps ds)(hd:Vals qw ds)
  (t:Passes CX X E) (I:Inv X pins σ H s) (r:Vals vs us)
  (h:∀ x d,H x=none->H d=none->d≠x->sp (.ref x::(vs++qw)) (upd (upd H d (.own x)) x (.ins C d [])) (fun v p=>v = .non/\Q (.ref x) p) E) :
  wpAny (model X.prog X.w) X.A (call (.ref C) us) (EP X pins σ Q) X.xe s:=by
 have q:=h (s.heap.objs.size+1) s.heap.objs.size (I.hok.fresh (ip _)) (I.hok.fresh (bD _)) (jQ (iF _));have b:=Inv.made (C:=C) I;have R:Vals (V.ref (s.heap.objs.size+1)::(vs++qw)) (Value.ref (s.heap.objs.size+1)::(us++ds)):=.cons rfl (r.append hd)
 have l:(Value.ref (s.heap.objs.size+1)::us++ds).length=ps.length:=by
  have e:=R.length;rw[F.len _ _ _ _ q]at e;exact e.symm
 refine wpAny_call (Vf (f:=f) I.mQ M.makes M.init (beq_iff_eq.mp M.fn) (codeAny_mono (F.run _ X.stack _ _ ⟨Value.ref (s.heap.objs.size+1)::us,[]⟩ (Value.ref (s.heap.objs.size+1)::(us++ds)) _ _ E (m.make C us [])
  (b.env0.make C us []) (n _ (Value.ref (s.heap.objs.size+1)::us) b.mQ l) R q) fun r s' a=>?_))
 cases r with
 | error e=>exact t pins σ _ _ e s' b a
 | ok w=>
  cases w with
  | ret u=>
   obtain⟨v,j,g,c,i,o⟩:=b.after a;subst i;exact⟨c,⟨V.ref (s.heap.objs.size+1),j,g,rfl,o⟩⟩
  | next=>exact c9 a
  | brk=>exact c9 a
  | cont=>exact c9 a
def ym(M:Mk X.K C f)(F:aL X.prog X.w X.K X.mg X.base CX k f fd ps sp)(g:fP (k+1) X.A)(j:Gl X x)(m:X.mg x=some (.ref C))(c:Binds X.K fd ps ds)(hd:Vals qw ds)(a:Passes CX X E)
  (d:PA X (e::es) t) (b:(x==("__debug__" : Str))=false:=by decide) (n:starEach (e::es) X.env=(false,eval e X.env)::starEach es X.env:=by rfl) (l:(backTo pos (starEach es X.env)).any (·.1)=false:=by rfl) :
  PE X (.Call (.Name x p) (e::es) [] pos) (qDZ C sp qw E t):=by intro P s σ H Q I h;refine wpAny_Call_Name_kw (nW I j m ?_ b);refine PySem.W.callWith_K (h₀:=X.base) I.ok.mod.kin M.kp (bH (d pos P s σ H _ I h) fun _ _ ⟨_,_,i,r,q⟩=>⟨i.mQ,?_⟩) n l;exact U7 M F g c hd a i r q
end
section
variable{X:Cx}{CX:KQ}{k:Nat}{f C:ar}{fd:af}{ps ks:aw Str}{sp:Sp}{E:XK}{x m:Str}{p pos apos kpos:Pos}{e o:Expr}{es:aw Expr}{kws:aw Keyword}{te ta:TE}{t tk:TA}{nm:aE Str}
structure KBinds(K:bV)(fd:FuncData)(ps ks:List Str)(g:List Value->List Value->List Value)(gV:List V->List V->List V):Prop where
 to:∀(s:Shared)(us ws:List Value),K.In s.heap->(g us ws).length=ps.length->BindsTo s fd ⟨us,ks.zip ws⟩ (ps.zip (g us ws))
 rel:∀ {vs:List V} {us:List Value} {zs:List V} {ws:List Value},Vals vs us->Vals zs ws->Vals (gV vs zs) (g us ws)
variable{g:aw av->aw av->aw av}{gV:aw V->aw V->aw V}
end
structure aF(N P:List Str)(sc:Scope):Prop where
 kind:sc.kind = .function
 co:sc.isCoroutine=false
 gen:sc.isGenerator=false
 nd:N.Nodup
 pre:N.take P.length=P
 par:∀ x∈P,sc.names.lookup x=some .local∨sc.names.lookup x=some .cell
 M7:∀ y∈sc.names,y.2≠.free
theorem Es{kindOf:Str->aE NameKind}{x:Str}:∀ {binds:aw (Str×av)} {m:Str->aE av},(∀ v,(x,v)∉binds)->bindL kindOf binds m x=m x
 | [],_,_=>rfl
 | (n,v)::r,m,h=>by
  unfold bindL;rw[Es fun w H=>h w (Hr _ H)]
  split
  .have:x≠n:=by rintro rfl;exact h v FZ
   simp [this]
  .rfl
theorem Eu{kindOf:Str->aE NameKind}{x:Str}:∀ {binds:aw (Str×av)} {m:Str->aE av},(∀ v,(x,v)∉binds)->bindC kindOf binds m x=m x
 | [],_,_=>rfl
 | (n,v)::r,m,h=>by
  unfold bindC;rw[Eu fun w H=>h w (Hr _ H)]
  split
  .rfl
  .have:x≠n:=by rintro rfl;exact h v FZ
   simp [this]
theorem Et{kindOf:Str->aE NameKind}{x:Str}{v:av}:∀ {P:aw Str} {vs:aw av} {i:Nat} {m:Str->aE av},P.Nodup->P[i]? = some x->vs[i]? = some v->kindOf x=some .local →
  bindL kindOf (P.zip vs) m x=some v
 | [],_,_,_,_,h,_,_=>by simp at h
 | _::_,[],_,_,_,_,h,_=>by simp at h
 | p::P,w::vs,0,m,n,H,l,k=>by
  simp at H l;subst H;subst l;show bindL kindOf ((p,w)::P.zip vs) m p=_;unfold bindL;rw[Es fun v a=>(hV.mp n).1 (hZ a).1,cS k];simp
 | p::P,w::vs,i+1,m,n,H,l,k=>by
  show bindL kindOf ((p,w)::P.zip vs) m x=_;unfold bindL;exact Et (i:=i) (List.nodup_cons.mp n).2 (by simpa using H) (by simpa using l) k
theorem Ew{kindOf:Str->aE NameKind}{x:Str}{v:av}:∀ {P:aw Str} {vs:aw av} {i:Nat} {m:Str->aE av},P.Nodup->P[i]? = some x->vs[i]? = some v->kindOf x≠some .local →
  bindC kindOf (P.zip vs) m x=some v
 | [],_,_,_,_,h,_,_=>by simp at h
 | _::_,[],_,_,_,_,h,_=>by simp at h
 | p::P,w::vs,0,m,n,H,l,k=>by
  simp at H l;subst H;subst l;show bindC kindOf ((p,w)::P.zip vs) m p=_;unfold bindC;rw[Eu fun v a=>(hV.mp n).1 (hZ a).1,cK k];simp
 | p::P,w::vs,i+1,m,n,H,l,k=>by
  show bindC kindOf ((p,w)::P.zip vs) m x=_;unfold bindC;exact Ew (i:=i) (List.nodup_cons.mp n).2 (by simpa using H) (by simpa using l) k
def start(N:aw Str)(vs:aw V):St:=vs.map some++List.replicate (N.length-vs.length) none
noncomputable def wF(CX:KQ)(P:ag)(w:aI)(K:bV)(mg:Str->aE av)(base:Heap)(N:aw Str)(q:Str)(S:Scope)(f:ar)(c:av)(A:ai)(outer:aw Env)(s:ae)(H:Hp)(E:XK):Cx where
 prog:=P
 w:=w
 K:=K
 mg:=mg
 base:=base
 A:=A.deeper (envOfC q S s.heap.objs.size f c)
 N:=N
 s₀:=s
 H₀:=H
 env:=envOfC q S s.heap.objs.size f c
 outer:=outer
 stack:=envOfC q S s.heap.objs.size f c::outer
 ex:=[]
 calm:=true
 fn:=fun _=>true
 pn:=[]
 xe:=fun e s'=>wpAny (model P w) (A.deeper (envOfC q S s.heap.objs.size f c)) (leaving (envOfC q S s.heap.objs.size f c) e) (fun _ a=>CX outer H s E e a) (fun b a=>CX outer H s E b a) s'
def Jv{S:Scope}{n:Nat}{x:Str}(h:S.names.lookup x=some .cell):∃ c,(cellsFrom n S.names []).lookup x=some c:=by have q:=PySem.W.cellsFrom_some S.names n [] (.inl h);exact jv.mp q
theorem RV{CX:KQ}{P:ag}{w:aI}{K:bV}{mg:Str->aE av}{base:Heap}{N ps:aw Str}{Q:Str}{d:Scope}{f:ar}{D:av}{A:ai}{o:aw Env}{s G:ae}{H:Hp}{E:XK}{us:aw av}{vs:aw V}
  (S:aF N ps d) (hd:A.handled=none) (g:N7 P w K mg base A o s H) (O:vs.length=ps.length) (r:Vals vs us)
  (x:InCallC s s.heap.objs.size (bindL (envOfC Q d s.heap.objs.size f D).kindOf (ps.zip us) fun _=>none) (cellsFrom (s.heap.objs.size+1) d.names []) (bindC (envOfC Q d s.heap.objs.size f D).kindOf (ps.zip us) fun _=>none) G) :
  Inv (wF CX P w K mg base N Q d f D A o s H E) [] (start N vs) H G:=by
 have L:ps.length<=N.length:=by have:=congrArg List.length S.pre;rw[iQ]at this;lia
 obtain⟨C,_,rfl,J⟩:=x.done;have m:∀ b:ar,b∉(wF CX P w K mg base N Q d f D A o s H E).ex:=fun b z=>absurd (show b∈([]:aw ar) from z) (by simp)
 refine⟨⟨g.mod,S.kind,rfl,rfl,bD _,fun y z c C l=>?_,fun y j=>?_,fun y c _ h=>?_,fun _=>hd,Around.frames_deeper g.frames,.inr ⟨rfl,rfl⟩,fun b z=>eu z (m b),g.bs,g.Xw,fun b _ _=>m b,fun b z=>eu z (m b),g.uY,g.ZR⟩,
  rfl,g.bare,Un.kept J,⟨_,x.toInCall.ns,fun i y v C l _=>?_⟩,fun y c h=>⟨_,x.cell y c h⟩,g.hok.fresh (Nat.le_refl _),fun y c h=>?_,fun p B=>absurd (show p∈([]:aw (ar×Obj)) from B) (by simp),g.hok.kept J,?_⟩
 .exact name_of_addr x.apart (cy C) (cy l)
 .have j:d.names.lookup y=some .cell∨d.names.lookup y=some .free:=j;rcases j with j | j
  .exact Jv j
  .exact eu rfl (S.M7 _ (cy j))
 .exact ij (x.above y c (cy h))
 .have F:i<vs.length:=by
   unfold start at l
   by_cases F:i<vs.length
   .exact F
   .rw[List.getElem?_append_right (by simpa using F)]at l;rw[List.getElem?_replicate]at l
    split at l <;> cases l
  have M:vs[i]? = some v:=by
   unfold start at l;rw[List.getElem?_append_left (by simpa using F),List.getElem?_map]at l
   cases e:vs[i]? with
   | none=>rw[e]at l;cases l
   | some a=>rw[e]at l;cases l;rfl
  obtain⟨u,I,R⟩:=r.get M
  have B:ps[i]? = some y:=by
   rw[<-S.pre,List.getElem?_take_of_lt (by lia)];exact C
  have t:ps.Nodup:=by rw[<-S.pre];exact S.nd.sublist (List.take_sublist _ _)
  refine⟨u,R,?_⟩;rcases S.par y (SX B) with k | k
  .exact .inl ⟨k,Et t B I k⟩
  .obtain⟨c,e⟩:=Jv (n:=s.heap.objs.size+1) k;refine .inr ⟨.inl k,c,e,?_⟩;have q:=x.cell y c e;rw[Ew t B I (by show d.names.lookup y≠_;rw[k];decide)]at q;exact q
 .exact g.hok.fresh (ij (x.above y c (cy h)))
 .unfold start;show _=N.length;rw[j8,bT,dA];lia
theorem qAT{CX:KQ}{P:ag}{w:aI}{K:bV}{mg:Str->aE av}{base:Heap}{k:Nat}{f:ar}{name l:Str}{p:Arguments}{B:aw Stmt}{a:Scope}{Y kV D T c W oc:av}{X od:aE ar}
  {G:Array (aE av)} {N ps:aw Str} {sp:Sp} (lk:K.lookup f=some ⟨oc,od,.func (PySem.W.fnOf name l p B a Y kV D T X c W),G⟩) (C:PySem.W.codeIn K c l=true) (S:aF N ps a)
  (len:∀ vs H Q E,sp vs H Q E->vs.length=ps.length)
  (g:∀(A:ai)(O:aw Env)(s:ae)(H:Hp)(vs:aw V)(Q:VK)(E:XK),fP k (A.deeper (envOfC l a s.heap.objs.size f c))->sp vs H Q E →
   ∃ t,Cw (wF CX P w K mg base N l a f c A O s H E) B t/\t { nx:=fun _ h=>Q .non h,rt:=Q } (start N vs) H) :
  aL P w K mg base CX (k+1) f (PySem.W.fnOf name l p B a Y kV D T X c W) ps sp:=by
 refine⟨len,fun A O s H _ us vs Q E M m hb r z=>?_⟩;have hl:=len _ _ _ _ z;have Z:K.In s.heap:=m.mod.kin.keeps fun b o e=>(m.bs b o e).1;have L:s.heap.NoLimit:=m.mod.nolimit.keeps fun b o e=>(m.bs b o e).1
 have i:∀ y∈ps.zip us,a.names.lookup y.1=some .local∨(a.names.lookup y.1=some .cell/\((cellsFrom (s.heap.objs.size+1) a.names []).lookup y.1).isSome=true):=fun ⟨n,v⟩ hy=>by
  rcases S.par n (hZ hy).1 with q | q
  .exact .inl q
  .exact .inr ⟨q,PySem.W.cellsFrom_some _ _ _ (.inl q)⟩
 refine codeAny_call_function M.depth (Z _ _ lk) rfl S.co S.gen rfl (PySem.W.codeRec_of Z C) (hb _ _ _ _ ?_);refine wpAny_newFunctionEnv_cells S.kind i fun _ he U x=>?_;subst he;refine⟨L.keeps x.toInCall.keep,codeAny_func ?_⟩;obtain⟨t,ht,hq⟩:=g A O s H vs Q E (M.deeper _) z;have I:Inv (wF CX P w K mg base N l a f c A O s H E) [] (start N vs) H U:=RV S M.hd m hl r x;refine c8 (ht [] U (start N vs) H _ I hq) (fun fl s' j=>?_) fun e s' j=>j
 have F:∀ {d:St} {h:Hp} {v:V} {u:av},Inv (wF CX P w K mg base N l a f c A O s H E) [] d h s'->RelV v u->Q v h->CE O P w H s Q u s':=
  fun {d h v u} J R q=>⟨v,h,J.os,J.bare,J.base,J.hok,R,q⟩
 cases fl with
 | ret u=>
  obtain⟨v,d,h,J,R,q⟩:=j;exact F J R q
 | next=>
  obtain⟨d,h,J,q⟩:=j;exact F (v:=V.non) (u:=Value.none) J rfl q
 | brk=>
  obtain⟨_,_,_,q⟩:=j;exact c9 q
 | cont=>
  obtain⟨_,_,_,q⟩:=j;exact c9 q
section
variable{X:Cx}{x:Str}{p pos:Pos}{e:Expr}{es:aw Expr}{t:TA}{id T:String}{r:aw V->Hp->VK->Prop}
def tCB(r:aw V->Hp->VK->Prop)(t:TA):TE:=fun σ H Q=>t σ H fun vs h=>r vs h Q
def zT(c:ir X (.builtin id) r)(j:Gl X x)(m:X.mg x=none)(v:bootBuiltins x=some (.builtin id))(d:PA X (e::es) t)(f:x ≠ "__name__" := by decide)(b:(x==("__debug__" : Str))=false:=by decide)
  (g:starEach (e::es) X.env=(false,eval e X.env)::starEach es X.env:=by rfl) (l:(backTo pos (starEach es X.env)).any (·.1)=false:=by rfl):PE X (.Call (.Name x p) (e::es) [] pos) (tCB r t):=by intro P s σ H Q I h;refine wpAny_Call_Name_kw (jm I j m v ?_ f b);exact ki (bH (d pos P s σ H _ I h) fun us S ⟨vs,a,i,R,q⟩=>c P S σ a vs us Q i R q) g l
def yB(c:ir X (.type T) r)(j:Gl X x)(m:X.mg x=none)(v:bootBuiltins x=some (.type T))(d:PA X (e::es) t)(f:x ≠ "__name__" := by decide)(b:(x==("__debug__" : Str))=false:=by decide)
  (g:starEach (e::es) X.env=(false,eval e X.env)::starEach es X.env:=by rfl) (l:(backTo pos (starEach es X.env)).any (·.1)=false:=by rfl):PE X (.Call (.Name x p) (e::es) [] pos) (tCB r t):=by intro P s σ H Q I h;refine wpAny_Call_Name_kw (jm I j m v ?_ f b);exact kn (bH (d pos P s σ H _ I h) fun us S ⟨vs,a,i,R,q⟩=>c P S σ a vs us Q i R q) g l
end
end L2
namespace HT
open PySem PyProof.Rows
section
open PySem.SeqAt
open PySem.AutoSeq1 (wpAny_loadPart')
open PySem.MeetsSeq PySem.MeetsSeq2 PySem.MeetsSeq3
end
section
variable{prog:ag}{w:aI}{A:ai}{E:av->ae->Prop}{s:ae}
def Zm(ht:IsTup s.heap t vs.toArray)(i:IsTup s.heap b ws.toArray)(v:vs≠[])
  (g:ws=[]->Q (.ref t) s) (j:ws≠[]->Q (.ref s.heap.objs.size) { s with heap:=s.heap.push { cls:=.type "tuple",data:=.seq (vs++ws).toArray } })
  (hsz:vs.length+ws.length<=sizeLine):wpAny (model prog w) A (binaryOp .Add (.ref t) (.ref b)) Q E s:=by
 obtain⟨⟨cls,D,data,l⟩,q,f,n,hd⟩:=id ht;obtain⟨⟨_,d,_,S⟩,h,H,N,a⟩:=id i;simp only at f hd H a;subst f hd H a
 have e:vs.toArray++ws.toArray=(vs++ws).toArray:=by simp
 by_cases c:ws=[]
 .exact concat_meets ⟨_,q,rfl⟩ ⟨_,h,rfl⟩ noFill_tuple_add seq_tuple_add kB ku (kr _ _)
   (tuple_addW1 t b vs.toArray ws.toArray n N D d l S (by simpa using v) (by simp [c])) ⟨q,h,g c⟩
 .refine concat_meets ⟨_,q,rfl⟩ ⟨_,h,rfl⟩ noFill_tuple_add seq_tuple_add kB ku (kr _ _)
   (tuple_addW2 t b vs.toArray ws.toArray n N D d l S (by simpa using v) (by simpa using c) (by rw[List.size_toArray,List.size_toArray];exact hsz)) ⟨q,h,?_⟩
  rw[e];exact j c
def gj(n d:Nat):aE Int->Nat
 | none=>d
 | some v=>if v<0 then (v+(n:Int)).toNat else min v.toNat n
def tY(n d:Nat):gj n d none=d:=rfl
def iJ(n d k:Nat):gj n d (some (k:Int))=min k n:=by show (if (k:Int)<0 then ((k:Int)+(n:Int)).toNat else min (k:Int).toNat n)=min k n;rw[cK (by lia),T3]
theorem qBK(n d:Nat)(hd:d<=n)(o:aE Int):gj n d o<=n:=by
 cases o with
 | none=>exact hd
 | some v=>
  show (if v<0 then (v+(n:Int)).toNat else min v.toNat n)<=n
  by_cases H:v<0
  .rw[cS H];lia
  .rw[cK H];exact Nat.min_le_right _ _
def Pk(v:Int)(n d:Nat):(if v<0 then max (v+(n:Int)) 0 else min v (n:Int))=((gj n d (some v):Nat):Int):=by
 show (if v<0 then max (v+(n:Int)) 0 else min v (n:Int))=(((if v<0 then (v+(n:Int)).toNat else min v.toNat n):Nat):Int)
 by_cases H:v<0
 .simp only[if_pos H];lia
 .simp only[if_neg H];lia
theorem My(lo i:aE Int)(n:Nat):Builtin.Slice.sliceAdjust lo i 1 (n:Int)=(((gj n 0 lo:Nat):Int),((gj n n i:Nat):Int)):=by
 have H:¬ ((1:Int)<0):=by lia
 unfold Builtin.Slice.sliceAdjust;simp only[H,if_false];refine Prod.ext ?_ ?_
 .cases lo with
  | none=>rfl
  | some v=>exact Pk v n 0
 .cases i with
  | none=>rfl
  | some v=>exact Pk v n n
def Lh(i j:Nat):Builtin.Slice.slicePlaces (i:Int) (j:Int) 1=j-i:=by
 unfold Builtin.Slice.slicePlaces
 have H:(1:Int)>0:=by lia
 simp only[H,if_true,Int.ediv_one]
 split <;> lia
theorem Ac(p:IsPart v o)(h:Q o s):wpAny (model prog w) A (Builtin.Slice.slicePartIndex v) Q E s:=by
 cases p with
 | none=>exact slicePart_none h
 | int i t=>exact slicePart_int h
def vK{S:ar}{v u:av}{lo i:aE Int}{n:Nat}{Q:Int×Int×Nat->ae->Prop}(b:s.heap.IsSliceOf S v u .none)(pl:IsPart v lo)(p:IsPart u i)
  (h:Q (((gj n 0 lo:Nat):Int),1,gj n n i-gj n 0 lo) s):wpAny (model prog w) A (Builtin.Slice.sliceApplied (.ref S) (pure (n:Int))) Q E s:=by obtain⟨_,a,_,H⟩:=id b;unfold Builtin.Slice.sliceApplied Builtin.Slice.sliceFields;refine aS (aS (wpAny_field a H (x:=v) rfl (aS (wpAny_field a H (x:=u) rfl (aS (wpAny_field a H (x:=.none) rfl (aT ?_)))))));refine aS (slicePart_none ?_);show wpAny _ _ (if ((1:Int)==0)=true then _ else _) _ _ s;rw[cK (by decide)];refine aS (Ac pl (aS (Ac p (aS (aT ?_)))));show wpAny _ _ (match Builtin.Slice.sliceAdjust lo i 1 (n:Int) with | (lo,i)=>pure (lo,(1:Int),Builtin.Slice.slicePlaces lo i 1)) _ _ s;rw[My lo i n];show wpAny _ _ (pure (((gj n 0 lo:Nat):Int),(1:Int),Builtin.Slice.slicePlaces ((gj n 0 lo:Nat):Int) ((gj n n i:Nat):Int) 1)) _ _ s;rw[Lh];exact aT h
def Uc(xs:Array av)(i k:Nat):((List.range k).filterMap fun (m:Nat)=>xs[((i:Int)+(m:Int)*1).toNat]?).toArray=((xs.toList.drop i).take k).toArray:=by
 have e:(fun (m:Nat)=>xs[((i:Int)+(m:Int)*1).toNat]?)=fun m=>xs[i+m]?:=by
  funext m
  have:((i:Int)+(m:Int)*1).toNat=i+m:=by lia
  rw[this]
 rw[e];have:=pick_run xs i k;rw[List.filterMap_map]at this;have E:((fun x=>xs[x]?) ∘ fun x=>i+x)=fun m=>xs[i+m]?:=rfl;rw[E]at this;rw[this]
theorem uX{t S:ar}{items:Array av}{v u:av}{lo i:aE Int}{Q:av->ae->Prop}(ht:IsTup s.heap t items)(c:s.heap.IsSliceOf S v u .none)(pl:IsPart v lo)(p:IsPart u i)
  (d:¬ (gj items.size 0 lo=0/\gj items.size items.size i=items.size))
  (h:Q (.ref s.heap.objs.size) { s with heap:=s.heap.push { cls:=.type "tuple",data:=.seq ((items.toList.drop (gj items.size 0 lo)).take (gj items.size items.size i-gj items.size 0 lo)).toArray } })
  (hsz:items.size<=sizeLine):wpAny (model prog w) A (getItem (.ref t) (.ref S)) Q E s:=by
 have O:sizeOk (.seq ((items.toList.drop (gj items.size 0 lo)).take (gj items.size items.size i-gj items.size 0 lo)).toArray):=by
  show ((items.toList.drop (gj items.size 0 lo)).take (gj items.size items.size i-gj items.size 0 lo)).toArray.size<=sizeLine;rw[CV,iQ,fR,e7];lia
 have G:gj items.size items.size i<=items.size:=qBK _ _ (bD _) i;obtain⟨os,a,b,_⟩:=id c;have H:s.TypeIs (.ref S) "slice" := ⟨os,a,b⟩;unfold getItem
 try with_reducible refine cq ?_
 first | refine aS (aT ?_) | skip
 refine aS (wpAny_sequenceKey ht.typeIs (by decide) ?_)
 refine aS (wpAny_callSpecial?_slot (name:=Str.ofString "__getitem__") ht.typeIs kq
  (wpAny_call_entry kq ht.typeIs entry_tuple_getitem ?_ (args_tuple_getitem _ _)))
 show wpAny _ _ (Builtin.Tuple.tupleItemsOf (.ref t) >>= _) _ _ s;refine aS (tupleItemsOf_ ht ?_);refine aS (wpAny_typeOf H ?_);rw[cS (by decide)];refine aS (vK c pl p ?_)
 have o:¬ ((((gj items.size 0 lo:Nat):Int)==0&&(1:Int)==1&&(gj items.size items.size i-gj items.size 0 lo)==items.size)=true):=by
  intro q;rw[eD,eD]at q;have f:((gj items.size 0 lo:Nat):Int)=0:=eq_of_beq q.1.1;have e:gj items.size items.size i-gj items.size 0 lo=items.size:=eq_of_beq q.2;exact d ⟨by lia,by lia⟩
 show wpAny _ _ (if (((gj items.size 0 lo:Nat):Int)==0&&(1:Int)==1&&(gj items.size items.size i-gj items.size 0 lo)==items.size)=true then _ else _) _ _ s;rw[cK o,Uc]
 first
  | exact aS (m:=Builtin.Tuple.tupleExact _) (wpAny_newObj_type (aT ⟨_,rfl,aT h⟩) O)
  | exact aS (m:=Builtin.Tuple.tupleExact _) (wpAny_newObj_type (aS (aT (aT ⟨_,rfl,aT h⟩))) O)
  | exact aS (aS (m:=Builtin.Tuple.tupleExact _) (wpAny_newObj_type (aT (aT ⟨_,rfl,aT h⟩)) O))
  | exact aS (aS (m:=Builtin.Tuple.tupleExact _) (wpAny_newObj_type (aT ⟨_,rfl,aT h⟩) O))
end
end HT
namespace L2
open PySem PySem.Spec PyProof.Rows
abbrev TO:=St->Hp->(aE Int->Hp->Prop)->Prop
def PO(X:Cx)(e:aE Expr)(t:TO):Prop:=
 ∀(p:aw (ar×Obj))(s:ae)(σ:St)(H:Hp)(Q:aE Int->Hp->Prop),Inv X p σ H s->t σ H Q →
  wpAny (model X.prog X.w) X.A (evalPart e X.env) (fun u s'=>∃ o h,Inv X p σ h s'/\IsPart u o/\Q o h) X.xe s
def Y6:TO:=fun _ H Q=>Q none H
def qDU(t:TE):TO:=fun σ H Q=>t σ H fun x h => ∃ i,x = .int i/\Q (some i) h
theorem intsAre_of:∀ {us:aw av},Vals (ns.map V.int) us->IntsAre us ns:=by
 induction ns with
 | nil=>intro us r;rw[List.map_nil]at r;cases r;exact .nil
 | cons n ns i=>
  intro us r;rw[bt]at r
  cases r with
  | cons a R=>
   obtain⟨t,e⟩:=a;subst e;exact .cons n t (i R)
section
variable{X:Cx}{e:Expr}{te:TE}{lo hi:aE Expr}{tl th:TO}{pos p2:Pos}
def gA:PO X none Y6:=by intro _ s σ H Q I h;rw[evalPart_none];exact aT ⟨none,H,I,.none,h⟩
def fu(h:PE X e te):PO X (some e) (qDU te):=by intro p s σ H Q I w;rw[evalPart_some];refine bH (h p s σ H _ I w) fun u _ ⟨x,b,a,r,f⟩=>?_;obtain⟨i,rfl,q⟩:=f;obtain⟨t,rfl⟩:=r;exact⟨some i,b,a,.int i t,q⟩
def SlR(X:Cx)(r:V->aE Int->aE Int->Hp->VK->Prop):Prop:=
 ∀(p:aw (ar×Obj))(s:ae)(σ:St)(H:Hp)(x:V)(v l u:av)(lo hi:aE Int)(S:ar)(Q:VK),Inv X p σ H s->RelV x v->s.heap.IsSliceOf S l u .none->IsPart l lo->IsPart u hi->r x lo hi H Q →
  ∃ T id,typeLookup (.type T) "__getitem__" = pure (some (.builtin id))/\s.TypeIs v T/\wpAny (model X.prog X.w) X.A (getItem v (.ref S)) (EP X p σ Q) X.xe s
def tSl(r:V->aE Int->aE Int->Hp->VK->Prop)(te:TE)(tl th:TO):TE:=fun σ H Q=>te σ H fun x h=>tl σ h fun l b=>th σ b fun u a=>r x l u a Q
def dN(o:SlR X r)(i:PE X e te)(f:PO X lo tl)(k:PO X hi th):PE X (.Subscript e (.Slice lo hi none p2) pos) (tSl r te tl th):=by intro p s σ H Q I h;refine Subscript_ (bH (i p s σ H _ I h) fun v S ⟨x,j,A,R,B⟩=>?_);refine wpAny_Slice (bH (f p S σ j _ A B) fun a y ⟨l,D,g,pl,m⟩=>bH (k p y σ D _ g m) fun c Y ⟨u,d,w,P,z⟩=>?_);rw[evalPart_none];refine aT ?_;have n:Inv X p σ d { Y with heap:=Y.heap.push { cls:=.type "slice",data:=.fields #[a,c,.none] } }:=w.kept (t':=Y.toks) fun b _ q=>fM _ q;obtain⟨T,_,t,ht,C⟩:=o p { Y with heap:=Y.heap.push { cls:=.type "slice",data:=.fields #[a,c,.none] } } σ d x v a c l u Y.heap.objs.size Q n R (Heap.IsSliceOf.new ..) pl P z;show wpAny (model X.prog X.w) X.A (subscriptTail e (.Slice lo hi none p2) v (.ref Y.heap.objs.size)) (EP X p σ Q) X.xe { Y with heap:=Y.heap.push { cls:=.type "slice",data:=.fields #[a,c,.none] } };exact tail_any (ops:=[.ref Y.heap.objs.size,v]) ht t C (by with_unfolding_all rfl)
def oG(xs:aw V)(lo hi:aE Int):aw V:=(xs.drop (HT.gj xs.length 0 lo)).take (HT.gj xs.length xs.length hi-HT.gj xs.length 0 lo)
def xK(xs:aw V)(lo hi:aE Int):(oG xs lo hi).length<=xs.length:=by unfold oG;rw[iQ,fR];lia
def qK4(K:bV):V->aE Int->aE Int->Hp->VK->Prop:=fun x lo hi H Q => ∃ a xs,x = .ref a/\aJ K H a xs ∧
 ¬ (HT.gj xs.length 0 lo=0/\HT.gj xs.length xs.length hi=xs.length)/\∀ p,H p=none->Q (.ref p) (upd H p (.tup (oG xs lo hi)))
def rM:SlR X (qK4 X.K):=by
 intro _ s σ H x v _ _ lo hi _ Q I R d pl p h;obtain⟨a,xs,rfl,e,w,q⟩:=h
 cases R
 obtain⟨its,r,ht,c⟩:=I.tuple e
 have n:its.toArray.size=xs.length:=by rw[CV];exact r.length.symm
 refine⟨"tuple",_,PyProof.Rows.slot_tuple_getitem.lookup,ht.typeIs,?_⟩;refine HT.uX ht d pl p (by rw[n];exact w) ?_ (by rw[n];exact c);rw[n];refine⟨.ref s.heap.objs.size,_,I.laid (t':=s.toks) (o:=.tup (oG xs lo hi)) (fun b _ q=>fM _ q) (bD _) ?_,rfl,q _ (I.hok.fresh (bD _))⟩;exact⟨br (xK xs lo hi) c,_,(r.drop (HT.gj xs.length 0 lo)).take (HT.gj xs.length xs.length hi-HT.gj xs.length 0 lo),IsTup.new _ _⟩
def qET(K:bV):R2:=fun x y H Q => ∃ a b xs ys,x = .ref a/\y = .ref b/\aJ K H a xs/\aJ K H b ys/\xs≠[]/\xs.length+ys.length<=sizeLine ∧
 (ys=[]->Q (.ref a) H)/\(ys≠[]->∀ p,H p=none->Q (.ref p) (upd H p (.tup (xs++ys))))
theorem Vals.uM(r:Vals xs us):us=[]↔xs=[]:=by
 cases r with
 | nil=>simp
 | cons _ _=>simp
def GR:lJ X (binaryOp .Add) (qET X.K):=by
 intro _ s σ H x y v u Q I d f h;obtain⟨a,b,xs,ys,rfl,rfl,e,g,k,c,i,j⟩:=h
 cases d
 cases f
 obtain⟨_,r,p,_⟩:=I.tuple e;obtain⟨_,R,p2,_⟩:=I.tuple g;refine HT.Zm p p2 (fun z=>k (r.uM.mp z)) (fun z=>⟨.ref a,H,I,rfl,i (R.uM.mp z)⟩) (fun z=>?_) (by rw[<-r.length,<-R.length];exact c);refine⟨.ref s.heap.objs.size,_,I.laid (t':=s.toks) (o:=.tup (xs++ys)) (fun b _ q=>fM _ q) (bD _) ?_,rfl,j (fun w=>z (R.uM.mpr w)) _ (I.hok.fresh (bD _))⟩;exact⟨by rw[j8];exact c,_,r.append R,IsTup.new _ _⟩
end
noncomputable def Su(n:Nat)(i:Int):aE Nat:=if 0<=i then (if i<n then some i.toNat else none) else if -(n:Int)<=i then some (i+n).toNat else none
def mX{α:Type}(xs:aw α)(i:Int):aE α:=(Su xs.length i).bind fun j=>xs[j]?
def Ov(h:Su n i=some j):seqIndex? i n=some j/\j<n /\ -(n:Int)<=i/\i<n:=by
 unfold Su at h
 by_cases d:0<=i
 .rw[cS d]at h
  by_cases H:i<n
  .rw[cS H]at h;have e:i.toNat=j:=kJ h;exact⟨by rw[seqIndex_of d H,e],by lia,by lia,H⟩
  .rw[cK H]at h;cases h
 .rw[cK d]at h
  by_cases H : -(n:Int)<=i
  .rw[cS H]at h;have e:(i+n).toNat=j:=kJ h;exact⟨by rw[seqIndex_neg (by lia) H,e],by lia,H,by lia⟩
  .rw[cK H]at h;cases h
theorem HF(h:mX xs i=some v):∃ j,seqIndex? i xs.length=some j/\xs[j]? = some v/\j<xs.length /\ -(xs.length:Int)<=i/\i<xs.length:=by
 unfold mX at h
 cases e:Su xs.length i with
 | none=>rw[e]at h;cases h
 | some j=>
  rw[e]at h;obtain⟨H,l,p,a⟩:=Ov e;exact⟨j,H,h,l,p,a⟩
def yR{α:Type}{xs:aw α}{j:Nat}{v:α}(h:xs[j]? = some v):mX xs (j:Int)=some v:=by
 have G:j<xs.length:=(oW.mp h).1
 have e:Su xs.length (j:Int)=some j:=by
  unfold Su;rw[cS (by lia),cS (by lia)];simp
 unfold mX;rw[e];exact h
def Pz(b:Expr):Prop:=∀ o i,subscripted b false o i=operate [o,i] (getItem o i)
def IxR(X:Cx)(r:R2):Prop:=
 ∀(e slice:Expr)(p:aw (ar×Obj))(s:ae)(σ:St)(H:Hp)(x y:V)(v u:av)(Q:VK),Inv X p σ H s->RelV x v->RelV y u->r x y H Q →
  subscripted slice false v u=operate [v,u] (getItem v u)->wpAny (model X.prog X.w) X.A (subscriptTail e slice v u) (EP X p σ Q) X.xe s
def MtR(X:Cx)(id:String)(r:V->aw V->Hp->VK->Prop):Prop:=
 ∀(p:aw (ar×Obj))(s:ae)(σ:St)(H:Hp)(x:V)(xs:aw V)(v:av)(us:aw av)(Q:VK),Inv X p σ H s->RelV x v->Vals xs us->r x xs H Q →
  wpAny (model X.prog X.w) X.A (call (.builtin id) (v::us)) (EP X p σ Q) X.xe s
section
variable{X:Cx}{a b:Expr}{ta tb:TE}{pos:Pos}
def IxR.or(h:IxR X r)(h':IxR X r'):IxR X (fun x y H Q=>r x y H Q∨r' x y H Q):=by
 intro e slice p s σ H x y v u Q I R c q a;rcases q with q | q
 .exact h e slice p s σ H x y v u Q I R c q a
 .exact h' e slice p s σ H x y v u Q I R c q a
def yC(g:IxR X r)(d:PE X a ta)(e:PE X b tb)(j:Pz b):PE X (.Subscript a b pos) (tOp r ta tb):=by intro p s σ H Q I h;exact Subscript_ (qD9 d e I h fun v u S x y f i R c q=>g a b p S σ f x y v u Q i R c q (j _ _))
inductive Yb(K:bV)(x y:V)(H:Hp)(Q:VK):Prop
 | mk (p xs i v) (_:x = .ref p) (_:y = .int i) (_:aU K H p xs) (_:mX xs i=some v) (_:Q v H)
inductive dM(K:bV)(x y:V)(H:Hp)(Q:VK):Prop
 | mk (p xs i v) (_:x = .ref p) (_:y = .int i) (_:aJ K H p xs) (_:mX xs i=some v) (_:Q v H)
def qER:R2:=fun x y H Q => ∃ z i c,x = .str z/\y = .int i/\z.length<=sizeLine/\mX z.cps.toList i=some c/\Q (.str ⟨#[c]⟩) H
def yV:IxR X (Yb X.K):=by
 intro _ _ P s σ H x y v u Q I R g h b;obtain⟨p,_,i,z,rfl,rfl,c,o,q⟩:=h
 cases R
 obtain⟨t,rfl⟩:=g;obtain⟨its,r,pl,_⟩:=I.list c;obtain⟨j,a,n,_,m,k⟩:=HF o;obtain⟨w,e,U⟩:=r.get n;have l:=r.length;have A:=vh;have f:EP X P σ Q w s:=⟨z,H,I,U,q⟩
 by_cases d:0<=i
 .have G:i.toNat=j:=by
   rw[seqIndex_of d k]at a;exact kJ a
  exact item_listR pl.isList d (by lia) (by rw[G];simpa using e) f b
 .have G:(i+(its.toArray.size:Int)).toNat=j:=by
   rw[seqIndex_neg (by lia) m]at a;rw[CV,<-l];exact kJ a
  exact subscriptTail_builtinR (x:=w) pl.isList.typeIs slot_list_getitem.lookup
   (wpAny_getItem_list_neg (Q:=fun r s'=>r=w/\EP X P σ Q r s') pl.isList (by lia) (by rw[ia] <;> lia) (by lia) (by rw[G];simpa using e) ⟨rfl,f⟩) b
def zH:IxR X (dM X.K):=by
 intro _ _ P s σ H x y v u Q I R c h d;obtain⟨p,_,i,z,rfl,rfl,b,g,q⟩:=h
 cases R
 obtain⟨t,rfl⟩:=c;obtain⟨_,r,pl,_⟩:=I.tuple b;obtain⟨j,a,e,_,_,_⟩:=HF g;obtain⟨w,E,U⟩:=r.get e;have l:=r.length;have n:=vh;have f:EP X P σ Q w s:=⟨z,H,I,U,q⟩;exact subscriptTail_builtinR (x:=w) pl.typeIs slot_tuple_getitem.lookup
  (getItem_tuple (j:=j) (Q:=fun r s'=>r=w/\EP X P σ Q r s') pl (by lia) (by lia) (by rw[ia,<-l];exact a) (by simpa using E) ⟨rfl,f⟩) d
def Vq:IxR X qER:=by
 intro _ _ _ s σ H x y v u Q I R r h b;obtain⟨z,i,c,rfl,rfl,_,k,q⟩:=h;obtain⟨t,rfl⟩:=R;obtain⟨_,rfl⟩:=r;obtain⟨j,a,g,_,d,f⟩:=HF k
 have l:z.cps.toList.length=z.length:=by simp [Str.length]
 rw[l]at a d f;have n:=vh
 exact tail_any (typeIs_str s z t) slot_str_getitem.lookup (getItem_str (c:=c) (by
  have e:decide (i < -(2 ^ 63:Int))=false:=bp (by lia);have E:decide (i≥2 ^ 63)=false:=bp (by lia)
  rw[e,E,Bool.or_false]) (by rw[a];simpa using g) ⟨.str ⟨#[c]⟩,H,I.tok _,⟨_,rfl⟩,q⟩) b
def rIx(K:bV):R2:=fun x y H Q=>Yb K x y H Q∨dM K x y H Q∨qER x y H Q
def Vr:IxR X (rIx X.K):=yV.or (zH.or Vq)
def M9(its:aw av)(n j:Nat)(u:av):Obj.mapSeq (·.setIfInBounds j u) { cls:=.type "list",data:=.seq its.toArray n } = { cls:=.type "list",data:=.seq (its.set j u).toArray n }:=by simp [Obj.mapSeq]
def Inv.lst(I:Inv X pins σ H s)(h:H p=some (.lst xs)) :
  ∃(its:aw av)(n:Nat),Vals xs its/\s.heap.get? p=some { cls:=.type "list",data:=.seq its.toArray n }/\xs.length<=sizeLine:=by obtain⟨z,its,n,r,e⟩:=I.hok p _ h;exact⟨its,n,r,e,z⟩
def Inv.qCK{P:aw (ar×Obj)}{σ:St}{H:Hp}{s:ae}{p:ar}{xs ys:aw V}{its its':aw av}{n N:Nat}{f:Obj->Obj}(I:Inv X P σ H s)(h:H p=some (.lst xs))
  (o:s.heap.get? p=some { cls:=.type "list",data:=.seq its.toArray n }) (a:f { cls:=.type "list",data:=.seq its.toArray n } = { cls:=.type "list",data:=.seq its'.toArray N }) (r:Vals ys its') (z:ys.length<=sizeLine) (t:Nat) :
  Inv X P σ (upd H p (.lst ys)) { s with heap:=s.heap.update p f,toks:=t }:=by
 have e:(s.heap.update p f).get? p=some { cls:=.type "list",data:=.seq its'.toArray N }:=by
  rw[cm f o (by rw[a] <;> rfl),a]
 refine I.write (x:=p) (e:=p) (by rw[h];trivial) (.inl rfl) (fun b u c q=>(ck _ _ (bE c)).trans q) ⟨_,e⟩ ?_;exact⟨z,its',N,r,e⟩
inductive qEP(o i v:V)(H:Hp)(Q:(Hp->Prop)):Prop
 | mk (p xs k j) (_:o = .ref p) (_:i = .int k) (_:H p=some (.lst xs)) (_:Su xs.length k=some j) (_:Q (upd H p (.lst (xs.set j v))))
def set_list:qJ7 X qEP:=by
 intro P s σ H o i v _ _ u Q I x w R h;obtain⟨p,xs,k,j,rfl,rfl,e,G,q⟩:=h
 cases x
 obtain⟨t,rfl⟩:=w;obtain⟨its,n,r,c,z⟩:=I.lst e;obtain⟨a,_,m,f⟩:=Ov G;have l:=r.length;have y:=vh
 have d:Inv X P σ (upd H p (.lst (xs.set j v))) { s with heap:=s.heap.update p (Obj.mapSeq (·.setIfInBounds j u)) }:=
  I.qCK e c (M9 its n j u) (r.set R j) (by rw[gu];exact z) s.toks
 by_cases g:0<=k
 .have b:k.toNat=j:=by
   rw[seqIndex_of g f]at a;exact kJ a
  exact PySem.W.ki_setAt c g (by lia) (by rw[CV,<-l];exact f) (by rw[b];exact⟨_,d,q⟩)
 .have b:(k+(its.toArray.size:Int)).toNat=j:=by
   rw[seqIndex_neg (by lia) m]at a;rw[CV,<-l];exact kJ a
  exact PySem.W.ki_setBack c (by lia) (by rw[CV,<-l];exact m) (by lia) (by rw[b];exact⟨_,d,q⟩)
theorem Fl(lo H:aE Int)(n:Nat):(sliceBounds lo H none n).1=((HT.gj n 0 lo:Nat):Int)/\(sliceBounds lo H none n).2.1=((HT.gj n n H:Nat):Int)/\(sliceBounds lo H none n).2.2=1:=by
 refine⟨?_,?_,rfl⟩
 .cases lo with
  | none=>simp [sliceBounds,HT.gj]
  | some i=>
   simp only[sliceBounds,HT.gj,Option.getD_none,show (1:Int)>0 by decide,if_true]
   by_cases h:i<0
   .simp only[h,if_true] <;> lia
   .simp only[h,if_false] <;> lia
 .cases H with
  | none=>simp [sliceBounds,HT.gj]
  | some i=>
   simp only[sliceBounds,HT.gj,Option.getD_none,show (1:Int)>0 by decide,if_true]
   by_cases h:i<0
   .simp only[h,if_true] <;> lia
   .simp only[h,if_false] <;> lia
def CZ(its:aw av)(lo i:aE Int):slicePick its.toArray lo i none=((its.drop (HT.gj its.length 0 lo)).take (HT.gj its.length its.length i-HT.gj its.length 0 lo)).toArray:=by obtain⟨H,l,p⟩:=Fl lo i its.toArray.size;unfold slicePick;rw[H,l,p];simp only[sliceRange_one,pick_run,List.size_toArray] <;> rfl
def qK5(K:bV):V->aE Int->aE Int->Hp->VK->Prop:=fun x lo i H Q => ∃ a xs,x = .ref a/\aU K H a xs/\∀ p,H p=none->Q (.ref p) (upd H p (.lst (oG xs lo i)))
def O1:SlR X (qK5 X.K):=by
 intro _ s σ H x v _ _ lo i _ Q I R d pl p h;obtain⟨a,xs,rfl,e,q⟩:=h
 cases R
 obtain⟨_,r,ht,c⟩:=I.list e;have n:=r.length;refine⟨"list",_,slot_list_getitem.lookup,ht.isList.typeIs,?_⟩;refine wpAny_getItem_list_slice ht.isList d pl p .none (by simp) ?_ (by rw[List.size_toArray] <;> lia);rw[CZ,<-n];refine⟨.ref s.heap.objs.size,_,I.laid (t':=s.toks) (o:=.lst (oG xs lo i)) (fun b _ q=>fM _ q) (bD _) ?_,rfl,q _ (I.hok.fresh (bD _))⟩;exact⟨br (xK xs lo i) c,_,0,(r.drop (HT.gj xs.length 0 lo)).take (HT.gj xs.length xs.length i-HT.gj xs.length 0 lo),qy _ rfl⟩
def oR:V->Bool
 | .non=>true
 | .bl _=>true
 | .int _=>true
 | .str _=>true
 | _=>false
noncomputable def Xv:V->V->Bool
 | .non,.non=>true
 | .bl a,.bl b=>a==b
 | .bl a,.int b=>(if a then 1 else 0)==b
 | .int a,.bl b=>a==(if b then 1 else 0)
 | .int a,.int b=>a==b
 | .str a,.str b=>a==b
 | _,_=>false
theorem qD0(c:RelV y u)(R:RelV x v)(F:oR y=true)(f:oR x=true):SeqAt.EqAt A s u v (Xv y x):=by
 cases y with
 | non=>
  cases c
  cases x with
  | non=>cases R;exact SeqAt.EqAt.same _
  | bl b=>cases R;exact SeqAt.EqAt.none_bool b
  | int b=>obtain⟨t,rfl⟩:=R;exact SeqAt.EqAt.none_int b t
  | str b=>obtain⟨t,rfl⟩:=R;exact SeqAt.EqAt.none_str b t
  | _=>exact eu (show false=true from f) rA
 | bl a=>
  cases c
  cases x with
  | non=>cases R;exact SeqAt.EqAt.bool_none a
  | bl b=>cases R;exact SeqAt.EqAt.bool_bool a b
  | int b=>obtain⟨t,rfl⟩:=R;exact SeqAt.EqAt.bool_int a b t
  | str b=>obtain⟨t,rfl⟩:=R;exact SeqAt.EqAt.bool_str a b t
  | _=>exact eu (show false=true from f) rA
 | int a=>
  obtain⟨t',rfl⟩:=c
  cases x with
  | non=>cases R;exact SeqAt.EqAt.int_none a t'
  | bl b=>cases R;exact SeqAt.EqAt.int_bool a t' b
  | int b=>obtain⟨t,rfl⟩:=R;exact SeqAt.EqAt.int_int a t' b t
  | str b=>obtain⟨t,rfl⟩:=R;exact SeqAt.EqAt.int_str a t' b t
  | _=>exact eu (show false=true from f) rA
 | str a=>
  obtain⟨t',rfl⟩:=c
  cases x with
  | non=>cases R;exact SeqAt.EqAt.str_none a t'
  | bl b=>cases R;exact SeqAt.EqAt.str_bool a t' b
  | int b=>obtain⟨t,rfl⟩:=R;exact SeqAt.EqAt.str_int a t' b t
  | str b=>obtain⟨t,rfl⟩:=R;exact SeqAt.EqAt.str_str a t' b t
  | _=>exact eu (show false=true from f) rA
 | _=>exact eu (show false=true from F) rA
def Mt(x:V)(u:av):Bool:=match u with
 | .none=>Xv .non x
 | .bool b=>Xv (.bl b) x
 | .int i _=>Xv (.int i) x
 | .str z _=>Xv (.str z) x
 | _=>false
theorem Wm(r:RelV y u)(f:oR y=true):Mt x u=Xv y x:=by
 cases y with
 | non=>cases r;rfl
 | bl b=>cases r;rfl
 | int i=>obtain⟨t,rfl⟩:=r;rfl
 | str z=>obtain⟨t,rfl⟩:=r;rfl
 | _=>exact eu (show false=true from f) rA
theorem uh:∀ {xs:aw V} {us:aw av},Vals xs us->xs.all oR=true->us.any (Mt x)=xs.any fun y=>Xv y x
 | _,_,.nil,_=>rfl
 | y::xs,u::us,.cons r t,f=>by
  rw[List.all_cons,eD]at f;rw[fh,fh,Wm r f.1,uh t f.2]
theorem pP(R:RelV x v)(F:oR x=true):∀ {xs:aw V} {us:aw av},Vals xs us->xs.all oR=true->∀ u∈us,SeqAt.EqAt A s u v (Mt x u)
 | _,_,.nil,_=>fun u h=>by cases h
 | y::xs,u::us,.cons r t,f=>fun U h=>by
  rw[List.all_cons,eD]at f;rcases dD.mp h with rfl | h
  .rw[Wm r f.1];exact qD0 r R f.1 F
  .exact pP R F t f.2 U h
def inV(x:V)(xs:aw V):Bool:=xs.any fun y=>Xv y x
def rIn(K:bV)(neg:Bool):R2:=fun x y H Q => ∃ p xs,y = .ref p/\(aU K H p xs∨aJ K H p xs)/\oR x=true/\xs.all oR=true/\Q (.bl (if neg then !inV x xs else inV x xs)) H
def jM:lJ X (compareOp .In) (rIn X.K false):=by
 intro _ s σ H x y v u Q I R c h;obtain⟨p,_,rfl,a,f,fs,q⟩:=h
 cases c
 rcases a with a | a
 .obtain⟨its,r,pl,z⟩:=I.list a;refine SeqAt.in_listAt (Mt x) pl.isList (fun w b=>pP R f r fs w (by simpa using b)) ⟨.bl _,H,I,rfl,?_⟩;rw[show its.toArray.any (Mt x)=its.any (Mt x) by simp,uh r fs];exact q
 .obtain⟨its,r,pl,z⟩:=I.tuple a;refine SeqAt.in_tupleAt (Mt x) pl (fun w b=>pP R f r fs w (by simpa using b)) ⟨.bl _,H,I,rfl,?_⟩;rw[show its.toArray.any (Mt x)=its.any (Mt x) by simp,uh r fs];exact q
def dq:lJ X (compareOp .NotIn) (rIn X.K true):=by
 intro _ s σ H x y v u Q I R c h;obtain⟨p,_,rfl,a,f,fs,q⟩:=h
 cases c
 rcases a with a | a
 .obtain⟨its,r,pl,z⟩:=I.list a;refine SeqAt.notIn_listAt (Mt x) pl.isList (fun w b=>pP R f r fs w (by simpa using b)) ⟨.bl _,H,I,rfl,?_⟩;rw[show its.toArray.any (Mt x)=its.any (Mt x) by simp,uh r fs];exact q
 .obtain⟨its,r,pl,z⟩:=I.tuple a;refine SeqAt.notIn_tupleAt (Mt x) pl (fun w b=>pP R f r fs w (by simpa using b)) ⟨.bl _,H,I,rfl,?_⟩;rw[show its.toArray.any (Mt x)=its.any (Mt x) by simp,uh r fs];exact q
def zO:ir X (.builtin "len") (fun xs H Q => ∃ p ys,xs=[.ref p]/\(aU X.K H p ys∨aJ X.K H p ys)/\Q (.int ys.length) H):=by
 intro _ s σ H xs _ Q I r h;obtain⟨p,ys,rfl,a,q⟩:=h;obtain⟨u,rfl,x⟩:=vals1 r
 cases x
 have f:=vh;rcases a with a | a
 .obtain⟨its,R,pl,c⟩:=I.list a;have n:=R.length;exact Calls.call_len_list pl.isList (by simp only[List.size_toArray] <;> lia) ⟨.int ys.length,H,I.tok _,⟨s.toks+1,by rw[ia,n]⟩,q⟩
 .obtain⟨its,R,pl,c⟩:=I.tuple a;have n:=R.length;exact len_tuple pl (by simp only[List.size_toArray] <;> lia) ⟨.int ys.length,H,I.tok _,⟨s.toks+1,by rw[ia,n]⟩,q⟩
def ue:ir X (.builtin "len") (fun xs H Q => ∃ z,xs=[.str z]/\z.length<=sizeLine/\Q (.int z.length) H):=by intro _ s σ H xs _ Q I r h;obtain⟨z,rfl,_,q⟩:=h;obtain⟨u,rfl,t,rfl⟩:=vals1 r;have f:=vh;exact len_str (by lia) ⟨.int z.length,H,I.tok _,⟨_,rfl⟩,q⟩
def gO:ir X (.type "list") (fun xs H Q => ∃ p ys,xs=[.ref p]/\(aU X.K H p ys∨aJ X.K H p ys)/\∀ l,H l=none->Q (.ref l) (upd H l (.lst ys))):=by
 intro P s σ H xs _ Q I r h;obtain⟨p,ys,rfl,a,q⟩:=h;obtain⟨u,rfl,x⟩:=vals1 r
 cases x
 have f:∀(its:aw av),Vals ys its->ys.length<=sizeLine->∀(h':Heap)(T:Nat),(∀ b O,s.heap.get? b=some O->h'.get? b=some O) →
   h'.get? s.heap.objs.size=some { cls:=.type "list",dict:=none,data:=.seq its.toArray T,slots:=#[] }->EP X P σ Q (.ref s.heap.objs.size) { s with heap:=h' }:=fun its R z h' T k e=>
  ⟨.ref s.heap.objs.size,_,I.laid (t':=s.toks) k (bD _) (show bM X.prog X.w _ h' _ (.lst ys) from ⟨z,its,T,R,e⟩),rfl,q _ (I.hok.fresh (bD _))⟩
 rcases a with a | a
 .obtain⟨its,R,pl,z⟩:=I.list a;have c:=R.length;obtain⟨o,g,d,n,hd⟩:=pl.isList;exact call_list_seq p (.inl rfl) g d hd (fun h' T k e=>f its R z h' T k e) (by simp only[List.size_toArray] <;> lia)
 .obtain⟨its,R,pl,z⟩:=I.tuple a;have c:=R.length;obtain⟨o,g,d,n,hd⟩:=pl;exact call_list_seq p (.inr rfl) g d hd (fun h' T k e=>f its R z h' T k e) (by simp only[List.size_toArray] <;> lia)
def zY:ir X (.type "tuple") (fun xs H Q => ∃ p ys,xs=[.ref p]/\((aU X.K H p ys/\∀ l,H l=none->Q (.ref l) (upd H l (.tup ys)))∨(aJ X.K H p ys/\Q (.ref p) H))):=by
 intro P s σ H xs _ Q I r h;obtain⟨p,ys,rfl,h⟩:=h;obtain⟨u,rfl,x⟩:=vals1 r
 cases x
 rcases h with ⟨a,q⟩ | ⟨a,q⟩
 .obtain⟨its,R,pl,c⟩:=I.list a;have n:=R.length;refine call_tuple_list pl.isList (fun h' k=>?_) (by simp only[List.size_toArray] <;> lia);have i:Inv X P σ H { s with heap:=h' }:=I.kept (t':=s.toks) k
  have d:Inv X P σ (upd H h'.objs.size (.tup ys)) { s with heap:=h'.push { cls:=.type "tuple",data:=.seq its.toArray } }:=
   i.laid (t':=s.toks) (fun b o e=>fM _ e) (bD _) (show bM X.prog X.w _ _ _ (.tup ys) from ⟨c,its,R,IsTup.new _ _⟩)
  exact⟨.ref h'.objs.size,_,d,rfl,q _ (i.hok.fresh (bD _))⟩
 .obtain⟨its,R,pl,c⟩:=I.tuple a;exact call_tuple_same pl ⟨.ref p,H,I,rfl,q⟩
def tyV(K:bV)(T:String)(x:V)(H:Hp):Prop:=match x with
 | .str _=>T = "str"
 | .int _=>T = "int"
 | .ref p=>(T = "list" /\ ∃ xs,aU K H p xs)∨(T = "tuple" /\ ∃ o,K.lookup p=some o/\o.cls = .type "tuple" /\ o.dict=none) ∨
   (T = "dict" /\ ((∃ k,H p=some (.dK k)) ∨ ∃ k,H p=some (.dT k)))∨(T = "set" /\ ∃ S n,H p=some (.set S n))
 | _=>False
theorem T8(I:Inv X pins σ H s)(r:RelV x v)(ty:tyV X.K T x H) :
  s.TypeIs v T/\∀ a,v = .ref a->∃ O,s.heap.get? a=some O/\O.dict=none:=by
 cases x with
 | str z=>
  obtain⟨t,rfl⟩:=r
  cases (show T = "str" from ty)
  exact⟨typeIs_str s z t,fun _ e=>nomatch e⟩
 | int i=>
  obtain⟨t,rfl⟩:=r
  cases (show T = "int" from ty)
  exact⟨typeIs_int s i t,fun _ e=>nomatch e⟩
 | ref p=>
  cases r
  rcases ty with ⟨rfl,xs,q⟩ | ⟨rfl,o,k,f,hd⟩ | ⟨rfl,k⟩ | ⟨rfl,S,n,k⟩
  .obtain⟨_,_,pl,_⟩:=I.list q;refine⟨pl.isList.typeIs,fun a e=>?_⟩
   cases e
   obtain⟨o,n,e,c,hd,_⟩:=pl;exact⟨o,e,hd⟩
  .refine⟨⟨o,I.mQ p o k,f⟩,fun a e=>?_⟩
   cases e
   exact⟨o,I.mQ _ o k,hd⟩
  .have z:∃ o,s.heap.get? p=some o/\o.ExactDict:=by
    rcases k with ⟨b,k⟩ | ⟨b,k⟩
    .obtain⟨_,_,_,_,o,_,_,e,j,_⟩:=I.hok p _ k;exact⟨o,e,j⟩
    .obtain⟨_,_,_,_,o,_,_,e,j,_⟩:=I.hok p _ k;exact⟨o,e,j⟩
   obtain⟨o,e,j⟩:=z;refine⟨⟨o,e,j.1⟩,fun a E=>?_⟩
   cases E
   exact⟨o,e,j.2.1⟩
  .obtain⟨o,_,_,_,e,j,_⟩:=I.hok p _ k;refine⟨⟨o,e,j.1⟩,fun a E=>?_⟩
   cases E
   exact⟨o,e,j.2.1⟩
 | _=>exact c9 ty
def qJV(K:bV)(T:String)(r:V->aw V->Hp->VK->Prop)(to:TE):TE:=fun σ H Q=>to σ H fun x h=>tyV K T x h/\r x [] h Q
def tBM(K:bV)(T:String)(r:V->aw V->Hp->VK->Prop)(to:TE)(t:TA):TE:=fun σ H Q=>to σ H fun x h=>tyV K T x h/\t σ h fun xs a=>r x xs a Q
variable{o e:Expr}{es:aw Expr}{to:TE}{t:TA}{name:Str}{apos cpos:Pos}{T id:String}{r:V->aw V->Hp->VK->Prop}
def Uh(P:PlainAttrs T)(S:Slot T name id)(y:typeOf (.builtin id)=pure (.type "method_descriptor"))(m:MtR X id r)(q:PE X o to)
  (a:attributeBase o name X.env (eval o X.env)=eval o X.env:=by rfl) (e:(apos.endLine==cpos.line)=true:=by rfl):PE X (.Call (.Attribute o name apos) [] [] cpos) (qJV X.K T r to):=by intro p s σ H Q I h;refine wpAny_Call_method0_late a e (bH (q p s σ H _ I h) fun v c ⟨x,d,i,R,ty,f⟩=>?_);obtain⟨b,l⟩:=T8 i R ty;exact⟨T,id,P,S,y,b,l,Calls.callWith_builtin rfl (PySem.evalArgs_none (m p c σ d x [] v [] Q i R .nil f))⟩
def dU(P:PlainAttrs T)(S:Slot T name id)(y:typeOf (.builtin id)=pure (.type "method_descriptor"))(C:MtR X id r)(m:PE X o to)(u:PA X (e::es) t)
  (a:attributeBase o name X.env (eval o X.env)=eval o X.env:=by rfl)
  (w:((backTo cpos (starEach (e::es) X.env)).all (fun x => !x.1)&&(backToKw cpos (keywordEach [] X.env)).all (fun x=>x.1.isSome)
   && decide ((e::es).length+([]:aw Keyword).length+(if ([]:aw Keyword).isEmpty then 0 else 1)<30))=true:=by rfl)
  (b:(apos.endLine==cpos.line)=true:=by rfl) (k:starEach (e::es) X.env=(false,eval e X.env)::starEach es X.env:=by rfl) (n:(backTo cpos (starEach es X.env)).any (·.1)=false:=by rfl) :
  PE X (.Call (.Attribute o name apos) (e::es) [] cpos) (tBM X.K T r to t):=by intro p s σ H Q I h;refine wpAny_Call_method_late a w b rfl (bH (m p s σ H _ I h) fun v f ⟨x,j,i,R,ty,B⟩=>?_);obtain⟨d,l⟩:=T8 i R ty;refine⟨T,id,P,S,y,d,l,?_⟩;have A:=u cpos p f σ j _ i B;rw[k]at A ⊢;refine Calls.callWith_builtin (by show (false||(backTo cpos (starEach es X.env)).any (·.1))=false;rw[n] <;> rfl) (Calls.evalArgs_plain ?_);exact bH A fun us z ⟨vs,D,g,c,q⟩=>C p z σ D x vs v us Q g R c q
end
def MtM(X:Cx)(id:String)(r:V->aw V->Hp->VK->Prop):Prop:=
 ∀(p:aw (ar×Obj))(s:ae)(σ:St)(H:Hp)(x:V)(xs:aw V)(v:av)(us:aw av)(Q:VK),Inv X p σ H s->RelV x v->Vals xs us->r x xs H Q →
  wpAny (model X.prog X.w) X.A (call (.builtin id) (v::us)) (EP X p σ Q) X.xe s
theorem Vals.one:∀ {x:V} {us:aw av},Vals [x] us->∃ u,us=[u]/\RelV x u
 | _,_,.cons r .nil=>⟨_,rfl,r⟩
theorem Vals.zero:∀ {us:aw av},Vals [] us->us=[]
 | _,.nil=>rfl
theorem Vals.dropLast(h:Vals xs us):Vals xs.dropLast us.dropLast:=by
 induction h with
 | nil=>exact .nil
 | cons r t i=>
  cases t with
  | nil=>exact .nil
  | cons q t'=>exact .cons r i
theorem Vals.eraseIdx:∀ {xs:aw V} {us:aw av} (i:Nat),Vals xs us->Vals (xs.eraseIdx i) (us.eraseIdx i)
 | _,_,_,.nil=>.nil
 | _,_,0,.cons _ t=>t
 | _,_,i+1,.cons r t=>.cons r (Vals.eraseIdx i t)
theorem Vals.rep(h:Vals xs us):∀ k:Nat,Vals (List.replicate k xs).flatten (List.replicate k us).flatten
 | 0=>.nil
 | k+1=>by
  rw[dS,dS,fE,fE];exact Vals.append h (Vals.rep h k)
theorem Ms(l:aw α):l.eraseIdx (l.length-1)=l.dropLast:=by
 induction l with
 | nil=>rfl
 | cons a r i=>
  cases r with
  | nil=>rfl
  | cons b r=>
   have e:(a::b::r).length-1=((b::r).length-1)+1:=by
    have H:(a::b::r).length=r.length+2:=rfl;have h:(b::r).length=r.length+1:=rfl;lia
   rw[e,List.eraseIdx_cons_succ,i]
   all_goals rfl
theorem Eg:∀(l:aw α)(i:Nat),(l.eraseIdx i).length<=l.length
 | [],_=>bD _
 | _::_,0=>ip _
 | _::r,i+1=>iX (Eg r i)
theorem foldl_rep(its:aw av):∀(k:Nat)(a:aw av),
  List.foldl (fun x X=>x++X) a.toArray (List.replicate k its.toArray)=(a++(List.replicate k its).flatten).toArray
 | 0,a=>by simp
 | k+1,a=>by
  have e:a.toArray++its.toArray=(a++its).toArray:=by simp
  have E:(a++its)++(List.replicate k its).flatten=a++(List.replicate (k+1) its).flatten:=by
   rw[dS,fE,bX]
  rw[<-E,<-foldl_rep its k (a++its),<-e,dS,fF]
section
variable{X:Cx}{pins:aw (ar×Obj)}{σ:St}{H:Hp}{s:ae}{l b:ar}{xs ys zs:aw V}
def Inv.Vk{its its':aw av}{n:Nat}{f:Array av->Array av}{t':Nat}(I:Inv X pins σ H s)(h:H l=some (.lst xs))
  (e:s.heap.get? l=some { cls:=.type "list",data:=.seq its.toArray n }) (b:f its.toArray=its'.toArray) (v:Vals ys its') (z:ys.length<=sizeLine) :
  Inv X pins σ (upd H l (.lst ys)) { s with heap:=s.heap.update l (Obj.mapSeq f),toks:=t' }:=by have q:=PySem.IsL.update e f;rw[b]at q;refine I.write (x:=l) (e:=l) (by rw[h];exact trivial) (.inl rfl) (fun _ u c a=>(ck s.heap (Obj.mapSeq f) (bE c)).trans a) ⟨_,q⟩ ?_;exact⟨z,its',_,v,q⟩
def Inv.qKR(I:Inv X pins σ H s)(h:Vals ys its)(c:ys.length<=sizeLine) :
  Inv X pins σ (upd H s.heap.objs.size (.lst ys)) { s with heap:=s.heap.push { cls:=.type "list",data:=.seq its.toArray },toks:=t' }:=
 I.laid (fun _ _ q=>fM _ q) (bD _) ⟨c,its,0,h,qy _ rfl⟩
def Inv.fresh(I:Inv X pins σ H s):H s.heap.objs.size=none:=I.hok.fresh (bD _)
def Inv.Jd(I:Inv X pins σ H s)(h:H l=some (.lst xs)):xs.length<=sizeLine/\∃(its:aw av)(n:Nat),Vals xs its/\xs.length=its.length/\s.heap.get? l=some { cls:=.type "list",data:=.seq its.toArray n }:=by obtain⟨z,its,n,r,e⟩:=I.hok l _ h;exact⟨z,its,n,r,r.length,e⟩
def VH(h:n<=sizeLine):Builtin.List.listTooLong n=false:=by unfold Builtin.List.listTooLong;exact bp (by lia)
end
section
variable{X:Cx}
inductive Yd(x:V)(vs:List V)(H:Hp)(Q:VK):Prop
 | mk (l xs y) (_:x = .ref l) (_:vs=[y]) (_:H l=some (.lst xs)) (_:xs.length<sizeLine) (_:Q .non (upd H l (.lst (xs++[y]))))
def yI:MtM X "list.append" Yd:=by
 intro _ s σ H x _ v _ Q I R b h;obtain⟨l,_,y,rfl,rfl,a,_,q⟩:=h
 cases R
 obtain⟨u,rfl,M⟩:=b.one;obtain⟨z,its,n,r,_,e⟩:=I.Jd a;refine call_meets F.slot_list_append ⟨_,e,rfl⟩ F.entry_list_append (F.args_list_append_2 _ _) (PySem.list_append l its.toArray n u (by rw[CV];lia)) ⟨e,?_⟩;refine⟨.non,_,I.Vk (its':=its++[u]) a e (by simp) (r.append (.cons M .nil)) ?_,rfl,q⟩;rw[j8,vG];lia
def Yc:V->aw V->Hp->VK->Prop:=fun x vs H Q => ∃ l b xs zs,x = .ref l/\vs=[.ref b]/\H l=some (.lst xs)/\H b=some (.lst zs)/\xs.length+zs.length<=sizeLine/\Q .non (upd H l (.lst (xs++zs)))
def cG:MtM X "list.extend" Yc:=by
 intro _ s σ H x _ v _ Q I d c h;obtain⟨l,b,_,_,rfl,rfl,a,B,_,q⟩:=h
 cases d
 obtain⟨u,rfl,M⟩:=c.one
 cases M
 obtain⟨z,its,n,r,_,e⟩:=I.Jd a;obtain⟨_,i,N,R,_,E⟩:=I.Jd B
 have hsz:its.toArray.size+i.toArray.size<=sizeLine:=by rw[CV,CV];lia
 have D:¬ (!its.toArray.isEmpty&&Builtin.List.listTooLong (its.toArray.size+i.toArray.size))=true:=by
  rw[VH hsz,Bool.and_false];exact rA
 refine call_meets F.slot_list_extend ⟨_,e,rfl⟩ F.entry_list_extend (F.args_list_extend_2 _ _)
  (AutoSeq1.list_extend_list_list_0 l its.toArray n b i.toArray N D (by rw[CV];lia) (by lia)) ⟨e,E,?_⟩
 refine⟨.non,_,I.Vk (its':=its++i) a e (by simp) (r.append R) ?_,rfl,q⟩;rw[j8];lia
def qK6:V->aw V->Hp->VK->Prop:=fun x vs H Q => ∃ l xs y,x = .ref l/\vs=[]/\H l=some (.lst xs)/\xs[xs.length-1]? = some y/\Q y (upd H l (.lst xs.dropLast))
def qCH:MtM X "list.pop" qK6:=by
 intro _ s σ H x _ v _ Q I R d h;obtain⟨l,_,y,rfl,rfl,c,N,q⟩:=h
 cases R
 have a:=d.zero;subst a;obtain⟨z,its,n,r,f,e⟩:=I.Jd c;obtain⟨u,g,M⟩:=r.get N
 have b:its.toArray[its.toArray.size-1]? = some u:=by
  show its.toArray[its.length-1]? = some u;rw[<-eC,<-f];exact g
 refine call_meets F.slot_list_pop ⟨_,e,rfl⟩ F.entry_list_pop (F.args_list_pop_1 _) (MeetsSeq.list_pop_last l its.toArray n u b (by rw[CV];lia)) ⟨e,?_⟩;refine⟨y,_,I.Vk (its':=its.dropLast) c e ?_ r.dropLast ?_,M,q⟩
 .show its.toArray.eraseIdxIfInBounds (its.toArray.size-1)=its.dropLast.toArray;rw[CV,fq,Ms]
 .rw[List.length_dropLast];lia
def qBR:V->aw V->Hp->VK->Prop:=fun x vs H Q => ∃ l xs i k y,x = .ref l/\vs=[.int i]/\H l=some (.lst xs) /\ -(2 ^ 63)<=i/\i<2 ^ 63/\seqIndex? i xs.length=some k/\xs[k]? = some y/\Q y (upd H l (.lst (xs.eraseIdx k)))
def Vc:MtM X "list.pop" qBR:=by
 intro _ s σ H x _ v _ Q I R c h;obtain⟨l,xs,i,k,y,rfl,rfl,a,b,g,j,N,q⟩:=h
 cases R
 obtain⟨u,rfl,M⟩:=c.one;obtain⟨t,rfl⟩:=M;obtain⟨z,its,n,r,d,e⟩:=I.Jd a;obtain⟨w,f,U⟩:=r.get N;refine call_meets F.slot_list_pop ⟨_,e,rfl⟩ F.entry_list_pop (F.args_list_pop_2 _ _)
  (MeetsSeq.list_pop_at l its.toArray n i t k w (fitsIndex_both b g) (by rw[CV,<-d];exact j) (by rw[<-eC];exact f) (by rw[CV];lia)) ⟨e,?_⟩
 refine⟨y,_,I.Vk (its':=its.eraseIdx k) a e ?_ (r.eraseIdx k) ?_,U,q⟩
 .show its.toArray.eraseIdxIfInBounds k=(its.eraseIdx k).toArray;rw[fq]
 .have:=Eg xs k;lia
def qBS:V->aw V->Hp->VK->Prop:=fun x vs H Q => ∃ l xs,x = .ref l/\vs=[]/\H l=some (.lst xs)/\Q .non (upd H l (.lst []))
def Vd:MtM X "list.clear" qBS:=by
 intro _ s σ H x _ v _ Q I R c h;obtain⟨l,_,rfl,rfl,b,q⟩:=h
 cases R
 have a:=c.zero;subst a;obtain⟨z,its,n,r,_,e⟩:=I.Jd b;refine call_meets F.slot_list_clear ⟨_,e,rfl⟩ F.entry_list_clear (F.args_list_clear_1 _) (AutoSeq1.list_clear_list_0 l its.toArray n (by rw[CV];lia)) ⟨e,?_⟩;exact⟨.non,_,I.Vk (its':=[]) (ys:=[]) b e rfl .nil (bo _),rfl,q⟩
def qK7:R2:=fun x y H Q => ∃ l b xs zs,x = .ref l/\y = .ref b/\H l=some (.lst xs)/\H b=some (.lst zs)/\xs.length+zs.length<=sizeLine/\∀ p,H p=none->Q (.ref p) (upd H p (.lst (xs++zs)))
def GX:lJ X (binaryOp .Add) qK7:=by
 intro _ s σ H x y v u Q I a c h;obtain⟨l,b,_,_,rfl,rfl,f,B,_,q⟩:=h
 cases a
 cases c
 obtain⟨z,its,n,r,_,e⟩:=I.Jd f;obtain⟨_,i,_,R,_,E⟩:=I.Jd B;refine PySem.P.add_list e E ?_ (by rw[CV,CV];lia)
 have d:its.toArray++i.toArray=(its++i).toArray:=by simp
 rw[d];exact⟨.ref _,_,I.qKR (t':=s.toks) (r.append R) (by rw[j8];lia),rfl,q _ I.fresh⟩
theorem len_rep(xs:aw α)(k:Nat):(List.replicate k xs).flatten.length=k*xs.length:=by
 induction k with
 | zero=>simp
 | succ k i=>rw[dS,fE,j8,i,Nat.succ_mul,Nat.add_comm]
end
section
variable{prog:ag}{w:aI}{A:ai}{E:av->ae->Prop}{s:ae}
end
section
variable{X:Cx}
end
end L2
namespace Att
open PySem PySem.W PySem.Calls PyProof.Rows
theorem xU:∀(ns:aw Int)(vs:aw av),WellAll P h vs (ns.map WData.int)->IntsAre vs ns:=by
 intro ns
 induction ns with
 | nil=>
  intro vs w;rw[List.map_nil]at w
  cases w
  exact .nil
 | cons n ns i=>
  intro vs w;rw[bt]at w
  cases w with
  | cons a b=>
   cases a
   exact .cons _ _ (i _ b)
theorem QK{l:OpenLaw}{n:Nat}(k:l.most=some n){P:Params}{h:Heap}{args:aw WData}{v:aw av}
  (H:l.row.toRowW.claim.pre args=true) (e:WellAll P h v args) :
  ∃ a vs ns,v=[Value.ref a]/\args=[WData.list (ns.map WData.int)]/\h.get? a=some { cls:=.type "list",data:=.seq vs.toArray }/\IntsAre vs ns/\ns.length<=n:=by
 have c:WShape.hasAll [] args [.list .int]=true:=(pre_splitW H).1;have g:l.pre.holds [] { args:=args }=true:=(pre_splitW H).2;obtain⟨d,r,rfl,i,m⟩:=hasAllW_cons c;obtain rfl:=hasAllW_nil m;obtain⟨_,rfl,p⟩:=hasW_list i;obtain⟨ns,rfl⟩:=items_int p
 have b:ns.length<=n:=by
  unfold OpenLaw.pre at g
  have j:(WTm.not (.lt (.lit (.int (n:Int))) (.len (.arg 0)))).holds [] { args:=[.list (ns.map .int)] }=true:=by
   have j:=(holds_andW g).1;rw[k]at j;exact j
  have f:=condW_of j (w_not (w_lt w_lit (w_len_list (w_arg rfl))));rw[bT]at f;refine Nat.le_of_not_lt fun q=>?_
  have Q:(n:Int)<((ns.length:Nat):Int):=by lia
  first
   | (rw[bq Q]at f;exact eu f (by decide))
   | (simp at f;lia)
 cases e with
 | cons u w=>
  cases w
  cases u with
  | list o hall=>exact⟨_,_,ns,rfl,rfl,o,xU ns _ hall,b⟩
def QT(l:OpenLaw)(args:aw WData):l.row.toRowW.claim.post args (.bool true) args=true:=
 postW_of (r:=l.row.toRowW) (X:=(true==true))
  (show WShape.has [] (.bool true) .bool=true by first | rfl | decide | simp [WShape.has,WShape.arms,WShape.armsAll])
  (show (WTm.eq .res (.lit (.bool true))).value [] { args:=args,res:=some (.bool true),after:=args }=some (.bool (true==true)) from w_eq_bool (w_res rfl) w_lit) rfl
def Jy{l:OpenLaw}{n:Nat}{q:ag}{L:aw Str}{XP:(Str->aE av)->Heap->Prop}{y:aI->Heap->Prop}{d:DefRec}
  (x:l.most=some n) (i:d.params.defaults=[])
  (call:∀(w:aI)(S s:ae)(mg m:Str->aE av)(F:ar)(o:Obj)(p c D:av)(a:ar)(vs:aw av)(ns:aw Int),
   Ground q L [] XP w S mg m s.heap->y w s.heap →
   s.heap.get? F=some o->o.data = .func (docDef d.name d.params d.body d.scope p c D)->s.heap.CodeRec c d.name->mg d.name=some (.ref F) →
   s.heap.get? a=some { cls:=.type "list",data:=.seq vs.toArray }->IntsAre vs ns->ns.length<=n->s.gens = #[] →
   codeAny (model l.prog w) callerA (.call (.ref F) ⟨[.ref a],[]⟩) (fun r s'=>r = .ok (.ret (.bool true))/\OldK s.heap s'.heap/\s'.os=s.os/\AllBare s'.gens) s) :
  WalkO q L XP y l.row.toRowW d [] (fun f vs=>PySem.call f vs):=by intro w S s mg m G Y F o p c D A kV z hd j t g E _ _ _ e _ _ k _;obtain rfl:A = .none:=Dflts.none t i;obtain rfl:kV = .none:=Dflts.noKw t;obtain⟨a,vs,ns,rfl,rfl,H,h,b⟩:=QK x e k;refine enter_call (codeAny_mono (call w S s mg m F o p c D a vs ns G Y z (fd_plain hd) j g H h b E) fun r s' B=>?_);obtain⟨rfl,u,v,I⟩:=B;exact⟨.inl ⟨.bool true,.bool true,[],rfl,fun _=>rfl,.bool true,QT l _,fun _=>⟨List.Pairwise.nil,fun _ C=>(nomatch C)⟩⟩,u,v,I⟩
section
variable{prog:ag}{w:aI}{A:ai}{E:av->ae->Prop}{s:ae}{K:Frag}
end
end Att
namespace L2
open PySem PySem.Spec PyProof.Rows
theorem jK:∀ {vs:aw av} {ns:aw Int},IntsAre vs ns->Vals (ns.map V.int) vs
 | _,_,.nil=>.nil
 | _,_,.cons n t h=>.cons ⟨t,rfl⟩ (jK h)
def Only(H:Hp):Prop:=∀ b,H b=none ∨ ∃ o xs,H b=some (.Mh o (.lst xs))
theorem law_call{P:ag}{w:aI}{K:bV}{mg M:Str->aE av}{CX:KQ}{k:Nat}{D a:ar}{O:af}{x:Str}{sp:Sp}{S:ae}{vs:aw av}{ns:aw Int}
  (R:K.In S.heap) (g:S.heap.Ns mainGlobals mg) (c:S.heap.Ns builtinsNs M) (G:∀ x:Str,x ≠ "__name__" -> M x=bootBuiltins x) (j:S.heap.NoLimit) (hg:S.gens = #[])
  (t:S.heap.get? a=some { cls:=.type "list",data:=.seq vs.toArray }) (W:IntsAre vs ns) (J:ns.length<=sizeLine) (hr:fP k callerA)
  (F:∀ base:Heap,K.In base->base.Ns mainGlobals mg->aL P w K mg base CX k D O [x] sp) (f:∀(s:ae)(u:av),BindsTo s O ⟨[u],[]⟩ [(x,u)])
  (y:∀ H:Hp,Only H->aU K H a (ns.map V.int)->sp [.ref a] H (fun v _=>v = .bl true) fun _ _ _=>False)
  (X:∀ H e s',CX [] H S (fun _ _ _=>False) e s'->False) :
  codeAny (model P w) callerA (.call (.ref D) ⟨[.ref a],[]⟩) (fun r s'=>r = .ok (.ret (.bool true))/\OldK S.heap s'.heap/\s'.os=S.os/\AllBare s'.gens) S:=by
 have T:=jK W;have l:=W.length;have C:∀ H:Hp,Only H->aU K H a (ns.map V.int)->lM P w H S.heap->(∀ b,H b≠none->b=a)->(H a≠none->K.lookup a=none) →
   codeAny (model P w) callerA (.call (.ref D) ⟨[.ref a],[]⟩) (fun r s'=>r = .ok (.ret (.bool true))/\OldK S.heap s'.heap/\s'.os=S.os/\AllBare s'.gens) S:=by
  intro H Y hS hok U hK;have L:∀ {b:ar} {o:Obj},S.heap.get? b=some o->H b=none->(Gr S.heap H).get? b=some o:=fun e n=>Vz e n
  have I:∀ {b:ar} {o:Obj} {E:Array DictEntry} {ep:Nat},S.heap.get? b=some o->o.data = .dict E ep->H b=none:=fun {b o E ep} e d=>by
   cases q:H b with
   | none=>rfl
   | some u=>
    have A:b=a:=U b (by rw[q];simp);subst A;rw[t]at e;cases e;have d':Data.seq vs.toArray _=Data.dict E ep:=d
    cases d'
  have N:∀ {b:ar} {m:Str->aE av},S.heap.Ns b m->(Gr S.heap H).Ns b m:=fun {b m} ⟨o,E,ep,e,d,r⟩=>⟨o,E,ep,L e (I e d),d,r⟩
  have p:K.In (Gr S.heap H):=fun b o e=>L (R b o e) (by
   cases q:H b with
   | none=>rfl
   | some u=>
    have A:b=a:=U b (by rw[q];simp);subst A
    rw[hK (by rw[q];simp)]at e;cases e)
  have hM:Mod K mg (Gr S.heap H):=⟨p,N g,⟨M,N c,G⟩,let ⟨mc,h1,h2⟩:=j;⟨mc,N h1,h2⟩⟩;have e0:N7 P w K mg (Gr S.heap H) callerA [] S H:=⟨rfl,hM,fun b o e=>Z3 e,Nat.le_of_eq (RX _ _),trivial,fun b c=>absurd (show b∈([]:aw ar) from c) (by simp),hok,.of_eq hg⟩;refine codeAny_mono ((F _ p (N g)).run callerA [] S H ⟨[.ref a],[]⟩ [.ref a] [.ref a] _ _ hr e0 (f S (.ref a)) (.cons rfl .nil) (y H Y hS)) fun r s' h=>?_
  cases r with
  | error e=>exact (X H e s' h).elim
  | ok fl=>
   cases fl with
   | next=>exact c9 h
   | brk=>exact c9 h
   | cont=>exact c9 h
   | ret u=>
    obtain⟨v,_,os,B,un,i,r',q⟩:=h;have q':v = .bl true:=q;subst q';obtain rfl:u=Value.bool true:=r';refine⟨rfl,OldK.of_keep fun b o e=>?_,os,B⟩
    cases q:H b with
    | none=>exact un.keep b o e q (by intro z;exact absurd (show b∈([]:aw ar) from z) (by simp)) (by simp)
    | some u=>
     rcases Y b with z | ⟨ob,xs,z⟩
     .rw[q]at z;cases z
     .have z2:=un.uZ b ob _ z;obtain⟨Q,_⟩:=hok b _ z;obtain⟨e2,_⟩:=i b _ z2;rw[e]at Q;cases Q;exact e2
 cases hk:K.lookup a with
 | some o=>
  have e:=R a o hk;rw[t]at e
  cases e
  refine C (fun _=>none) (fun _=>.inl rfl) (.inr ⟨_,vs.toArray,_,hk,rfl,rfl,rfl,by rw[ia,l];exact J,by simpa using T⟩) (fun b u z=>by have Z:(none:aE HO)=some u:=z;cases Z) (fun b z=>eu rfl z) fun z=>eu rfl z
 | none=>
  refine C (fun b=>if b=a then some (.Mh { cls:=.type "list",data:=.seq vs.toArray } (.lst (ns.map V.int))) else none) (fun b=>?_) (.inl (.inr ⟨{ cls:=.type "list",data:=.seq vs.toArray },cS rfl⟩)) (fun b u z=>?_) (fun b z=>?_) fun _=>hk
  .by_cases c:b=a
   .exact .inr ⟨_,_,cS c⟩
   .exact .inl (cK c)
  .by_cases c:b=a
   .have Z:=(cS c).symm.trans z
    cases Z
    subst c;exact⟨t,by rw[bT];exact J,vs,_,T,t⟩
   .have Z:=(cK c).symm.trans z
    cases Z
  .by_cases c:b=a
   .exact c
   .exact eu (cK c) z
def Xz{l:PySem.W.OpenLaw}{n k:Nat}{q:ag}{L:aw Str}{XP:(Str->aE av)->Heap->Prop}{y:aI->Heap->Prop}{d:DefRec}{K:Params->bV}{CX:aI->KQ}{sp:aI->Sp}{x:Str}
  (D:l.most=some n) (p:n<=sizeLine) (m:d.params.defaults=[]) (C:fP k callerA)
  (B:∀(w:aI)(h:Heap),y w h->(K w.params).In h)
  (F:∀(w:aI)(mg:Str->aE av)(g:ar)(h:Heap),(K w.params).In h->h.Ns mainGlobals mg->mg d.name=some (.ref g) →
   ∃ r:af,(∀(s:ae)(u:av),BindsTo s r ⟨[u],[]⟩ [(x,u)]) ∧
    ∀ base:Heap,(K w.params).In base->base.Ns mainGlobals mg->aL l.prog w (K w.params) mg base (CX w) k g r [x] (sp w))
  (z:∀(w:aI)(H:Hp)(a:ar)(ns:aw Int),ns.length<=n->Only H->aU (K w.params) H a (ns.map V.int)->sp w [.ref a] H (fun v _=>v = .bl true) fun _ _ _=>False)
  (X:∀(w:aI)(H:Hp)(s:ae)(e:av)(s':ae),CX w [] H s (fun _ _ _=>False) e s'->False) :
  PySem.W.WalkO q L XP y l.row.toRowW d [] (fun f vs=>PySem.call f vs):=by refine Att.Jy D m fun w _ S mg _ g o _ _ _ a vs ns G Y _ _ _ i j c b I=>?_;have Z:=B w _ Y;obtain⟨r,E,A⟩:=F w mg g _ Z G.T.g i;exact law_call Z G.T.g G.T.b G.T.builtins G.T.nolimit I j c (br b p) C A E (fun H O t=>z w H a ns b O t) fun H e s'=>X w H S e s'
abbrev aN:KQ:=fun _ _ _ _ _ _=>False
abbrev E0:XK:=fun _ _ _=>False
def yF:Passes aN X E0:=fun _ _ _ _ _ _ _ h=>h.elim
structure bO(K:bV)(x qual:Str)(st:Stmt)(f:Addr)(fd:FuncData):Prop where
 ex:∃(oc:Value)(od:Option Addr)(kV doc pm:Value)(an:Option Addr)(cdv ct:Value)(osl:Array (Option Value)),
  fd=PySem.W.fnOf x qual (qd st) (jE st) (aA st) .none kV doc pm an cdv ct/\K.lookup f=some ⟨oc,od,.func fd,osl⟩/\PySem.W.codeIn K cdv qual=true
 kp:KI K f
section
variable{P:ag}{w:aI}{K:bV}{mg:Str->aE av}{base:Heap}
def bO.ok{x l:Str}{st:Stmt}{f:ar}{a:af}{N ps:aw Str}{k:Nat}{sp:Sp}(F:bO K x l st f a)(S:aF N ps (aA st))(len:∀ vs H Q E,sp vs H Q E->vs.length=ps.length)
  (g:∀(c:av)(A:ai)(o:aw Env)(s:ae)(H:Hp)(vs:aw V)(Q:VK)(E:XK),fP k (A.deeper (envOfC l (aA st) s.heap.objs.size f c))->sp vs H Q E →
   ∃ t,Cw (wF aN P w K mg base N l (aA st) f c A o s H E).nox (jE st) t/\t { nx:=fun _ b=>Q .non b,rt:=Q } (start N vs) H):aL P w K mg base aN (k+1) f a ps sp:=by obtain⟨_,_,_,_,_,_,c,_,_,rfl,L,d⟩:=F.ex;refine qAT L d S len fun A o s H vs Q E r z=>?_;obtain⟨t,h,q⟩:=g c A o s H vs Q E r z;exact⟨t,h.nox,q⟩
def bO.binds{x q:Str}{st:Stmt}{f:ar}{d:af}{ps:aw Str}(F:bO K x q st f d)
  (h:∀(kV D p:av)(X:aE ar)(c W:av)(us:aw av),us.length=ps.length->bindArgs (PySem.W.fnOf x q (qd st) (jE st) (aA st) .none kV D p X c W) ⟨us,[]⟩=pure (ps.zip us)):Binds K d ps []:=by obtain⟨_,_,kV,D,p,X,c,W,_,rfl,_,_⟩:=F.ex;exact .all (h kV D p X c W)
def Bf{x q:Str}{st:Stmt}{f:ar}{o:av}{od X:aE ar}{G:Array (aE av)}{kV D p C W:av}(l:K.lookup f=some ⟨o,od,.func (PySem.W.fnOf x q (qd st) (jE st) (aA st) .none kV D p X C W),G⟩)
  (c:PySem.W.codeIn K C q=true) (k:KI K f):bO K x q st f (PySem.W.fnOf x q (qd st) (jE st) (aA st) .none kV D p X C W):=⟨⟨o,od,kV,D,p,X,C,W,G,rfl,l,c⟩,k⟩
end
def zW(h:n<=1000):n<sizeLine:=iA h (by decide)
section
variable{X:Cx}
def pv(i:Nat)(h:X.N[i]? = some x:=by rfl)(H:Vis X.env.scope x:=by first | exact bb rfl | exact Or.inr (bb rfl) | exact Or.inr (Or.inr rfl))(hd:(x==("__debug__" : Str))=false:=by decide)
  (d:(x==("__classdict__" : Str))=false:=by decide):PE X (.Name x pos) (qB9 i):=qBX h H hd d
end
def Bc{A B:Prop}(h:B):if false=true then A else B:=by rw[cK rA];exact h
def MT{A B:Prop}(h:A):if true=true then A else B:=by rw[cS rfl];exact h
def vp{c A B:Prop} [Decidable c] (H:c->A) (l:¬ c->B):if c then A else B:=by
 by_cases h:c
 .rw[cS h];exact H h
 .rw[cK h];exact l h
def aH(H h:Hp):Prop:=∀ b o,H b=some o->h b=some o
def aH.refl(H:Hp):aH H H:=fun _ _ h=>h
def aH.trans(a:aH H H1)(b:aH H1 H2):aH H H2:=fun c o h=>b c o (a c o h)
theorem aH.free(e:aH H H')(h:H' l=Option.none):H l=Option.none:=by
 cases q:H l with
 | none=>rfl
 | some o=>
  rw[e l o q]at h
  cases h
def aH.seq{K:bV}{H b:Hp}{a:ar}{xs:aw V}(e:aH H b)(h:aU K H a xs):aU K b a xs:=by
 rcases h with (h | ⟨o,h⟩) | h
 .exact .inl (.inl (e _ _ h))
 .exact .inl (.inr ⟨o,e _ _ h⟩)
 .exact .inr h
end L2
namespace L2
def aW{T:Prop}(h:∀ G:Prop,(T->G)->G):T:=h T id
def aG{K:bV}{H:Hp}{p:PySem.Addr}{xs:aw V}{i:Int}{v:V}{Q:VK}(h:aJ K H p xs)(l:mX xs i=some v)(a:Q v H):dM K (.ref p) (.int i) H Q:=⟨p,xs,i,v,rfl,rfl,h,l,a⟩
def gJ{K:bV}{H:Hp}{p:PySem.Addr}{xs:aw V}{i:Int}{v:V}{Q:VK}(h:aU K H p xs)(l:mX xs i=some v)(a:Q v H):Yb K (.ref p) (.int i) H Q:=⟨p,xs,i,v,rfl,rfl,h,l,a⟩
def xR{p:PySem.Addr}{xs:aw V}{E:PySem.Addr->Prop}{D:PySem.Addr->aw V->Prop}{Z:PySem.Addr->aw V->Prop}(e:E p)(d:D p xs)(z:Z p xs):∃ p' x,E p'/\D p' x/\Z p' x:=⟨p,xs,e,d,z⟩
def eO{i j:Int}{P:Int->Int->Prop}(h:P i j):∃ I J,V.int i = .int I/\V.int j = .int J/\P I J:=⟨i,j,rfl,rfl,h⟩
def sq_{t u:TS}{N B C:St->Hp->Prop}{R:VK}{σ:St}{H:Hp}(h:∀ X:St->Hp->Prop,(∀ {σ H},u ⟨N,R,B,C⟩ σ H->X σ H)->t ⟨X,R,B,C⟩ σ H):Y4 t u ⟨N,R,B,C⟩ σ H:=h _ fun z=>z
def lq_{t u:TS}{N B:St->Hp->Prop}{R:VK}{σ:St}{H:Hp}(h:∀ Y:St->Hp->Prop,(∀ {σ H},N σ H->Y σ H)->∀ X:St->Hp->Prop,(∀ {σ H},u ⟨Y,R,B,Y⟩ σ H->X σ H)->t ⟨X,R,B,Y⟩ σ H):Y4 t u ⟨N,R,B,N⟩ σ H:=h _ (fun z=>z) _ fun z=>z
def ex2{α β:Sort _}{P:α->β->Prop} (a b) (h:P a b):∃ a b,P a b:=⟨a,b,h⟩
def ex3{α β γ:Sort _}{P:α->β->γ->Prop} (a b c) (h:P a b c):∃ a b c,P a b c:=⟨a,b,c,h⟩
def ex4{α β γ δ:Sort _}{P:α->β->γ->δ->Prop} (a b c d) (h:P a b c d):∃ a b c d,P a b c d:=⟨a,b,c,d,h⟩
def ex6{α β γ δ ε ζ:Sort _}{P:α->β->γ->δ->ε->ζ->Prop} (a b c d e f) (h:P a b c d e f):∃ a b c d e f,P a b c d e f:=⟨a,b,c,d,e,f,h⟩
end L2
namespace wH
open PySem L2 jP
theorem len0{P:aw av->Prop}(h:P [])(xs:aw av)(e:xs.length=0):P xs:=by
 cases xs with
 | nil=>exact h
 | cons a ys=>cases e
theorem Vm{n:Nat}{P:aw av->Prop}(h:∀ a (ys:aw av),ys.length=n->P (a::ys))(xs:aw av)(e:xs.length=n+1):P xs:=by
 cases xs with
 | nil=>cases e
 | cons a ys=>exact h a ys (Nat.succ.inj e)
def lG{P:aw av->Prop}(h:∀ a,P [a])(xs:aw av)(e:xs.length=1):P xs:=Vm (fun a=>len0 (h a)) xs e
def jl{P:aw av->Prop}(h:∀ a b,P [a,b])(xs:aw av)(e:xs.length=2):P xs:=Vm (fun a=>lG (h a)) xs e
def iW{P:aw av->Prop}(h:∀ a b c,P [a,b,c])(xs:aw av)(e:xs.length=3):P xs:=Vm (fun a=>jl (h a)) xs e
def xT{P:aw av->Prop}(h:∀ a b c d,P [a,b,c,d])(xs:aw av)(e:xs.length=4):P xs:=Vm (fun a=>iW (h a)) xs e
def qFJ{P:aw av->Prop}(h:∀ a b c d f,P [a,b,c,d,f])(xs:aw av)(e:xs.length=5):P xs:=Vm (fun a=>xT (h a)) xs e
def hdef:PySem.W.defOf QV "law" = some (Mu,[]):=by kernel_rfl
def hok:(PySem.W.chainsOk QV&&PySem.W.opensWell PW&&(PySem.W.frees PySem.Challenge.rw_nesthall_k30_a_nest_keeps_its_stand.row.toRowW&&PySem.Challenge.rw_nesthall_k30_a_nest_keeps_its_stand.row.within.isEmpty))=true:=by kernel_rfl
def hbare:PW.bare:=⟨rfl,rfl,rfl,rfl,rfl,by decide +kernel⟩
def hkw:PySem.W.kwWritten? Mu.params.kwonlyargs Mu.params.kw_defaults=some []:=by kernel_rfl
def hthe:PW.theDef "law" = some (Mu.params,Mu.body,Mu.scope):=by kernel_rfl
abbrev NS(x:Str)(a:ar):Prop:=∀ P:Params,PySem.W.nsIn (KO P) mainGlobals x=some (some (.ref a))
def ns_{x:Str}{a:ar}(h:NS x a:=by exact fun P=>by kernel_rfl):NS x a:=h
abbrev NZ(x:Str):Prop:=∀ P:Params,PySem.W.nsIn (KO P) mainGlobals x=some none
abbrev FU(x q:Str)(st:Stmt)(a:ar)(d:af):Prop:=∀ P:Params,bO (KO P) x q st a d
def cZ{x q:Str}{st:Stmt}{a:ar}{p c:av}(h:∀ P:Params,(KO P).lookup a=some (cD (cJ x q st p c))/\PySem.W.codeIn (KO P) c q=true/\PySem.W.keepIn (KO P) (.ref a)=true:=by exact fun _=>⟨by kernel_rfl,by kernel_rfl,by kernel_rfl⟩):FU x q st a (cJ x q st p c):=fun P=>Bf (h P).1 (h P).2.1 (h P).2.2
def a1:NS "_law_cell_at" 591:=ns_
def u1:FU "_law_cell_at" "_law_cell_at" O7 591 fd1:=cZ
def a2:NS "_law_mixed" 598:=ns_
def u2:FU "_law_mixed" "_law_mixed" Ah 598 fd2:=cZ
def a3:NS "holds" 21:=ns_
def u3:FU "holds" "holds" pJ 21 fd3:=cZ
def a4:NS "guards_within" 28:=ns_
def u4(P:Params):bO (KO P) "guards_within" "guards_within" FP.xr 28 fd4:=Bf (show (KO P).lookup 28=some (cD fd4) by kernel_rfl) (by kernel_rfl) (by kernel_rfl)
def a5:NS "height" 33:=ns_
def u5(P:Params):bO (KO P) "height" "height" FP.qW 33 fd5:=Bf (show (KO P).lookup 33=some (cD fd5) by kernel_rfl) (by kernel_rfl) (by kernel_rfl)
def a6:NS "plain_guards" 40:=ns_
def u6(P:Params):bO (KO P) "plain_guards" "plain_guards" FP.jd 40 fd6:=Bf (show (KO P).lookup 40=some (cD fd6) by kernel_rfl) (by kernel_rfl) (by kernel_rfl)
def a7:NS "asked" 45:=ns_
def u7(P:Params):bO (KO P) "asked" "asked" FP.vO 45 fd7:=Bf (show (KO P).lookup 45=some (cD fd7) by kernel_rfl) (by kernel_rfl) (by kernel_rfl)
def a8:NS "is_word" 50:=ns_
def u8:FU "is_word" "is_word" tZ 50 fd8:=cZ
def a9:NS "is_number_of" 59:=ns_
def u9:FU "is_number_of" "is_number_of" Fw 59 fd9:=cZ
def a10:NS "is_in_reach" 66:=ns_
def u10:FU "is_in_reach" "is_in_reach" tV 66 qIE:=cZ
def a11:NS "name_has_fault" 78:=ns_
def u11:FU "name_has_fault" "name_has_fault" yZ 78 qID:=cZ
def a12:NS "names_of" 71:=ns_
def u12:FU "names_of" "names_of" pI 71 qIC:=cZ
def a13:NS "box_has_fault" 85:=ns_
def u13:FU "box_has_fault" "box_has_fault" Fz 85 qIB:=cZ
def a14:NS "deed_has_fault" 92:=ns_
def u14:FU "deed_has_fault" "deed_has_fault" yj 92 qIA:=cZ
def a15:NS "deeds_have_fault" 97:=ns_
def u15:FU "deeds_have_fault" "deeds_have_fault" pK 97 qI9:=cZ
def a16:NS "depth_has_fault" 104:=ns_
def u16:FU "depth_has_fault" "depth_has_fault" uA 104 qI8:=cZ
def a17:NS "keeps_has_fault" 111:=ns_
def u17:FU "keeps_has_fault" "keeps_has_fault" tW 111 qI7:=cZ
def a18:NS "room_has_fault" 118:=ns_
def u18:FU "room_has_fault" "room_has_fault" xu 118 qI6:=cZ
def a19:NS "end_has_fault" 125:=ns_
def u19:FU "end_has_fault" "end_has_fault" Fy 125 qI5:=cZ
def a20:NS "guard_has_fault" 130:=ns_
def u20:FU "guard_has_fault" "guard_has_fault" je 130 qI4:=cZ
def a21:NS "goal_has_fault" 137:=ns_
def u21:FU "goal_has_fault" "goal_has_fault" ye 137 qI3:=cZ
def a22:NS "door_has_fault" 144:=ns_
def u22:FU "door_has_fault" "door_has_fault" yg 144 qI2:=cZ
def a23:NS "bound_faults" 151:=ns_
def u23:FU "bound_faults" "bound_faults" uD 151 qI1:=cZ
def a24:NS "box_faults" 158:=ns_
def u24:FU "box_faults" "box_faults" GC 158 qI0:=cZ
def a25:NS "event_faults" 165:=ns_
def u25:FU "event_faults" "event_faults" O5 165 qHZ:=cZ
def a26:NS "room_faults" 172:=ns_
def u26:FU "room_faults" "room_faults" xx 172 qHY:=cZ
def a27:NS "door_faults" 179:=ns_
def u27:FU "door_faults" "door_faults" yh 179 qHX:=cZ
def a28:NS "faults" 186:=ns_
def u28:FU "faults" "faults" yf 186 qHW:=cZ
def a29:NS "answers" 438:=ns_
def u29:FU "answers" "answers" uE 438 qHV:=cZ
def a30:NS "end_of" 325:=ns_
def u30:FU "end_of" "end_of" Fx 325 qHU:=cZ
def a31:NS "parent" 318:=ns_
def u31:FU "parent" "parent" yX 318 qHT:=cZ
def a32:NS "lies_in" 337:=ns_
def u32:FU "lies_in" "lies_in" yc 337 qHS:=cZ
def a33:NS "hall_over" 344:=ns_
def u33:FU "hall_over" "hall_over" qX 344 qHR:=cZ
def a34:NS "kids" 330:=ns_
def u34:FU "kids" "kids" Iz 330 qHQ:=cZ
def a35:NS "bears_goal" 349:=ns_
def u35:FU "bears_goal" "bears_goal" Aj 349 qHP:=cZ
def a36:NS "next_in" 356:=ns_
def u36:FU "next_in" "next_in" O3 356 qHO:=cZ
def a37:NS "goings_in" 363:=ns_
def u37:FU "goings_in" "goings_in" sIn 363 qHN:=cZ
def a38:NS "goings_out" 368:=ns_
def u38:FU "goings_out" "goings_out" U4 368 qHM:=cZ
def a39:NS "plain_ones" 460:=ns_
def u39:FU "plain_ones" "plain_ones" jd 460 qHL:=cZ
def a40:NS "kept_of" 467:=ns_
def u40:FU "kept_of" "kept_of" yd 467 qHK:=cZ
def a41:NS "keeping" 474:=ns_
def u41:FU "keeping" "keeping" tX 474 qHJ:=cZ
def a42:NS "is_outdone" 443:=ns_
def u42:FU "is_outdone" "is_outdone" lg 443 qHI:=cZ
def a43:NS "chosen" 448:=ns_
def u43:FU "chosen" "chosen" uB 448 qHH:=cZ
def a44:NS "changed" 417:=ns_
def u44:FU "changed" "changed" uC 417 qHG:=cZ
def a45:NS "recorded" 424:=ns_
def u45:FU "recorded" "recorded" qU 424 qHF:=cZ
def a46:NS "done" 431:=ns_
def u46:FU "done" "done" O6 431 qHE:=cZ
def a47:NS "sizes_of" 484:=ns_
def u47:FU "sizes_of" "sizes_of" jb 484 qHD:=cZ
def a48:NS "rooms_left" 511:=ns_
def u48:FU "rooms_left" "rooms_left" fc 511 qHC:=cZ
def a49:NS "steps_in" 489:=ns_
def u49:FU "steps_in" "steps_in" jZ 489 qHB:=cZ
def a50:NS "steps_out" 494:=ns_
def u50:FU "steps_out" "steps_out" iT 494 qHA:=cZ
def a51:NS "stepped" 501:=ns_
def u51:FU "stepped" "stepped" qM 501 qH9:=cZ
def a52:NS "goals_of" 455:=ns_
def u52:FU "goals_of" "goals_of" tu 455 qH8:=cZ
def a53:NS "passed" 506:=ns_
def u53:FU "passed" "passed" pH 506 qH7:=cZ
def a54:NS "turn" 518:=ns_
def u54:FU "turn" "turn" Fp 518 qH6:=cZ
def a55:NS "rested" 523:=ns_
def u55:FU "rested" "rested" pG 523 qH5:=cZ
def a56:NS "begun" 528:=ns_
def u56:FU "begun" "begun" tO 528 qH4:=cZ
def a57:NS "after" 535:=ns_
def u57:FU "after" "after" xq 535 qH3:=cZ
def a58:NS "lamps" 479:=ns_
def u58:FU "lamps" "lamps" Ai 479 qH2:=cZ
def a59:NS "_law_name" 605:=ns_
def u59:FU "_law_name" "_law_name" tQ 605 qH1:=cZ
def a60:NS "_law_deed" 612:=ns_
def u60:FU "_law_deed" "_law_deed" tR 612 qH0:=cZ
def a61:NS "_law_deeds" 619:=ns_
def u61:FU "_law_deeds" "_law_deeds" qT 619 qGZ:=cZ
def a62:NS "_law_guard" 626:=ns_
def u62:FU "_law_guard" "_law_guard" jL 626 qGY:=cZ
def a63:NS "_law_depths" 633:=ns_
def u63:FU "_law_depths" "_law_depths" nJ 633 qGX:=cZ
def a64:NS "_law_rooms" 640:=ns_
def u64:FU "_law_rooms" "_law_rooms" Fv 640 qGW:=cZ
def a65:NS "_law_doors" 645:=ns_
def u65:FU "_law_doors" "_law_doors" lY 645 qGV:=cZ
def a66:NS "_law_chart" 650:=ns_
def u66:FU "_law_chart" "_law_chart" lZ 650 qGU:=cZ
def a67:NS "_law_same" 657:=ns_
def u67:FU "_law_same" "_law_same" Iw 657 qGT:=cZ
def a68:NS "_law_event" 664:=ns_
def u68:FU "_law_event" "_law_event" qR 664 qGS:=cZ
def a69:NS "_law_refused" 671:=ns_
def u69:FU "_law_refused" "_law_refused" kY 671 qGR:=cZ
def a70:NS "_law_stands" 676:=ns_
def u70:FU "_law_stands" "_law_stands" jc 676 qGQ:=cZ
def a71:NS "law" 683:=ns_
def u71:FU "law" "law" wX 683 ZX:=cZ
def qJ5(P:Params):PySem.W.findIn (KO P) (.ref 406) "__init__" = some (some (.ref 382)):=by kernel_rfl
def qFU(P:Params):PySem.W.isFn (KO P) (.ref 382)=true:=by kernel_rfl
def qDS:FU "__init__" "Letters.__init__" O4 382 Wh:=cZ
def qJ4(P:Params):PySem.W.findIn (KO P) (.ref 406) "add" = some (some (.ref 389)):=by kernel_rfl
def qFT(P:Params):PySem.W.isFn (KO P) (.ref 389)=true:=by kernel_rfl
def qDR:FU "add" "Letters.add" YM 389 Wg:=cZ
def qJ3(P:Params):PySem.W.findIn (KO P) (.ref 406) "taken" = some (some (.ref 396)):=by kernel_rfl
def qFS(P:Params):PySem.W.isFn (KO P) (.ref 396)=true:=by kernel_rfl
def qDQ:FU "taken" "Letters.taken" Fq 396 Wf:=cZ
def qJ2(P:Params):PySem.W.findIn (KO P) (.ref 406) "waiting" = some (some (.ref 403)):=by kernel_rfl
def qFR(P:Params):PySem.W.isFn (KO P) (.ref 403)=true:=by kernel_rfl
def qDP:FU "waiting" "Letters.waiting" tU 403 We:=cZ
def qJ1(P:Params):PySem.W.findIn (KO P) (.ref 580) "__init__" = some (some (.ref 549)):=by kernel_rfl
def qFQ(P:Params):PySem.W.isFn (KO P) (.ref 549)=true:=by kernel_rfl
def qDO:FU "__init__" "Nest.__init__" kW 549 Wd:=cZ
def qJ0(P:Params):PySem.W.findIn (KO P) (.ref 580) "first" = some (some (.ref 556)):=by kernel_rfl
def qFP(P:Params):PySem.W.isFn (KO P) (.ref 556)=true:=by kernel_rfl
def qDN:FU "first" "Nest.first" qP 556 Wc:=cZ
def qIZ(P:Params):PySem.W.findIn (KO P) (.ref 580) "run" = some (some (.ref 563)):=by kernel_rfl
def qFO(P:Params):PySem.W.isFn (KO P) (.ref 563)=true:=by kernel_rfl
def qDM:FU "run" "Nest.run" xn 563 Wb:=cZ
def qIY(P:Params):PySem.W.findIn (KO P) (.ref 580) "stand" = some (some (.ref 570)):=by kernel_rfl
def qFN(P:Params):PySem.W.isFn (KO P) (.ref 570)=true:=by kernel_rfl
def qDL:FU "stand" "Nest.stand" qN 570 Wa:=cZ
def qIX(P:Params):PySem.W.findIn (KO P) (.ref 580) "lamps" = some (some (.ref 577)):=by kernel_rfl
def qFM(P:Params):PySem.W.isFn (KO P) (.ref 577)=true:=by kernel_rfl
def qDK:FU "lamps" "Nest.lamps" qO 577 WY:=cZ
def qDJ:FU "__init__" "NoEvent.__init__" fj 232 WX:=cZ
def aC0:NS "Letters" 406:=ns_
def HB(P:Params):vC (KO P) 406:=⟨by kernel_rfl,by kernel_rfl,by kernel_rfl,by kernel_rfl⟩
def qFB(P:Params):PySem.W.makesIn (KO P) 406=true/\PySem.W.keepIn (KO P) (.ref 406)=true:=⟨by kernel_rfl,by kernel_rfl⟩
def qZ(P:Params):PySem.W.findIn (KO P) (.ref 406) "most" = some none:=by kernel_rfl
def fK(P:Params):PySem.W.findIn (KO P) (.ref 406) "events" = some none:=by kernel_rfl
def aC1:NS "Nest" 580:=ns_
def Cv(P:Params):vC (KO P) 580:=⟨by kernel_rfl,by kernel_rfl,by kernel_rfl,by kernel_rfl⟩
def qFA(P:Params):PySem.W.makesIn (KO P) 580=true/\PySem.W.keepIn (KO P) (.ref 580)=true:=⟨by kernel_rfl,by kernel_rfl⟩
def jh(P:Params):PySem.W.findIn (KO P) (.ref 580) "chart" = some none:=by kernel_rfl
def iD(P:Params):PySem.W.findIn (KO P) (.ref 580) "place" = some none:=by kernel_rfl
def gH(P:Params):PySem.W.findIn (KO P) (.ref 580) "beginning" = some none:=by kernel_rfl
def aC2:NS "NoEvent" 235:=ns_
def aC3:NS "NestError" 196:=ns_
def aC4:NS "BadChart" 216:=ns_
def aC5:NS "NoName" 309:=ns_
def aC6:NS "NoRow" 297:=ns_
def aC7:NS "NoWords" 266:=ns_
def aC8:NS "TooWide" 254:=ns_
def aC9:NS "Unread" 285:=ns_
def z1:NZ "len" := fun P=>by kernel_rfl
def z2:NZ "max" := fun P=>by kernel_rfl
def z3:NZ "min" := fun P=>by kernel_rfl
def z4:NZ "range" := fun P=>by kernel_rfl
def z5:NZ "list" := fun P=>by kernel_rfl
def z6:NZ "tuple" := fun P=>by kernel_rfl
def z7:NZ "isinstance" := fun P=>by kernel_rfl
def z8:NZ "int" := fun P=>by kernel_rfl
def z9:NZ "bool" := fun P=>by kernel_rfl
def z10:NZ "sorted" := fun P=>by kernel_rfl
def z11:NZ "any" := fun P=>by kernel_rfl
def z12:NZ "enumerate" := fun P=>by kernel_rfl
def z13:NZ "str" := fun P=>by kernel_rfl
def z14:NZ "all" := fun P=>by kernel_rfl
def z15:NZ "set" := fun P=>by kernel_rfl
def z16:NZ "ValueError" := fun P=>by kernel_rfl
def v1(P:Params):PySem.W.nsIn (KO P) mainGlobals "SMALL_LETTERS" = some (some (.str "abcdefghijklmnopqrstuvwxyz" 230)):=by kernel_rfl
def v2(P:Params):PySem.W.nsIn (KO P) mainGlobals "LONGEST" = some (some (.int (12) 232)):=by kernel_rfl
def v3(P:Params):PySem.W.nsIn (KO P) mainGlobals "MOST_LETTERS" = some (some (.int (12) 249)):=by kernel_rfl
def v4(P:Params):PySem.W.nsIn (KO P) mainGlobals "MOST_TURNS" = some (some (.int (20) 251)):=by kernel_rfl
def v5(P:Params):PySem.W.nsIn (KO P) mainGlobals "MOST_BOXES" = some (some (.int (6) 253)):=by kernel_rfl
def v6(P:Params):PySem.W.nsIn (KO P) mainGlobals "MOST_EVENTS" = some (some (.int (8) 255)):=by kernel_rfl
def v7(P:Params):PySem.W.nsIn (KO P) mainGlobals "MOST_ROOMS" = some (some (.int (40) 257)):=by kernel_rfl
def v8(P:Params):PySem.W.nsIn (KO P) mainGlobals "MOST_DOORS" = some (some (.int (60) 259)):=by kernel_rfl
def v9(P:Params):PySem.W.nsIn (KO P) mainGlobals "MOST_DEEDS" = some (some (.int (8) 261)):=by kernel_rfl
def v10(P:Params):PySem.W.nsIn (KO P) mainGlobals "DEEPEST" = some (some (.int (12) 263)):=by kernel_rfl
def v11(P:Params):PySem.W.nsIn (KO P) mainGlobals "HIGHEST" = some (some (.int (6) 265)):=by kernel_rfl
def v12(P:Params):PySem.W.nsIn (KO P) mainGlobals "GREATEST" = some (some (.int (1000000000000000000000000000000) 267)):=by kernel_rfl
def vT1:NS "ORDERS" 51:=ns_
def vT2:NS "KINDS" 52:=ns_
def fLS:NS "lamps_stands" 479:=ns_
def Mp(P:Params):PySem.W.keepIn (KO P) (.ref 235)=true:=by kernel_rfl
def Ml(P:Params):PySem.W.exmOne (KO P) (.ref 235) (.ref 235)=some true:=by kernel_rfl
def Gy(P:Params):PySem.W.exmOne (KO P) (.ref 235) (.ref 196)=some true:=by kernel_rfl
def fV1(P:Params):PySem.W.kitOne (KO P) (.ref 235) (.type "ValueError")=some true:=by kernel_rfl
def fV2(P:Params):PySem.W.kitOne (KO P) (.ref 235) (.ref 196)=some true:=by kernel_rfl
def fV3(P:Params):PySem.W.kitAny (KO P) (.ref 235) ([216,309,297,266,254,285].map Value.ref)=some false:=by kernel_rfl
def fE1(P:Params):PySem.W.specialIn (KO P) (.ref 196) "__getattribute__" = some (some (.builtin "type.__getattribute__")):=by kernel_rfl
def fE2(P:Params):PySem.W.readsIn (KO P) 196 (.type "type")=true:=by kernel_rfl
def fE3(P:Params):PySem.W.findCls (KO P) (.ref 196) (.type "type") "__init__" = some (.val (.builtin "ValueError.__init__")):=by kernel_rfl
end wH
namespace L2
open PySem PyProof.Rows
def okS{P:ag}{w:aI}{K:bV}{mg:Str->aE av}{base:Heap}{x q:Str}{st:Stmt}{f:ar}{d:af}{N ps:aw Str}{k:Nat}{sp:Sp}(a:Scope)(h:aA st=a)(F:bO K x q st f d)(S:aF N ps a)(len:∀ vs H Q E,sp vs H Q E->vs.length=ps.length)
  (g:∀ c A o s H vs Q E,fP k (A.deeper (envOfC q a s.heap.objs.size f c))->sp vs H Q E →
   ∃ t,Cw (wF aN P w K mg base N q a f c A o s H E).nox (jE st) t/\t { nx:=fun _ b=>Q .non b,rt:=Q } (start N vs) H):aL P w K mg base aN (k+1) f d ps sp:=by subst h;exact F.ok S len g
end L2
namespace L2
open PySem PySem.Spec PyProof.Rows
def lM.adopt(x:lM P w H h)(f:H a=none)(new:bM P w (upd H a o) h a o):lM P w (upd H a o) h:=fun b u e=>by
 by_cases d:b=a
 .subst d;rw[zC]at e;cases e;exact new
 .rw[zR d]at e
  exact (x b u e).stay (fun c v _ q=>q) (fun c q=>by rw[zR (zN q f)];exact q) fun c _ q=>by rw[zR (zN q f)];exact q
def Inv.adopt(I:Inv X pins σ H s)(f:oJ X pins H a)(new:bM X.prog X.w (upd H a o) s.heap a o):Inv X pins σ (upd H a o) s:=by
 obtain⟨h,L,_,hex,i,g⟩:=f;refine⟨I.ok,I.os,I.bare,⟨I.base.keep,I.base.slot,fun b O e n d=>?_,I.base.there,fun b xs e=>?_,fun b O u e=>?_,fun b ps e=>?_⟩,I.loc,I.cell,by rw[zR (bE L)];exact I.free,fun x c e=>by rw[zR (i x c e)];exact I.jq x c e,fun p q=>?_,lM.adopt I.hok h new,I.len⟩
 .have N:b≠a:=fun z=>by
   rcases hex with Z | Z
   .exact d (z▸Z)
   .exact eu (gQ e) (by rw[z];exact Nat.not_lt.mpr Z)
  rw[zR N];exact I.base.free b O e n d
 .have q:=I.base.tups b xs e;rw[zR (zN q h)];exact q
 .have q:=I.base.uZ b O u e;rw[zR (zN q h)];exact q
 .obtain⟨m,q⟩:=I.base.vH b ps e;exact⟨m,by rw[zR (zN q h)];exact q⟩
 .obtain⟨e,n,r⟩:=I.pin p q;exact⟨e,by rw[zR (g p q)];exact n,r⟩
theorem mU{α β:Type}{f:α->β->Sem (ForInStep β)}{g:α->β->β}:∀(l:aw α)(c:β),(∀ x∈l,∀ c,f x c=pure (.yield (g x c)))->forIn l c f=pure (l.foldl (fun c x=>g x c) c)
 | [],_,_=>rfl
 | x::l,c,h=>by
  rw[List.forIn_cons,h x FZ,pure_bind];exact mU l (g x c) fun y N=>h y (Hr _ N)
noncomputable def clG(e:Env)(x:Str×NameKind)(c:aw (Str×ar)):aw (Str×ar):=if (x.2==NameKind.free)=true then (x.1,(e.cells.lookup x.1).getD 0)::c else c
def Ju(e:Env)(S:Scope):aw (Str×ar):=S.names.foldl (fun c x=>clG e x c) []
def Bp{e:Env}{S:Scope}(h:∀ y∈S.names,y.2 = .free->∃ c,e.cells.lookup y.1=some c):closureFor S e=pure (Ju e S):=by
 simp only[closureFor]
 rw[mU (g:=clG e) S.names [] (fun x i c=>by
  obtain⟨n,k⟩:=x;unfold clG
  by_cases d:(k==NameKind.free)=true
  .obtain⟨a,f⟩:=h _ i (by simpa using d);have H:e.cells.lookup n=some a:=f;simp only[d,if_true,cellOf,H,pure_bind,Option.getD_some]
  .have b:(k==NameKind.free)=false:=eJ.mpr d
   simp only[b,Bool.false_eq_true,if_false])]
 rfl
theorem Bq:∀(l:aw (Str×NameKind))(C:aw (Str×ar)),(∀ y∈l,y.2 = .free->∃ c,env.cells.lookup y.1=some c)->(∀ y c,C.lookup y=some c->env.cells.lookup y=some c) →
  (∀ y c,(l.foldl (fun c x=>clG env x c) C).lookup y=some c->env.cells.lookup y=some c)/\∀ y,((C.lookup y).isSome=true∨(y,NameKind.free)∈l)->((l.foldl (fun c x=>clG env x c) C).lookup y).isSome=true
 | [],C,_,h=>⟨h,fun y N=>N.elim id fun z=>absurd z (by simp)⟩
 | (n,k)::l,C,f,h=>by
  have H:∀ y∈l,y.2 = .free->∃ c,env.cells.lookup y.1=some c:=fun y N=>f y (Hr _ N);rw[fF]
  by_cases d:k = .free
  .subst d;obtain⟨a,g⟩:=f (n,.free) FZ rfl;have b:=g
   have e:clG env (n,.free) C=(n,a)::C:=by
    unfold clG;rw[cS (by rfl)];rw[b];rfl
   rw[e]
   have i:=Bq l ((n,a)::C) H (fun y c N=>by
    rw[gy]at N
    cases hb:y==n with
    | true=>
     rw[hb]at N;rw[eq_of_beq hb];exact b.trans N
    | false=>
     rw[hb]at N
     exact h y c N)
   refine⟨i.1,fun y N=>i.2 y ?_⟩;rcases N with N | N
   .left
    rw[gy]
    cases y==n with
    | true=>rfl
    | false=>exact N
   .rcases dD.mp N with N | N
    .left
     rw[(Prod.mk.inj N).1,gy];simp
    .exact .inr N
  .have e:clG env (n,k) C=C:=by
    unfold clG;rw[if_neg (by simpa using d)]
   rw[e];have i:=Bq l C H h;refine⟨i.1,fun y N=>i.2 y ?_⟩;rcases N with N | N
   .exact .inl N
   .rcases dD.mp N with N | N
    .exact eu (Prod.mk.inj N).2.symm d
    .exact .inr N
theorem j0{e:Env}:∀ {N:aw (Str×NameKind)} {x:Str},N.lookup x=some .free →
  (N.map fun (n,k)=>if (k==NameKind.free&&e.scope.kind==.function&&e.kindOf n==some .cell) then (n,NameKind.cell) else (n,k)).lookup x≠some .local
 | [],_,h=>by simp at h
 | (n,k)::r,x,h=>by
  have i:=@j0 e r x;show List.lookup x ((if (k==NameKind.free&&e.scope.kind==.function&&e.kindOf n==some .cell)=true then (n,NameKind.cell) else (n,k))::_)≠_
  cases hx:x==n with
  | true=>
   simp only[List.lookup_cons,hx]at h
   cases h
   split
   .simp [List.lookup_cons,hx]
   .simp [List.lookup_cons,hx]
  | false=>
   simp only[List.lookup_cons,hx]at h
   by_cases f:(k==NameKind.free&&e.scope.kind==.function&&e.kindOf n==some .cell)=true
   .rw[cS f];simp only[List.lookup_cons,hx];exact i h
   .rw[cK f];simp only[List.lookup_cons,hx];exact i h
def xV(N:∀ z∈scope.names,z.2≠.cell)(h:(relabel scope env).names.lookup y=some .cell∨(relabel scope env).names.lookup y=some .free):(y,NameKind.free)∈scope.names:=by
 have go:∀ k,(k=NameKind.cell∨k=NameKind.free)->(relabel scope env).names.lookup y=some k->(y,NameKind.free)∈scope.names:=fun k H e=>by
  have m:=cy e;obtain⟨⟨n,a⟩,c,d⟩:=eX.mp m
  by_cases f:(a==NameKind.free&&env.scope.kind==.function&&env.kindOf n==some .cell)=true
  .have E:(n,NameKind.cell)=(y,k):=by
    rw[<-d];show _=(if (a==NameKind.free&&env.scope.kind==.function&&env.kindOf n==some .cell)=true then (n,NameKind.cell) else (n,a));rw[cS f]
   have b:a = .free:=by
    simp only[Bool.and_eq_true,beq_iff_eq]at f;exact f.1.1
   rw[<-(Prod.mk.inj E).1,<-b];exact c
  .have E:(n,a)=(y,k):=by
    rw[<-d];show _=(if (a==NameKind.free&&env.scope.kind==.function&&env.kindOf n==some .cell)=true then (n,NameKind.cell) else (n,a));rw[cK f]
   rcases H with H | H
   .exact eu ((Prod.mk.inj E).2.trans H) (N _ c)
   .rw[<-(Prod.mk.inj E).1,<-H,<-(Prod.mk.inj E).2];exact c
 rcases h with h | h
 .exact go _ (.inl rfl) h
 .exact go _ (.inr rfl) h
noncomputable def oE(X:Cx)(N:aw Str)(S:Scope)(C:ar)(s:ae)(H:Hp)(ex:aw ar)(pn:aw (ar×Obj))(E:av->ae->Prop):Cx where
 prog:=X.prog
 w:=X.w
 K:=X.K
 mg:=X.mg
 base:=X.base
 A:=X.A
 N:=N
 s₀:=s
 H₀:=H
 env:=compEnvC S (Ju X.env S) C X.env
 outer:=X.stack
 stack:=X.stack
 ex:=ex
 fn:=fun _=>false
 calm:=X.calm
 pn:=pn
 xe:=E
structure bA(osc:Scope)(N:List Str)(scope:Scope)(x:Str)(bF:List (Nat×Str)):Prop where
 kind:scope.kind = .function
 hx:scope.names.lookup x=some .local
 Ol:∀ y∈scope.names,y.2≠.cell
 Z7:∀ y∈scope.names,y.2 = .local->scope.names.lookup y.1=some .local
 free:∀ y∈scope.names,y.2 = .free->osc.names.lookup y.1=some .cell∨osc.names.lookup y.1=some .free
 cap:∀ p∈bF,N[p.1]? = some p.2/\scope.names.lookup p.2=some .free
 nd:(x::bF.map (·.2)).Nodup
noncomputable def Mv(bF:aw (Nat×Str))(σ:St):St:=bF.map fun p=>(σ[p.1]?).getD none
def S7(X:Cx)(i:aw Expr)(t:TT):Prop:=
 ∀ p s σ H Q,Inv X p σ H s->t σ H Q →
  wpAny (model X.prog X.w) X.A (forIn i true fun c r=>if r=true then do let ok ← isTrue c X.env (eval c X.env);pure (ForInStep.yield ok) else pure (ForInStep.yield r)) (TP X p σ Q) X.xe s
def qDT:TT:=fun _ H Q=>Q true H
def bQ:S7 X [] qDT:=fun _ _ _ H _ I h=>by
 simp only[List.forIn_nil];exact aT ⟨H,I,h⟩
def cW(h:PT X c tc):S7 X [c] tc:=by intro p s σ H Q I q;simp only[List.forIn_cons,List.forIn_nil,if_true];exact aS (aS (c8 (h p s σ H Q I q) (fun b _ a=>aT (aT a)) fun _ _ x=>x))
def lD(J:It)(C:St)(T:TT)(t:TE)(e:Hp)(Z:aw V->Hp->Prop):Prop:=
 ∃ W:Nat->Nat->aw V->Hp->Prop,(∃ m,W 0 m [] e)/\∀ i m A H,W i m A H →
  (J.stop i H/\Z A H)∨(J.go i H/\∃ N:aw V->Hp->Prop,(∀ a h,N a h->∃ m',m'<m/\W (i+1) m' a h) ∧
   ∀ x h,J.Xy i H x h->T (some x::C) h fun b c=>if b=true then t (some x::C) c fun v d=>A.length<sizeLine/\N (A++[v]) d else N A c)
def qAD(w:TI)(bF:aw (Nat×Str))(T:TT)(t:TE):TE:=fun σ H Q=>w σ H fun J b=>lD J (Mv bF σ) T t b fun a h => ∀ p,h p=none->Q (.ref p) (upd h p (.lst a))
theorem Rk
  (hc:X.calm=true) (hN:X.N=x::ns) (nd:X.N.Nodup) (hx:X.env.scope.names.lookup x=some .local) (I:Inv X [] (o::cs) H s) (T:Turn X.prog X.w X.K (.Name x px) J fp it tn) (st:tn 0 s.heap) (hf:∀ b∈fp,oJ X [] H b)
  (t:oJ X [] H D) (A:D∉fp) (pl:s.heap.PlainList D #[]) (Mf:S7 X ifs tc) (y:PE X elt te) (hW:lD J cs tc te H Z) (hxe:X.xe=notedBy (model X.prog X.w) X.A X.env fun e s'=>R (.error e) s')
  (hR:∀ s' h a its o',Inv X [] (o'::cs) h s'->s'.heap.PlainList D its.toArray->Vals a its->a.length<=sizeLine->h D=none->Z a h->R (.ok .next) s') :
  codeAny (model X.prog X.w) X.A (.compLoop (.ListComp elt [⟨.Name x px,iter,ifs,0⟩] scope pos) 0 (.ref it) (.ref D) X.env) R s:=by
 obtain⟨W,⟨m0,w0⟩,B⟩:=hW;refine codeAny_compLoop_tests (fun n s'=>∃ i a its h o',Inv X [] (o'::cs) h s'/\tn i s'.heap/\(∀ b∈fp,h b=none)/\h D=none/\s'.heap.PlainList D its.toArray/\Vals a its/\a.length<=sizeLine/\W i n a h) ?_ m0
  ⟨0,[],[],H,o,I,st,fun b c=>(hf b c).1,t.1,pl,.nil,bo _,w0⟩
 rintro n s3 ⟨i,a,its,w,G,I3,C,F,k,⟨d,gD⟩,Q,hl,w3⟩;rw[<-hxe]
 have I4:Inv X [(D,{ cls:=.type "list",data:=.seq its.toArray d })] (G::cs) w s3:=I3.uJ fun p f=>by
  obtain rfl:p=(D,{ cls:=.type "list",data:=.seq its.toArray d }):=by simpa using f
  exact⟨gD,k,t.2.1,t.2.2.1,fun v z=>by cases (show Data.seq its.toArray d=Data.cell v from z)⟩
 have S:∀ {h:Hp},(∀ b∈fp,h b=none)->∀ b∈fp,oJ X [(D,{ cls:=.type "list",data:=.seq its.toArray d })] h b:=fun hn b c=>by
  obtain⟨_,f1,f2,f3,f4,f5⟩:=hf b c;refine⟨hn b c,f1,f2,f3,f4,fun p f=>?_⟩;rcases jz.mp f with z | z
  .exact f5 p (gL _ z)
  .obtain rfl:p=(D,{ cls:=.type "list",data:=.seq its.toArray d }):=by simpa using z
   exact fun e=>A (by rw[show D=b from e];exact c)
 rcases B i n a w w3 with ⟨E,z⟩ | ⟨go,N,m,step⟩
 .refine bH (T.done X rfl rfl rfl hc i _ s3 (G::cs) w X.xe I4 (S F) C E) fun r s4 ⟨hr,U⟩=>?_;subst hr;exact hR s4 w a its G (U.uJ fun p f=>absurd f (by simp)) ⟨d,(U.pin _ (List.mem_append_right _ (List.mem_singleton.mpr rfl))).1⟩ Q hl k z
 .refine bH (T.item X rfl rfl rfl hc i _ s3 (G::cs) w X.xe I4 (S F) C go) fun r s4 ⟨u,hr,h4⟩=>?_;subst hr;have e0:(letOwnedTupleGo (.Name x px) (.ref it) u >>= fun _=>assign (.Name x px) X.env u)=assign (.Name x px) X.env u:=rfl;show wpAny _ _ (assign (.Name x px) X.env u) _ _ s4;rw[<-e0];refine aS (bH h4 fun _ s5 ⟨j,H5,U,r5,y5,KY,Y⟩=>?_);have I5':=U.pinned (S Y) (T.obj _ _ KY);refine wpAny_assign_Name (oZ (i:=0) I5' nd (by rw[hN] <;> rfl) (.inl hx) r5 (fun s6 I6=>?_) (.inr hx));have I6':Inv X ([(D,{ cls:=.type "list",data:=.seq its.toArray d })]++vQ fp s5.heap) (some j::cs) H5 s6:=I6;have l:∀ {g:St} {h:Hp} {s':ae},Inv X ([(D,{ cls:=.type "list",data:=.seq its.toArray d })]++vQ fp s5.heap) g h s' →
    Inv X [] g h s'/\tn (i+1) s'.heap/\(∀ b∈fp,h b=none)/\h D=none/\s'.heap.get? D=some { cls:=.type "list",data:=.seq its.toArray d }:=fun {g h s'} P=>by
   have pD:=P.pin (D,{ cls:=.type "list",data:=.seq its.toArray d }) (gN _ (gL _ (jA.mpr rfl)));refine⟨P.uJ fun p f=>absurd f (by simp),T.keep _ _ _ KY fun b c O e=>(P.pin (b,O) (List.mem_append_right _ (List.mem_append_right _ (nU c e)))).1,fun b c=>?_,pD.2.1,pD.1⟩;obtain⟨O,e,_⟩:=T.obj _ _ KY b c;exact (P.pin (b,O) (gN _ (gN _ (nU c e)))).2.1
  refine bH (Mf _ s6 (some j::cs) H5 _ I6' (step j H5 y5)) fun b s7 ⟨M,I7,q7⟩=>?_
  cases b with
  | false=>
   obtain⟨m',hm,w7⟩:∃ m',m'<n/\W (i+1) m' a M:=m a M q7;obtain⟨l1,l2,l3,L,l5⟩:=l I7;exact⟨m',hm,i+1,a,its,M,some j,l1,l2,l3,L,⟨d,l5⟩,Q,hl,w7⟩
  | true=>
   have q7':=q7;refine bH (y _ s7 (some j::cs) M _ I7 q7') fun u8 _ ⟨v,H8,I8,r8,_,n8⟩=>?_;obtain⟨m',hm,w8⟩:=m _ _ n8;obtain⟨l1,l2,l3,L,l5⟩:=l I8;have hlen:=Q.length;refine wpAny_list_append_plain ⟨d,l5⟩ fun _ pl9 q=>?_;refine⟨m',hm,i+1,a++[v],its++[u8],H8,some j,l1.turned (fun b O c e=>(q.2 b c).trans e) L t.2.1 t.2.2.2.1 t.2.2.2.2.1 t.2.2.2.2.2,?_,l3,L,by simpa using pl9,Q.append (.cons r8 .nil),?_,w8⟩
   .exact T.keep _ _ _ l2 fun b c O e=>(q.2 b (fun z=>A (z▸c))).trans e
   .rw[j8,vG];lia
def Inv.TX(I:Inv X pins σ H s)(h:b≠X.env.locals)(l:b∉X.fs):b∉frs X.stack:=fun z=>(dD.mp (I.Kq b z)).elim h l
theorem Bo{Z:aw V->Hp->Prop}{RR:av->ar->Result->ae->Prop}
  (hc:X.calm=true) (S:bA X.env.scope X.N scope x bF) (I:Inv X pins σ H s) (T:Turn X.prog X.w X.K (.Name x px) J fp it tn) (st:tn 0 s.heap) (hf:∀ b∈fp,oJ X pins H b)
  (Mf:∀ C s H ex pn E,S7 (oE X (x::bF.map (·.2)) scope C s H ex pn E) ifs tc) (helt:∀ C s H ex pn E,PE (oE X (x::bF.map (·.2)) scope C s H ex pn E) elt te)
  (hW:lD J (Mv bF σ) tc te H Z)
  (hRR:∀ s' r A its (D C:ar) (m:Str->aE av),Inv X pins σ r s'->s'.heap.PlainList D its.toArray->Vals A its->A.length<=sizeLine->oJ X pins r D->oJ X pins r C->D≠C->s'.heap.Ns C m->Z A r->RR (.ref D) C (.ok .next) s') :
  wpAny (model X.prog X.w) X.A (newList []) (fun A R=>wpAny (model X.prog X.w) X.A (newFunctionEnv scope X.env.globals (Ju X.env scope) [] X.env.qual none .none (some X.env)) (fun o s₄=>
   codeAny (model X.prog X.w) X.A (.compStart (.ListComp elt [⟨.Name x px,iter,ifs,0⟩] scope pos) 0 (.ref it) A { o with scope:=relabel scope X.env }) (RR A o.locals) s₄) E R) E s:=by
 refine wpAny_newObj_type (wpAny_newFunctionEnv S.Ol (by intro y N;simp at N) (fun j a h=>?_) S.kind)
 dsimp only at a h ⊢
 have W:Inv X pins σ H { s with heap:=s.heap.push { cls:=.type "list",dict:=none,data:=.seq ([]:aw av).toArray } }:=I.kept (t':=s.toks) fun b u e=>fM _ e;have Q:(s.heap.push { cls:=.type "list",dict:=none,data:=.seq ([]:aw av).toArray }).get? s.heap.objs.size=some { cls:=.type "list",dict:=none,data:=.seq ([]:aw av).toArray }:=qy _ rfl;have g:(s.heap.push { cls:=.type "list",dict:=none,data:=.seq ([]:aw av).toArray }).objs.size=s.heap.objs.size+1:=eT _ _;generalize hH3:s.heap.push { cls:=.type "list",dict:=none,data:=.seq ([]:aw av).toArray }=h3 at a h W Q g ⊢;have k3:∀ b u,s.heap.get? b=some u->h3.get? b=some u:=fun b u e=>hH3▸fM _ e;have F:∀ b u,h3.get? b=some u->j.get? b=some u:=fun b u e=>(h.2 b (jQ (gQ e))).trans (fM _ e);have U:∀ b u,s.heap.get? b=some u->j.get? b=some u:=fun b u e=>F b u (k3 b u e)
 have hDC:s.heap.objs.size≠h3.objs.size:=by rw[g];exact jQ (iF _)
 have fD:oJ X pins H s.heap.objs.size:=I.Cr (bD _) (I.hok.fresh (bD _));have fC:oJ X pins H h3.objs.size:=I.Cr (by rw[g];exact ip _) (I.hok.fresh (by rw[g];exact ip _));have P:∀ b∈fp,b<s.heap.objs.size:=fun b f=>let ⟨_,e,_⟩:=T.obj _ _ st b f;gQ e;have hDf:s.heap.objs.size∉fp:=fun z=>iq _ (P _ z);have B:∀ y∈scope.names,y.2 = .free->∃ c,X.env.cells.lookup y.1=some c:=fun y N e=>I.ok.has y.1 (S.free y N e);obtain⟨sub,has⟩:=Bq scope.names [] B (fun y c e=>by simp at e);have t:=sub;have qGL:∀ y,(y,NameKind.free)∈scope.names->∃ c,(Ju X.env scope).lookup y=some c:=fun y N=>jv.mp (has y (.inr N));have inj:∀ b∈s.heap.objs.size::fp,oJ X pins H b:=fun b f=>(dD.mp f).elim (fun z=>z▸fD) (hf b);have Y:∀ b∈s.heap.objs.size::fp,b≠h3.objs.size:=fun b f=>(dD.mp f).elim (fun z=>z▸hDC) fun z=>jQ (by rw[g];exact iE (P b z))
 have I1:Inv (oE X (x::bF.map (·.2)) scope h3.objs.size { s with heap:=h3 } H (s.heap.objs.size::fp) (X.pn++pins)
   (notedBy (model X.prog X.w) X.A (compEnvC scope (Ju X.env scope) h3.objs.size X.env) fun e s'=>RR (.ref s.heap.objs.size) h3.objs.size (.error e) s')) [] (none::Mv bF σ) H { s with heap:=j,toks:=s.toks+([]:aw (Str×av)).length }:=by
  refine⟨⟨I.ok.mod,S.kind,I.ok.glob,I.ok.blt,bD _,fun y z c e1 e2=>I.ok.inj y z c (t _ _ e1) (t _ _ e2),fun y N=>qGL y (xV S.Ol N),fun y c e=>(nomatch e),I.ok.hd,I.ok.frames,.inl rfl,fun b f=>⟨Y b f,fun y c e=>(inj b f).2.2.2.2.1 y c (t y c e)⟩,
    fun b O e=>⟨k3 b O (I.bs b O e).1,(I.bs b O e).2⟩,?_,fun b O e z=>?_,fun b f=>I.TX (inj b f).2.1 (inj b f).2.2.1,?_,I.xg⟩,
   rfl,I.bare,Un.kept F,⟨_,a,fun i y v e1 e2 e3=>?_⟩,fun y c e=>?_,fC.1,fun y c e=>I.jq y c (t y c e),fun p hp=>?_,I.hok.kept U,?_⟩
  .exact br I.ok.Xw (br I.sz (by show s.heap.objs.size<=h3.objs.size;rw[g];exact ip _))
  .rcases (inj b z).2.2.2.1 with w1 | w1
   .exact I.ok.R9 b O e w1
   .exact eu (KR (gQ e) I.ok.Xw) (Nat.not_lt.mpr w1)
  .exact Heap.FunFrames.of_keeps (fun b O e _=>⟨O,k3 b O e,rfl⟩) I.stack
  .cases i with
   | zero=>cases e2
   | succ i=>
    have k:(bF.map (·.2))[i]? = some y:=e1;have l:(Mv bF σ)[i]? = some (some v):=e2;unfold Mv at l;rw[dZ]at k l
    cases ep:bF[i]? with
    | none=>rw[ep]at k;cases k
    | some p=>
     rw[ep]at k l;obtain rfl:p.2=y:=kJ k;have Zb:(σ[p.1]?).getD none=some v:=kJ l
     have hσ:σ[p.1]? = some (some v):=by
      cases es:σ[p.1]? with
      | none=>rw[es]at Zb;cases Zb
      | some w1=>rw[es]at Zb;exact congrArg some Zb
     obtain⟨cN,cF⟩:=S.cap p (SX ep);have mF:(p.2,NameKind.free)∈scope.names:=cy cF;have oF:=S.free _ mF rfl;obtain⟨m,hn,w⟩:=I.loc;obtain⟨u,ru,lk⟩:=w p.1 p.2 v cN hσ (.inr oF);refine⟨u,ru,.inr ⟨?_,?_⟩⟩
     .rcases e3 with z | z
      .exact eu z (j0 cF)
      .exact z
     .obtain⟨c,ec⟩:=qGL p.2 mF;refine⟨c,ec,?_⟩;rcases lk with ⟨z,_⟩ | ⟨_,c',ec',O,ho,hd⟩
      .have z':X.env.scope.names.lookup p.2=some .local:=z;rw[z']at oF;rcases oF with q | q <;> cases q
      .have ee:=(t _ _ ec).symm.trans ec'
       cases ee
       exact⟨O,U _ _ ho,hd⟩
  .obtain⟨v,O,ho,hd⟩:=I.cell y c (t y c e);exact⟨v,O,U _ _ ho,hd⟩
  .have hp':p∈X.pn++pins:=by
    rcases jz.mp hp with z | z
    .exact z
    .exact absurd z (by simp)
   obtain⟨e,n,ne,nf,d⟩:=I.pin p hp';refine⟨U _ _ e,n,jQ ?_,I.TX ne nf,d⟩;rw[g];exact iE (gQ e)
  .show (none::Mv bF σ).length=(x::bF.map (·.2)).length;simp [Mv]
 have hf1:∀ b∈s.heap.objs.size::fp,oJ (oE X (x::bF.map (·.2)) scope h3.objs.size { s with heap:=h3 } H (s.heap.objs.size::fp) (X.pn++pins)
   (notedBy (model X.prog X.w) X.A (compEnvC scope (Ju X.env scope) h3.objs.size X.env) fun e s'=>RR (.ref s.heap.objs.size) h3.objs.size (.error e) s')) [] H b:=fun b f=>by
  obtain⟨f0,f1,f2,f3,f4,f5⟩:=inj b f;refine⟨f0,Y b f,I.TX f1 f2,.inl f,fun y c e=>f4 y c (t y c e),fun p hp=>f5 p ?_⟩;rcases jz.mp hp with z | z
  .exact z
  .exact absurd z (by simp)
 have M:=T.keep _ _ _ st fun b _ O e=>U b O e
 have L:codeAny (model X.prog X.w) X.A (.compLoop (.ListComp elt [⟨.Name x px,iter,ifs,0⟩] scope pos) 0 (.ref it) (.ref s.heap.objs.size) (compEnvC scope (Ju X.env scope) h3.objs.size X.env)) (RR (.ref s.heap.objs.size) h3.objs.size) { s with heap:=j,toks:=s.toks+([]:aw (Str×av)).length }:=by
  refine Rk (X:=oE X (x::bF.map (·.2)) scope h3.objs.size { s with heap:=h3 } H (s.heap.objs.size::fp) (X.pn++pins) (notedBy (model X.prog X.w) X.A (compEnvC scope (Ju X.env scope) h3.objs.size X.env) fun e s'=>RR (.ref s.heap.objs.size) h3.objs.size (.error e) s'))
   hc rfl S.nd (lookup_relabel_local S.hx) I1 T M (fun b f=>hf1 b (Hr _ f)) (hf1 _ FZ) hDf ⟨0,F _ _ Q⟩ (Mf _ _ _ _ _ _) (helt _ _ _ _ _ _) hW rfl ?_
  intro s' r A its _ G plD va hlen nD z;have u1:Un (frs X.stack) (s.heap.objs.size::fp) H r h3 s'.heap:=G.base
  have J2:Inv X pins σ r s':=Inv.call' (s:={ s with heap:=h3 }) W G.os u1 G.hok G.bare fun b f=>by
   obtain⟨_,f1,_,f3,f4,f5⟩:=inj b f;exact⟨f3,f1,f4,f5⟩
  obtain⟨m,hn,_⟩:=G.loc;exact hRR s' r A its _ _ m J2 plD va hlen ⟨nD,fD.2⟩ ⟨G.free,fC.2⟩ hDC hn z
 exact codeAny_compStart_list L (T.self _ 0 _ _ _ M L)
def yU(U:X.calm=true)(S:bA X.env.scope X.N scope x bF)(hi:PI X (.Name x px) iter wi)
  (M:∀ C s H j P E,S7 (oE X (x::bF.map (·.2)) scope C s H j P E) ifs tc) (t:∀ C s H j P E,PE (oE X (x::bF.map (·.2)) scope C s H j P E) elt te)
  (L:∀ x,foldedSetIterable iter X.env x=pure x:=by intro _;rfl):PE X (.ListComp elt [⟨.Name x px,iter,ifs,0⟩] scope pos) (qAD wi bF tc te):=by intro p s σ H Q I h;have B:∀ y∈scope.names,y.2 = .free->∃ c,X.env.cells.lookup y.1=some c:=fun y R e=>I.ok.has y.1 (S.free y R e);rw[eval_ListComp];refine wpAny_comprehension_free (use:=none) rfl L (Bp B) S.kind S.Z7 (bH (hi p s σ H _ I h) fun v _ u=>bH u fun _ _ q=>?_);obtain⟨_,_,_,J,_,e,A,T,O,Z,W⟩:=q;subst e;refine Bo (RR:=fun a C=>compPost (model X.prog X.w) X.A X.xe none (EP X p σ Q) a C) U S A T O Z M t W ?_;intro s' k a its D C m w g l n F f i N z;obtain⟨Y,o⟩:=g;refine⟨m,N,fun d G=>?_⟩;have r:Inv X p σ k { s' with heap:=d }:=w.turned (fun b _ hb e=>(G.2 b hb).trans e) f.1 f.2.1 f.2.2.2.1 f.2.2.2.2.1 f.2.2.2.2.2;exact⟨.ref D,upd k D (.lst a),r.adopt F ⟨n,its,Y,l,(G.2 D i).trans o⟩,rfl,z D F.1⟩
def uI(hc:X.calm=true)(G:X.N.Nodup)(o:X.N[i]? = some y)(N:Loc X.env.scope y)(S:bA X.env.scope X.N scope x bF)(hi:PI X (.Name x px) iter wi)
  (M:∀ C s H j P E,S7 (oE X (x::bF.map (·.2)) scope C s H j P E) ifs tc) (t:∀ C s H j P E,PE (oE X (x::bF.map (·.2)) scope C s H j P E) elt te)
  (w:swapsWith (.ListComp elt [⟨.Name x px,iter,ifs,0⟩] scope pos) (some (.Name y py)) spos.line X.env=pure true:=by rfl) (hs:∀ x,foldedSetIterable iter X.env x=pure x:=by intro _;rfl)
  (d:X.fn y=true∨X.env.scope.names.lookup y=some .local:=by first | exact .inl rfl | exact .inr rfl | assumption):PS X (.Assign [.Name y py] (.ListComp elt [⟨.Name x px,iter,ifs,0⟩] scope pos) spos) (Y8 (qAD wi bF tc te) (PB i)):=by
 intro p s σ H r I h;have B:∀ y∈scope.names,y.2 = .free->∃ c,X.env.cells.lookup y.1=some c:=fun y N e=>I.ok.has y.1 (S.free y N e);rw[exec_Assign_Name_used _ _ _ _ w];refine aS (wpAny_standAt (aS ?_));show wpAny _ _ (do let _ ← comprehension (.ListComp elt [⟨.Name x px,iter,ifs,0⟩] scope pos) scope X.env _ (newList []) false (eval iter X.env) (some (assign (.Name y py) X.env))) _ _ s
 refine aS (c8 (wpAny_comprehension_free (use:=some (assign (.Name y py) X.env)) (Q:=fun _ s'=>SP X p r .next s') rfl hs (Bp B) S.kind S.Z7
  (bH (hi p s σ H _ I h) fun v _ Y=>bH Y fun _ _ U=>?_)) (fun _ s' hq=>aT (aT hq)) fun _ _ e=>e)
 obtain⟨_,_,_,J,_,e,I2,T,O,f2,hW⟩:=U;subst e;refine Bo (RR:=fun A C=>compPost (model X.prog X.w) X.A X.xe (some (assign (.Name y py) X.env)) (fun _ s'=>SP X p r .next s') A C) hc S I2 T O f2 M t hW ?_;intro s' H' A its D C m Z g u n F f k hn z;obtain⟨nD,L⟩:=g;have W:Inv X p σ (upd H' D (.lst A)) s':=Z.adopt F ⟨n,its,nD,u,L⟩;show wpAny _ _ (assign (.Name y py) X.env (.ref D)) _ _ s';refine wpAny_assign_Name (Dh W G o N (show RelV (.ref D) (.ref D) from rfl) (fun _ J4 ⟨a,sa,ha⟩=>?_) d)
 have l:C≠a:=by
  rcases ha with q | q
  .rw[q];exact f.2.1
  .exact (f.2.2.2.2.1 y a q).symm
 refine⟨m,hn.sameBut sa l,fun _ R=>?_⟩;exact⟨_,_,J4.turned (fun b _ hb e=>(R.2 b hb).trans e) (by rw[zR (bE k)];exact f.1) f.2.1 f.2.2.2.1 f.2.2.2.2.1 f.2.2.2.2.2,z D F.1⟩
def yt(n:Nat)(Pv:Nat->aw V->Hp->Prop)(f:Pv 0 [] H1)(hd:∀ A H,Pv n A H->J.stop n H/\Z A H)
  (s:∀ i A H,i<n->Pv i A H->J.go i H/\∀ x h,J.Xy i H x h->tc (some x::cs) h fun b c=>if b=true then te (some x::cs) c fun v d=>A.length<sizeLine/\Pv (i+1) (A++[v]) d else Pv (i+1) A c) :
  lD J cs tc te H1 Z:=by
 refine⟨fun i m A H=>m=n-i/\i<=n/\Pv i A H,⟨n,by simp,Nat.zero_le _,f⟩,?_⟩;rintro i m A H ⟨rfl,_,p⟩
 by_cases t:i<n
 .obtain⟨g,y⟩:=s i A H t p;exact .inr ⟨g,Pv (i+1),fun a h q=>⟨n-(i+1),by lia,rfl,t,q⟩,y⟩
 .have e:i=n:=by lia
  subst e;exact .inl (hd A H p)
def sH{lo:Int}{n:Nat}{C:St}{T:TT}{t:TE}{c:Hp}{Z:aw V->Hp->Prop}(Pv:Nat->aw V->Hp->Prop)(g:Pv 0 [] c)
  (s:∀ i a H,i<n->Pv i a H->T (some (.int (lo+i))::C) H fun b d=>if b=true then t (some (.int (lo+i))::C) d fun v f=>a.length<sizeLine/\Pv (i+1) (a++[v]) f else Pv (i+1) a d)
  (hd:∀ a H,Pv n a H->Z a H):lD (Itr lo n) C T t c Z:=
 yt n Pv g (fun a H p=>⟨bD _,hd a H p⟩) fun i a H h p=>⟨h,fun x _ y=>by
  obtain⟨e,y⟩:=y;subst e y
  exact s i a _ h p⟩
def yT{K:bV}{a:ar}{xs:aw V}{C:St}{T:TT}{t:TE}{c:Hp}{Z:aw V->Hp->Prop}(Pv:Nat->aw V->Hp->Prop)(j:Pv 0 [] c)(h:∀ i A H,Pv i A H->aU K H a xs)
  (s:∀ i x A H,xs[i]? = some x->Pv i A H->T (some x::C) H fun b d=>if b=true then t (some x::C) d fun v f=>A.length<sizeLine/\Pv (i+1) (A++[v]) f else Pv (i+1) A d)
  (hd:∀ A H,Pv xs.length A H->Z A H):lD (Itl K a) C T t c Z:=
 yt xs.length Pv j (fun A H p=>⟨⟨xs,h _ _ _ p,Nat.le_refl _⟩,hd A H p⟩) fun i A H g p=>⟨⟨xs,xs[i],h _ _ _ p,by simp [g]⟩,fun x _ y=>by
  obtain⟨e,y⟩:=y;subst e
  exact s i x A _ (y xs (h _ _ _ p)) p⟩
def ig{K:bV}{a:ar}{xs:aw V}{C:St}{T:TT}{t:TE}{c:Hp}{Z:aw V->Hp->Prop}(Pv:Nat->aw V->Hp->Prop)(j:Pv 0 [] c)(h:∀ i A H,Pv i A H->aJ K H a xs)
  (s:∀ i x A H,xs[i]? = some x->Pv i A H->T (some x::C) H fun b d=>if b=true then t (some x::C) d fun v f=>A.length<sizeLine/\Pv (i+1) (A++[v]) f else Pv (i+1) A d)
  (hd:∀ A H,Pv xs.length A H->Z A H):lD (Itt K a) C T t c Z:=
 yt xs.length Pv j (fun A H p=>⟨⟨xs,h _ _ _ p,Nat.le_refl _⟩,hd A H p⟩) fun i A H g p=>⟨⟨xs,xs[i],h _ _ _ p,by simp [g]⟩,fun x _ y=>by
  obtain⟨e,y⟩:=y;subst e
  exact s i x A _ (y xs (h _ _ _ p)) p⟩
def Its(z:Str):It:=⟨fun i _=>i<z.cps.size,fun i H x h=>h=H/\∃ c,z.cps[i]? = some c/\x = .str ⟨#[c]⟩,fun i _=>z.cps.size<=i⟩
def Km{w:aI}{K:bV}{T:Expr}(f:ar)(z:Str)(t:Tok):Turn P w K T (Its z) [f] f (fun i h=>h.IsStrIter f "str_ascii_iterator" z t i) where
 mem:=by simp
 obj:=fun i h st b a=>by
  have e:b=f:=by simpa using a
  subst e;obtain⟨o,e,c,d⟩:=st;exact⟨o,e,fun v z=>by rw[d]at z;cases z⟩
 keep:=fun i h h' st k=>by
  obtain⟨o,e,r⟩:=st;exact⟨o,k f (by simp) o e,r⟩
 item:=by
  intro X q u A y i p s σ H E I j st x;subst q u A;obtain⟨f0,m,O,B,l,F⟩:=j f (by simp);have g:i<z.cps.size:=x;refine wpAny_pyNext_ascii_item st (c:=z.cps[i]) (by simp [g]) fun h' S G=>?_;have C:Inv X p σ H { s with heap:=h',toks:=s.toks+1 }:=I.turned (fun b o a e=>(G.2 b a).trans e) f0 m B l F;obtain⟨o,e,c,d⟩:=id S;exact⟨_,rfl,Em (s:={ s with heap:=h',toks:=s.toks+1 }) e c d (by decide) ⟨.str ⟨#[z.cps[i]]⟩,H,C,⟨_,rfl⟩,⟨rfl,_,by simp [g],rfl⟩,S,fun b a=>(j b a).1⟩⟩
 done:=by
  intro X q u A y i p s σ H E I j st x;subst q u A;obtain⟨f0,m,O,B,l,F⟩:=j f (by simp);have n:z.cps.size<=i:=x;exact wpAny_pyNext_ascii_end (I.ok.hd y) st (by simp [n]) fun h' J=>⟨rfl,I.turned (t':=s.toks) (fun b o a e=>J b o a e) f0 m B l F⟩
 self:=fun _ _ _ _ _ st h=>wpAny_pyIter_striter_ascii st h
def QC{w:aI}{K:bV}{T:Expr}(f:ar)(z:Str)(t:Tok):Turn P w K T (Its z) [f] f (fun i h=>h.IsStrIter f "str_iterator" z t i) where
 mem:=by simp
 obj:=fun i h st b a=>by
  have e:b=f:=by simpa using a
  subst e;obtain⟨o,e,c,d⟩:=st;exact⟨o,e,fun v z=>by rw[d]at z;cases z⟩
 keep:=fun i h h' st k=>by
  obtain⟨o,e,r⟩:=st;exact⟨o,k f (by simp) o e,r⟩
 item:=by
  intro X q u A y i p s σ H E I j st x;subst q u A;obtain⟨f0,m,O,B,l,F⟩:=j f (by simp);have g:i<z.cps.size:=x;refine wpAny_pyNext_wide_item st (c:=z.cps[i]) (by simp [g]) fun h' S G=>?_;have C:Inv X p σ H { s with heap:=h',toks:=s.toks+1 }:=I.turned (fun b o a e=>(G.2 b a).trans e) f0 m B l F;obtain⟨o,e,c,d⟩:=id S;exact⟨_,rfl,Em (s:={ s with heap:=h',toks:=s.toks+1 }) e c d (by decide) ⟨.str ⟨#[z.cps[i]]⟩,H,C,⟨_,rfl⟩,⟨rfl,_,by simp [g],rfl⟩,S,fun b a=>(j b a).1⟩⟩
 done:=by
  intro X q u A y i p s σ H E I j st x;subst q u A;obtain⟨f0,m,O,B,l,F⟩:=j f (by simp);have n:z.cps.size<=i:=x;exact wpAny_pyNext_wide_end (I.ok.hd y) st (by simp [n]) fun h' J=>⟨rfl,I.turned (t':=s.toks) (fun b o a e=>J b o a e) f0 m B l F⟩
 self:=fun _ _ _ _ _ st h=>wpAny_pyIter_striter_wide st h
def qKW(t:TE):TI:=fun σ H R=>t σ H fun x h => ∃ z,x = .str z/\R (Its z) h
def qBW{l:Expr}{T:TE}(c:PE X l T):PI X tg l (qKW T):=by
 intro p s σ H R I h;refine bH (c p s σ H _ I h) fun v S ⟨x,a,i,r,Q⟩=>?_;obtain⟨z,e,q⟩:=Q;subst e;obtain⟨t,rfl⟩:=r
 have f:∀ b∈[S.heap.objs.size],oJ X p a b:=fun b d=>by
  have e:b=S.heap.objs.size:=by simpa using d
  subst e;exact i.Cr (bD _) (i.hok.fresh (bD _))
 cases ha:z.cps.all (· < 128)
 .refine wpAny_pyIter_wide ha ?_;exact⟨S.heap.objs.size,[S.heap.objs.size],_,_,a,rfl,i.kept fun b o e=>fM _ e,QC _ z t,⟨_,qy _ rfl,rfl,rfl⟩,f,q⟩
 .refine wpAny_pyIter_ascii ha ?_;exact⟨S.heap.objs.size,[S.heap.objs.size],_,_,a,rfl,i.kept fun b o e=>fM _ e,Km _ z t,⟨_,qy _ rfl,rfl,rfl⟩,f,q⟩
def Ww(Pv:Nat->aw V->Hp->Prop)(g:Pv 0 [] H1)
  (s:∀ i c a H,z.cps[i]? = some c->Pv i a H->tc (some (.str ⟨#[c]⟩)::cs) H fun b h=>if b=true then te (some (.str ⟨#[c]⟩)::cs) h fun v d=>a.length<sizeLine/\Pv (i+1) (a++[v]) d else Pv (i+1) a h)
  (hd:∀ a H,Pv z.cps.size a H->Z a H):lD (Its z) cs tc te H1 Z:=
 yt z.cps.size Pv g (fun a H p=>⟨bD _,hd a H p⟩) fun i a H f p=>⟨f,fun x _ y=>by
  obtain⟨e,c,E,j⟩:=y;subst e j
  exact s i c a _ E p⟩
theorem Tt:SlR X (fun x lo b H Q => ∃ z,x = .str z/\z.length<=sizeLine/\Q (.str (Txt.slice z lo b)) H):=by
 intro p s σ H x v _ _ lo b S Q I R a pl P h;obtain⟨z,rfl,e,q⟩:=h;obtain⟨t,rfl⟩:=R
 have f:∀ l u,s.heap.IsSlice S l u none->l.map (·.1)=lo->u.map (·.1)=b->wpAny (model X.prog X.w) X.A (getItem (.str z t) (.ref S)) (EP X p σ Q) X.xe s:=fun l u d g m=>by
  subst g m;exact wpAny_getItem_str_slice d rfl (post_val_or_str ⟨br (Txt.slice_le z _ _) e,fun _ k=>⟨.str _,H,I.tok _,⟨_,rfl⟩,q⟩⟩)
 refine⟨"str",_,F.slot_str_getitem.lookup,typeIs_str _ _ _,?_⟩
 cases pl with
 | none=>
  cases P with
  | none=>exact f none none a rfl rfl
  | int j U=>exact f none (some (j,U)) a rfl rfl
 | int i c=>
  cases P with
  | none=>exact f (some (i,c)) none a rfl rfl
  | int j U=>exact f (some (i,c)) (some (j,U)) a rfl rfl
def range_all:∀(n:Nat)(f:Nat->Bool)(bs:aw Bool),bs.length=n->(∀ i b,bs[i]? = some b->f i=b)->(List.range n).all f=bs.all id:=by
 intro n f bs l a;rw[eK,ff,ff];constructor
 .intro h b c;obtain⟨i,e⟩:=gT.mp c
  have H:i<n:=by
   have:=(oW.mp e).1;lia
  have:=h i (hJ.mpr H);rw[a i b e]at this;exact this
 .intro h i H
  have o:i<bs.length:=by rw[l];exact hJ.mp H
  have e:=fQ o;rw[a i _ e];exact h _ (lQ o)
def qj(m:X.calm=true):ir X (.builtin "all") (fun xs H Q => ∃(p:ar)(bs:aw Bool),xs=[.ref p]/\aU X.K H p (bs.map V.bl)/\Q (.bl (bs.all id)) H):=by
 intro _ s σ H xs _ Q I r h;obtain⟨p,bs,rfl,l,q⟩:=h;obtain⟨u,rfl,g⟩:=vals1 r
 cases g
 obtain⟨its,R,pl,_⟩:=I.list l;have n:=R.length;rw[bT]at n
 have t:p<s.heap.objs.size:=by
  obtain⟨o,B,_⟩:=pl.isList;exact gQ B
 refine call_all_walk (wpAny_pyIter_list pl.isList ?_)
 refine⟨s.heap.objs.size,[s.heap.objs.size,p],[s.heap.objs.size],its.toArray.size,fun i v=>its.toArray[i]? = some v,fun i h=>h.IsListIter s.heap.objs.size p i/\h.IsList p its.toArray,fun i=>(bs[i]?).getD true,rfl,
  Walks.list (A:=X.A.in1) (I.ok.hd m) _ _ (jQ t) _,⟨⟨_,qy _ rfl,rfl,rfl⟩,pl.isList.at fun o e=>fM _ e⟩,?_,?_⟩
 .intro i v s' j _ f d
  have w:i<bs.length:=by
   have:=(eB.mp f).1;simp only[List.size_toArray]at this;lia
  have e:bs[i]? = some bs[i]:=fQ w;obtain⟨u,y,M⟩:=R.get (i:=i) (x:=V.bl bs[i]) (by rw[dZ,e];rfl)
  have a:its[i]? = some v:=by simpa using f
  rw[y]at a
  cases a
  cases M
  have c:j ((bs[i]?).getD true) s':=d;rw[e]at c;exact wpAny_truthy_bool c
 .intro h' T k;refine⟨.bl (bs.all id),H,I.kept (t':=T) (h':=h') fun b u e=>k b u (fun z=>?_) (fM _ e),?_,q⟩
  .have Z:b=s.heap.objs.size:=by simpa using z
   exact eu (gQ e) (by rw[Z];exact iq _)
  .show Value.bool _=Value.bool _;rw[range_all its.toArray.size _ bs (by simp only[List.size_toArray];exact n) fun i b e=>by rw[e];rfl]
def qJU(p p':Int->Int->Bool)(k:Int)(t T:TE):TE:=fun σ H Q=>t σ H fun x h=>T σ h fun y a => ∃ i j,x = .int i/\y = .int j/\Q (.bl (p i j&&p' j k)) a
theorem QZ(W:lJ X (compareOp O) (Le fun i j=>.bl (p i j)))(g:lJ X (compareOp o) (Le fun i j=>.bl (p' i j)))(Y:PE X a t)(hb:PE X b T)(U:PE X c (tC (.int k)))
  (hm:lastMarks [O,o] [b,c]=false:=by with_unfolding_all rfl):PE X (.Compare a [O,o] [b,c] M) (qJU p p' k t T):=by
 intro P s σ H Q I h;refine Compare_chain (bH (Y P s σ H _ I h) fun v S ⟨x,F,I1,J,q1⟩=>chain_link (bH (hb P S σ F _ I1 q1) fun u Z ⟨y,n,D,R,G⟩=>?_)) hm;obtain⟨i,j,rfl,rfl,q⟩:=G;refine bH (W P Z σ n _ _ v u (fun z f=>z = .bl (p i j)/\f=n) D J R ⟨i,j,rfl,rfl,rfl,rfl⟩) fun d s3 ⟨z,f,m,A,N,E⟩=>?_;subst N E
 cases A
 refine wpAny_truthy_bool ?_
 cases e:p i j with
 | false=>
  rw[e,eL]at q;exact ite_ff ⟨.bl false,_,m,rfl,q⟩
 | true=>
  rw[e,eR]at q
  exact ite_tt (chain_last (bH (U P s3 σ _ (fun z l=>z = .int k/\l=f) m ⟨rfl,rfl⟩) fun w' C ⟨_,l,B,r,L,w⟩=>by
   subst L w
   exact g P C σ _ _ _ u w' Q B R r ⟨j,k,rfl,rfl,q⟩))
def qG(d:0<=i)(H:i<(xs.length:Int)):∃ v∈xs,mX xs i=some v:=by
 have k:i.toNat<xs.length:=by lia
 have e:=fQ k;refine⟨xs[i.toNat],lQ k,?_⟩;have q:=yR e;rw[fe d]at q;exact q
def Zv{ns:aw Int}{i:Int}(d:0<=i)(H:i<(ns.length:Int)):∃ v:Int,mX (ns.map V.int) i=some (.int v):=by obtain⟨v,h,e⟩:=qG (xs:=ns.map V.int) d (by rw[bT];exact H);obtain⟨n,_,rfl⟩:=eX.mp h;exact⟨n,e⟩
def zJ(h:n<=1000):n<=sizeLine:=ij (zW h)
def qCI(x:Int):Builtin.bitAnd x 2147483647=x%2147483648:=PySem.W.kbt_mask x 31
def qAO(x:Int):0<=Builtin.bitAnd x 2147483647/\Builtin.bitAnd x 2147483647<2147483648:=by rw[qCI];lia
section
variable{X:Cx}{st:Stmt}{rest:aw Stmt}{t u:TS}
def qE6(t u:TS):TS:=fun D σ H => ∃ M:St->Hp->Prop,t { D with nx:=M } σ H/\∀ σ' h,M σ' h->u D σ' h
theorem yA(b:PS X st t)(l:Cw X rest u):Cw X (st::rest) (qE6 t u):=by
 intro p s σ H D I h;obtain⟨M,h,c⟩:=h;refine wpAny_execs_cons (bH (b p s σ H { D with nx:=M } I h) fun f S q=>?_)
 cases f with
 | next=>
  obtain⟨σ',a,i,q⟩:=q;exact l p S σ' a D i (c σ' a q)
 | ret v=>exact q
 | brk=>exact q
 | cont=>exact q
end
def zF(h:H p=none)(o:HO):aH H (upd H p o):=fun b u q=>by rw[zR (zN q h)];exact q
def qE5(t:TE):TE:=fun σ H Q => ∃ M:VK,t σ H M/\∀ v h,M v h->Q v h
def pL(h:PE X e t):PE X e (qE5 t):=by intro p s σ H Q I ⟨M,c,b⟩;exact bH (h p s σ H M I c) fun u _ ⟨v,a,i,r,m⟩=>⟨v,a,i,r,b v a m⟩
def qE4(t:TT):TT:=fun σ H Q => ∃ M:Bool->Hp->Prop,t σ H M/\∀ b h,M b h->Q b h
def bZ(h:PT X e t):PT X e (qE4 t):=by intro p s σ H Q I ⟨M,d,c⟩;exact bH (h p s σ H M I d) fun b _ ⟨a,i,m⟩=>⟨a,i,c b a m⟩
end L2
namespace L2
open PySem
def cQ(kind:sc.kind = .function:=by rfl)(c:sc.isCoroutine=false:=by rfl)(g:sc.isGenerator=false:=by rfl)(n:N.Nodup:=by decide +kernel)(p:N.take P.length=P:=by rfl)
  (par:∀ x∈P,sc.names.lookup x=some .local∨sc.names.lookup x=some .cell:=by decide +kernel) (M:∀ y∈sc.names,y.2≠.free:=by decide +kernel):aF N P sc:=⟨kind,c,g,n,p,par,M⟩
def vA(kind:scope.kind = .function:=by rfl)(h:scope.names.lookup x=some .local:=by rfl)(O:∀ y∈scope.names,y.2≠.cell:=by decide +kernel)
  (Z:∀ y∈scope.names,y.2 = .local->scope.names.lookup y.1=some .local:=by decide +kernel) (free:∀ y∈scope.names,y.2 = .free->osc.names.lookup y.1=some .cell∨osc.names.lookup y.1=some .free:=by decide +kernel)
  (c:∀ p∈bF,N[p.1]? = some p.2/\scope.names.lookup p.2=some .free:=by decide +kernel) (n:(x::bF.map (·.2)).Nodup:=by decide +kernel):bA osc N scope x bF:=⟨kind,h,O,Z,free,c,n⟩
structure Dp(P:Program)(w:World)(K:bV)(mg:Str->Option Value)(base:Heap)(CX:KQ)(n:Nat)(f:Addr)(d:FuncData)(ps:List Str)(sp:Sp)(x:Str):Prop where
 G:aL P w K mg base CX n f d ps sp
 b:Binds K d ps []
 k:KI K f
 m:mg x=some (.ref f)
def pC(D:Dp X.prog X.w X.K X.mg X.base aN k f fd ps sp x)(g:fP k X.A)(d:PA X (e::es) t)(j:Gl X x:=by rfl)(b:(x==("__debug__" : Str))=false:=by decide)(i:starEach (e::es) X.env=(false,eval e X.env)::starEach es X.env:=by rfl)(l:(backTo pos (starEach es X.env)).any (·.1)=false:=by rfl) :
  PE X (.Call (.Name x p) (e::es) [] pos) (qAE sp [] E0 t):=zK D.G g j D.m D.k D.b .nil yF d b i l
end L2
namespace HT
open PySem PySem.Spec PyProof.Rows
end HT
namespace L2
open PySem PySem.Spec PyProof.Rows
section
variable{κ:Type} [DecidableEq κ]
noncomputable def iR(s:aw (κ×V))(k:κ):aE V:=(s.find? fun v=>decide (v.1=k)).map (·.2)
noncomputable def putK(s:aw (κ×V))(k:κ)(v:V):aw (κ×V):=
 if (s.any fun a=>decide (a.1=k))=true then s.map (fun a=>if a.1=k then (a.1,v) else a) else s++[(k,v)]
def dH{p:κ×V}{r:aw (κ×V)}{k:κ}(e:p.1=k):iR (p::r) k=some p.2:=by simp [iR,List.find?_cons,e]
def dI{p:κ×V}{r:aw (κ×V)}{k:κ}(e:¬ p.1=k):iR (p::r) k=iR r k:=by simp [iR,List.find?_cons,e]
theorem lR(k:κ):∀ s:aw (κ×V),(s.any fun v=>decide (v.1=k))=(iR s k).isSome
 | []=>rfl
 | p::r=>by
  rw[fh]
  by_cases e:p.1=k
  .simp only[dH e,decide_eq_true e,Bool.true_or,Option.isSome_some]
  .rw[dI e,bp e,eM];exact lR k r
theorem Ht(k j:κ)(y:V):∀ s:aw (κ×V),iR (s.map fun v=>if v.1=k then (v.1,y) else v) j=(iR s j).map fun x=>if j=k then y else x
 | []=>rfl
 | p::r=>by
  have i:=Ht k j y r;rw[bt]
  by_cases h:p.1=k
  .rw[cS h]
   by_cases e:p.1=j
   .rw[dH (p:=(p.1,y)) e,dH e,jS,cS (e.symm.trans h)]
   .rw[dI (p:=(p.1,y)) e,dI e,i]
  .rw[cK h]
   by_cases e:p.1=j
   .rw[dH (p:=p) e,dH e,jS,cK (fun z=>h (e.trans z))]
   .rw[dI (p:=p) e,dI e,i]
theorem Dc(k j:κ)(y:V):∀ s:aw (κ×V),iR s k=none->iR (s++[(k,y)]) j=if j=k then some y else iR s j
 | [],_=>by
  by_cases e:k=j
  .rw[cS e.symm];exact dH (p:=(k,y)) e
  .rw[cK (fun z=>e z.symm)];exact dI (p:=(k,y)) e
 | p::r,f=>by
  rw[List.cons_append]
  have h:¬ p.1=k:=fun z=>by rw[dH z]at f;cases f
  rw[dI h]at f;have i:=Dc k j y r f
  by_cases e:p.1=j
  .rw[dH e,dH e,cK (fun z=>h (e.trans z))]
  .rw[dI e,dI e,i]
theorem T4(s:aw (κ×V))(k j:κ)(y:V):iR (putK s k y) j=if j=k then some y else iR s j:=by
 unfold putK
 by_cases a:(s.any fun v=>decide (v.1=k))=true
 .rw[cS a,Ht];rw[lR]at a
  by_cases e:j=k
  .obtain⟨x,h⟩:=jv.mp a;rw[cS e,e,h,jS,cS rfl]
  .rw[cK e]
   cases iR s j with
   | none=>rfl
   | some x=>rw[jS,cK e]
 .rw[cK a];refine Dc k j y s ?_;rw[lR]at a
  cases q:iR s k with
  | none=>rfl
  | some x=>rw[q]at a;exact (a rfl).elim
def wz(s:aw (κ×V))(k:κ)(v:V):(putK s k v).length<=s.length+1:=by
 unfold putK
 split
 .rw[bT];omega
 .rw[j8,dG,fT];omega
def UT{s:aw (κ×V)}{k:κ}(v:V)(h:iR s k=none):putK s k v=s++[(k,v)]:=by unfold putK;rw[lR,h];exact cK (by decide)
theorem oH.vy{o:aE V}{u:aE av}(r:oH o u):o.isSome=u.isSome:=by
 cases o with
 | none=>cases u with
  | none=>rfl
  | some _=>exact (show False from r).elim
 | some _=>cases u with
  | none=>exact (show False from r).elim
  | some _=>rfl
theorem KV.val{s:aw (κ×V)}{vs:aw (κ×av)}(r:KV s vs)(k:κ):oH (iR s k) (valueAt vs k):=by
 unfold KV at r
 induction r with
 | nil=>exact e9
 | @cons p q ps Q h t i=>
  obtain⟨H,l⟩:=h
  by_cases e:p.1=k
  .have E:q.1=k:=H.symm.trans e
   have b:valueAt (q::Q) k=some q.2:=by simp [valueAt,List.find?_cons,E]
   rw[dH e,b];exact l
  .have E:¬ q.1=k:=fun z=>e (H.trans z)
   have b:valueAt (q::Q) k=valueAt Q k:=by simp [valueAt,List.find?_cons,E]
   rw[dI e,b];exact i
theorem KV.any{s:aw (κ×V)}{vs:aw (κ×av)}(r:KV s vs)(k:κ):(s.any fun v=>decide (v.1=k))=vs.any fun v=>decide (v.1=k):=by
 unfold KV at r
 induction r with
 | nil=>rfl
 | cons h t i=>rw[fh,fh,i,h.1]
theorem KV.repl{s:aw (κ×V)}{vs:aw (κ×av)}(r:KV s vs)(k:κ){y:V}{u:av}(c:RelV y u) :
  KV (s.map fun v=>if v.1=k then (v.1,y) else v) (vs.map fun v=>if v.1=k then (v.1,u) else v):=by
 unfold KV at r ⊢
 induction r with
 | nil=>exact .nil
 | @cons p q ps Q h t i=>
  rw[bt,bt];refine .cons ?_ i;obtain⟨H,l⟩:=h
  by_cases e:p.1=k
  .rw[cS e,cS (H.symm.trans e)];exact⟨H,c⟩
  .rw[cK e,cK (fun z=>e (H.trans z))];exact⟨H,l⟩
def KV.put{s:aw (κ×V)}{vs:aw (κ×av)}(r:KV s vs)(k:κ){y:V}{u:av}(c:RelV y u):KV (putK s k y) (stored vs k u):=by
 unfold putK stored;rw[r.any k]
 by_cases e:(vs.any fun v=>decide (v.1=k))=true
 .rw[cS e,cS e];exact r.repl k c
 .rw[cK e,cK e];exact Paired.snoc r ⟨rfl,c⟩
theorem KV.keys{k:aw (κ×V)}{vs:aw (κ×av)}(r:KV k vs):k.map (·.1)=vs.map (·.1):=by
 unfold KV at r
 induction r with
 | nil=>rfl
 | cons h t i=>rw[bt,bt,i,h.1]
def KV.length{k:aw (κ×V)}{vs:aw (κ×av)}(r:KV k vs):k.length=vs.length:=Paired.length r
end
theorem Ou{P:ag}{w:aI}{k:Key}{u:av}(r:RelV (kV k) u):(bu P w).is k u=true:=by
 cases k with
 | inl i=>obtain⟨t,e⟩:=(show ∃ t,u=Value.int i t from r);subst e;exact JZ P w i t
 | inr x=>obtain⟨t,e⟩:=(show ∃ t,u=Value.str x t from r);subst e;exact JX P w x t
theorem Ej{P:ag}{w:aI}:∀ {s:aw Key} {us:aw av},Vals (s.map kV) us->ItemsAre (bu P w) s us
 | [],_,r=>by rw[List.map_nil]at r;cases r;exact .nil
 | k::s,_,r=>by
  rw[bt]at r
  cases r with
  | cons h t=>exact .cons (Ou h) (Ej t)
abbrev KT(H:Hp):aw (aw Key×V)->aw (aw Key×ar×av)->Prop:=Paired fun p q=>p.1=q.1/\H q.2.1=some (.tup (p.1.map kV))/\RelV p.2 q.2.2
theorem KT.val{H:Hp}{s:aw (aw Key×V)}{xs:aw (aw Key×ar×av)}(r:KT H s xs)(k:aw Key):oH (iR s k) ((atKey xs k).map (·.2)):=by
 induction r with
 | nil=>exact e9
 | @cons p q ps Q h t i=>
  obtain⟨a,_,l⟩:=h
  by_cases e:p.1=k
  .have E:q.1=k:=a.symm.trans e
   have b:atKey (q::Q) k=some q.2:=by simp [atKey,List.find?_cons,E]
   rw[dH e,b];exact l
  .have E:¬ q.1=k:=fun z=>e (a.trans z)
   have b:atKey (q::Q) k=atKey Q k:=by simp [atKey,List.find?_cons,E]
   rw[dI e,b];exact i
theorem KT.repl{H:Hp}{s:aw (aw Key×V)}{xs:aw (aw Key×ar×av)}(r:KT H s xs)(k:aw Key){y:V}{u:av}(c:RelV y u) :
  KT H (s.map fun v=>if v.1=k then (v.1,y) else v) (xs.map (putAt k u)):=by
 induction r with
 | nil=>exact .nil
 | @cons p q ps Q h t i=>
  rw[bt,bt];refine .cons ?_ i;obtain⟨a,l,b⟩:=h;unfold putAt
  by_cases e:p.1=k
  .rw[cS e,cS (a.symm.trans e)];exact⟨a,l,c⟩
  .rw[cK e,cK (fun z=>e (a.trans z))];exact⟨a,l,b⟩
def KT.put{H:Hp}{s:aw (aw Key×V)}{xs:aw (aw Key×ar×av)}(r:KT H s xs)(k:aw Key){b:ar}{y:V}{u:av}(h:H b=some (.tup (k.map kV)))(c:RelV y u) :
  KT H (putK s k y) (storedH xs k b u):=by
 have e:(s.any fun v=>decide (v.1=k))=(atKey xs k).isSome:=by
  rw[lR,(r.val k).vy,Option.isSome_map]
 unfold putK storedH;rw[e]
 by_cases q:(atKey xs k).isSome=true
 .rw[cS q,cS q];exact r.repl k c
 .rw[cK q,cK q];exact Paired.snoc r ⟨rfl,h,c⟩
def KT.keeps{H h:Hp}{k:aw (aw Key×V)}{xs:aw (aw Key×ar×av)}(r:KT H k xs)(ht:∀ b ys,H b=some (.tup ys)->h b=some (.tup ys)):KT h k xs:=
 Paired.qCJ r fun _ _ z=>⟨z.1,ht _ _ z.2.1,z.2.2⟩
section
variable{P:ag}{w:aI}{H:Hp}{h:Heap}{a:ar}
def qAH{u:HO}(ok:lM P w H h)(e:Rd H a u):bM P w H h a u:=e.ok ok
def PN{k:aw (Key×V)}(ok:lM P w H h)(e:Rd H a (.dK k)):k.length<=sizeLine/\(a==sysModules)=false/\∃ vs,KV k vs/\h.DictOf (bu P w) a vs:=
 show bM P w H h a (.dK k) from qAH ok e
def qAU{k:aw (Key×V)}(ok:lM P w H h)(e:H a=some (.dK k)):k.length<=sizeLine/\(a==sysModules)=false/\∃ vs,KV k vs/\h.DictOf (bu P w) a vs:=PN ok (.inl e)
def Gk{s:aw Key}(ok:lM P w H h)(e:H a=some (.tup (s.map kV))):(tupleKind (bu P w)).is h s a:=by obtain⟨_,its,r,o,b,l,n,p⟩:=(show bM P w H h a (.tup (s.map kV)) from ok a _ e);exact⟨o,its.toArray,n,b,l,p,by simpa using Ej r⟩
theorem PK{k:aw (aw Key×V)}(ok:lM P w H h)(e:Rd H a (.dT k)):k.length<=sizeLine/\(a==sysModules)=false ∧
  ∃ xs,KT H k xs/\h.DictOfH (tupleKind (bu P w)) a xs:=by
 obtain⟨z,y,xs,r,o,E,ep,d,g,n,j,f⟩:=(show bM P w H h a (.dT k) from qAH ok e);refine⟨z,y,xs,r,o,E,ep,d,g,n,j,fun x b=>?_,f⟩
 have all:∀ {l:aw (aw Key×V)} {m:aw (aw Key×ar×av)},KT H l m->∀ x∈m,(tupleKind (bu P w)).is h x.1 x.2.1:=by
  intro l m q
  induction q with
  | nil=>intro x b;exact nomatch b
  | @cons p q ps Q c t i=>
   intro x b;rcases dD.mp b with e | b
   .subst e;exact Gk ok (by rw[<-c.1];exact c.2.1)
   .exact i x b
 exact all r x b
def Jp{k:aw (aw Key×V)}(ok:lM P w H h)(e:H a=some (.dT k)):k.length<=sizeLine/\(a==sysModules)=false ∧
  ∃ xs,KT H k xs/\h.DictOfH (tupleKind (bu P w)) a xs:=PK ok (.inl e)
end
def Hj(H:Hp)(a:ar)(y:V)(r:aE V):Prop:=
 (∃ s k,Rd H a (.dK s)/\y=kV k/\r=iR s k) ∨ ∃ s k b,Rd H a (.dT s)/\y = .ref b/\H b=some (.tup (k.map kV))/\r=iR s k
def Xl(H:Hp)(a:ar)(y v:V)(h:Hp):Prop:=
 (∃ s k,H a=some (.dK s)/\y=kV k/\s.length<sizeLine/\h=upd H a (.dK (putK s k v))) ∨
 ∃ s k b,H a=some (.dT s)/\y = .ref b/\H b=some (.tup (k.map kV))/\s.length<sizeLine/\h=upd H a (.dT (putK s k v))
def Hj.k{H:Hp}{a:ar}{s:aw (Key×V)}{k:Key}(e:H a=some (.dK s)):Hj H a (kV k) (iR s k):=.inl ⟨s,k,.inl e,rfl,rfl⟩
def Xl.k{H:Hp}{a:ar}{s:aw (Key×V)}{k:Key}{v:V}(e:H a=some (.dK s))(h:s.length<sizeLine):Xl H a (kV k) v (upd H a (.dK (putK s k v))):=.inl ⟨s,k,e,rfl,h,rfl⟩
section
variable{X:Cx}{pins:aw (ar×Obj)}{σ:St}{H:Hp}{s:ae}{a:ar}{y v:V}{u r:av}{o:aE V}{A:ai}{E:av->ae->Prop}
def Inv.big(I:Inv X pins σ H s):sysModules<s.heap.objs.size:=by have h:mainGlobals<s.heap.objs.size:=(I.mod.glob.keeps I.bk).lt;exact iL (by decide) h
def Ri{Q:av->ae->Prop}(j:A.units+1<cLine)(I:Inv X pins σ H s)(g:Hj H a y (some v))(R:RelV y u)(h:∀ W s',Inv X pins σ H s'->RelV v W->Q W s') :
  wpAny (model X.prog X.w) A (getItem (.ref a) u) Q E s:=by
 rcases g with ⟨f,k,e,c,l⟩ | ⟨f,k,b,e,c,J,l⟩
 .subst c;obtain⟨z,hd,vs,r,D⟩:=PN I.hok e;obtain⟨W,w,U⟩:=oH.some_of (v:=v) (o:=valueAt vs k) (by rw[l];exact r.val k);exact wpAny_getItem_of (Ou R) D.mapOf w (h W _ (I.tok _) U)
 .subst c
  cases (show u=Value.ref b from R)
  obtain⟨z,hd,xs,r,D⟩:=PK I.hok e;obtain⟨W,w,U⟩:=oH.some_of (v:=v) (o:=(atKey xs k).map (·.2)) (by rw[l];exact r.val k);obtain⟨p,i,d⟩:=jI.mp w;refine wpAny_getItem_heap (tupleKind_room_in1 j) (Gk I.hok J) D i ?_;rw[d];exact h W _ (I.tok _) U
def Ze{Q:av->ae->Prop}(f:A.units+1<cLine)(I:Inv X pins σ H s)(g:Hj H a y o)(R:RelV y u)(h:∀ s',Inv X pins σ H s'->Q (.bool (!o.isSome)) s') :
  wpAny (model X.prog X.w) A (compareOp .NotIn u (.ref a)) Q E s:=by
 rcases g with ⟨d,k,e,c,l⟩ | ⟨d,k,b,e,c,J,l⟩
 .subst c;obtain⟨z,hd,_,r,D⟩:=PN I.hok e;refine wpAny_notIn_of (Ou R) hd D.mapOf ?_;rw[<-(r.val k).vy,<-l];exact h _ (I.tok _)
 .subst c
  cases (show u=Value.ref b from R)
  obtain⟨z,hd,_,r,D⟩:=PK I.hok e;refine wpAny_notIn_heap (tupleKind_room_in1 f) (Gk I.hok J) hd D ?_;have q:=(r.val k).vy;rw[Option.isSome_map]at q;rw[<-q,<-l];exact h _ (I.tok _)
def Pb{h':Heap}{t':Nat}{O:HO}(I:Inv X pins σ H s)(m:Mut (H a))(h:Heap.SameBut a s.heap h')(i:∃ q,h'.get? a=some q)(new:bM X.prog X.w (upd H a O) h' a O) :
  Inv X pins σ (upd H a O) { s with heap:=h',toks:=t' }:=
 I.write (x:=a) (e:=a) m (.inl rfl) (fun b q c z=>(h.2 b c).trans z) i new
def qD2{P:ag}{w:aI}{H:Hp}{h':Heap}{k:aw (Key×V)}{vs:aw (Key×av)}(z:k.length<=sizeLine)(hd:(a==sysModules)=false)(r:KV k vs)(D:h'.DictOf (bu P w) a vs) :
  bM P w H h' a (.dK k):=⟨z,hd,vs,r,D⟩
def Rh{B:Hp}{Q:Unit->ae->Prop}(L:A.units+1<cLine)(I:Inv X pins σ H s)(g:Xl H a y v B)(w:RelV y u)(x:RelV v r)(h:∀ s',Inv X pins σ B s'->Q () s') :
  wpAny (model X.prog X.w) A (setItem (.ref a) u r) Q E s:=by
 rcases g with ⟨d,k,e,i,l,n⟩ | ⟨d,k,b,e,i,J,l,n⟩
 .subst i n;obtain⟨z,hd,vs,R,o⟩:=qAU I.hok e
  have p:vs.length<=sizeLine:=by rw[<-R.length];exact z
  have j:(putK d k v).length<=sizeLine:=by have:=wz d k v;omega
  refine wpAny_setItem_pairs (hsz:=p) (Ou w) o fun h' D m=>h _ ?_;have G:∃ q,h'.get? a=some q:=let ⟨q,_,_,f,_⟩:=D;⟨q,f⟩;exact Pb I (by rw[e];exact e9) m G (qD2 j hd (R.put k x) D)
 .subst i n
  cases (show u=Value.ref b from w)
  obtain⟨z,hd,xs,R,o⟩:=Jp I.hok e
  have p:xs.length<=sizeLine:=by rw[<-Paired.length R];exact z
  have j:(putK d k v).length<=sizeLine:=by have:=wz d k v;omega
  refine wpAny_setItem_heap (hsz:=p) (tupleKind_room_in1 L) (Gk I.hok J) o fun h' D m=>h _ ?_;obtain⟨q,C,ep,f,F,M,O,_,N⟩:=D;refine Pb I (by rw[e];exact e9) m ⟨q,f⟩ ⟨j,hd,_,(R.put k J x).keeps fun c _ t=>?_,q,C,ep,f,F,M,O,N⟩;rw[zR (gU t e (fun z=>nomatch z))];exact t
end
section
variable{X:Cx}{pins:aw (ar×Obj)}{σ:St}{H:Hp}{s:ae}{a:ar}{kvs:aw (Key×V)}{k:Key}{u:av}{A:ai}{E:av->ae->Prop}
end
def qJ8(i:Expr):Prop:=∀ O I,subscripted i false O I=operate [O,I] (getItem O I)
theorem YB{prog:ag}{w:aI}{A:ai}{E:av->ae->Prop}{s:ae}{v:Env}{e slice:Expr}{P:Pos}{T id:String}{Q:av->ae->Prop}
  (l:typeLookup (.type T) "__getitem__" = pure (some (.builtin id))) (b:qJ8 slice)
  (h:wpAny (model prog w) A (eval e v) (fun o S=>wpAny (model prog w) A (eval slice v) (fun i c=>c.TypeIs o T/\wpAny (model prog w) A (getItem o i) Q E c) E S) E s) :
  wpAny (model prog w) A (eval (.Subscript e slice P) v) Q E s:=by
 refine Subscript_ (c8 h (fun o S j=>c8 j (fun i c H=>?_) fun _ _ x=>x) fun _ _ x=>x);obtain⟨t,H⟩:=H;unfold subscriptTail;refine aS ?_;rw[getitemInPython_of_ne t.not_modules];refine aS (wpAny_specialOf t l ?_)
 have f:wpAny (model prog w) A (subscripted slice false o i) (fun r d=>wpAny (model prog w) A (letTemporaryGo e o r >>= fun _=>pure r) Q E d) E c:=by
  rw[b o i];exact wpAny_operating (c8 H (fun r d a=>aS (wpAny_letTemporaryGo (aT a))) fun _ _ x=>x)
 first
  | exact aT (aS f)
  | exact aS (aT (aS f))
  | exact aS f
def Jr{X:Cx}{p:aw (ar×Obj)}{σ:St}{H:Hp}{s:ae}{a:ar}{y:V}{o:aE V}(I:Inv X p σ H s)(g:Hj H a y o):s.TypeIs (.ref a) "dict" := by
 rcases g with ⟨c,k,e,_,_⟩ | ⟨c,k,b,e,_,_,_⟩
 .obtain⟨_,_,_,_,D⟩:=PN I.hok e;exact D.typeIs
 .obtain⟨_,_,_,_,D⟩:=PK I.hok e;exact D.typeIs
def qE3(t ty:TE):TE:=fun σ H Q=>t σ H fun x b=>ty σ b fun y h => ∃ a v,x = .ref a/\Hj h a y (some v)/\Q v h
def Y7(ty t:TE):TE:=fun σ H Q=>ty σ H fun y b=>t σ b fun x h => ∃ a o,x = .ref a/\Hj h a y o/\Q (.bl (!o.isSome)) h
def qEH(t ty T:TE):TS:=fun D σ H=>T σ H fun v c=>t σ c fun x d=>ty σ d fun y b => ∃ a h,x = .ref a/\Xl b a y v h/\D.nx σ h
section
variable{X:Cx}{o i e value:Expr}{pos pos' tpos:Pos}{td ty tv:TE}
def Ym(n:X.A.units+1<cLine)(t:PE X o td)(k:PE X i ty)(m:qJ8 i):PE X (.Subscript o i pos) (qE3 td ty):=by intro p s σ H Q I h;refine YB PySem.F.slot_dict_getitem.lookup m (bH (t p s σ H _ I h) fun u S ⟨x,e,d,R,f⟩=>bH (k p S σ e _ d f) fun _ _ hz_=>?_);apply aW;intro _ g_;obtain⟨y,l,b,r,a,v,j,g,q⟩:=hz_;apply g_;clear g_;subst j;obtain rfl:u=Value.ref a:=R;exact⟨Jr b g,Ri n b g r fun _ _ c U=>⟨v,l,c,U,q⟩⟩
def Qa(m:X.A.units+1<cLine)(l:PE X i ty)(n:PE X o td):PC X .NotIn i o (Y7 ty td):=by intro p s σ H Q I h;refine bH (l p s σ H _ I h) fun _ S ⟨y,j,d,c,f⟩=>bH (n p S σ j _ d f) fun u _ ⟨x,k,e,R,a,O,E,g,q⟩=>?_;subst E;obtain rfl:u=Value.ref a:=R;exact Ze m e g c fun _ b=>⟨.bl (!O.isSome),k,b,rfl,q⟩
def Yg(f:X.A.units+1<cLine)(l:PE X o td)(B:PE X i ty)(d:PE X value tv)(e:swapsWith value (some (.Subscript o i pos')) pos.line X.env=pure false) :
  PS X (.Assign [.Subscript o i pos'] value pos) (qEH td ty tv):=by intro p s σ H D I h;refine wpAny_Assign_Subscript (bH (d p s σ H _ I h) fun r S ⟨v,c,z,t,A⟩=>bH (l p S σ c _ z A) fun u w ⟨x,C,b,R,q⟩=>bH (B p w σ C _ b q) fun _ _ hz_=>?_) e;apply aW;intro _ g_;obtain⟨y,_,m,j,a,k,E,g,Q⟩:=hz_;apply g_;clear g_;subst E;obtain rfl:u=Value.ref a:=R;exact Rh f m g j t fun _ n=>⟨σ,k,n,Q⟩
end
def Ws{P:ag}{w:aI}{H:Hp}(h:Heap)(c:sysModules<h.objs.size):bM P w H (h.push { cls:=.type "dict",data:=.dict #[] }) h.objs.size (.dK []):=
 ⟨bo _,dQ.mpr (bE (jQ c)),[],.nil,Heap.DictOf.new h⟩
def qBD:TE:=fun _ H Q => ∀ p,H p=none->Q (.ref p) (upd H p (.dK []))
section
variable{X:Cx}{pos:Pos}
def Ue:PE X (.Dict [] [] pos) qBD:=fun _ s σ H Q I h=>
 wpAny_Dict_empty ⟨.ref s.heap.objs.size,_,I.laid (a:=s.heap.objs.size) (o:=.dK []) (t':=s.toks) (fun _ _ q=>fM _ q) (bD _) (Ws s.heap I.big),rfl,h _ (I.hok.fresh (bD _))⟩
end
structure M1(X:Cx)(o:Expr)(m:Str)(apos:Pos)(e:Expr)(cpos:Pos):Prop where
 base:attributeBase o m X.env (eval o X.env)=eval o X.env
 few:((backTo cpos (starEach [e] X.env)).all (fun x => !x.1)&&(backToKw cpos (keywordEach [] X.env)).all (fun x=>x.1.isSome)
  && decide (([e]:List Expr).length+([]:List Keyword).length+(if ([]:List Keyword).isEmpty then 0 else 1)<30))=true
 line:(apos.endLine==cpos.line)=true
 trees:backTo cpos (starEach [e] X.env)=[(false,eval e X.env)]
structure M2(X:Cx)(o:Expr)(m:Str)(apos:Pos)(e f:Expr)(cpos:Pos):Prop where
 base:attributeBase o m X.env (eval o X.env)=eval o X.env
 few:((backTo cpos (starEach [e,f] X.env)).all (fun x => !x.1)&&(backToKw cpos (keywordEach [] X.env)).all (fun x=>x.1.isSome)
  && decide (([e,f]:List Expr).length+([]:List Keyword).length+(if ([]:List Keyword).isEmpty then 0 else 1)<30))=true
 line:(apos.endLine==cpos.line)=true
 trees:backTo cpos (starEach [e,f] X.env)=[(false,eval e X.env),(false,eval f X.env)]
section
variable{X:Cx}{pins:aw (ar×Obj)}{σ:St}{H:Hp}{s:ae}{a:ar}{y d:V}{u r:av}{o:aE V}{A:ai}{E:av->ae->Prop}
end
section
variable{X:Cx}{o e f:Expr}{apos cpos:Pos}{td ty tx:TE}
end
section
variable{X:Cx}{pins:aw (ar×Obj)}{σ:St}{H:Hp}{s:ae}{a:ar}{kvs:aw (Key×V)}{A:ai}{E:av->ae->Prop}
end
section
variable{X:Cx}{pins:aw (ar×Obj)}{σ:St}{H:Hp}{s:ae}{a:ar}{y:V}{u:av}{A:ai}{E:av->ae->Prop}
end
end L2
namespace So
open PySem PyProof.Rows
def Kw(t:T = "list" ∨ T = "tuple")(d:s.heap.get? p=some o)(a:o.cls = .type T)(hd:o.data = .seq its.toArray n)(I:IntsAre its ns)(h:its.length<64)
  (f:∀(H h':Heap)(q:ar)(out:Array av)(r:aw Int)(e:Nat),IntsAre out.toList r->r.Perm ns->r.Pairwise (· <= ·)->H.objs.size<=q->h'.get? q=some (seqObj "list" out e)->(∀ b o,s.heap.get? b=some o->H.get? b=some o)->(∀ b o,H.get? b=some o->h'.get? b=some o)->Q (.ref q) { s with heap:=h' }) :
  wpAny (model prog w) A (call (.builtin "sorted") [.ref p]) Q E s:=by refine Calls.call_function_entry kind_sorted plain_sorted entry_sorted (args_sorted1 _) ?_;unfold Builtin.«sorted»;refine aS (aT ?_);refine aS (wpAny_collect_seq p t d a hd (fun H U=>?_) (by rw[CV,sizeLine_eq];lia));refine aS (wpAny_newList ?_ (by show its.length<=_;rw[sizeLine_eq];lia));have g:(H.push (seqObj "list" its.toArray 0)).get? H.objs.size=some (seqObj "list" its.toArray 0):=qy _ rfl;refine aS (cq (wpAny_call_entry slot_list_sort ⟨_,g,rfl⟩ entry_list_sort (list_sort_tree (s:={ s with heap:=H.push (seqObj "list" its.toArray 0) }) g I h fun out N a1 a2 a3=>⟨_,rfl,?_⟩) (args_list_sort _)));obtain⟨e,i⟩:=sortedHeap_at (out:=out) g;refine aT ⟨_,rfl,f H _ H.objs.size out N e a1 a2 a3 (bD _) i U fun b _ c=>?_⟩;have l:b<H.objs.size:=gQ c;rw[sortedHeap_old (jQ l) (by rw[eT];exact iE l)];exact fM _ c
def Ab(t:T = "list" ∨ T = "tuple")(d:s.heap.get? p=some o)(a:o.cls = .type T)(hd:o.data = .seq its.toArray n)(I:IntsAre its ns)(h:its.length<64)
  (f:∀(H h':Heap)(q:ar)(out:Array av)(r:aw Int)(e:Nat),IntsAre out.toList r->r.Perm ns->r.Pairwise (· ≥ ·)->H.objs.size<=q->h'.get? q=some (seqObj "list" out e)->(∀ b o,s.heap.get? b=some o->H.get? b=some o)->(∀ b o,H.get? b=some o->h'.get? b=some o)->Q (.ref q) { s with heap:=h' }) :
  wpAny (model prog w) A (call (.builtin "sorted") [.ref p] [(Str.ofString "reverse",.bool true)]) Q E s:=by refine call_function_entry_kw kind_sorted plain_sorted entry_sorted (args_sorted_rev _ _) ?_;unfold Builtin.«sorted»;refine aS (aT ?_);refine aS (wpAny_collect_seq p t d a hd (fun H U=>?_) (by rw[CV,sizeLine_eq];lia));refine aS (wpAny_newList ?_ (by show its.length<=_;rw[sizeLine_eq];lia));have g:(H.push (seqObj "list" its.toArray 0)).get? H.objs.size=some (seqObj "list" its.toArray 0):=qy _ rfl;refine aS (cq (wpAny_call_entry_kw slot_list_sort ⟨_,g,rfl⟩ entry_list_sort (list_sort_tree_rev (b:=true) (s:={ s with heap:=H.push (seqObj "list" its.toArray 0) }) g I h fun out N a1 a2 a3=>⟨_,rfl,?_⟩) (args_list_sort_rev _ _)));obtain⟨e,i⟩:=sortedHeap_at (out:=out) g;refine aT ⟨_,rfl,f H _ H.objs.size out N e a1 a2 a3 (bD _) i U fun b _ c=>?_⟩;have l:b<H.objs.size:=gQ c;rw[sortedHeap_old (jQ l) (by rw[eT];exact iE l)];exact fM _ c
end So
namespace L2
open PySem PySem.Spec PyProof.Rows
def Oa(K:bV)(l:Int->Int->Prop):aw V->Hp->VK->Prop:=fun xs H Q => ∃(p:ar)(ns:aw Int),xs=[.ref p]/\(aU K H p (ns.map V.int)∨aJ K H p (ns.map V.int))/\ns.length<64/\∀(q:ar)(r:aw Int),H q=none->r.Perm ns->r.Pairwise l->Q (.ref q) (upd H q (.lst (r.map V.int)))
def Inv.Tu(I:Inv X pins σ H s)(h:aU X.K H p (ns.map V.int)∨aJ X.K H p (ns.map V.int)) :
  ∃ T o its n,(T = "list" ∨ T = "tuple")/\s.heap.get? p=some o/\o.cls = .type T/\o.data = .seq its.toArray n/\IntsAre its ns:=by
 rcases h with h | h
 .obtain⟨its,r,pl,_⟩:=I.list h;obtain⟨o,q,f,n,hd⟩:=pl.isList;exact⟨"list",o,its,n,.inl rfl,q,f,hd,intsAre_of r⟩
 .obtain⟨its,r,pl,_⟩:=I.tuple h;obtain⟨o,q,f,n,hd⟩:=pl;exact⟨"tuple",o,its,n,.inr rfl,q,f,hd,intsAre_of r⟩
def qC:ir X (.builtin "sorted") (Oa X.K (· <= ·)):=by
 intro P s σ H _ _ Q I r h;obtain⟨p,_,rfl,v,_,q⟩:=h;obtain⟨u,rfl,x⟩:=vals1 r
 cases x
 obtain⟨T,o,_,n,t,m,l,hd,c⟩:=I.Tu v;have z:=c.length;refine So.Kw t m l hd c (by lia) fun j h' g out R e y a f b d w k=>?_;have J:Inv X P σ H { s with heap:=j }:=I.kept (t':=s.toks) w;have L:=a.length_eq
 have i:h'.get? g=some { cls:=.type "list",data:=.seq out.toList.toArray e }:=by
  rw[d]
 exact⟨.ref g,_,J.laid (h':=h') (t':=s.toks) (o:=.lst (R.map V.int)) k b ⟨by rw[bT];exact zJ (by lia),out.toList,e,jK y,i⟩,rfl,q g R (J.hok.fresh b) a f⟩
def qBB(K:bV)(t:TA):TE:=fun σ H Q=>t σ H fun vs h=>Oa K (· ≥ ·) vs h Q
def Az(G:Gl X "sorted")(F:X.mg "sorted" = none)(D:PA X [a] t)(c:starEach [a] X.env=[(false,eval a X.env)]:=by rfl) :
  PE X (.Call (.Name "sorted" p1) [a] [⟨some "reverse",.Constant (.bool true) j pd,kp⟩] pos) (qBB X.K t):=by
 intro P s σ H Q I h;refine wpAny_Call_Name_kw (jm I G F kg ?_);refine PyProof.Rows.callWith_kw (bH (D pos P s σ H _ I h) fun _ S ⟨_,w,k,x,E⟩=>?_) (by rw[c];rfl) (by rw[c];rfl) rfl rfl;refine PyProof.Rows.kws_cons (wpAny_Constant_bool (PyProof.Rows.kws_nil ?_));obtain⟨p,_,rfl,C,_,q⟩:=E;obtain⟨u,rfl,R⟩:=vals1 x
 cases R
 obtain⟨T,o,_,n,A,B,z,hd,f⟩:=k.Tu C;have N:=f.length;refine So.Ab A B z hd f (by lia) fun v h' g out r e M b m d l L y=>?_;have J:Inv X P σ w { S with heap:=v }:=k.kept (t':=S.toks) L;have O:=b.length_eq
 have i:h'.get? g=some { cls:=.type "list",data:=.seq out.toList.toArray e }:=by
  rw[l]
 exact⟨.ref g,_,J.laid (h':=h') (t':=S.toks) (o:=.lst (r.map V.int)) y d ⟨by rw[bT];exact zJ (by lia),out.toList,e,jK M,i⟩,rfl,q g r (J.hok.fresh d) b m⟩
theorem iU:∀(a b:aw Nat),a.Pairwise (· < ·)->b.Pairwise (· < ·)->(∀ k,k∈a↔k∈b)->a=b
 | [],[],_,_,_=>rfl
 | [],y::b,_,_,h=>absurd ((h y).mpr List.mem_cons_self) (by simp)
 | x::a,[],_,_,h=>absurd ((h x).mp List.mem_cons_self) (by simp)
 | x::a,y::b,d,g,h=>by
  obtain⟨a1,a2⟩:=i0.mp d;obtain⟨B,f⟩:=i0.mp g
  have e:x=y:=by
   have H:=(h x).mp FZ;have l:=(h y).mpr FZ;rcases dD.mp H with e | H
   .exact e
   .rcases dD.mp l with e | l
    .exact e.symm
    .have:=a1 y l;have:=B x H;lia
  subst e;congr 1;refine iU a b a2 f fun k=>?_;have c:=h k;rw[dD,dD]at c;constructor
  .intro z;rcases c.mp (.inr z) with e | Z
   .subst e;have:=a1 k z;lia
   .exact Z
  .intro z;rcases c.mpr (.inr z) with e | Z
   .subst e;have:=B k z;lia
   .exact Z
theorem Ec:∀ os:aw Nat,os.map (Int.toNat ∘ fun j:Nat=>(j:Int))=os
 | []=>rfl
 | x::l=>by
  rw[bt,Ec l];rfl
def Dy{r:aw Int}{os:aw Nat}(h:r.Perm (os.map fun j:Nat=>(j:Int))):∃ m:aw Nat,r=m.map (fun j:Nat=>(j:Int))/\m.Perm os:=by
 refine⟨r.map Int.toNat,?_,?_⟩
 .rw[gz]
  have:∀ x∈r,((fun j:Nat=>(j:Int)) ∘ Int.toNat) x=x:=fun x H=>by
   obtain⟨o,_,rfl⟩:=eX.mp (h.mem_iff.mp H);rfl
  rw[List.map_congr_left this,List.map_id']
 .have:=h.map Int.toNat;rw[gz]at this;rw[Ec]at this;exact this
def cj(os:aw Nat):(os.map fun j:Nat=>V.int (j:Int))=(os.map fun j:Nat=>(j:Int)).map V.int:=by rw[gz];rfl
def pA{r:aw Int}{os:aw Nat}(h:r.Perm (os.map fun j:Nat=>(j:Int)))(a:r.Pairwise (· <= ·))(f:os.Nodup):∃ m:aw Nat,r=m.map (fun j:Nat=>(j:Int))/\m.Pairwise (· < ·)/\m.Perm os:=by
 obtain⟨m,rfl,p⟩:=Dy h;refine⟨m,rfl,?_,p⟩;have n:=p.nodup_iff.mpr f;rw[List.pairwise_map]at a
 exact (a.and n).imp fun ⟨_,_⟩=>by lia
def wU{r:aw Int}{os:aw Nat}(h:r.Perm (os.map fun j:Nat=>(j:Int)))(a:r.Pairwise (· ≥ ·))(f:os.Pairwise (· < ·)):r=os.reverse.map (fun j:Nat=>(j:Int)):=by
 obtain⟨m,rfl,p⟩:=Dy h;congr 1;have n:=p.nodup_iff.mpr (f.imp fun z=>jQ z);rw[List.pairwise_map]at a
 have c:m.reverse.Pairwise (· < ·):=by
  rw[List.pairwise_reverse]
  exact (a.and n).imp fun ⟨_,_⟩=>by lia
 have e:=iU m.reverse os c f fun k=>by rw[hU];exact p.mem_iff
 rw[<-e,List.reverse_reverse]
end L2
namespace So
open PySem PyProof.Rows
def ZL:typeLookup (.type "dict") "__len__" = pure (some (.builtin "dict.__len__")):=by rw[typeLookup_type,builtinLookup_eq_fast];kernel_rfl
theorem xH:∀ {vs:aw av} {ns:aw Int},vs.length=ns.length->(∀(i:Nat)(n:Int),ns[i]? = some n->∃ t,vs[i]? = some (Value.int n t))->IntsAre vs ns
 | [],[],_,_=>.nil
 | [],n::ns,h,_=>by simp at h
 | v::vs,[],h,_=>by simp at h
 | v::vs,n::ns,h,k=>by
  obtain⟨t,ht⟩:=k 0 n rfl
  have e:v=Value.int n t:=by simpa using ht
  subst e;exact .cons n t (xH (by simpa using h) fun i m H=>by simpa using k (i+1) m (by simpa using H))
def Jt(hh:A.handled=none)(hd:(a==sysModules)=false)(hD:s.heap.DictOf (L2.bu prog w) a kvs)(hk:kvs.map (·.1)=ns.map Sum.inl)(hn:ns.length<=1000)
  (u:∀ h' (vs:aw av) (T:Nat),IntsAre vs ns->(∀ b o,s.heap.get? b=some o->h'.get? b=some o)->Q vs { s with heap:=h',toks:=T }) :
  wpAny (model prog w) A (collect (.ref a)) Q E s:=by
 have J:kvs.length=ns.length:=by
  have:=congrArg List.length hk
  simpa using this
 obtain⟨o,es,ep,ho,rest⟩:=hD;have hc:=rest.1;have D:a<s.heap.objs.size:=gQ ho;have hA:s.heap.DictAt (L2.bu prog w) a kvs ep:=⟨o,es,ho,rest⟩;unfold collect;refine aS (wpAny_runValue (codeAny_builtin F.entry_proto_collect ?_));rw[Around.under_plainId F.plain_proto_collect _];show wpAny _ A.in1 (newList [] >>= fun l=>again (.builtin "list.__iadd__" ⟨[l,.ref a],[]⟩)) _ _ s;refine aS (wpAny_newObj_type ?_);refine aT ⟨plainId_quiet F.plain_list_iadd _,codeAny_builtin F.entry_list_iadd ?_⟩;rw[Around.under_plainId F.plain_list_iadd _];have g0:(s.heap.push { cls:=.type "list",data:=.seq ([]:aw av).toArray }).get? s.heap.objs.size=some { cls:=.type "list",data:=.seq ([]:aw av).toArray }:=qy s.heap rfl
 have other:Builtin.List.listSameRef (.ref s.heap.objs.size) (.ref a)=false:=by simp [Builtin.List.listSameRef];exact iO D
 have d:=hA.at' (h':=s.heap.push { cls:=.type "list",data:=.seq ([]:aw av).toArray }) fun o e=>fM _ e;have r:Shared.TypeIs { s with heap:=s.heap.push { cls:=.type "list",data:=.seq ([]:aw av).toArray } } (.ref a) "dict" := d.dictOf.typeIs;show wpAny _ A.in1 (Builtin.List.listExtendWith (.ref s.heap.objs.size) (.ref a) (.ref s.heap.objs.size)) _ _ _;unfold Builtin.List.listExtendWith;refine aS (wpAny_typeOf r ?_);rw[cK (by rw[other];decide)];refine aS (wpAny_pyIter_dict hd d ?_);generalize M:({ cls:=.type "dict_keyiterator",data:=.fields #[.ref a,.int 0 0,.int kvs.length 0,.int ep 0] }:Obj)=y;generalize Y:(s.heap.push { cls:=.type "list",data:=.seq ([]:aw av).toArray }).push y=H;have S:(s.heap.push { cls:=.type "list",data:=.seq ([]:aw av).toArray }).objs.size=s.heap.objs.size+1:=eT _ _
 have U:∀ b O,(s.heap.push { cls:=.type "list",data:=.seq ([]:aw av).toArray }).get? b=some O->H.get? b=some O:=fun b O e=>by
  rw[<-Y];exact fM _ e
 have gI:H.get? (s.heap.push { cls:=.type "list",data:=.seq ([]:aw av).toArray }).objs.size=some y:=by
  rw[<-Y,<-M];exact qy _ rfl
 rw[show (s.heap.push { cls:=.type "list",data:=.seq ([]:aw av).toArray }).objs.size=s.heap.objs.size+1 from S]at gI ⊢;have Z:=U _ _ g0;have W4:=d.at' (h':=H) fun o e=>U _ _ e;have t:Shared.TypeIs { s with heap:=H } (.ref a) "dict" := W4.dictOf.typeIs;refine aS (cq ?_);unfold Builtin.List.listLengthHint;refine aS (wpAny_specialOf t ZL ?_)
 (generalize f:("dict.__len__" : String)=I;(fail_if_success (clear f I));wp_delta;rw[show splitId I=some ("dict","__len__") from by subst f;decide +kernel])
 refine aS (wpAny_isInstance (b:=true) t (by rw[isSubtype_type];kernel_rfl) ?_);subst f;show wpAny _ A.in1 (typeOf (.ref a) >>= _) _ _ _;refine aS (wpAny_typeOf t ?_);refine aT ?_;rw[cS (by decide)];refine aS (wpAny_rule (aS ?_));show wpAny _ A.in1 (updateSeq s.heap.objs.size (·.push .none) >>= fun _=>updateSeq s.heap.objs.size (·.pop)) _ _ _;refine aS (wpAny_updateSeq Z rfl ?_);have X:=cm (Obj.mapSeq (·.push Value.none)) Z rfl;refine wpAny_updateSeq X rfl ?_;have g4:=cm (Obj.mapSeq (·.pop)) X rfl;have Ji:∀ b O,b≠s.heap.objs.size->H.get? b=some O->((H.update s.heap.objs.size (Obj.mapSeq (·.push Value.none))).update s.heap.objs.size (Obj.mapSeq (·.pop))).get? b=some O:=fun b O j e=>(ck _ _ (bE j)).trans ((ck _ _ (bE j)).trans e)
 have VR:s.heap.objs.size∉[s.heap.objs.size+1,a]:=by
  simp only[List.mem_cons,List.not_mem_nil,or_false,not_or];exact⟨by lia,iO D⟩
 have W:=(Walks.dictKeys (prog:=prog) (w:=w) (knd:=L2.bu prog w) (A:=A.in1) (by simp [hh]) (s.heap.objs.size+1) a (Nat.ne_of_lt (Nat.lt_succ_of_lt D)) kvs ep).toS;have G:H.IsKeyIter (s.heap.objs.size+1) a 0 kvs.length ep:=⟨y,gI,by rw[<-M],by rw[<-M];rfl⟩;have C:=W.frame 0 { s with heap:=H } ((H.update s.heap.objs.size (Obj.mapSeq (·.push Value.none))).update s.heap.objs.size (Obj.mapSeq (·.pop))) s.toks ⟨G,W4⟩ (bD _) fun b j O e=>Ji b O (fun z=>VR (z▸j)) e;refine aT ⟨plainId_quiet F.plain_extend_loop _,codeAny_extend_loopS W (by rw[J,sizeLine_eq];lia) _ VR _ kvs.length 0 _ _ _ rfl (bo _) C g4 (ItemsOf.nil _) fun s' c _ m R h=>?_⟩;show wpAny _ A (load s.heap.objs.size >>= _) _ _ s';refine aS (wpAny_load R ?_);have e1:s'.gens=s.gens:=m.gens;have e2:s'.drawn=s.drawn:=m.drawn;have e3:s'.os=s.os:=m.os;obtain⟨h',g',d',p,P⟩:=s';have q:g'=s.gens:=e1;have B:d'=s.drawn:=e2;have N:P=s.os:=e3;subst q B N;refine aT ?_;refine u h' c.toList p (xH (by rw[e7,h.1,J]) fun i n hi=>?_) fun b O e=>?_
 .have li:i<c.size:=by
   have:=(oW.mp hi).1;rw[h.1,J];exact this
  obtain⟨k,x,hx,v⟩:=h.2 i c[i] (by simp [li])
  have g:(kvs.map (·.1))[i]? = some k:=by rw[dZ,hx];rfl
  rw[hk,dZ,hi]at g;have ek:=kJ g;subst ek;obtain⟨T,e5⟩:=Value.isInt_shape v;exact⟨T,by simp [li,e5]⟩
 .have L:=gQ e;refine m.heap b O ?_ (Ji b O (jQ L) (U b O (fM _ e)));simp only[List.mem_cons,List.not_mem_nil,or_false,not_or];exact⟨jQ L,jQ (iE L)⟩
def Ky(h:A.handled=none)(hd:(a==sysModules)=false)(t:s.heap.DictOf (L2.bu prog w) a kvs)(k:kvs.map (·.1)=ns.map Sum.inl)(i:ns.length<64)
  (f:∀(H h':Heap)(T:Nat)(q:ar)(out:Array av)(r:aw Int)(e:Nat),IntsAre out.toList r->r.Perm ns->r.Pairwise (· <= ·)->H.objs.size<=q->h'.get? q=some (seqObj "list" out e)->(∀ b o,s.heap.get? b=some o->H.get? b=some o)->(∀ b o,H.get? b=some o->h'.get? b=some o)->Q (.ref q) { s with heap:=h',toks:=T }) :
  wpAny (model prog w) A (call (.builtin "sorted") [.ref a]) Q E s:=by refine Calls.call_function_entry kind_sorted plain_sorted entry_sorted (args_sorted1 _) ?_;unfold Builtin.«sorted»;refine aS (m:=checkCount "sorted" 1 1 _) (aT ?_);refine wpAny_bind (Jt (by first | exact h | simp [h]) hd t k (by lia) fun H vs T I U=>?_);have d:=I.length;refine aS (wpAny_newList ?_ (by rw[d,sizeLine_eq];lia));have g:(H.push (seqObj "list" vs.toArray 0)).get? H.objs.size=some (seqObj "list" vs.toArray 0):=qy _ rfl;refine aS (cq (wpAny_call_entry slot_list_sort ⟨_,g,rfl⟩ entry_list_sort (list_sort_tree (s:={ s with heap:=H.push (seqObj "list" vs.toArray 0),toks:=T }) g I (by lia) fun out N a1 a2 a3=>⟨_,rfl,?_⟩) (args_list_sort _)));obtain⟨e,j⟩:=sortedHeap_at (out:=out) g;refine aT ⟨_,rfl,f H _ T H.objs.size out N e a1 a2 a3 (bD _) j U fun b _ c=>?_⟩;have l:b<H.objs.size:=gQ c;rw[sortedHeap_old (jQ l) (by rw[eT];exact iE l)];exact fM _ c
end So
namespace L2
open PySem PySem.Spec PyProof.Rows
def UL:aw V->Hp->VK->Prop:=fun xs H Q => ∃(p:ar)(k:aw (Key×V))(ns:aw Int),xs=[.ref p]/\H p=some (.dK k)/\k.map (·.1)=ns.map Sum.inl/\ns.length<64/\∀(q:ar)(r:aw Int),H q=none->ns.Nodup->r.Perm ns->r.Pairwise (· <= ·)->Q (.ref q) (upd H q (.lst (r.map V.int)))
def HD(d:X.calm=true):ir X (.builtin "sorted") UL:=by
 intro P s σ H _ _ Q I r h;obtain⟨p,_,ns,rfl,w,v,c,q⟩:=h;obtain⟨u,rfl,x⟩:=vals1 r
 cases x
 obtain⟨z,hd,vs,R,D⟩:=qAU I.hok w
 have b:vs.map (·.1)=ns.map Sum.inl:=by rw[<-R.keys,v]
 have n:ns.Nodup:=by
  obtain⟨_,A⟩:=D.dictAt;have a:=A.nodup;rw[b]at a;exact (List.pairwise_map.mp a).imp fun z e=>z (by rw[e])
 refine So.Ky (I.ok.hd d) hd D b c fun a h' T g out f e B j m k l y t=>?_;have J:Inv X P σ H { s with heap:=a }:=I.kept (t':=s.toks) y;have L:=j.length_eq
 have i:h'.get? g=some { cls:=.type "list",data:=.seq out.toList.toArray e }:=by
  rw[l]
 exact⟨.ref g,_,J.laid (h':=h') (t':=T) (o:=.lst (f.map V.int)) t k ⟨by rw[bT];exact zJ (by lia),out.toList,e,jK B,i⟩,rfl,q g f (J.hok.fresh k) n j m⟩
end L2
namespace PySem
open Sem (wp)
open AutoSeq1 (wpAny_loadPart')
def Gb(g:s.heap.IsTupleIter q tt i)(gt:s.heap.IsTuple tt vs)(b:vs[i]? = some x)
  (H:∀ h',h'.IsTupleIter q tt (i+1)->Heap.SameBut q s.heap h'->Q x { s with heap:=h' }):wpAny (model prog w) A (Builtin.SmallTypes.nextOf (.ref q)) Q E s:=by obtain⟨_,go,gc,G⟩:=id g;obtain⟨_,t,_,_,a⟩:=gt;unfold Builtin.SmallTypes.nextOf;refine aS (wpAny_callSpecial?_slot g.typeIs F.slot_tuple_iterator_next (wpAny_call_entry F.slot_tuple_iterator_next g.typeIs F.entry_tuple_iterator_next ?_ (F.args_tuple_iterator_next_1 _)));show wpAny _ _ (field (.ref q) 0 >>= _) _ _ s;refine aS (wpAny_field go G (x:=.ref tt) rfl ?_);show wpAny _ _ (if (Value.ref tt==Value.none)=true then _ else _) _ _ s;rw[cK (show ¬ ((Value.ref tt==Value.none)=true) from rA)];show wpAny _ _ (field (.ref q) 1 >>= _) _ _ s;refine aS (wpAny_field go G (x:=.int i 0) rfl ?_);show wpAny _ _ (seqItems? (.ref tt) >>= _) _ _ s;refine aS (wpAny_seqItems t a ?_);simp only[Int.toNat_natCast,b];refine wpAny_bind (wpAny_setField go G (by simp) (wpAny_pure ⟨x,rfl,wpAny_pure (H _ ?_ (Heap.SameBut.update ..))⟩));exact⟨_,cm _ go (Obj.isFreed_of_fields (Obj.data_mapFields G _)),(Obj.cls_mapFields ..).trans gc,by rw[Obj.data_mapFields G];simp [rawInt]⟩
def wu(b:A.handled=none)(g:s.heap.IsTupleIter q tt i)(gt:s.heap.IsTuple tt vs)(c:vs[i]? = none)
  (h:∀ h' e,Heap.ExtBut q s.heap h'->(∃ o,h'.get? e=some o/\o.cls = .type "StopIteration")->E (.ref e) { s with heap:=h' }):wpAny (model prog w) A (Builtin.SmallTypes.nextOf (.ref q)) Q E s:=by
 obtain⟨_,go,_,G⟩:=id g;obtain⟨_,t,_,_,a⟩:=gt;unfold Builtin.SmallTypes.nextOf;refine aS (wpAny_callSpecial?_slot g.typeIs F.slot_tuple_iterator_next (wpAny_call_entry F.slot_tuple_iterator_next g.typeIs F.entry_tuple_iterator_next ?_ (F.args_tuple_iterator_next_1 _)));show wpAny _ _ (field (.ref q) 0 >>= _) _ _ s;refine aS (wpAny_field go G (x:=.ref tt) rfl ?_);show wpAny _ _ (if (Value.ref tt==Value.none)=true then _ else _) _ _ s;rw[cK (show ¬ ((Value.ref tt==Value.none)=true) from rA)];show wpAny _ _ (field (.ref q) 1 >>= _) _ _ s;refine aS (wpAny_field go G (x:=.int i 0) rfl ?_);show wpAny _ _ (seqItems? (.ref tt) >>= _) _ _ s;refine aS (wpAny_seqItems t a ?_);simp only[Int.toNat_natCast,c];refine wpAny_bind (wpAny_rule (wpAny_bind (wpAny_setField go G (by simp) ?_)));show wpAny _ _ ((newExc (.type "StopIteration") []) >>= _) _ _ _;refine aS ?_;simp only[newExc,newTuple];refine (aS (wpAny_newObj_type ?_ (by size_fits)));refine (wpAny_bind (wpAny_of_eq (by first | rfl | (simp only[firstArgMember];rfl)) ?_));refine (wpAny_newObj_type ?_ (by size_fits));simp only[raiseNew];refine aS (wpAny_handled ?_)
 (first | rw[show A.in1.handled=none from b] | rw[b])
 refine (aS (aT (wpAny_throw ?_)));exact (h _ _ (((Heap.SameBut.update ..).extBut.push _).push _) ⟨_,qy _ rfl,rfl⟩)
def Wr(f:A.handled=none)(q t:ar)(b:t≠q)(vs:Array av) :
  Draws prog w A q [q,t] vs.size (fun i v=>vs[i]? = some v) (fun i h=>h.IsTupleIter q t i/\h.IsTuple t vs) where
 live:=fun _ _ st=>let ⟨o,j,_⟩:=st.1;⟨o,j⟩
 frame:=fun _ _ _ st k=>⟨st.1.at fun o e=>k q (by simp) o e,st.2.at fun o e=>k t (by simp) o e⟩
 item:=fun i s Q E c st d=>by
  refine Gb st.1 st.2 (x:=vs[i]) (by simp [c]) fun h' a H=>?_;exact d _ h' s.toks (by simp [c]) ⟨a,st.2.extBut H.extBut b⟩ H
 done:=fun s Q E st g=>wu f st.1 st.2 (by simp) g
def Wn(l:ar)(vs:Array av)(n:Nat)(D:aE ar)(S:Array (aE av)) :
  Meets (Builtin.«enumerate.__new__» ⟨[.type "enumerate",.ref l],[]⟩) (fun _ R s=>s.heap.get? l=some { cls:=.type "tuple",dict:=D,data:=.seq vs n,slots:=S } ∧
   R (.ok (.ret (.ref (s.heap.push { cls:=.type "tuple_iterator",data:=.fields #[.ref l,.int 0 0] }).objs.size)))
    { s with heap:=(s.heap.push { cls:=.type "tuple_iterator",data:=.fields #[.ref l,.int 0 0] }).push { cls:=.type "enumerate",data:=.fields #[.none,.bool false,.ref s.heap.objs.size,rawInt 0,.none,.none] } }):=
 .of_wp fun _ w A R s h=>by
  obtain⟨p,g,d,T,os⟩:=s;obtain⟨a,h⟩:=h;have b:=sub_enumerate;have H:Heap.IsTuple (Shared.heap ⟨p,g,d,T,os⟩) l vs:=⟨_,a,rfl,n,rfl⟩
  wp_walk using wpAny_loadPart' a
  refine wpAny_stack_any fun _=>aT ?_
  split
  .rename_i c _ _ _ _ _
   cases (c==Value.type "enumerate")
   .wp_walk using wpAny_loadPart' a,wpAny_pyIter_tuple H
    exact⟨_,rfl,h⟩
   .wp_walk using wpAny_loadPart' a,wpAny_pyIter_tuple H
    exact⟨_,rfl,h⟩
  .wp_walk using wpAny_loadPart' a,wpAny_pyIter_tuple H
   exact⟨_,rfl,h⟩
def Rx(L:s.heap.IsTuple l vs)
  (h:∀ h',IsEnum h' (s.heap.objs.size+1) s.heap.objs.size 0 .none->h'.IsTupleIter s.heap.objs.size l 0->h'.objs.size=s.heap.objs.size+2 →
   (∀ b o,s.heap.get? b=some o->h'.get? b=some o)->Q (.ref (s.heap.objs.size+1)) { s with heap:=h' }) :
  wpAny (model prog w) A (call (.type "enumerate") [.ref l]) Q E s:=by
 obtain⟨⟨c,D,d,S⟩,a,f,n,hd⟩:=L
 replace f:c = .type "tuple" := f
 replace hd:d = .seq vs n:=hd
 subst f hd;refine callType_new F.called_enumerate (by decide) (F.typeCall_enumerate_1 _) (F.newCall_enumerate_1 _) (fun O=>F.args_object_init_2 O _) F.entry_enumerate_new (Wn l vs n D S) ⟨a,?_⟩;have H:(s.heap.push { cls:=.type "tuple_iterator",data:=.fields #[.ref l,.int 0 0] }).objs.size=s.heap.objs.size+1:=eT ..;show _/\_;rw[H]
 have i:IsEnum ((s.heap.push { cls:=.type "tuple_iterator",data:=.fields #[.ref l,.int 0 0] }).push
   { cls:=.type "enumerate",data:=.fields #[.none,.bool false,.ref s.heap.objs.size,rawInt 0,.none,.none] }) (s.heap.objs.size+1) s.heap.objs.size 0 .none:=by
  have:=qy (s.heap.push { cls:=.type "tuple_iterator",data:=.fields #[.ref l,.int 0 0] })
   (o:={ cls:=.type "enumerate",data:=.fields #[.none,.bool false,.ref s.heap.objs.size,rawInt 0,.none,.none] }) rfl
  rw[H]at this;exact this
 exact⟨⟨_,i,rfl⟩,h _ i ⟨_,fM _ (qy _ rfl),rfl,rfl⟩ (by rw[eT,H]) fun b o x=>fM _ (fM _ x)⟩
def Wo(d:A.handled=none)(a:IsEnum s.heap e q j old)(g:s.heap.IsTupleIter q tt i)(gt:s.heap.IsTuple tt vs)(G:vs[i]? = none)
  (c:∀ h',Heap.ExtBut q s.heap h'->Q none { s with heap:=h' }):wpAny (model prog w) A (pyNext (.ref e)) Q E s:=by have t:s.TypeIs (.ref e) "enumerate" := ⟨_,a,rfl⟩;unfold pyNext;refine aS (wpAny_attempt (wpAny_callSpecial?_slot t F.slot_enumerate_next (wpAny_call_entry F.slot_enumerate_next t F.entry_enumerate_next ?_ (F.args_enumerate_next_1 _))));show wpAny _ _ (field (.ref e) 2 >>= _) _ _ _;refine aS (wpAny_field a rfl (x:=.ref q) rfl ?_);refine aS (wu (A:=A.in1) d g gt G fun h' x h H=>?_);obtain⟨o,k,f⟩:=H;refine (aS (wpAny_isInstance (T := "StopIteration") (b:=true) ⟨o,k,f⟩ isSubtype_stop ?_));exact aT (c _ h)
end PySem
namespace L2
open PySem PySem.Spec PyProof.Rows
def Inv.Nb{t':Nat}{T:aw ar}(I:Inv X pins σ H s)(k:∀ b o,b∉T->s.heap.get? b=some o->h'.get? b=some o)(h:∀ b∈T,oJ X pins H b):Inv X pins σ H { s with heap:=h',toks:=t' }:=by
 have N:∀ b u,H b=some u->b∉T:=fun b u e z=>by
  rw[(h b z).1]at e
  cases e
 refine I.step (fun b d=>?_) (fun b o _ _ f e _=>k b o f e) (fun b o _ _ f e _=>⟨o.slots,k b o f e⟩) (fun _ _ _ _ n=>n) (fun b o f e=>⟨o,k b o f e⟩) (fun _ _ e=>e) (fun _ _ _ e=>e) (fun b _ e=>⟨#[],by rw[e];simp⟩) (fun m g=>?_) (fun b u e=>?_) I.bare
 .obtain⟨_,F,_,B,l,a⟩:=h b d;exact⟨B,F,l,a⟩
 .obtain⟨o,E,ep,i,r⟩:=g;exact⟨o,E,ep,k _ o (fun z=>(h _ z).2.1 rfl) i,r⟩
 .refine (I.hok b u e).stay (fun c v f q=>k c v ?_ q) (fun _ q=>q) fun _ _ q=>q;rcases f with z | z
  .rw[z];exact N b u e
  .exact N c _ z
def Ite(K:bV)(a:ar):It:=
 ⟨fun i H => ∃ xs x,aJ K H a xs/\xs[i]? = some x,fun i H v h=>∃ t x,v = .ref t/\H t=none/\(∀ xs,aJ K H a xs->xs[i]? = some x)/\h=upd H t (.tup [.int (i:Int),x]),fun i H => ∃ xs,aJ K H a xs/\xs.length<=i⟩
def QF{P:ag}{w:aI}{K:bV}{es:aw Expr}{k:Nat}{pos:Pos}(a e q:ar):Turn P w K (.Tuple es k pos) (Ite K a) [e,q] e (fun i h=>(∃ O,IsEnum h e q (i:Nat) O)/\h.IsTupleIter q a i) where
 mem:=by simp
 obj:=fun i h st b c=>by
  obtain⟨⟨O,d⟩,o,ho,J,hd⟩:=st;rcases dD.mp c with rfl | c
  .refine⟨_,d,fun v z=>?_⟩;have z2:Data.fields _=Data.cell v:=z
   cases z2
  .rw[jA.mp c];exact⟨o,ho,fun v z=>by rw[hd]at z;cases z⟩
 keep:=fun i h _ st k=>by
  obtain⟨⟨O,d⟩,r⟩:=st;exact⟨⟨O,k e (by simp) _ d⟩,r.at fun o z=>k q (by simp) o z⟩
 item:=by
  intro X R hw hK J i f s σ H E I B st hg;subst R hw hK;obtain⟨xs,x,r,W⟩:=hg;obtain⟨its,rv,p,hz⟩:=I.tuple r;obtain⟨u,hu,ru⟩:=rv.get W;obtain⟨⟨O,d⟩,hit⟩:=st;have pt:s.heap.IsTuple a its.toArray:=p
  have naq:a≠q:=fun z=>by
   obtain⟨o1,G,m,_⟩:=pt;obtain⟨o2,Z,Y,_⟩:=hit;rw[z,Z]at G
   cases G
   rw[Y]at m;injection m with m;exact eu m (by decide)
  have n:e≠q:=fun z=>by
   obtain⟨o2,Z,Y,_⟩:=hit;rw[<-z]at Z;have L:=Z.symm.trans d
   cases L
   have C:Value.type "enumerate" = Value.type "tuple_iterator" := Y;injection C with C;exact eu C (by decide)
  have Q:e≠a:=fun z=>by
   obtain⟨o1,G,m,_⟩:=pt;rw[<-z]at G;have L:=G.symm.trans d
   cases L
   have C:Value.type "enumerate" = Value.type "tuple" := m;injection C with C;exact eu C (by decide)
  have D:=Wr (prog:=X.prog) (w:=X.w) (A:=X.A.in1) (I.ok.hd J) q a naq its.toArray
  have hlt:i<its.toArray.size:=by
   have:=(oW.mp hu).1
   simpa using this
  have j:H s.heap.objs.size=none:=I.hok.fresh (bD _);refine wpAny_pyNext_enum_itemD D d ⟨hit,pt⟩ hlt n (by simp [n,Q]) fun y _ T F ho U hT _ hk=>?_
  obtain rfl:y=u:=by
   rw[List.getElem?_toArray,hu]at F;exact (kJ F).symm
  refine⟨_,rfl,wpAny_letOwnedTupleGo_enum ho fun t he2 S=>?_⟩;have N:s.heap.objs.size≠e:=iO (gQ d)
  have M:s.heap.objs.size≠q:=by
   obtain⟨o2,Z,_⟩:=hit;exact iO (gQ Z)
  have kk:∀ b o,b∉[e,q]->s.heap.get? b=some o->t.get? b=some o:=fun b o c g=>by
   have b1:b≠e:=fun z=>c (by simp [z]);have b2:b≠q:=fun z=>c (by simp [z]);exact (S.2 b b1).trans (hk b o b1 b2 g)
  have I1:Inv X f σ H { s with heap:=t,toks:=T+1 }:=I.Nb kk B
  have I2:Inv X f σ (upd H s.heap.objs.size (.tup [.int (i:Int),x])) { s with heap:=t,toks:=T+1 }:=by
   refine Inv.adopt I1 (I.Cr (bD _) j) ⟨by show 2<=sizeLine;decide,[.int i T,y],.cons ⟨T,rfl⟩ (.cons ru .nil),?_⟩;exact⟨_,(S.2 _ N).trans hT,rfl,_,rfl⟩
  refine⟨.ref s.heap.objs.size,_,I2,rfl,⟨_,x,rfl,j,fun _ F=>by rw[I.Df F r];exact W,rfl⟩,⟨⟨y,by have:=he2;simpa using this⟩,U.1.at fun o g=>(S.2 q (Ne.symm n)).trans g⟩,fun b c=>?_⟩
  have nb:b≠s.heap.objs.size:=by
   rcases dD.mp c with rfl | c
   .exact bE N
   .rw[jA.mp c];exact bE M
  rw[zR nb];exact (B b c).1
 done:=by
  intro X R hw hK J i f s σ H E I B st hg;subst R hw hK;obtain⟨xs,r,W⟩:=hg;obtain⟨its,rv,p,hz⟩:=I.tuple r;obtain⟨⟨O,d⟩,hit⟩:=st;have pt:=p;have hl:=rv.length
  have l:its.toArray[i]? = none:=by simp;lia
  refine Wo (I.ok.hd J) d hit pt l fun t eb=>⟨rfl,?_⟩;exact I.Nb (fun b o c g=>eb b o (fun z=>c (by simp [z])) g) B
 self:=fun _ _ _ _ _ st h=>by
  obtain⟨⟨O,d⟩,_⟩:=st;exact wpAny_pyIter_enum d h
def qFW(K:bV)(t:TA):TI:=fun σ H R=>t σ H fun vs h => ∃ a,vs=[.ref a]/\(∃ xs,aJ K h a xs)/\R (Ite K a) h
theorem uK{l:Expr}{t:TA}{p c:Pos}(y:Gl X "enumerate")(x:X.mg "enumerate" = none)(w:PA X [l] t)(m:starEach [l] X.env=[(false,eval l X.env)]:=by rfl):PI X (.Tuple es k tpos) (.Call (.Name "enumerate" p) [l] [] c) (qFW X.K t):=by
 intro P s σ H R I h;refine Call_ (jm I y x boot_enumerate (kn (bH (w c P s σ H _ I h) fun _ S ⟨_,g,i,n,Q⟩=>?_) m rfl));obtain⟨a,e,⟨_,v⟩,q⟩:=Q;subst e
 cases n with
 | cons r o=>
  cases o
  cases r
  obtain⟨_,_,p,_⟩:=i.tuple v;refine Rx p fun h' f hit _ u=>?_;refine wpAny_pyIter_enum f ?_;have j:Inv X P σ g { S with heap:=h' }:=i.kept (t':=S.toks) u;refine⟨S.heap.objs.size+1,[S.heap.objs.size+1,S.heap.objs.size],_,_,g,rfl,j,QF a _ _,⟨⟨.none,by simpa using f⟩,hit⟩,fun b d=>?_,q⟩;rcases dD.mp d with rfl | d
  .exact i.Cr (ip _) (i.hok.fresh (ip _))
  .rw[jA.mp d];exact i.Cr (bD _) (i.hok.fresh (bD _))
def pY{K:bV}{a:ar}{xs:aw V}{g:TG}{T:TS}{D:Ends}{σ:St}{H:Hp}(Pv:Nat->St->Hp->Prop)(e:Pv 0 σ H)(l:∀ i σ H,i<=xs.length->Pv i σ H->aJ K H a xs)
  (s:∀ i x σ H t,xs[i]? = some x->Pv i σ H->H t=none->g (.ref t) σ (upd H t (.tup [.int (i:Int),x])) fun σ2 c=>T { D with nx:=Pv (i+1),ct:=Pv (i+1),bk:=D.nx } σ2 c) (hd:∀ σ H,Pv xs.length σ H->D.nx σ H) :
  ∃ W:Nat->Nat->St->Hp->Prop,(∃ m,W 0 m σ H)/\∀ i m σ H,W i m σ H →
   ((Ite K a).stop i H/\D.nx σ H)∨((Ite K a).go i H/\∃ N:St->Hp->Prop,(∀ σ' h,N σ' h->∃ m',m'<m/\W (i+1) m' σ' h)/\∀ x h,(Ite K a).Xy i H x h->g x σ h fun σ2 c=>T { D with nx:=N,ct:=N,bk:=D.nx } σ2 c):=by
 refine⟨fun i m σ H=>m+i=xs.length/\Pv i σ H,⟨xs.length,rfl,e⟩,?_⟩;rintro i m σ H ⟨_,p⟩;have q:=l i σ H (by lia) p
 by_cases b:i<xs.length
 .refine .inr ⟨⟨xs,xs[i],q,by simp [b]⟩,Pv (i+1),fun σ' h p'=>⟨m-1,by lia,by lia,p'⟩,fun v h y=>?_⟩;obtain⟨t,x,rfl,ht,d,rfl⟩:=y;exact s i x σ H t (d xs q) p ht
 .obtain rfl:i=xs.length:=by lia
  exact .inl ⟨⟨xs,q,bD _⟩,hd σ H p⟩
end L2
namespace L2
open PySem
noncomputable def qD6:Expr->aE V
 | .Constant (.int i) _ _=>some (.int i)
 | .Constant (.str z) _ _=>some (.str z)
 | .UnaryOp .USub (.Constant (.int i) _ _) _=>some (.int (-i))
 | _=>none
noncomputable def Pj:aw Expr->aE (aw V)
 | []=>some []
 | e::E=>match qD6 e,Pj E with
  | some v,some vs=>some (v::vs)
  | _,_=>none
section
variable{X:Cx}
def qD5(h:qD6 e=some v):PE X e (fun _ H Q=>Q v H)/\∀ E,starEach (e::E) X.env=(false,eval e X.env)::starEach E X.env:=by
 unfold qD6 at h
 split at h
 .cases h;exact⟨zB,fun _=>rfl⟩
 .cases h;exact⟨zQ,fun _=>rfl⟩
 .cases h;refine⟨fun p s σ H Q I h=>?_,fun _=>rfl⟩;exact (Ay rH zB) p s σ H Q I ⟨_,rfl,h⟩
 .cases h
theorem Dz:∀ {E:aw Expr} {vs:aw V},Pj E=some vs->PA X E (fun _ H Q=>Q vs H)
 | [],vs,h=>by
  cases h
  exact zD
 | e::E,vs,h=>by
  unfold Pj at h
  split at h
  .rename_i v d c l
   cases h
   obtain⟨a,b⟩:=qD5 c;exact zA a (Dz l) (b E)
  .cases h
end
structure RE(X:Cx)(e:Expr)(t:TE):Prop where
 p:PE X e t
structure RS(X:Cx)(st:Stmt)(t:TS):Prop where
 p:PS X st t
structure RSs(X:Cx)(st:List Stmt)(t:TS):Prop where
 p:Cw X st t
structure RA(X:Cx)(es:List Expr)(t:TA):Prop where
 p:PA X es t
section
variable{X:Cx}{e a b c:Expr}{es:aw Expr}{te ta tb:TE}{tc:TT}{tr:TA}{pos:Pos}{st:Stmt}{ss rest:aw Stmt}{t u:TS}
def qEN(h:RS X st t):RSs X [st] t:=⟨zG h.p⟩
def jf(h:RS X st t)(l:RSs X rest u):RSs X (st::rest) (Y4 t u):=⟨zE h.p l.p⟩
def qEO(h:RS X st t)(l:RSs X rest u):RSs X (st::rest) (qE6 t u):=⟨yA h.p l.p⟩
def J9(h:PS X st t):RS X st t:=⟨h⟩
def JB(h:X.N.Nodup)(H:X.N[i]? = some x)(c:Loc X.env.scope x)(b:RE X e te)(a:swapsWith e (some (.Name x pos')) pos.line X.env=pure false:=by rfl)(f:X.fn x=true∨X.env.scope.names.lookup x=some .local:=by first | exact .inl rfl | exact .inr rfl | assumption):RS X (.Assign [.Name x pos'] e pos) (Y8 te (PB i)):=⟨zL h H c b.p a f⟩
def JD(d:RE X a ta)(c:PE X b tb)(h:Pz b):RE X (.Subscript a b pos) (tOp (Yb X.K) ta tb):=⟨yC yV d.p c h⟩
def JC(h:RA X es tr):RE X (.List es pos) (qE0 tr):=⟨yL h.p⟩
def Aq(h:Pj es=some vs):RA X es (fun _ H Q=>Q vs H):=⟨Dz h⟩
end
end L2
namespace L2
open PySem PySem.Spec PyProof.Rows
def range_any(n:Nat)(f:Nat->Bool)(bs:aw Bool)(l:bs.length=n)(a:∀ i b,bs[i]? = some b->f i=b):(List.range n).any f=bs.any id:=by
 rw[eK,fi,fi];constructor
 .rintro⟨i,H,h⟩
  have o:i<bs.length:=by rw[l];exact hJ.mp H
  rw[a i _ (fQ o)]at h;exact⟨_,lQ o,h⟩
 .rintro⟨b,hb,h⟩;obtain⟨i,e⟩:=gT.mp hb;have H:=(oW.mp e).1;exact⟨i,hJ.mpr (by lia),by rw[a i b e];exact h⟩
def qi(m:X.calm=true):ir X (.builtin "any") (fun xs H Q => ∃(p:ar)(bs:aw Bool),xs=[.ref p]/\aU X.K H p (bs.map V.bl)/\Q (.bl (bs.any id)) H):=by
 intro _ s σ H xs _ Q I r h;obtain⟨p,bs,rfl,l,q⟩:=h;obtain⟨u,rfl,g⟩:=vals1 r
 cases g
 obtain⟨its,R,pl,_⟩:=I.list l;have n:=R.length;rw[bT]at n
 have t:p<s.heap.objs.size:=by
  obtain⟨o,B,_⟩:=pl.isList;exact gQ B
 refine call_any_walk (wpAny_pyIter_list pl.isList ?_)
 refine⟨s.heap.objs.size,[s.heap.objs.size,p],[s.heap.objs.size],its.toArray.size,fun i v=>its.toArray[i]? = some v,fun i h=>h.IsListIter s.heap.objs.size p i/\h.IsList p its.toArray,fun i=>(bs[i]?).getD true,rfl,
  Walks.list (A:=X.A.in1) (I.ok.hd m) _ _ (jQ t) _,⟨⟨_,qy _ rfl,rfl,rfl⟩,pl.isList.at fun o e=>fM _ e⟩,?_,?_⟩
 .intro i v s' j _ f d
  have w:i<bs.length:=by
   have:=(eB.mp f).1;simp only[List.size_toArray]at this;lia
  have e:bs[i]? = some bs[i]:=fQ w;obtain⟨u,y,M⟩:=R.get (i:=i) (x:=V.bl bs[i]) (by rw[dZ,e];rfl)
  have a:its[i]? = some v:=by simpa using f
  rw[y]at a
  cases a
  cases M
  have c:j ((bs[i]?).getD true) s':=d;rw[e]at c;exact wpAny_truthy_bool c
 .intro h' T k;refine⟨.bl (bs.any id),H,I.kept (t':=T) (h':=h') fun b u e=>k b u (fun z=>?_) (fM _ e),?_,q⟩
  .have Z:b=s.heap.objs.size:=by simpa using z
   exact eu (gQ e) (by rw[Z];exact iq _)
  .show Value.bool _=Value.bool _;rw[range_any its.toArray.size _ bs (by simp only[List.size_toArray];exact n) fun i b e=>by rw[e];rfl]
def Itd(top:Int)(n:Nat):It:=⟨fun i _=>i<n,fun i H x h=>h=H/\x = .int (top-i),fun i _=>n<=i⟩
def QG{w:aI}{K:bV}{r:Expr}(a:ar)(top:Int)(n:Nat):Turn P w K r (Itd top n) [a] a (fun i h=>IsRangeIter h a (top+(i:Nat)*(-1)) ((n:Int)-(i:Nat)) (-1)) where
 mem:=by simp
 obj:=fun i h st b c=>by
  obtain rfl:b=a:=by simpa using c
  refine⟨_,st,fun v z=>?_⟩;have z2:=z
  cases z2
 keep:=fun i h h' st k=>k a (by simp) _ st
 item:=by
  intro X d g A j i p s σ H E I f st q;subst d g A;obtain⟨f0,m,_,B,l,F⟩:=f a (by simp);refine (Walks.range (prog:=X.prog) (w:=X.w) (I.ok.hd j) a top (-1) n).item i s _ _ q st fun v h' T u S x=>?_;obtain⟨t,rfl⟩:=u;have C:Inv X p σ H { s with heap:=h',toks:=T }:=I.turned (fun b o c e=>x b o (by simpa using c) e) f0 m B l F
  have y:top+(i:Int)*(-1)=top-i:=by lia
  refine⟨_,rfl,Em (n := "range_iterator") S rfl rfl (by decide) ⟨.int (top-i),H,C,⟨t,by rw[<-y]⟩,⟨rfl,rfl⟩,S,fun b c=>(f b c).1⟩⟩
 done:=by
  intro X d g A j i p s σ H E I f st q;subst d g A;obtain⟨f0,m,_,B,l,F⟩:=f a (by simp);have D:n<=i:=q;exact wpAny_pyNext_range_end (I.ok.hd j) st (by lia) fun h' J=>⟨rfl,I.turned (t':=s.toks) (fun b o c e=>J b o c e) f0 m B l F⟩
 self:=fun _ _ _ _ _ st h=>wpAny_pyIter_rangeiter st h
def Zd(I:Inv X pins σ H s)(h : -(2 ^ 62)<=x)(l:x<2 ^ 62)(p : -(2 ^ 62)<=y)(j:y<2 ^ 62)
  (q:R (Itd x (x-y).toNat) H):wpAny (model X.prog X.w) X.A (pyIter (.ref s.heap.objs.size)) (PIE X pins σ tg R) E { s with heap:=s.heap.push { cls:=.type "range",data:=.fields #[.int x t,.int y u,.int (-1) v] },toks:=tk }:=by
 refine wpAny_pyIter_range (IsRange.new ..) (PySem.W.small_down h l p j) ?_;have i:Inv X pins σ H { s with heap:=s.heap.push { cls:=.type "range",data:=.fields #[.int x t,.int y u,.int (-1) v] },toks:=tk }:=I.kept fun b o e=>fM _ e
 refine⟨(s.heap.push { cls:=.type "range",data:=.fields #[.int x t,.int y u,.int (-1) v] }).objs.size,[(s.heap.push { cls:=.type "range",data:=.fields #[.int x t,.int y u,.int (-1) v] }).objs.size],_,_,H,rfl,
  i.kept (t':=tk) fun b o e=>fM _ e,QG _ x (x-y).toNat,?_,fun b c=>?_,q⟩
 .have d:x+((0:Nat):Int)*(-1)=x:=by simp
  have a:(((x-y).toNat:Nat):Int)-((0:Nat):Int)=Builtin.Range.rangeSize x y (-1):=by rw[PySem.W.rangeSize_downNat];simp
  rw[d,a];exact qy _ rfl
 .obtain rfl:b=(s.heap.push { cls:=.type "range",data:=.fields #[.int x t,.int y u,.int (-1) v] }).objs.size:=by simpa using c
  exact i.Cr (bD _) (i.hok.fresh (bD _))
def qFX(t:TA):TI:=fun σ H R=>t σ H fun vs h => ∃ i:Int,vs=[.int i,.int (-1),.int (-1)] /\ -1<=i/\i<2 ^ 62/\R (Itd i (i-(-1)).toNat) h
theorem Yi(u:Gl X "range")(o:X.mg "range" = none)(l:PA X [a,b,c] ta)(v:starEach [a,b,c] X.env=[(false,eval a X.env),(false,eval b X.env),(false,eval c X.env)]:=by rfl)(d:starEach [b,c] X.env=[(false,eval b X.env),(false,eval c X.env)]:=by rfl) :
  PI X tg (.Call (.Name "range" p) [a,b,c] [] pos) (qFX ta):=by
 intro P s σ H R I h;refine Call_ (jm I u o boot_range (kn (bH (l pos P s σ H _ I h) fun _ _ ⟨_,_,n,k,Q⟩=>?_) (by rw[v,d]) (by rw[d];rfl)));obtain⟨i,e,Q,j,q⟩:=Q;subst e
 cases k with
 | cons r f=>
  cases f with
  | cons m f=>
   cases f with
   | cons g f=>
    cases f
    obtain⟨t,rfl⟩:=r;obtain⟨_,rfl⟩:=m;obtain⟨_,rfl⟩:=g;exact call_range_3 (by decide) (Zd n (by lia) j (by decide) (by decide) q) (.inl (PyProof.noPylong_small (by decide)))
def WT{n:Nat}{g:TG}{T:TS}{D:Ends}{σ:St}{H:Hp}(Pv:Nat->St->Hp->Prop)(d:Pv 0 σ H)
  (s:∀ i σ H,i<n->Pv i σ H->g (.int (top-i)) σ H fun σ2 a=>T { D with nx:=Pv (i+1),ct:=Pv (i+1),bk:=D.nx } σ2 a) (hd:∀ σ H,Pv n σ H->D.nx σ H) :
  ∃ W:Nat->Nat->St->Hp->Prop,(∃ m,W 0 m σ H)/\∀ i m σ H,W i m σ H →
   ((Itd top n).stop i H/\D.nx σ H)∨((Itd top n).go i H/\∃ N:St->Hp->Prop,(∀ σ' h,N σ' h->∃ m',m'<m/\W (i+1) m' σ' h)/\∀ x h,(Itd top n).Xy i H x h->g x σ h fun σ2 a=>T { D with nx:=N,ct:=N,bk:=D.nx } σ2 a):=by
 refine⟨fun i m σ H=>m+i=n/\Pv i σ H,⟨n,rfl,d⟩,?_⟩;rintro i m σ H ⟨_,p⟩
 by_cases t:i<n
 .refine .inr ⟨t,Pv (i+1),fun σ' h p'=>⟨m-1,by lia,by lia,p'⟩,fun x h y=>?_⟩;obtain⟨rfl,rfl⟩:=y;exact s i σ _ t p
 .obtain rfl:i=n:=by lia
  exact .inl ⟨bD _,hd σ H p⟩
end L2
namespace PySem
open Sem (wp)
namespace Rv
end Rv
end PySem
namespace L2
open PySem PySem.Spec PyProof.Rows
def Uo:lJ X (binaryOp .Add) (fun x y H Q => ∃ a b ys,x = .ref a/\y = .ref b/\aJ X.K H a []/\aJ X.K H b ys/\Q (.ref b) H):=by
 intro _ s σ H x y v u Q I R i h;obtain⟨a,b,ys,rfl,rfl,g,j,q⟩:=h
 cases R
 cases i
 obtain⟨_,r,p,_⟩:=I.tuple g;obtain⟨_,_,P,_⟩:=I.tuple j;have E:=r.uM.mpr rfl;subst E;obtain⟨⟨_,k,_,l⟩,o,f,n,hd⟩:=id p;obtain⟨⟨_,D,_,S⟩,e,c,N,d⟩:=id P;simp only at f hd c d;subst f hd c d;exact concat_meets ⟨_,o,rfl⟩ ⟨_,e,rfl⟩ noFill_tuple_add seq_tuple_add PySem.F.slot_tuple_add PySem.F.entry_tuple_add (PySem.F.args_tuple_add_2 _ _) (tuple_addW0 a b _ _ n N k D l S (by simp)) ⟨o,e,⟨.ref b,H,I,rfl,q⟩⟩
end L2
namespace L2
open PySem
end L2
namespace Tr
def rE(D:aw Int)(d:Int):Nat->aE Nat
 | 0=>none
 | j+1=>if D.getD j 0<d then some j else rE D d j
def par(d:aw Int)(k:Nat):aE Nat:=rE d (d.getD k 0) k
theorem rW:∀ {k j:Nat},j<k->ds.getD j 0<d->(∀ i,j<i->i<k->d<=ds.getD i 0)->rE ds d k=some j
 | 0,j,h,_,_=>by lia
 | k+1,j,h,hd,H=>by
  unfold rE
  by_cases e:j=k
  .subst e;rw[cS hd]
  .have:=H k (by lia) (by lia);rw[cK (by lia)];exact rW (by lia) hd fun i a _=>H i a (by lia)
theorem BK:∀ {k:Nat},(∀ i,i<k->d<=ds.getD i 0)->rE ds d k=none
 | 0,_=>rfl
 | k+1,h=>by
  unfold rE;have:=h k (by lia);rw[cK (by lia)];exact BK fun i _=>h i (by lia)
theorem BL:∀ {k j:Nat},rE ds d k=some j->j<k/\ds.getD j 0<d/\∀ i,j<i->i<k->d<=ds.getD i 0
 | 0,j,h=>by cases h
 | k+1,j,h=>by
  unfold rE at h
  split at h
  .cases h;exact⟨by lia,by assumption,fun i H l=>by lia⟩
  .rename_i f
   obtain⟨a,b,c⟩:=BL h;refine⟨by lia,b,fun i H l=>?_⟩
   by_cases e:i=k
   .subst e;lia
   .exact c i H (by lia)
def pM(h:par ds k=some j):j<k:=(BL h).1
structure Good(ds:List Int):Prop where
 pos:0<ds.length
 first:ds.getD 0 0=0
 next:∀ k,k+1<ds.length->1<=ds.getD (k+1) 0/\ds.getD (k+1) 0<=ds.getD k 0+1
theorem Good.nonneg(g:Good ds):∀ k,k<ds.length->0<=ds.getD k 0
 | 0,_=>by rw[g.first];exact Int.le_refl _
 | k+1,h=>by have:=g.next k h;lia
def Good.snoc(g:Good ds)(H:1<=v)(l:v<=ds.getD (ds.length-1) 0+1):Good (ds++[v]):=by
 have p:=g.pos
 have O:∀ k,k<ds.length->(ds++[v]).getD k 0=ds.getD k 0:=fun k h=>by
  rw[jT,jT,zw3 h]
 have new:(ds++[v]).getD ds.length 0=v:=by
  rw[jT,zw4 (bD _)];simp
 refine⟨by simp,by rw[O 0 p];exact g.first,fun k h=>?_⟩;rw[j8,vG]at h
 by_cases e:k+1<ds.length
 .rw[O _ e,O k (by lia)];exact g.next k e
 .have E:k+1=ds.length:=by lia
  rw[O k (by lia),E,new,show k=ds.length-1 by lia];exact⟨H,l⟩
def Good.one:Good [0]:=⟨by decide,rfl,fun k h=>by simp at h⟩
structure Above(ds:List Int)(k:Nat)(s:List Nat):Prop where
 len:(s.length:Int)=ds.getD k 0+1
 top:s[(ds.getD k 0).toNat]? = some k
 le:∀(i v:Nat),s[i]? = some v->v<=k/\ds.getD v 0=(i:Int)/\∀ j,v<j->j<=k->(i:Int)<ds.getD j 0
noncomputable def iG(d:aw Int)(r n:Nat):aw Nat:=(List.range n).filter fun j=>par d j==some r
def kids(d:aw Int)(r:Nat):aw Nat:=iG d r d.length
def kj(d:aw Int)(r n:Nat):iG d r (n+1)=iG d r n++if par d n==some r then [n] else []:=by unfold iG;rw[List.range_succ,fz];congr 1;rw[fA];simp
def MP(d:aw Int)(r n:Nat):(iG d r n).length<=n:=by unfold iG;refine br (vD _ _) ?_;simp
def T7(d:aw Int):Nat->Nat->aw Nat
 | 0,_=>[]
 | f+1,k=>match par d k with
  | none=>[]
  | some j=>j::T7 d f j
def ups(d:aw Int)(k:Nat):aw Nat:=T7 d k k
theorem zc(d:aw Int):∀ f k,k<=f->T7 d f k=T7 d k k
 | f,0,_=>by
  cases f with
  | zero=>rfl
  | succ f=>rfl
 | 0,k+1,h=>by lia
 | f+1,k+1,h=>by
  show (match par d (k+1) with | none=>[] | some j=>j::T7 d f j)=(match par d (k+1) with | none=>[] | some j=>j::T7 d k j)
  cases e:par d (k+1) with
  | none=>rfl
  | some j=>
   have G:=pM e;show j::T7 d f j=j::T7 d k j;rw[zc d f j (by lia),zc d k j (by lia)]
theorem za(h:par ds k=none):ups ds k=[]:=by
 unfold ups
 cases k with
 | zero=>rfl
 | succ k=>
  show (match par ds (k+1) with | none=>[] | some j=>j::T7 ds k j)=[];rw[h]
theorem sW(h:par ds k=some j):ups ds k=j::ups ds j:=by
 have G:=pM h;unfold ups
 cases k with
 | zero=>lia
 | succ k=>
  show (match par ds (k+1) with | none=>[] | some j=>j::T7 ds k j)=_;rw[h];show j::T7 ds k j=_;rw[zc ds k j (by lia)]
theorem T5:∀ {k v:Nat},v∈ups ds k->v<k:=by
 intro k
 induction k using Nat.strongRecOn with
 | ind k i=>
  intro v H
  cases e:par ds k with
  | none=>
   rw[za e]at H
   cases H
  | some j=>
   have G:=pM e;rw[sW e]at H;rcases dD.mp H with rfl | h
   .exact G
   .have:=i j G h;lia
noncomputable def hall(d:aw Int)(isOne:Nat->Bool)(a b:Nat):aE Nat:=(ups d a).find? fun x=>(ups d b).contains x&&isOne x
def bL(d:aw Int)(a b:Nat):Bool:=(ups d a).contains b
def Je(h:par ds a=some j):bL ds a b=(j==b||bL ds j b):=by unfold bL;rw[sW h,List.contains_cons];congr 1;exact Bool.eq_iff_iff.mpr ⟨fun z=>by simpa using (eq_of_beq z).symm,fun z=>by simpa using (eq_of_beq z).symm⟩
structure FT(ds:List Int)(k e:Nat):Prop where
 lt:k<e
 le:e<=ds.length
 ins:∀ j,k<j->j<e->ds.getD k 0<ds.getD j 0
 out:e<ds.length->ds.getD e 0<=ds.getD k 0
theorem JL:∀ {k:Nat},rE ds d k=none->∀ i,i<k->d<=ds.getD i 0
 | 0,_,i,h=>by lia
 | k+1,e,i,h=>by
  unfold rE at e
  split at e
  .cases e
  .rename_i f
   by_cases q:i=k
   .subst q;lia
   .exact JL e i (by lia)
def Og:par ds j=some k↔k<j/\ds.getD k 0<ds.getD j 0/\∀ i,k<i->i<j->ds.getD j 0<=ds.getD i 0:=
 ⟨fun h=>BL h,fun ⟨a,b,c⟩=>rW a b c⟩
theorem Z8:∀ a b,b∈ups ds a↔b<a/\∀ j,b<j->j<=a->ds.getD b 0<ds.getD j 0:=by
 intro a
 induction a using Nat.strongRecOn with
 | ind a i=>
  intro b
  cases e:par ds a with
  | none=>
   rw[za e];refine⟨fun z=>(by cases z),fun ⟨H,l⟩=>?_⟩;have:=JL e b H;have:=l a H (bD _);lia
  | some p=>
   obtain⟨h,hd,d⟩:=Og.mp e;rw[sW e,dD,i p h b];constructor
   .rintro (rfl | ⟨H,l⟩)
    .refine⟨h,fun j J c=>?_⟩
     by_cases q:j=a
     .rw[q];exact hd
     .have:=d j J (by lia);lia
    .refine⟨by lia,fun j J c=>?_⟩
     by_cases q:j<=p
     .exact l j J q
     .have z:=l p H (bD _)
      by_cases Q:j=a
      .rw[Q];lia
      .have:=d j (by lia) (by lia);lia
   .rintro⟨H,l⟩
    by_cases q:b=p
    .exact .inl q
    .right
     have z:=l a H (bD _)
     by_cases Q:p<b
     .have:=d b Q H;lia
     .exact⟨by lia,fun j J c=>l j J (by lia)⟩
def BZ(h:FT ds b e)(d:a<ds.length):bL ds a b=(decide (b<a)&&decide (a<e)):=by
 unfold bL;rw[eK,List.contains_iff_mem,Z8,eD,decide_eq_true_iff,decide_eq_true_iff];constructor
 .rintro⟨h1,h2⟩;refine⟨h1,?_⟩
  by_cases q:a<e
  .exact q
  .have:=h2 e h.lt (by lia);have:=h.out (by lia);lia
 .rintro⟨h1,h2⟩;exact⟨h1,fun j J _=>h.ins j J (by lia)⟩
def Oh(g:Good ds)(h:FT ds k e)(G:j<ds.length):(par ds j=some k)↔(k<j/\j<e/\ds.getD j 0=ds.getD k 0+1):=by
 rw[Og];constructor
 .rintro⟨h1,h2,h3⟩;refine⟨h1,?_,?_⟩
  .by_cases q:j<e
   .exact q
   .have:=h.out (by have:=h.lt;lia)
    by_cases Q:j=e
    .subst Q;lia
    .have:=h3 e h.lt (by lia);lia
  .have n:=g.next k (by lia)
   by_cases q:j=k+1
   .subst q;lia
   .have:=h3 (k+1) (by lia) (by lia);lia
 .rintro⟨h1,h2,h3⟩;refine⟨h1,by lia,fun i I _=>?_⟩;have:=h.ins i I (by lia);lia
theorem Bb(d:aw Int)(k:Nat):∀ n,n<=k+1->iG d k n=[]
 | 0,_=>rfl
 | n+1,h=>by
  rw[kj,Bb d k n (by lia),cK]
  .rfl
  .intro z;have:=pM (eq_of_beq z);lia
theorem xG(g:Good ds)(h:FT ds k e):∀ n,e+n<=ds.length->iG ds k (e+n)=iG ds k e
 | 0,_=>rfl
 | n+1,f=>by
  rw[show e+(n+1)=(e+n)+1 by lia,kj,xG g h n (by lia),cK,oY];intro z;have:=(Oh g h (by lia)).mp (eq_of_beq z);lia
def Vo(g:Good ds)(h:FT ds k e):kids ds k=iG ds k e:=by have q:=xG g h (ds.length-e) (by have:=h.le;lia);rw[show e+(ds.length-e)=ds.length by have:=h.le;lia]at q;exact q
def bears(d:aw Int)(G:aw Nat)(k:Nat):Bool:=G.any fun g=>g==k||bL d g k
noncomputable def next(d:aw Int)(a:Nat->Bool)(G:aw Nat)(p:Nat):aw Nat:=
 if a p=true then kids d p else match (kids d p).find? (bears d G) with
  | some k=>[k]
  | none=>(kids d p).take 1
inductive qx(ds:List Int)(al:Nat->Bool)(gs:List Nat)(un:Option Nat):Nat->Prop where
 | top:un=none->qx ds al gs un 0
 | root {p k:Nat}:k∈next ds al gs p->un=some p->qx ds al gs un k
 | low {p k:Nat}:k∈next ds al gs p->qx ds al gs un p->qx ds al gs un k
def qx.kid(h:k∈next d a G p)(h':un=some p∨qx d a G un p):qx d a G un k:=by
 rcases h' with e | g
 .exact .root h e
 .exact .low h g
def BW:k∈kids ds r↔k<ds.length/\par ds k=some r:=by unfold kids iG;rw[lO,List.mem_range];exact⟨fun ⟨a,b⟩=>⟨a,eq_of_beq b⟩,fun ⟨a,b⟩=>⟨a,by rw[b];exact dE _⟩⟩
def Eh(d:aw Int)(p:Nat):(kids d p).Pairwise (· < ·):=by unfold kids iG;exact List.pairwise_lt_range.filter _
def JV(h:k∈next d a G p):k∈kids d p:=by
 unfold next at h
 split at h
 .exact h
 .split at h
  .rename_i b e
   rw[jA.mp h];exact List.mem_of_find?_eq_some e
  .exact gX h
def jj(h:k∈next d a G p):par d k=some p:=(BW.mp (JV h)).2
def Oj(h:k∈next d a G p):k<d.length:=(BW.mp (JV h)).1
def Ea(d:aw Int)(a:Nat->Bool)(G:aw Nat)(p:Nat):(next d a G p).Pairwise (· < ·):=by
 unfold next
 split
 .exact Eh d p
 .split
  .exact List.pairwise_singleton _ _
  .exact (Eh d p).sublist (List.take_sublist _ _)
theorem qx.lt(P:0<ds.length)(h:qx ds al gs un k):k<ds.length:=by
 cases h with
 | top=>exact P
 | root h _=>exact Oj h
 | low h _=>exact Oj h
theorem qx.over(h:qx ds al gs un k):∀ u,un=some u->u<k:=by
 induction h with
 | top e=>intro u E;rw[e]at E;cases E
 | root h p=>
  intro u e;rw[e]at p
  cases p
  exact pM (jj h)
 | low h _ i=>
  intro u e;have:=pM (jj h);have:=i u e;lia
structure qH(ds:List Int)(al:Nat->Bool)(gs:List Nat)(un:Option Nat)(gone ahead:List Nat):Prop where
 nd:(gone++ahead).Nodup
 ok:∀ x∈gone++ahead,qx ds al gs un x
 fr:∀ x∈gone++ahead,par ds x=un ∨ ∃ g∈gone,par ds x=some g
 st:un=none->0∈gone++ahead
 su:∀ u,un=some u->∀ x∈next ds al gs u,x∈gone++ahead
 cl:∀ g∈gone,∀ x∈next ds al gs g,x∈gone++ahead
def iC{l:aw Nat}(h:l.Pairwise (· < ·)):l.Nodup:=h.imp fun z=>jQ z
def qH.none(d:aw Int)(a:Nat->Bool)(G:aw Nat):qH d a G none [] [0]:=
 ⟨by simp,fun x h=>by rw[List.mem_singleton.mp h];exact .top rfl,fun x h=>by rw[List.mem_singleton.mp h];exact .inl rfl,fun _=>List.mem_singleton.mpr rfl,fun u e=>(by cases e),fun g j=>(by cases j)⟩
def qH.some(d:aw Int)(a:Nat->Bool)(G:aw Nat)(u:Nat):qH d a G (some u) [] (next d a G u):=
 ⟨iC (Ea d a G u),fun x h=>.kid h (.inl rfl),fun x h=>.inl (jj h),fun e=>(by cases e),fun v e x h=>by cases e;exact h,fun g j=>(by cases j)⟩
def qH.step(w:qH d A G un gone (a++[r])):qH d A G un (gone++[r]) (a++next d A G r):=by
 have b:=w.ok r (by simp)
 have sub:∀ x,x∈gone++(a++[r])->x∈(gone++[r])++(a++next d A G r):=fun x H=>by
  simp only[List.mem_append,List.mem_singleton]at H ⊢;rcases H with h | h | h
  .exact .inl (.inl h)
  .exact .inr (.inl h)
  .exact .inl (.inr h)
 have n:r∉gone:=fun z=>by
  have:=(List.nodup_append.mp w.nd).2.2 r z r (by simp);exact this rfl
 have new:∀ x∈next d A G r,x∉gone++(a++[r]):=fun x H z=>by
  have e:=jj H;rcases w.fr x z with h | ⟨g,j,h⟩
  .rw[e]at h;exact eu (b.over r h.symm) (iq _)
  .rw[e]at h
   cases h
   exact n j
 have p:((gone++[r])++(a++next d A G r)).Perm ((gone++(a++[r]))++next d A G r):=by
  rw[bX,bX];refine List.Perm.append_left gone ?_;rw[<-bX];refine List.Perm.append_right _ ?_;exact List.perm_append_comm
 refine⟨?_,fun x H=>?_,fun x H=>?_,fun e=>sub _ (w.st e),fun u e x H=>sub _ (w.su u e x H),fun g j x H=>?_⟩
 .refine p.nodup_iff.mpr (List.nodup_append.mpr ⟨w.nd,iC (Ea d A G r),fun x H y N e=>?_⟩);subst e;exact new x N H
 .rcases jz.mp (p.mem_iff.mp H) with h | h
  .exact w.ok x h
  .exact .kid h (.inr b)
 .rcases jz.mp (p.mem_iff.mp H) with h | h
  .rcases w.fr x h with h | ⟨g,j,h⟩
   .exact .inl h
   .exact .inr ⟨g,gL _ j,h⟩
  .exact .inr ⟨r,by simp,jj h⟩
 .rcases jz.mp j with h | h
  .exact sub _ (w.cl g h x H)
  .rw[jA.mp h]at H;simp [H]
theorem qH.done(w:qH ds al gs un gone [])(k:Nat):k∈gone↔qx ds al gs un k:=by
 constructor
 .intro h;exact w.ok k (by simpa using h)
 .intro h
  induction h with
  | top e=>simpa using w.st e
  | root H p=>simpa using w.su _ p _ H
  | low H _ i=>simpa using w.cl _ i _ H
theorem pO:∀(n:Nat)(l:aw Nat),l.Nodup->(∀ k∈l,k<n)->l.length<=n
 | 0,l,_,h=>by
  cases l with
  | nil=>exact bD _
  | cons x l=>exact eu (h x FZ) (Nat.not_lt_zero _)
 | n+1,l,hd,h=>by
  have e:=pO n (l.filter (· ≠ n)) (hd.filter _) fun k g=>by
   obtain⟨a,b⟩:=lO.mp g;have:=h k a
   have:k≠n:=by simpa using b
   lia
  have:l.length<=(l.filter (· ≠ n)).length+1:=by
   clear e h
   induction l with
   | nil=>exact bo _
   | cons x l i=>
    obtain⟨H,f⟩:=hV.mp hd
    by_cases c:x=n
    .subst c
     have:l.filter (· ≠ x)=l:=by
      rw[List.filter_eq_self];intro a d;have:a≠x:=fun z=>H (z▸d)
      simpa using this
     rw[List.filter_cons,if_neg (by simp),this];exact bD _
    .rw[List.filter_cons,if_pos (by simpa using c),List.length_cons,List.length_cons];have:=i f;lia
  lia
def qH.len(P:0<ds.length)(w:qH ds al gs un gone ahead):gone.length+ahead.length<=ds.length:=by rw[<-j8];exact pO _ _ w.nd fun k h=>(w.ok k h).lt P
def Q5(d:aw Int)(a:Nat->Bool)(G:aw Nat)(un:aE Nat)(os:aw Nat):Prop:=os.Pairwise (· < ·)/\∀ k,k∈os↔qx d a G un k
def Q5.unique(H:Q5 ds al gs un a)(l:Q5 ds al gs un b):a=b:=
 L2.iU a b H.1 l.1 fun k=>(H.2 k).trans (l.2 k).symm
def Q5.lt(P:0<ds.length)(h:Q5 ds al gs un os):∀ o∈os,o<ds.length:=fun o q=>((h.2 o).mp q).lt P
def Q5.len(P:0<ds.length)(h:Q5 ds al gs un os):os.length<=ds.length:=pO _ _ (iC h.1) (h.lt P)
def VP(h:a p=true):next d a G p=kids d p:=by unfold next;rw[cS h]
def under(d:aw Int)(k:Nat):aE Nat->Bool
 | none=>true
 | some u=>bL d k u
theorem De(h:par ds k=some p)(f:un=some p∨under ds p un=true):under ds k un=true:=by
 cases un with
 | none=>rfl
 | some u=>
  show bL ds k u=true;rw[Je h,eP];rcases f with e | e
  .injection e with e
   left
   rw[e];exact dE _
  .exact .inr e
theorem qx.under(h:qx ds al gs un k):under ds k un=true:=by
 induction h with
 | top e=>
  subst e;rfl
 | root H p=>exact De (jj H) (.inl p)
 | low H _ i=>exact De (jj H) (.inr i)
end Tr
namespace L2
open PySem PySem.Spec PyProof.Rows
def c7:ir X (.builtin "isinstance") (fun xs H Q => ∃ x T t b,xs=[x,.ty T]/\wG X.K H x t/\PySem.W.kitOne X.K t (.type T)=some b/\Q (.bl b) H):=by
 intro _ s σ H xs _ Q I r h;obtain⟨x,T,t,b,rfl,ty,e,q⟩:=h;obtain⟨u,_,rfl,a,R⟩:=vals2 r
 cases R
 exact RT I a ty e fun k=>⟨.bl b,H,I.tok k,rfl,q⟩
end L2
namespace L2
open PySem
def Hq{c:Bool}{A B:Prop}(h:c=true)(a:A):if c=true then A else B:=by rw[cS h];exact a
def eE{c:Bool}{A B:Prop}(h:c=false)(b:B):if c=true then A else B:=by rw[cK (by rw[h];decide)];exact b
end L2
namespace Sw
open PySem
def CG(xs:Array Nat):Prop:=∀(i k v u:Nat),i<k->xs[i]? = some v->xs[k]? = some u->v<u
theorem Gu(g:CG xs):∀(f lo h:Nat),h-lo<=f->lo<=h->h<=xs.size->(∀ i v,i<lo->xs[i]? = some v->v<j)->(∀ i v,h<=i->xs[i]? = some v->j<=v) →
  lo<=SetTable.below.go xs j f lo h/\SetTable.below.go xs j f lo h<=h/\(∀ i v,i<SetTable.below.go xs j f lo h->xs[i]? = some v->v<j)/\∀ i v,SetTable.below.go xs j f lo h<=i->xs[i]? = some v->j<=v
 | 0,lo,h,n,k,s,H,l=>by
  have e:lo=h:=by omega
  subst e;exact⟨bD _,bD _,H,l⟩
 | f+1,lo,h,n,k,s,H,l=>by
  unfold SetTable.below.go
  by_cases t:lo<h
  .rw[cS t]
   have b:(lo+h)/2<xs.size:=by omega
   have E:xs[(lo+h)/2]? = some xs[(lo+h)/2]:=eA b
   have d:xs.getD ((lo+h)/2) j=xs[(lo+h)/2]:=by simp [Array.getD,b]
   show lo<=(if xs.getD ((lo+h)/2) j<j then SetTable.below.go xs j f ((lo+h)/2+1) h else SetTable.below.go xs j f lo ((lo+h)/2))/\(if xs.getD ((lo+h)/2) j<j then SetTable.below.go xs j f ((lo+h)/2+1) h else SetTable.below.go xs j f lo ((lo+h)/2))<=h ∧
    (∀ i v,i<(if xs.getD ((lo+h)/2) j<j then SetTable.below.go xs j f ((lo+h)/2+1) h else SetTable.below.go xs j f lo ((lo+h)/2))->xs[i]? = some v->v<j) ∧
    ∀ i v,(if xs.getD ((lo+h)/2) j<j then SetTable.below.go xs j f ((lo+h)/2+1) h else SetTable.below.go xs j f lo ((lo+h)/2))<=i->xs[i]? = some v->j<=v
   rw[d]
   by_cases c:xs[(lo+h)/2]<j
   .rw[cS c]
    obtain⟨Q,q,m,w⟩:=Gu g f ((lo+h)/2+1) h (by omega) (by omega) s (fun i v o e=>by
     by_cases a:i=(lo+h)/2
     .subst a;rw[E]at e
      cases e
      exact c
     .exact iL (g i ((lo+h)/2) v _ (by omega) e E) c) l
    exact⟨by omega,q,m,w⟩
   .rw[cK c]
    obtain⟨Q,q,m,w⟩:=Gu g f lo ((lo+h)/2) (by omega) (by omega) (by omega) H (fun i v o e=>by
     by_cases a:i=(lo+h)/2
     .subst a;rw[E]at e
      cases e
      omega
     .have:=g ((lo+h)/2) i _ v (by omega) E e
      omega)
    exact⟨Q,by omega,m,w⟩
  .rw[cK t]
   have e:lo=h:=by omega
   subst e;exact⟨bD _,bD _,H,l⟩
def sI(g:CG xs)(j:Nat):SetTable.below xs j<=xs.size/\(∀ i v,i<SetTable.below xs j->xs[i]? = some v->v<j)/\∀ i v,SetTable.below xs j<=i->xs[i]? = some v->j<=v:=by
 obtain⟨_,q,m,w⟩:=Gu (j:=j) g xs.size 0 xs.size (by omega) (bo _) (bD _) (fun i v h=>by omega) (fun i v h e=>by
  have:=(eB.mp e).1
  omega)
 exact⟨q,m,w⟩
def Mw(g:CG xs):SetTable.below xs 0=0:=by
 obtain⟨_,q,_⟩:=sI g 0
 by_cases e:SetTable.below xs 0=0
 .exact e
 .have d:0<xs.size:=by omega
  have:=q 0 xs[0] (by omega) (eA d);omega
def Mx(g:CG xs)(e:xs[i]? = some v):SetTable.below xs (v+1)=i+1:=by
 obtain⟨_,q,m⟩:=sI g (v+1);have H:=(eB.mp e).1
 have a1:¬ SetTable.below xs (v+1)<=i:=fun h=>by
  have:=m i v h e;omega
 have a2:¬ i+1<SetTable.below xs (v+1):=fun h=>by
  have t:i+1<xs.size:=by omega
  have a:xs[i+1]? = some xs[i+1]:=eA t;have b:=q (i+1) _ h a;have B:=g i (i+1) _ _ (by omega) e a;omega
 omega
def Gn(xs:Array α)(p:Nat)(x:α)(h:p<=xs.size)(i:Nat):(SetTable.insertAt xs p x)[i]? = if i<p then xs[i]? else if i=p then some x else xs[i-1]?:=by
 have e:(SetTable.insertAt xs p x).toList=xs.toList.take p++(x::xs.toList.drop p):=by
  unfold SetTable.insertAt;simp [Array.toList_extract];rw[List.take_of_length_le (by simp)]
 rw[<-eC,e]
 have a:(xs.toList.take p).length=p:=by simp;omega
 by_cases H:i<p
 .rw[cS H,zw3 (by omega),List.getElem?_take_of_lt H,eC]
 .rw[cK H,zw4 (by omega),a]
  by_cases l:i=p
  .subst l;simp
  .rw[cK l];obtain⟨d,hd⟩:∃ d,i-p=d+1:=⟨i-p-1,by omega⟩;rw[hd,List.getElem?_cons_succ,List.getElem?_drop,eC];congr 1;omega
def Jk(g:CG xs)(n:xs[SetTable.below xs j]?≠some j):CG (SetTable.insertAt xs (SetTable.below xs j) j):=by
 obtain⟨c,q,Q⟩:=sI g j;intro i k v u a H f;rw[Gn _ _ _ c]at H f
 have up:∀ m z,SetTable.below xs j<=m->xs[m]? = some z->j<z:=fun m z d e=>by
  have h:=Q m z d e
  by_cases o:z=j
  .subst o
   by_cases b:m=SetTable.below xs z
   .rw[b]at e;exact eu e n
   .have t:SetTable.below xs z<xs.size:=by
     have:=(eB.mp e).1;omega
    have E:xs[SetTable.below xs z]? = some xs[SetTable.below xs z]:=eA t;have:=g (SetTable.below xs z) m _ _ (by omega) E e;have:=Q _ _ (bD _) E;omega
  .omega
 by_cases h:i<SetTable.below xs j
 .rw[cS h]at H
  by_cases l:k<SetTable.below xs j
  .rw[cS l]at f;exact g i k v u a H f
  .rw[cK l]at f
   by_cases p:k=SetTable.below xs j
   .rw[cS p]at f
    cases f
    exact q i v h H
   .rw[cK p]at f;exact iL (q i v h H) (up (k-1) u (by omega) f)
 .rw[cK h]at H
  by_cases l:i=SetTable.below xs j
  .rw[cS l]at H
   cases H
   rw[cK (by omega),cK (by omega)]at f;exact up (k-1) u (by omega) f
  .rw[cK l]at H;rw[cK (by omega),cK (by omega)]at f;exact g (i-1) (k-1) v u (by omega) H f
structure TabOk(l:Bool)(t:SetTable):Prop where
 no:t.dummies = #[]
 led:t.led=l
 up:t.plain=true->CG t.place
def Kz{t:SetTable}(n:t.dummies = #[])(j:Nat):t.slot j≠.dummy:=by
 unfold SetTable.slot
 dsimp only
 split
 .intro z
  cases z
 .rw[n];show (if SetTable.has #[] j=true then SetTable.Slot.dummy else SetTable.Slot.empty)≠_
  have:SetTable.has #[] j=false:=by
   unfold SetTable.has;simp
  rw[this];intro z
  cases z
theorem wg{t:SetTable}(n:t.dummies = #[])(H:Nat->Int)(h:Int):∀(f:Nat)(p:SetTable.Probe)(j:Nat)(d:aE Nat),p.dummy=none->SetTable.probe.go t H h f p=some (.empty j d)->t.slot j = .empty/\d=none
 | 0,p,j,d,_,e=>by
  unfold SetTable.probe.go at e
  cases e
 | f+1,p,j,d,hd,e=>by
  have q:(t.advance p).dummy=none:=by
   unfold SetTable.advance
   split
   .exact hd
   .exact hd
  unfold SetTable.probe.go at e
  cases hs:t.slot p.j with
  | empty=>
   rw[hs]at e
   dsimp only at e
   cases e
   exact⟨hs,hd⟩
  | dummy=>exact eu hs (Kz n p.j)
  | live i=>
   rw[hs]at e
   dsimp only at e
   split at e
   .cases e
   .exact wg n H h f _ j d q e
theorem WR{t:SetTable}(n:t.dummies = #[]){h:Int}{j:Nat}{w:Bool}(e:t.freeSlot h=some (j,w)):t.place[SetTable.below t.place j]?≠some j:=by
 unfold SetTable.freeSlot at e
 cases hp:t.probe (fun _=>h+1) h (t.probeStart h) with
 | none=>
  rw[hp]at e
  cases e
 | some m=>
  rw[hp]at e
  cases m with
  | candidate _ _ _=>cases e
  | empty J d=>
   obtain⟨H,l⟩:=wg n (fun _=>h+1) h _ (t.probeStart h) J d rfl hp;subst l
   dsimp only at e
   cases e
   show t.place[SetTable.below t.place J]?≠some J;intro z;unfold SetTable.slot at H
   dsimp only at H
   rw[z]at H;simp at H
def my(h:TabOk l t)(n:Nat):TabOk l (t.standIn n):=⟨rfl,h.led,fun z=>by cases z⟩
theorem RL{l:Bool}{t:SetTable}(ok:TabOk l t)(e:Array (Int×av))(h:Int)(x:av):TabOk l (layNew t e h x).2.1:=by
 unfold layNew
 cases hf:t.freeSlot h with
 | none=>exact my ok _
 | some q=>
  obtain⟨j,_⟩:=q
  dsimp only
  have Q:TabOk l (t.put j).1:=by
   refine⟨?_,ok.led,fun p=>Jk (ok.up p) (WR ok.no hf)⟩;unfold SetTable.put
   dsimp only
   rw[ok.no]
   have:SetTable.has #[] j=false:=by
    unfold SetTable.has;simp
   rw[this];rfl
  unfold SetTable.orStandIn
  split
  .exact Q
  .exact my Q _
theorem rz(g:Nat->aE Nat):∀ l:aw Nat,(l.filterMap fun j=>(g j).map (j,·)).map (·.1)=l.filter fun j=>(g j).isSome
 | []=>rfl
 | j::l=>by
  rw[fw,fA]
  cases e:g j with
  | none=>simpa using rz g l
  | some k=>simpa using rz g l
def YZ{l:aw Nat}(h:l.Pairwise (· < ·)):CG l.toArray:=by
 intro i k v u a d f
 have H:l[i]? = some v:=by simpa using d
 have b:l[k]? = some u:=by simpa using f
 obtain⟨c,e⟩:=oW.mp H;obtain⟨g,E⟩:=oW.mp b;have:=List.pairwise_iff_getElem.mp h i k c g a;rw[e,E]at this;exact this
theorem J7(ok:TabOk l t)(E:Array (Int×av))(w:Nat):TabOk l (relayAll t E w).2.1:=by
 unfold relayAll
 cases hr:t.relaid (E.map (·.1)) w with
 | none=>exact my ok _
 | some q=>
  obtain⟨_,_⟩:=q
  dsimp only
  split
  .unfold SetTable.relaid SetTable.laid at hr
   cases ho:SetTable.layClean (SetTable.sizeAbove w-1) (E.map (·.1)) with
   | none=>
    rw[ho]at hr
    cases hr
   | some owner=>
    rw[ho]at hr;have e:=(Prod.mk.inj (kJ hr)).1;rw[<-e];refine⟨rfl,ok.led,fun _=>?_⟩
    dsimp only
    rw[rz];exact YZ (List.Pairwise.filter _ List.pairwise_lt_range)
  .exact my ok _
end Sw
namespace Sw
open PySem PyProof.Rows
noncomputable abbrev j5(w:aI):Bool:=!(w.params.followText "set-order")
section
variable{prog:ag}{w:aI}{A:ai}{R:Result->ae->Prop}{I:ar}{fp wr:aw ar}{G:Array GenState->Array GenState->Prop}{n:Nat}{P:Nat->av->Prop}{St:Nat->ae->Prop}
end
end Sw
namespace Sw
open PySem
theorem sG:∀(l:aw α)(i:Nat)(x:α),l[i]? = some x->(x::l.eraseIdx i).Perm l
 | [],i,x,h=>by simp at h
 | y::l,0,x,h=>by
  simp at h;subst h;exact List.Perm.refl _
 | y::l,i+1,x,h=>by
  have h':l[i]? = some x:=by simpa using h
  show (x::y::l.eraseIdx i).Perm (y::l);exact (List.Perm.swap y x _).trans ((sG l i x h').cons y)
theorem Oc(next:Nat->Nat):∀(f k:Nat)(left:aw α)(out:Array α),left.length=f->(pickOrder.go next f k left out).toList.Perm (out.toList++left)
 | 0,k,left,out,h=>by
  have e:left=[]:=fo h;subst e;simp [pickOrder.go]
 | f+1,k,left,out,h=>by
  unfold pickOrder.go;have t:next k%left.length<left.length:=Nat.mod_lt _ (by omega);rw[fQ t]
  dsimp only
  refine (Oc next f (k+1) _ _ (by rw[fS t];omega)).trans ?_;rw[Array.toList_push,bX];exact List.Perm.append_left _ (sG left _ _ (fQ t))
def QX(next:Nat->Nat)(xs:Array α):(pickOrder next xs).toList.Perm xs.toList:=by unfold pickOrder;refine (Oc next xs.size 0 xs.toList #[] (by simp)).trans ?_;simp
end Sw
namespace Sw
open PySem PyProof.Rows
def dj:Slot "set_iterator" "__next__" "set_iterator.__next__" := .of (owner := "set_iterator") (n := "__next__") (by rw[typeLookup_type,builtinLookup_eq_fast];kernel_rfl) (by decide +kernel) (by decide +kernel) (by decide +kernel) (by first | exact .inl (by decide +kernel) | exact .inr (by decide +kernel)) (by rw[isSubtype_type];kernel_rfl)
def rG:entryFor table "set_iterator.__next__" = some Builtin.«set_iterator.__next__»:=entryFor_of_fast (by kernel_rfl)
def ug(a:av):argsOk "set_iterator.__next__" ⟨[a],[]⟩:=by unfold argsOk;kernel_rfl
def sY:Slot "set_iterator" "__iter__" "set_iterator.__iter__" := .of (owner := "set_iterator") (n := "__iter__") (by rw[typeLookup_type,builtinLookup_eq_fast];kernel_rfl) (by decide +kernel) (by decide +kernel) (by decide +kernel) (by first | exact .inl (by decide +kernel) | exact .inr (by decide +kernel)) (by rw[isSubtype_type];kernel_rfl)
def Cu:entryFor table "set_iterator.__iter__" = some Builtin.«dict_keyiterator.__iter__»:=entryFor_alias (id' := "dict_keyiterator.__iter__") (by kernel_rfl) rfl (by decide +kernel) (by kernel_rfl)
def HH(a:av):argsOk "set_iterator.__iter__" ⟨[a],[]⟩:=by unfold argsOk;kernel_rfl
def Bk:entryFor table "set.__iter__" = some Builtin.«frozenset.__iter__»:=entryFor_alias (id' := "frozenset.__iter__") (by kernel_rfl) rfl (by decide +kernel) (by kernel_rfl)
def qCX:typeLookup (.type "set") "__len__" = pure (some (.builtin "set.__len__")):=by rw[typeLookup_type,builtinLookup_eq_fast];kernel_rfl
def Rp(f:n≠0)(h:∀ i,i<n->Q i { s with drawn:=s.drawn.bump src }):wpAny M A (choose src n) Q E s:=
 fun _ _ _=>⟨f,h _ (Nat.mod_lt _ (Nat.pos_of_ne_zero f))⟩
theorem PL:∀(n:Nat)(xs:aw α)(s:ae)(Q:aw α->ae->Prop),xs.length<=n->(∀ ys d,ys.Perm xs->Q ys { s with drawn:=d })->wpAny M A (drawOrder n xs) Q E s
 | 0,[],s,Q,h,H=>by
  unfold drawOrder;exact aT (H [] s.drawn (List.Perm.refl _))
 | 0,x::xs,s,Q,h,H=>by simp at h
 | n+1,[],s,Q,h,H=>by
  unfold drawOrder;exact aT (H [] s.drawn (List.Perm.refl _))
 | n+1,x::xs,s,Q,h,H=>by
  unfold drawOrder;refine wpAny_bind (Rp (by simp) fun i a=>?_);have e:(x::xs)[i]? = some (x::xs)[i]:=fQ a;rw[e];refine aS (PL n ((x::xs).eraseIdx i) _ _ (by rw[fS a];simp only[List.length_cons]at h ⊢;omega) fun ys d p=>aT ?_);exact H _ d ((p.cons _).trans (sG _ i _ e))
def SAt(h:Heap)(a:ar)(e:Array (Int×av))(ep:Nat)(t:SetTable):Prop:=∃ o,h.get? a=some o/\o.cls = .type "set" /\ o.data = .set e ep t
def Cy(h:Heap)(I a:ar)(first:av)(i n ep:Nat):Prop:=∃ o,h.get? I=some o/\o.cls = .type "set_iterator" /\ o.data = .fields #[first,.int i 0,.ref a,.int n 0,.int ep 0]
inductive Md(w:World)(a q:Addr)(es:Array (Int×Value))(ep:Nat)(t:SetTable)(its:List Value)(i:Nat)(h:Heap):Value->Prop where
 | txt (b:w.params.followText "set-order" = true) (e:its=(pickOrder (w.params.setOrder a ep) es).toList.map (·.2)):Md w a q es ep t its i h (.int 0 0)
 | tab (j:Nat) (b:w.params.followText "set-order" = false) (l:t.led=true) (d:(!t.plain&&decide (es.size>1))=false) (r:CG t.place) (z:t.place.size=es.size) (p:SetTable.below t.place j=i) (e:its=es.toList.map (·.2)):Md w a q es ep t its i h (.int (j:Nat) 0)
 | drw (ps:List Nat) (ho:∃ o,h.get? q=some o/\o.data = .seq (ps.map fun (p:Nat)=>rawInt p).toArray 0) (hp:∀ p∈ps,p<es.size) (e:its=ps.map fun p=>(es.getD p (0,.none)).2):Md w a q es ep t its i h (.ref q)
section
variable{prog:ag}{w:aI}{A:ai}{E:av->ae->Prop}{s:ae}{I a q:ar}{es:Array (Int×av)}{ep:Nat}{t:SetTable}{its:aw av}{i:Nat}
def HN(e:s.heap=h)(x:Cy h I a first i n ep):s.TypeIs (.ref I) "set_iterator" := by
 subst e;obtain⟨o,q,f,_⟩:=x;exact⟨o,q,f⟩
def qDF(x:Cy h I a first i n ep):Cy ((h.update I (Obj.mapFields (·.setIfInBounds 0 f'))).update I (Obj.mapFields (·.setIfInBounds 1 (rawInt ((i:Int)+1))))) I a f' (i+1) n ep:=by obtain⟨o,q,f,hd⟩:=x;have H:=cm (Obj.mapFields (·.setIfInBounds 0 f')) q (Obj.isFreed_of_fields (Obj.data_mapFields hd _));have D:=Obj.data_mapFields hd (·.setIfInBounds 0 f');refine⟨_,cm _ H (Obj.isFreed_of_fields (Obj.data_mapFields D _)),((Obj.cls_mapFields ..).trans (Obj.cls_mapFields ..)).trans f,?_⟩;rw[Obj.data_mapFields D];simp [rawInt]
def qA1(x:Cy h I a first i n ep):Cy (h.update I (Obj.mapFields (·.setIfInBounds 1 (rawInt ((i:Int)+1))))) I a first (i+1) n ep:=by obtain⟨o,q,f,hd⟩:=x;refine⟨_,cm _ q (Obj.isFreed_of_fields (Obj.data_mapFields hd _)),(Obj.cls_mapFields ..).trans f,?_⟩;rw[Obj.data_mapFields hd];simp [rawInt]
theorem VN(B:SAt s.heap a es ep t)(n:t.fits es.size=true)(m:Md w a q es ep t its i s.heap (.int (S:Nat) 0))(x:its[i]? = some v)
  (h:∀ D:Nat,(∀ h',Md w a q es ep t its (i+1) h' (.int (D:Nat) 0))->Q (some (v,D)) s):wpAny (model prog w) A (setNext a S i ep) Q E s:=by
 obtain⟨o,u,_,hd⟩:=B;unfold setNext;refine aS (wpAny_setState_of u hd n ?_);unfold setsByText;refine aS (aS (wpAny_askSetting (aT ?_)));generalize f:Value.int (S:Nat) 0=F at m
 cases m with
 | txt b e=>
  have G:(model prog w).w.params.followText "set-order" = true:=b
  have I:S=0:=by
   injection f with H;omega
  subst I
  dsimp only
  rw[show (⟨(model prog w).prog,(model prog w).w.params⟩:Setting).params.followText "set-order" = true from b,cS rfl];simp only[bne_self_eq_false,Bool.false_eq_true,if_false];unfold setWalk;refine aS (aS (wpAny_setState_of u hd n ?_));unfold setsByText;refine aS (aS (wpAny_askSetting (aT ?_)))
  dsimp only
  rw[show (⟨(model prog w).prog,(model prog w).w.params⟩:Setting).params.followText "set-order" = true from b,cS rfl];refine aS (wpAny_askSetting (aT (aT ?_)))
  have g:((pickOrder (w.params.setOrder a ep) es)[i]?).map (fun e=>(e.2,0))=some (v,0):=by
   rw[e,dZ,eC]at x
   cases hg:(pickOrder (w.params.setOrder a ep) es)[i]? with
   | none=>rw[hg]at x;cases x
   | some z=>
    rw[hg]at x
    cases x
    rfl
  show Q (((pickOrder (w.params.setOrder a ep) es)[i]?).map (fun e=>(e.2,0))) s;rw[g];exact h 0 fun h'=>.txt b e
 | tab j b l d r z p e=>
  have y:S=j:=by
   injection f with H;omega
  subst y
  dsimp only
  rw[show (⟨(model prog w).prog,(model prog w).w.params⟩:Setting).params.followText "set-order" = false from b,cK (by decide)];show wpAny _ _ (if (!t.plain&&decide (es.size>1))=true then _ else _) _ _ s;rw[d,cK (by decide)];show wpAny _ _ ((if (!t.led&&!es.isEmpty)=true then _ else _) >>= _) _ _ s;rw[l,if_neg (by simp)];refine aS (aT (aT ?_));rw[p];rw[e,dZ,eC]at x
  have k:i<es.size:=by
   rcases Nat.lt_or_ge i es.size with H | H
   .exact H
   .rw[Array.getElem?_eq_none H]at x
    cases x
  have c:i<t.place.size:=by omega
  rw[eA k]at x
  cases x
  rw[eA k,eA c];exact h (t.place[i]+1) fun h'=>.tab _ b l d r z (Mx r (eA c)) e
 | drw ps C J e=>cases f
theorem next_end(n:SAt s.heap a es ep t)(f:t.fits es.size=true)(m:Md w a q es ep t its i s.heap (.int (S:Nat) 0))(x:its[i]? = none)
  (h:Q none s):wpAny (model prog w) A (setNext a S i ep) Q E s:=by
 obtain⟨o,g,_,hd⟩:=n;unfold setNext;refine aS (wpAny_setState_of g hd f ?_);unfold setsByText;refine aS (aS (wpAny_askSetting (aT ?_)));generalize v:Value.int (S:Nat) 0=F at m
 cases m with
 | txt b e=>
  dsimp only
  rw[show (⟨(model prog w).prog,(model prog w).w.params⟩:Setting).params.followText "set-order" = true from b,cS rfl];simp only[bne_self_eq_false,Bool.false_eq_true,if_false];unfold setWalk;refine aS (aS (wpAny_setState_of g hd f ?_));unfold setsByText;refine aS (aS (wpAny_askSetting (aT ?_)))
  dsimp only
  rw[show (⟨(model prog w).prog,(model prog w).w.params⟩:Setting).params.followText "set-order" = true from b,cS rfl];refine aS (wpAny_askSetting (aT (aT ?_)))
  have c:(pickOrder (w.params.setOrder a ep) es)[i]? = none:=by
   rw[e,dZ,eC]at x
   cases hg:(pickOrder (w.params.setOrder a ep) es)[i]? with
   | none=>rfl
   | some z=>rw[hg]at x;cases x
  show Q (((pickOrder (w.params.setOrder a ep) es)[i]?).map (fun e=>(e.2,S))) s;rw[c];exact h
 | tab j b l d r z p e=>
  have y:S=j:=by
   injection v with H;omega
  subst y
  dsimp only
  rw[show (⟨(model prog w).prog,(model prog w).w.params⟩:Setting).params.followText "set-order" = false from b,cK (by decide)];show wpAny _ _ (if (!t.plain&&decide (es.size>1))=true then _ else _) _ _ s;rw[d,cK (by decide)];show wpAny _ _ ((if (!t.led&&!es.isEmpty)=true then _ else _) >>= _) _ _ s;rw[l,if_neg (by simp)];refine aS (aT (aT ?_));rw[p]
  have k:es.size<=i:=by
   rw[e,dZ,eC]at x;rcases Nat.lt_or_ge i es.size with H | H
   .rw[eA H]at x
    cases x
   .exact H
  rw[Array.getElem?_eq_none k];exact h
 | drw ps u B e=>cases v
end
theorem Md.keeps(m:Md w a q es ep t its i h f)(k:∀ o,h.get? q=some o->h'.get? q=some o):Md w a q es ep t its i h' f:=by
 cases m with
 | txt b e=>exact .txt b e
 | tab j b l d r z p e=>exact .tab j b l d r z p e
 | drw ps g c e=>
  obtain⟨o,H,n⟩:=g;exact .drw ps ⟨o,k o H,n⟩ c e
theorem Md.kind(m:Md w a q es ep t its i h f):(∃ j:Nat,f = .int (j:Nat) 0)∨(f = .ref q/\∃ ps:aw Nat,(∃ o,h.get? q=some o/\o.data = .seq (ps.map fun (p:Nat)=>rawInt p).toArray 0)/\(∀ p∈ps,p<es.size)/\its=ps.map fun p=>(es.getD p (0,.none)).2):=by
 cases m with
 | txt b e=>exact .inl ⟨0,rfl⟩
 | tab j b l d r z p e=>exact .inl ⟨j,rfl⟩
 | drw ps c H e=>exact .inr ⟨rfl,ps,c,H,e⟩
theorem Ry{first v:av}{Q:av->ae->Prop}(hit:Cy s.heap I a first i es.size ep)(y:SAt s.heap a es ep t)(n:t.fits es.size=true)(m:Md w a q es ep t its i s.heap first)(x:its[i]? = some v)(M:q≠I)
  (h:∀ h' z,Cy h' I a z (i+1) es.size ep->Md w a q es ep t its (i+1) h' z->(∀ b o,b≠I->s.heap.get? b=some o->h'.get? b=some o)->Q v { s with heap:=h' }) :
  wpAny (model prog w) A (Builtin.«set_iterator.__next__» ⟨[.ref I],[]⟩) (fun F s'=>∃ r,F = .done (.ret r)/\Q r s') E s:=by
 obtain⟨o,k,_,hd⟩:=id hit;obtain⟨_,d,_,H⟩:=id y;show wpAny _ _ (fieldsOf (.ref I) >>= _) _ _ s;refine aS (wpAny_fieldsOf k hd ?_);show wpAny _ _ (setEntries a >>= _) _ _ s;refine aS (wpAny_setEntries_of d H n ?_);rw[if_neg (by simp)];rcases m.kind with ⟨j,rfl⟩ | ⟨rfl,ps,⟨O,g,c⟩,B,e⟩
 .show wpAny _ _ (setNext a ((j:Nat):Int).toNat ((i:Nat):Int).toNat ((ep:Nat):Int).toNat >>= _) _ _ s;simp only[Int.toNat_natCast];refine aS (VN y n m x fun D m'=>?_);show wpAny _ _ (setField (.ref I) 0 (rawInt (D:Nat)) >>= _) _ _ s;refine wpAny_bind (wpAny_setField k hd (by simp) ?_);have G:=cm (Obj.mapFields (·.setIfInBounds 0 (rawInt (D:Nat)))) k (Obj.isFreed_of_fields (Obj.data_mapFields hd _));have L:=Obj.data_mapFields hd (·.setIfInBounds 0 (rawInt (D:Nat)));refine wpAny_bind (wpAny_setField G L (by simp) (wpAny_pure ⟨_,rfl,h _ _ (qDF hit) (m' _) fun b P l J=>?_⟩));exact (ck _ _ (bE l)).trans ((ck _ _ (bE l)).trans J)
 .show wpAny _ _ (seqItems? (.ref q) >>= _) _ _ s;refine aS (wpAny_seqItems g c ?_);simp only[Int.toNat_natCast];rw[e,dZ]at x
  cases hg:ps[i]? with
  | none=>rw[hg]at x;cases x
  | some p=>
   rw[hg]at x
   cases x
   have f:p<es.size:=B p (SX hg)
   have C:(ps.map fun (p:Nat)=>rawInt p).toArray[i]? = some (rawInt p):=by
    simp [hg]
   rw[C];show wpAny _ _ (setNextDrawn a ((p:Nat):Int).toNat ((ep:Nat):Int).toNat >>= _) _ _ s;simp only[Int.toNat_natCast];unfold setNextDrawn;refine aS (aS (wpAny_setState_of d H n ?_))
   dsimp only
   rw[if_neg (by simp),Array.getElem?_eq_getElem f];refine aT ?_;refine wpAny_bind (wpAny_setField k hd (by simp) (wpAny_pure ⟨_,rfl,?_⟩))
   have N:(es.getD p (0,.none)).2=es[p].2:=by simp [Array.getD,f]
   have u:=h _ _ (qA1 hit) (.drw ps ⟨O,(ck _ _ (bE M)).trans g,c⟩ B e) fun b P l J=>(ck _ _ (bE l)).trans J
   dsimp only at u
   rw[N]at u;exact u
theorem XC{Q:av->ae->Prop}{E:av->ae->Prop}(C:A.handled=none)(hit:Cy s.heap I a first i es.size ep)(u:SAt s.heap a es ep t)(v:t.fits es.size=true)(m:Md w a q es ep t its i s.heap first)(x:its[i]? = none)
  (h:∀ h' e,(∀ b o,b≠I->s.heap.get? b=some o->h'.get? b=some o)->(∃ o,h'.get? e=some o/\o.cls = .type "StopIteration")->E (.ref e) { s with heap:=h' }) :
  wpAny (model prog w) A (Builtin.«set_iterator.__next__» ⟨[.ref I],[]⟩) (fun f s'=>∃ r,f = .done (.ret r)/\Q r s') E s:=by
 obtain⟨o,H,_,hd⟩:=id hit;obtain⟨_,l,_,g⟩:=id u
 have S:∀ d:Heap,(∀ b o,b≠I->s.heap.get? b=some o->d.get? b=some o)->wpAny (model prog w) A (newExc (.type "StopIteration") [] >>= fun e=>(raiseNew e:Sem Fin)) (fun f s'=>∃ r,f = .done (.ret r)/\Q r s') E { s with heap:=d }:=fun d B=>by
  refine aS ?_;simp only[newExc,newTuple];refine aS (wpAny_newObj_type ?_ (by size_fits));refine wpAny_bind (m:=firstArgMember _ _) (wpAny_of_eq (a:=Value.none) (by first | rfl | (simp only[firstArgMember];rfl)) ?_);refine wpAny_newObj_type ?_ (by size_fits);simp only[raiseNew];refine aS (wpAny_handled ?_);rw[C];refine aS (aT (wpAny_throw ?_));exact h _ _ (fun b O c J=>fM _ (fM _ (B b O c J))) ⟨_,qy _ rfl,rfl⟩
 show wpAny _ _ (fieldsOf (.ref I) >>= _) _ _ s;refine aS (wpAny_fieldsOf H hd ?_);show wpAny _ _ (setEntries a >>= _) _ _ s;refine aS (wpAny_setEntries_of l g v ?_);rw[if_neg (by simp)];rcases m.kind with ⟨j,rfl⟩ | ⟨rfl,ps,⟨F,n,k⟩,d,e⟩
 .show wpAny _ _ (setNext a ((j:Nat):Int).toNat ((i:Nat):Int).toNat ((ep:Nat):Int).toNat >>= _) _ _ s;simp only[Int.toNat_natCast];refine aS (next_end u v m x ?_);show wpAny _ _ (setField (.ref I) 2 .none >>= _) _ _ s;refine wpAny_bind (wpAny_setField H hd (by simp) ?_);exact S _ fun b O c J=>(ck _ _ (bE c)).trans J
 .show wpAny _ _ (seqItems? (.ref q) >>= _) _ _ s;refine aS (wpAny_seqItems n k ?_);simp only[Int.toNat_natCast]
  have y:(ps.map fun (p:Nat)=>rawInt p).toArray[i]? = none:=by
   rw[e,dZ]at x
   cases hg:ps[i]? with
   | none=>simp [hg]
   | some p=>rw[hg]at x;cases x
  rw[y];show wpAny _ _ (setField (.ref I) 0 (rawInt 0) >>= _) _ _ s;refine wpAny_bind (wpAny_setField H hd (by simp) ?_);have z:=cm (Obj.mapFields (·.setIfInBounds 0 (rawInt 0))) H (Obj.isFreed_of_fields (Obj.data_mapFields hd _));have D:=Obj.data_mapFields hd (·.setIfInBounds 0 (rawInt 0));refine wpAny_bind (wpAny_setField z D (by simp) ?_);exact S _ fun b O c J=>(ck _ _ (bE c)).trans ((ck _ _ (bE c)).trans J)
def Y0(y:A.handled=none)(J:a≠I)(G:q≠I)(u:t.fits es.size=true) :
  Walks prog w A I [I,a,q] [I] its.length (fun i v=>its[i]? = some v) (fun i h => ∃ f,Cy h I a f i es.size ep/\SAt h a es ep t/\Md w a q es ep t its i h f) where
 sub:=fun b c=>by simp at c;simp [c]
 frame:=fun i h h' st k=>by
  obtain⟨f,⟨o,D,B⟩,⟨O,d,H⟩,m⟩:=st;exact⟨f,⟨o,k I (by simp) o D,B⟩,⟨O,k a (by simp) O d,H⟩,m.keeps fun o e=>k q (by simp) o e⟩
 item:=fun i s Q E L st l=>by
  obtain⟨f,hit,j,m⟩:=st;have x:its[i]? = some its[i]:=fQ L;have ty:s.TypeIs (.ref I) "set_iterator" := HN rfl hit;unfold pyNext;refine aS (wpAny_attempt (wpAny_callSpecial?_slot (name:=Str.ofString "__next__") ty dj (wpAny_call_entry dj ty rG ?_ (ug _))));refine Ry hit j u m x G fun h' F g m' k=>?_;refine wpAny_pure (l _ h' s.toks x ⟨F,g,?_,m'⟩ fun b o c e=>k b o (fun z=>c (by simp [z])) e);obtain⟨O,d,H⟩:=j;exact⟨O,k a O J d,H⟩
 done:=fun s Q E st l=>by
  obtain⟨f,hit,j,m⟩:=st
  have x:its[its.length]? = none:=by simp
  have ty:s.TypeIs (.ref I) "set_iterator" := HN rfl hit;unfold pyNext;refine aS (wpAny_attempt (wpAny_callSpecial?_slot (name:=Str.ofString "__next__") ty dj (wpAny_call_entry dj ty rG ?_ (ug _))));refine XC (by first | exact y | (show A.in1.handled=none;exact y)) hit j u m x fun h' e k n=>?_;obtain⟨C,p,r⟩:=n;refine aS (wpAny_isInstance (T := "StopIteration") (b:=true) ⟨C,p,r⟩ isSubtype_stop ?_);exact wpAny_pure (l h' s.toks fun b o c e=>k b o (fun z=>c (by simp [z])) e)
 self:=fun i s Q E st l=>by
  obtain⟨f,hit,j,m⟩:=st;have ty:s.TypeIs (.ref I) "set_iterator" := HN rfl hit;refine wpAny_pyIter_slot ty sY (wpAny_call_entry sY ty Cu ?_ (HH _));show wpAny _ _ (ret (.ref I)) _ _ s;exact aT ⟨_,rfl,"set_iterator",_,ty,dj.lookup,l⟩
def UJ(h:xs.size<=1):CG xs:=fun i k v u _ _ f=>by
 have H:=(eB.mp f).1;omega
def getD_map(e:Array (Int×av)):(List.range e.size).map (fun p=>(e.getD p (0,.none)).2)=e.toList.map (·.2):=by
 apply ft;intro i;rw[dZ,dZ]
 by_cases h:i<e.size
 .rw[qDI h];simp [Array.getD,h]
 .rw[List.getElem?_eq_none (by simp;omega),List.getElem?_eq_none (by simp;omega)];rfl
theorem ints_of:∀(vs:aw av),(∀ v∈vs,∃ k t,v = .int k t)->∃ m,IntsAre vs m/\(∀ k,k∈m ↔ ∃ t,Value.int k t∈vs)/\m.length=vs.length
 | [],_=>⟨[],.nil,fun k=>by simp,rfl⟩
 | v::vs,h=>by
  obtain⟨k,t,rfl⟩:=h v FZ;obtain⟨m,H,l,p⟩:=ints_of vs fun u f=>h u (Hr _ f);refine⟨k::m,.cons k t H,fun _=>?_,by simp [p]⟩;rw[dD,l];constructor
  .rintro (rfl | ⟨t',ht⟩)
   .exact⟨t,FZ⟩
   .exact⟨t',Hr _ ht⟩
  .rintro⟨t',ht⟩;rcases dD.mp ht with e | e
   .injection e with a;exact .inl a
   .exact .inr ⟨t',e⟩
theorem ZC(C:SAt s.heap a es ep t)(i:t.fits es.size=true)(ok:TabOk (j5 w) t)(N:es.size<=1000)
  (h:∀(I q:ar)(its:aw av)(h':Heap)(d:Drawn),a≠I->q≠I->s.heap.objs.size<=I->(q=a∨s.heap.objs.size<=q)->a<h'.objs.size->q<h'.objs.size->I<h'.objs.size->its.Perm (es.toList.map (·.2))->(∀ b o,s.heap.get? b=some o->h'.get? b=some o) →
   (∃ f,Cy h' I a f 0 es.size ep/\SAt h' a es ep t/\Md w a q es ep t its 0 h' f)->Q (.ref I) { s with heap:=h',drawn:=d }):wpAny (model prog w) A (pyIter (.ref a)) Q E s:=by
 obtain⟨o,j,z,hd⟩:=id C;have ty:s.TypeIs (.ref a) "set" := ⟨o,j,z⟩;have D:a<s.heap.objs.size:=gQ j
 have hsz:t.place.size=es.size:=by
  unfold SetTable.fits at i;simp at i;exact i.1
 refine wpAny_pyIter_slot ty F.slot_set_iter (wpAny_call_entry F.slot_set_iter ty Bk ?_ (F.args_set_iter_1 _));show wpAny _ _ (Builtin.Frozenset.sizeOf a >>= _) _ _ s;unfold Builtin.Frozenset.sizeOf;refine aS (aS (wpAny_setEntries_of j hd i (aT ?_)));unfold setDrawn setsByText;refine aS (aS (wpAny_setState_of j hd i (aS (aS (wpAny_askSetting (aT (aT ?_)))))));have n:∀(first:av)(q:ar)(its:aw av)(H:Heap)(d:Drawn),s.heap.objs.size<=H.objs.size->(q=a∨s.heap.objs.size<=q)->q<H.objs.size->its.Perm (es.toList.map (·.2))->(∀ b o,s.heap.get? b=some o->H.get? b=some o)->(∀ h',(∀ o,H.get? q=some o->h'.get? q=some o)->Md w a q es ep t its 0 h' first) →
   wpAny (model prog w) A.in1 (setEpoch a >>= fun e=>newFields "set_iterator" [first,rawInt 0,.ref a,rawInt es.size,rawInt e] >>= fun v=>(ret v:Sem Fin)) (fun n s'=>∃ r,n = .done (.ret r)/\∃ T J,s'.TypeIs r T/\typeLookup (.type T) "__next__" = pure (some J)/\Q r s') E { s with heap:=H,drawn:=d }:=fun first q its H d m l y c k M=>by
  have g:=k _ _ j;unfold setEpoch;refine aS (aS (wpAny_setState_of (s:={ s with heap:=H,drawn:=d }) g hd i (aT ?_)));refine aS (wpAny_newObj_type ?_);have G:(H.push { cls:=.type "set_iterator",data:=.fields [first,rawInt 0,.ref a,rawInt es.size,rawInt ep].toArray }).get? H.objs.size=some { cls:=.type "set_iterator",data:=.fields [first,rawInt 0,.ref a,rawInt es.size,rawInt ep].toArray }:=qy _ rfl;have x:a<H.objs.size:=gQ g;refine aT ⟨_,rfl,"set_iterator",_,⟨_,G,rfl⟩,dj.lookup,h H.objs.size q its _ d (jQ x) (jQ y) m l ?_ ?_ ?_ c (fun b O e=>fM _ (k b O e)) ⟨first,⟨_,G,rfl,rfl⟩,⟨o,fM _ g,z,hd⟩,M _ fun O e=>fM _ e⟩⟩
  .rw[eT];exact iE x
  .rw[eT];exact iE y
  .rw[eT];exact iF _
 have B:∀ b:Bool,w.params.followText "set-order" = b->(model prog w).w.params.followText "set-order" = b:=fun b e=>e;show wpAny _ _ (if (!((model prog w).w.params.followText "set-order")&&(!t.plain&&decide (es.size>1)))=true then _ else _) _ _ s
 cases hb:w.params.followText "set-order" with
 | true=>
  rw[B _ hb];simp only[Bool.not_true,Bool.false_and,Bool.false_eq_true,if_false];refine aS (aT ?_);exact n (rawInt 0) a _ s.heap s.drawn (bD _) (.inl rfl) D ((QX _ es).map (·.2)) (fun _ _ e=>e) fun h' _=>.txt hb rfl
 | false=>
  rw[B _ hb];simp only[Bool.not_false,Bool.true_and]
  cases hdr:(!t.plain&&decide (es.size>1)) with
  | false=>
   simp only[Bool.false_eq_true,if_false];refine aS (aT ?_)
   have R:CG t.place:=by
    cases c:t.plain with
    | true=>exact ok.up c
    | false=>
     rw[c]at hdr
     have:¬ es.size>1:=by simpa using hdr
     exact UJ (by omega)
   exact n (rawInt 0) a _ s.heap s.drawn (bD _) (.inl rfl) D (List.Perm.refl _) (fun _ _ e=>e) fun h' _=>.tab 0 hb (by rw[ok.led];show (!(w.params.followText "set-order"))=true;rw[hb];rfl) hdr R hsz (Mw R) rfl
  | true=>
   simp only[if_true];refine wpAny_bind (PL es.size (List.range es.size) s _ (by simp) fun ps d c=>?_)
   have L:ps.length=es.size:=by rw[c.length_eq];simp
   refine aS (wpAny_newTuple ?_ (by rw[bT,L,sizeLine_eq];omega));refine n (.ref s.heap.objs.size) s.heap.objs.size (ps.map fun p=>(es.getD p (0,.none)).2) _ d ?_ (.inr (Nat.le_refl _)) ?_ ?_ (fun b O e=>Heap.get?_push_of_some _ e) fun h' k=>.drw ps ⟨_,k _ (Heap.get?_push_size _ rfl),rfl⟩ (fun p u=>by simpa using c.mem_iff.mp u) rfl
   .show _<=(s.heap.push _).objs.size;rw[eT];exact ip _
   .show _<(s.heap.push _).objs.size;rw[eT];exact iF _
   .rw[<-getD_map es];exact c.map _
noncomputable def RC(val:Nat->Int):Int->Nat->Nat->Int
 | b,_,0=>b
 | b,j,k+1=>RC val (if val j>b then val j else b) (j+1) k
def XM(a d:av):argsOk "max" ⟨[a],[("default",d)]⟩:=by unfold argsOk;kernel_rfl
section
variable{prog:ag}{w:aI}{A:ai}{R:Result->ae->Prop}{I:ar}{fp wr:aw ar}{n:Nat}{P:Nat->av->Prop}{St:Nat->Heap->Prop}
theorem Ve(W:Walks prog w A.in1 I fp wr n P St)(val:Nat->Int)(y:∀ i v,P i v->∃ t,v = .int (val i) t)(O:av)(S:ar)(z:S∉fp):∀(k j:Nat)(s:ae)(b:Int)(l:Tok)(c:Nat),n-j=k->j<=n->St j s.heap →
   s.heap.get? S=some { cls:=.type "list",dict:=none,data:=.seq #[.int b l,.int b l] c,slots:=#[] } →
   (∀ t h' D,(∀ b o,b∉wr->b≠S->s.heap.get? b=some o->h'.get? b=some o)->R (.ok (.ret (.int (RC val b j k) t))) { s with heap:=h',toks:=D })->codeAny (model prog w) A (.builtin "max.loop" ⟨[.ref I,.none,.ref S],[("default",O)]⟩) R s:=by
 have C:S∉wr:=fun h=>z (W.sub _ h)
 have nm:(toString "max" ++ toString ".loop" : String) = "max.loop" := by decide
 intro k
 induction k with
 | zero=>
  intro j s b l c Y U r x E
  obtain rfl:j=n:=by omega
  refine codeAny_builtin F.entry_max_loop ?_;rw[Around.under_plainId F.plain_max_loop _];show wpAny _ A.in1 (seqItems? (.ref S) >>= _) _ _ s;refine aS (wpAny_seqItems x rfl ?_);show wpAny _ A.in1 (tryCatch (pyNext (.ref I)) _ >>= _) _ _ s;refine aS (wpAny_tryCatch (W.done s _ _ r fun h' D a=>?_));have g:=a S _ C x;show wpAny _ A.in1 (updateSeq S (fun _ => #[]) >>= _) _ _ _;refine aS ?_;refine wpAny_updateSeq g rfl (aS (wpAny_letGo (aT (E l _ D fun b o H d e=>?_))));exact (ck _ _ (bE d)).trans (a b o H e)
 | succ k N=>
  intro j s b l c Y U r x E
  have u:j<n:=by omega
  refine codeAny_builtin F.entry_max_loop ?_;rw[Around.under_plainId F.plain_max_loop _];show wpAny _ A.in1 (seqItems? (.ref S) >>= _) _ _ s;refine aS (wpAny_seqItems x rfl ?_);show wpAny _ A.in1 (tryCatch (pyNext (.ref I)) _ >>= _) _ _ s;refine aS (wpAny_tryCatch (W.item j s _ _ u r fun v h' D X m a=>?_));obtain⟨B,rfl⟩:=y j v X;have g:=a S _ C x;show wpAny _ A.in1 (tryCatch (holding [Value.int (val j) B,Value.int (val j) B] (richCompare .Gt (Value.int (val j) B) (Value.int b l) >>= _)) _ >>= _) _ _ _
  have M:∀(s':ae)(Q J:av->ae->Prop),Q (.bool (decide (val j>b))) s'->wpAny (model prog w) A.in1 (richCompare .Gt (.int (val j) B) (.int b l)) Q J s':=fun s' Q J Z=>
   CmpOf.ints_gt (P:=fun i v => ∃ t,v=Value.int (if i=0 then val j else b) t) (fun i=>if i=0 then val j else b) (fun i v h=>h) 0 1 _ _ s' Q J ⟨_,rfl⟩ ⟨_,rfl⟩ Z
  refine aS (wpAny_tryCatch (cq (aS (M _ _ _ ?_))));refine aS (cq (wpAny_truthy_bool (aS (wpAny_letGo (aT ?_)))))
  by_cases G:val j>b
  .simp only[G,decide_true,if_true];refine aS (wpAny_updateSeq g rfl (aS (wpAny_letGo ?_)));rw[nm];refine aT ⟨plainId_quiet F.plain_max_loop _,N (j+1) _ (val j) B _ (by omega) u (W.frame _ _ _ m fun b L o e=>?_) (cm _ g rfl) fun t p T f=>?_⟩
   .exact (ck _ _ (fun h:S=b=>z (by rw[h];exact L))).trans e
   .have q:=E t p T fun b o H d e=>f b o H d ((ck _ _ (bE d)).trans (a b o H e));simp only[RC,G,if_true]at q;exact q
  .simp only[G,decide_false,Bool.false_eq_true,if_false];refine aS (wpAny_letGo ?_);rw[nm];refine aT ⟨plainId_quiet F.plain_max_loop _,N (j+1) _ b l c (by omega) u m g fun t p T f=>?_⟩;have q:=E t p T fun b o H d e=>f b o H d (a b o H e);simp only[RC,G,if_false]at q;exact q
def mxN(val:Nat->Int)(d:Int):Nat->Int
 | 0=>d
 | n+1=>RC val (val 0) 1 n
theorem RD(W:Walks prog w A.in1 I fp wr n P St)(val:Nat->Int)(y:∀ i v,P i v->∃ t,v = .int (val i) t)(d:Int)(u:Tok)(S:ar)(z:S∉fp)(g:St 0 s.heap)
  (r:s.heap.get? S=some { cls:=.type "list",dict:=none,data:=.seq #[] c,slots:=#[] })
  (E:∀ t h' l,(∀ b o,b∉wr->b≠S->s.heap.get? b=some o->h'.get? b=some o)->R (.ok (.ret (.int (mxN val d n) t))) { s with heap:=h',toks:=l }):codeAny (model prog w) A (.builtin "max.loop" ⟨[.ref I,.none,.ref S],[("default",.int d u)]⟩) R s:=by
 have C:S∉wr:=fun h=>z (W.sub _ h)
 have nm:(toString "max" ++ toString ".loop" : String) = "max.loop" := by decide
 refine codeAny_builtin F.entry_max_loop ?_;rw[Around.under_plainId F.plain_max_loop _];show wpAny _ A.in1 (seqItems? (.ref S) >>= _) _ _ s;refine aS (wpAny_seqItems r rfl ?_);show wpAny _ A.in1 (tryCatch (pyNext (.ref I)) _ >>= _) _ _ s
 cases n with
 | zero=>
  refine aS (wpAny_tryCatch (W.done s _ _ g fun h' l a=>?_));refine aS (wpAny_rule (aT (E u h' l fun b o H f e=>a b o H e)))
 | succ n=>
  refine aS (wpAny_tryCatch (W.item 0 s _ _ (Nat.succ_pos _) g fun v h' l x m a=>?_));obtain⟨q,rfl⟩:=y 0 v x;have k:=a S _ C r;show wpAny _ A.in1 (updateSeq S (fun _ => #[Value.int (val 0) q,Value.int (val 0) q]) >>= _) _ _ _;refine aS ?_;refine wpAny_updateSeq k rfl ?_;rw[nm];refine aT ⟨plainId_quiet F.plain_max_loop _,Ve W val y _ S z n 1 _ (val 0) q _ (by omega) (by omega) (W.frame _ _ _ m fun b L o e=>?_) (cm _ k rfl) fun t p T j=>?_⟩
  .exact (ck _ _ (fun h:S=b=>z (by rw[h];exact L))).trans e
  .exact E t p T fun b o H f e=>j b o H f ((ck _ _ (bE f)).trans (a b o H e))
end
theorem Zj(a d:av):checkBuiltinCall "max" ⟨[a],[("default",d)]⟩=pure ():=by
 have h:=XM a d;unfold argsOk at h;simp only[checkBuiltinCall,F.kind_max]
 cases hsig:Manifest.signature? "max" with
 | none=>rfl
 | some s=>
  rw[hsig]at h;exact h
def XD(d:av):Builtin.Builtins.bindParams "max" ["key","default"] 0 ⟨[],[("default",d)]⟩=pure [none,some d]:=by rfl
def X8(g:A.handled=none)(h:s.heap.IsList p items)(H:IntsAre items.toList ns)
  (f:∀(h':Heap)(T:Nat)(t:Tok),(∀ b o,s.heap.get? b=some o->h'.get? b=some o)->Q (.int (mxN (fun i=>ns.getD i 0) d ns.length) t) { s with heap:=h',toks:=T }) :
  wpAny (model prog w) A (call (.builtin "max") [.ref p] [("default",.int d td)]) Q E s:=by
 have nm:(toString "max" ++ toString ".loop" : String) = "max.loop" := by decide
 have a:∀(i:Nat)(v:av),items[i]? = some v->∃ t,v = .int (ns.getD i 0) t:=fun i v j=>IntsAre.int_at H i v (by rw[eC];exact j)
 have L:p<s.heap.objs.size:=by
  obtain⟨o,q,_⟩:=h;exact gQ q
 have m:items.size=ns.length:=by
  have:=H.length
  simpa using this
 refine wpAny_call (codeAny_call_builtin F.plain_max F.entry_max ?_);refine wpAny_of_eq (Zj _ _) ?_;show wpAny _ A.in1 (Builtin.Builtins.bindParams "max" ["key","default"] 0 ⟨[],[("default",.int d td)]⟩ >>= _) _ _ s;refine aS (wpAny_of_eq (XD _) (aS (aT (aS (wpAny_pyIter_list h ?_)))));refine aS (wpAny_newObj_type ?_);rw[nm]
 have c:A.in1.handled=none:=by simp [g]
 have n:p≠s.heap.objs.size:=jQ L;have W:=Walks.list (prog:=prog) (w:=w) (A:=A.in1) c s.heap.objs.size p n items
 have N:(s.heap.push { cls:=.type "list_iterator",data:=.fields #[.ref p,.int 0 0] }).objs.size∉[s.heap.objs.size,p]:=by
  rw[eT];simp only[List.mem_cons,List.not_mem_nil,or_false,not_or];exact⟨iO (iF _),iO (iE L)⟩
 refine aT ⟨plainId_quiet F.plain_max_loop _,RD W (fun i=>ns.getD i 0) a d td _ N ⟨⟨_,fM _ (qy _ rfl),rfl,rfl⟩,(h.push _).push _⟩ (qy _ rfl) fun t h' T k=>?_⟩;rw[m];refine f h' T t fun b o e=>k b o ?_ ?_ (fM _ (fM _ e))
 .have l:=gQ e;simp only[List.mem_cons,List.not_mem_nil,or_false];exact jQ l
 .have l:=gQ e;rw[eT];exact jQ (iE l)
end Sw
namespace Sw
end Sw
namespace L2
open PySem PySem.Spec PyProof.Rows
def Inv.drew(I:Inv X pins σ H s):Inv X pins σ H { s with drawn:=d }:=⟨I.ok,I.os,I.bare,I.base,I.loc,I.cell,I.free,I.jq,I.pin,I.hok,I.len⟩
def qDY(K:bV)(d:Int)(t:TA):TE:=fun σ H Q=>t σ H fun vs h => ∃(p:ar)(ns:aw Int),vs=[.ref p]/\aU K h p (ns.map V.int)/\Q (.int (Sw.mxN (fun i=>ns.getD i 0) d ns.length)) h
def Yj(n:X.calm=true)(o:Gl X "max")(v:X.mg "max" = none)(g:PA X [a] t)(e:starEach [a] X.env=[(false,eval a X.env)]:=by rfl) :
  PE X (.Call (.Name "max" p1) [a] [⟨some "default",.Constant (.int d) j pd,kp⟩] pos) (qDY X.K d t):=by
 intro P s σ H Q I h;refine wpAny_Call_Name_kw (jm I o v PyProof.Rows.boot_max ?_);refine PyProof.Rows.callWith_kw (bH (g pos P s σ H _ I h) fun _ S ⟨_,m,i,c,l⟩=>?_) (by rw[e];rfl) (by rw[e];rfl) rfl rfl;refine PyProof.Rows.kws_cons (wpAny_Constant_int (PyProof.Rows.kws_nil ?_));obtain⟨p,_,rfl,f,q⟩:=l;obtain⟨u,rfl,R⟩:=vals1 c
 cases R
 obtain⟨_,r,pl,_⟩:=i.list f;have b:=i.tok (S.toks+1);exact Sw.X8 (b.ok.hd n) pl.isList (intsAre_of r) fun _ _ t k=>⟨.int _,m,b.kept k,⟨_,rfl⟩,q⟩
end L2
namespace Sw
open PySem PyProof.Rows
def xX(prog:ag)(w:aI)(h:Heap)(a:ar)(S:Int->Prop)(n:Nat)(l:Bool):Prop:=
 ∃ o E ep t,h.get? a=some o/\o.ExactSet/\o.data = .set E ep t/\ElemsOf (intKind prog w) E.toList/\(∀ k,(∃ e∈E.toList,(intKind prog w).is k e.2=true)->S k)/\E.size<scanBound/\t.fits E.size=true/\E.size<=n/\TabOk l t
def xX.keeps(x:xX prog w h a S n l)(k:∀ o,h.get? a=some o->h'.get? a=some o):xX prog w h' a S n l:=by obtain⟨o,e,ep,t,q,r⟩:=x;exact⟨o,e,ep,t,k o q,r⟩
def rJ{h:Heap}{a:ar}{o:Obj}{E:Array (Int×av)}{ep:Nat}{t:SetTable}(H:h.get? a=some o)(hd:o.data = .set E ep t)(e:Array (Int×av))(t':SetTable) :
  (h.update a (Obj.putSet e t')).get? a=some { o with data:=.set e (ep+1) t' }:=by have q:=cm (Obj.putSet e t') H (by rw[putSet_of e t' hd];rfl);rw[putSet_of e t' hd]at q;exact q
def wR{g:Bool->Sem Unit}(d:∀(b:Bool)(S:ae)(j:Unit->ae->Prop),j () S->wpAny (model prog w) A (g b) j E S){a:ar}{o:Obj}{c e:Array (Int×av)}{ep:Nat}{t T:SetTable}(q:s.heap.get? a=some o)(hd:o.data = .set c ep t)
  (h:e.size<scanBound) {W:Bool} {R:aE Bool->ae->Prop} (H:R (some true) { s with heap:=s.heap.update a (Obj.putSet e T) })
  (l:R (some true) { s with heap:=(s.heap.update a (Obj.putSet e T)).update a (Obj.putSet (relayAll T e (SetTable.grown e.size)).1 (relayAll T e (SetTable.grown e.size)).2.1) }) :
  wpAny (model prog w) A (do
   storeSet a e T
   if (!W&&T.tooFull)=true then do
    g (relayAll T e (SetTable.grown e.size)).2.2
    storeSet a (relayAll T e (SetTable.grown e.size)).1 (relayAll T e (SetTable.grown e.size)).2.1
    pure (some true)
   else pure (some true)) R E s:=by
 refine aS (wpAny_storeSet_of q hd ?_ (fits_of_scanBound h))
 split
 .have p:=relayAll_perm T e (SetTable.grown e.size)
  have hsz:(relayAll T e (SetTable.grown e.size)).1.size=e.size:=by rw[<-e7,p.length_eq,e7]
  exact aS (d _ _ _ (aS (wpAny_storeSet_of (rJ q hd e T) rfl (aT l) (fits_of_scanBound (by rw[hsz];exact h)))))
 .exact aT H
theorem addQ{l:Bool}{k:Int}{tok:Tok}{Q:Bool->ae->Prop}(hS:xX prog w s.heap a S n l)(hk:S k)(U:n+1<scanBound)
  (h:∀ h' b,Heap.SameBut a s.heap h'->xX prog w h' a S (n+1) l->Q b { s with heap:=h' }) :
  wpAny (model prog w) A (setAddHashed a (.int k tok) ((intKind prog w).hash k)) Q E s:=by
 obtain⟨o,i,ep,t,D,hex,hd,m,p,hb,R,_,ok⟩:=hS;have y:(intKind prog w).is k (.int k tok)=true:=intKind_is _ _ _ _;have B:(Value.int k tok).scannable=true:=rfl
 have hb1:i.size+1<scanBound:=by omega
 unfold setAddHashed setAddHashedIn;refine cq (aS (wpAny_setState_of D hd R ?_))
 dsimp only;rw[byScan_of B hb m];simp only[↓reduceIte];unfold setAddByScan
 refine aS (aS (wpAny_rule (aS (wpAny_setScan_of y D hd R m ?_))))
 cases hr:List.findIdx? (fun e=>(intKind prog w).is k e.2) i.toList with
 | some j=>exact aT (aT (h s.heap _ (Heap.SameBut.refl a s.heap) ⟨o,i,ep,t,D,hex,hd,m,p,hb,R,by omega,ok⟩))
 | none=>
  dsimp only
  have P:∀(b:Bool){f:ae}{J:Unit->ae->Prop},J () f->wpAny (model prog w) A (match b with | true=>rule "set.scan.the-table-gave-way" | false=>pure ()) J E f:=fun b f J r=>by
   cases b <;> first | exact aT r | exact wpAny_rule r
  have H:=layNew_perm t i ((intKind prog w).hash k) (.int k tok);have d:=layNew_fits t i ((intKind prog w).hash k) (.int k tok);have hok:=RL ok i ((intKind prog w).hash k) (.int k tok);generalize hL:layNew t i ((intKind prog w).hash k) (.int k tok)=L at H d hok ⊢;obtain⟨c,t1,_,_⟩:=L
  dsimp only at H d hok ⊢
  rw[Array.toList_push]at H;have M:ElemsOf (intKind prog w) c.toList:=(m.push y B).perm H
  have C:∀ x,(∃ e∈c.toList,(intKind prog w).is x e.2=true)->S x:=fun x z=>by
   have z:=(mem_push_iff (S:=fun k=>i.toList.any fun e=>(intKind prog w).is k e.2) y (fun k=>fi) H x).mpr z;rcases (eP _ _).mp z with z | z
   .exact p x (List.any_eq_true.mp z)
   .rw[ba z];exact hk
  have X:c.size=i.size+1:=by rw[<-e7,H.length_eq,j8,e7];rfl
  have u:c.size<scanBound:=by omega
  refine aS (P _ ?_);have I:∀(g:Array (Int×av))(T:SetTable)(G:Heap)(N:Obj)(Y:Array (Int×av))(v:Nat)(Z:SetTable),G.get? a=some N->N.ExactSet->N.data = .set Y v Z->Heap.SameBut a s.heap G->g.toList.Perm c.toList->T.fits g.size=true->TabOk l T →
    Q true { s with heap:=G.update a (Obj.putSet g T) }:=fun g T G N Y v Z g0 x0 d0 sb W F O=>by
   have hsz2:g.size=c.size:=by rw[<-e7,W.length_eq,e7]
   exact h _ _ (sb.trans (Heap.SameBut.update G a (Obj.putSet g T))) ⟨_,g,v+1,T,rJ g0 d0 g T,x0,rfl,M.perm W,fun x ⟨e,he,z⟩=>C x ⟨e,W.mem_iff.mp he,z⟩,by omega,F,by omega,O⟩
  have both:∀ T:SetTable,T.fits c.size=true->TabOk l T->Q true { s with heap:=s.heap.update a (Obj.putSet c T) } ∧
    Q true { s with heap:=(s.heap.update a (Obj.putSet c T)).update a (Obj.putSet (relayAll T c (SetTable.grown c.size)).1 (relayAll T c (SetTable.grown c.size)).2.1) }:=fun T F O=>
   ⟨I c T s.heap o i ep t D hex hd (Heap.SameBut.refl _ _) (List.Perm.refl _) F O,
    I _ _ _ _ c (ep+1) T (rJ D hd c T) hex rfl (Heap.SameBut.update _ _ _) (relayAll_perm T c _) (relayAll_fits T c _) (J7 O c _)⟩
  split
  .refine aS ?_;rw[hashByValue_scannable 8 B];refine aT ?_;have q:=both t1 d hok;refine wR ?_ D hd u ?_ ?_
   .intro b f J r
    cases b <;> first | exact aT r | exact wpAny_rule r
   .dsimp only
    exact aT q.1
   .dsimp only
    exact aT q.2
  .refine aS (aT ?_);simp only[↓reduceIte];have q:=both t1 d hok;refine wR ?_ D hd u ?_ ?_
   .intro b f J r
    cases b <;> first | exact aT r | exact wpAny_rule r
   .dsimp only
    exact aT q.1
   .dsimp only
    exact aT q.2
theorem Ma(h:IntsAre vs ns):∀(i:Nat)(v:av),vs[i]? = some v->∃ k t,v = .int k t/\k∈ns:=by
 induction h with
 | nil=>intro i v h;cases h
 | cons k t _ I=>
  intro i v h
  cases i with
  | zero=>exact⟨k,t,(kJ h).symm,FZ⟩
  | succ i=>
   obtain⟨a,t',e,m⟩:=I i v h;exact⟨a,t',e,Hr _ m⟩
section
variable{prog:ag}{w:aI}{A:ai}{R:Result->ae->Prop}{I:ar}{fp wr:aw ar}{G:Array GenState->Array GenState->Prop}{n:Nat}{P:Nat->av->Prop}{St:Nat->ae->Prop}
theorem qFI(W:WalksS prog w A.in1 I fp wr G n P St)(S:ar)(H:S∉fp)(M:Int->Prop)(h:∀ i v,P i v->∃ k t,v = .int k t/\M k)(J:n+1<scanBound)(l:Bool):∀(k i:Nat)(s:ae),n-i=k->i<=n->St i s->xX prog w s.heap S M i l →
   (∀ s',Moved (S::wr) G s s'->xX prog w s'.heap S M n l->R (.ok (.ret .none)) s')->codeAny (model prog w) A (.builtin "set.update.loop" ⟨[.ref S,.ref I],[]⟩) R s:=by
 have C:S∉wr:=fun z=>H (W.sub _ z);have more:∀ b∈wr,b∈S::wr:=fun b z=>Hr _ z;intro k
 induction k with
 | zero=>
  intro i s u E st d f
  obtain rfl:i=n:=by omega
  refine codeAny_builtin F.entry_set_update_loop ?_;rw[Around.under_plainId F.plain_set_update_loop _];show wpAny _ A.in1 (pyNext (.ref I) >>= _) _ _ s;refine aS (W.done s _ _ st fun s' c=>?_);exact aT (f s' (c.mono more) (d.keeps fun o e=>c.heap S _ C e))
 | succ k B=>
  intro i s u E st d f
  have lt:i<n:=by omega
  refine codeAny_builtin F.entry_set_update_loop ?_;rw[Around.under_plainId F.plain_set_update_loop _];show wpAny _ A.in1 (pyNext (.ref I) >>= _) _ _ s;refine aS (W.item i s _ _ lt st fun v s' q m c=>?_);obtain⟨x,t,rfl,r⟩:=h i v q;show wpAny _ A.in1 (holding [Value.int x t] (setAdd S (.int x t)) >>= _) _ _ s';refine aS (cq ?_);unfold setAdd;refine cq (aS ((intKind prog w).pyHash (k:=x) (intKind_is _ _ _ _) ?_));refine addQ (s:={ s' with toks:=s'.toks+1 }) (d.keeps fun o e=>c.heap S _ C e) r (by omega) fun _ _ a g=>?_;refine aT ⟨plainId_quiet F.plain_set_update_loop _,B (i+1) _ (by omega) lt (W.frame _ s' _ _ m (ip _) fun b z o e=>?_) g fun D p j=>?_⟩
  .exact (a.2 b fun y=>H (y▸z)).trans e
  .refine f D (Moved.trans W.gtrans ((c.mono more).then_heap (ip _) fun b o z e=>?_) p) j;exact (a.2 b fun y=>z (y▸FZ)).trans e
end
def X3(a:av)(f:Q₁ (.ref s.heap.objs.size) { s with heap:=s.heap.push { cls:=.type "set",dict:=none,data:=.set #[] 0 (.fresh 0 0 (j5 w)) } }) :
  codeAny (model prog w) A (.call (.builtin "set.__new__") ⟨[.type "set",a],[]⟩) (wants Q₁ E) s:=by
 refine codeAny_of_tree ?_;show wpAny _ A.in1 (do checkBuiltinCall "set.__new__" ⟨[.type "set",a],[]⟩;again (.builtin "set.__new__" ⟨[.type "set",a],[]⟩)) _ _ s;refine aS (wpAny_of_eq (PySem.F.newCall_set_1 a) (aT ⟨plainId_quiet PySem.F.plain_set_new _,codeAny_builtin PySem.F.entry_set_new ?_⟩));rw[Around.under_plainId PySem.F.plain_set_new _];unfold Builtin.«set.__new__» Builtin.Frozenset.newClass;have H:=sub_set_self;obtain⟨_,g,d,_,_⟩:=s
 dsimp only;wp_walk;refine wpAny_askSetting (aT ?_);dsimp only;simp only[newObj]
 refine aS (wpAny_alloc (aT ?_));exact aT f
def qKK(prog:ag)(w:aI)(h:Heap)(l:Bool)(M:Int->Prop):xX prog w (h.push { cls:=.type "set",dict:=none,data:=.set #[] 0 (.fresh 0 0 l) }) h.objs.size M 0 l:=
 ⟨_,#[],0,_,Heap.get?_push_size _ rfl,⟨rfl,rfl,rfl⟩,rfl,fun e H=>by simp at H,fun k ⟨e,H,_⟩=>by simp at H,by decide,by rfl,Nat.le_refl _,⟨rfl,rfl,fun _ i k v u _ e=>by simp [SetTable.fresh]at e⟩⟩
theorem X7(Z:A.handled=none)(M:s.heap.IsList p items)(hi:IntsAre items.toList ns)(hb:items.size+1<scanBound)
  (F:∀(h':Heap)(T:Nat),xX prog w h' s.heap.objs.size (· ∈ ns) items.size (j5 w) →
   (∀ b o,b<s.heap.objs.size->s.heap.get? b=some o->h'.get? b=some o)->Q (.ref s.heap.objs.size) { s with heap:=h',toks:=T }):wpAny (model prog w) A (call (.type "set") [.ref p]) Q E s:=by
 obtain⟨c,_,_⟩:=PySem.F.called_set.mro;have f1:=PySem.F.called_set.made;have f2:=PySem.F.called_set.sub;refine wpAny_call (codeAny_of_tree ?_);show wpAny _ _ (callAny (.type "set") _) _ _ _;refine aT ⟨Code.quiet_builtin _ (by decide +kernel),codeAny_builtin PySem.F.entry_type_call ?_⟩;rw[Around.under_plain (weight_type_call_type "set" [.ref p] []) rfl];have f3:=PySem.F.called_set.notType;have f4:=PySem.F.called_set.canCreate;have f5:=PySem.F.typeCall_set_1 (.ref p)
 repeat (any_goals (first | assumption | wp_step))
 refine codeAny_mono (X3 (.ref p) (E:=E) (Q₁:=fun x S=>x = .ref s.heap.objs.size/\S = { s with heap:=s.heap.push { cls:=.type "set",dict:=none,data:=.set #[] 0 (.fresh 0 0 (j5 w)) } }) ⟨rfl,rfl⟩) fun r S C=>?_
 cases r with
 | error e=>exact C
 | ok fl=>
  cases fl with
  | ret x=>
   obtain⟨rfl,rfl⟩:=C;have gS:(s.heap.push { cls:=.type "set",dict:=none,data:=.set #[] 0 (.fresh 0 0 (j5 w)) }).get? s.heap.objs.size=some { cls:=.type "set",dict:=none,data:=.set #[] 0 (.fresh 0 0 (j5 w)) }:=qy s.heap rfl;have Y:Shared.TypeIs { s with heap:=s.heap.push { cls:=.type "set",dict:=none,data:=.set #[] 0 (.fresh 0 0 (j5 w)) } } (.ref s.heap.objs.size) "set" := ⟨_,gS,rfl⟩;have f6:=PySem.F.called_set.init.lookup;have f7:=PySem.F.called_set.init.bind (.ref s.heap.objs.size)
   repeat (any_goals (first | assumption | wp_step))
   refine codeAny_mono (codeAny_call_builtin (R:=wants (fun r a=>r = .none/\∃ h' T,a = { s with heap:=h',toks:=T }/\xX prog w h' s.heap.objs.size (· ∈ ns) items.size (j5 w) ∧
     (∀ b o,b<s.heap.objs.size->s.heap.get? b=some o->h'.get? b=some o)) E) PySem.F.called_set.init.plain PySem.F.entry_set_init (check_set_init_1 Y ?_)) fun j a h=>?_
   .obtain⟨ol,l,m,nl,g⟩:=M;obtain⟨_,d,_,O⟩:=ol;simp only at m g;subst m g;have q:(s.heap.push { cls:=.type "set",dict:=none,data:=.set #[] 0 (.fresh 0 0 (j5 w)) }).get? p=some { cls:=.type "list",dict:=d,data:=.seq items nl,slots:=O }:=fM _ l;have f8:=PySem.F.sub_list_set;have f9:=PySem.F.sub_list_frozenset
    have f0:(Value.type "list" == Value.type "dict")=false:=by decide
    have u:(s.heap.push { cls:=.type "set",dict:=none,data:=.set #[] 0 (.fresh 0 0 (j5 w)) }).IsList p items:=⟨_,q,rfl,nl,rfl⟩;unfold Builtin.«set.__init__» noKeywords Builtin.Frozenset.updateFrom;generalize I:pyIter=PI;wp_walk;subst I;refine wpAny_pyIter_list u (aS (wpAny_runValue ?_));have L:p<s.heap.objs.size:=gQ l
    have U:A.in1.in1.in1.handled=none:=by simp [Z]
    have N:p≠(s.heap.push { cls:=.type "set",dict:=none,data:=.set #[] 0 (.fresh 0 0 (j5 w)) }).objs.size:=by
     rw[eT];exact jQ (iE L)
    have X:s.heap.objs.size∉[(s.heap.push { cls:=.type "set",dict:=none,data:=.set #[] 0 (.fresh 0 0 (j5 w)) }).objs.size,p]:=by
     rw[eT];simp only[List.mem_cons,List.not_mem_nil,or_false,not_or];exact⟨jQ (iF _),iO L⟩
    have n:∀(i:Nat)(v:av),items[i]? = some v->∃ k t,v = .int k t/\k∈ns:=fun i v P=>Ma hi i v (by rw[eC];exact P);refine qFI ((Walks.list U _ p N items).toS) s.heap.objs.size X (· ∈ ns) n hb (j5 w) (items.size-0) 0 _ (by omega) (bo _) ⟨⟨_,qy _ rfl,rfl,rfl⟩,(u.push _)⟩ ?qLN ?hRx
    case qLN=>exact (qKK prog w s.heap (j5 w) _).keeps fun o e=>fM _ e
    case hRx=>
     intro s' y H;obtain⟨h',g',d',z,D⟩:=s';have G:g'=s.gens:=y.gens;have J:d'=s.drawn:=y.drawn;have W:D=s.os:=y.os;subst G J W;show wpAny _ _ _ _ _ _;refine aT ?_;show wpAny _ _ (ret Value.none) _ _ _;refine aT ⟨rfl,h',z,rfl,H,fun b o lt e=>y.heap b o ?_ (fM _ (fM _ e))⟩;simp only[List.mem_cons,List.not_mem_nil,or_false,not_or];exact⟨jQ lt,by rw[eT];exact jQ (iE lt)⟩
   .cases j with
    | error e=>exact h
    | ok f=>
     cases f with
     | ret r=>
      obtain⟨rfl,h',T,rfl,H,B⟩:=h
      repeat (any_goals (first | assumption | wp_step))
      exact F _ _ H B
     | _=>exact h.elim
  | _=>exact C.elim
def Wz(hh:A.handled=none)(hS:xX prog w s.heap a S n (j5 w))(hn:n<=1000)
  (fin:∀(h':Heap)(j:Nat)(d:Drawn)(vs:aw av)(M:aw Int),IntsAre vs M->vs.length<=n->M.length<=n->(∀ k∈M,S k)->(∀ b o,s.heap.get? b=some o->h'.get? b=some o)->Q vs { s with heap:=h',toks:=j,drawn:=d }) :
  wpAny (model prog w) A (collect (.ref a)) Q E s:=by
 obtain⟨o,es,ep,t,ho,hex,hd,hel,p,x,hf,hsz,ok⟩:=hS;have la:a<s.heap.objs.size:=gQ ho;have hs:SAt s.heap a es ep t:=⟨o,ho,hex.1,hd⟩;unfold collect;refine aS (wpAny_runValue (codeAny_builtin F.entry_proto_collect ?_));rw[Around.under_plainId F.plain_proto_collect _];show wpAny _ A.in1 (newList [] >>= fun l=>again (.builtin "list.__iadd__" ⟨[l,.ref a],[]⟩)) _ _ s;refine aS (wpAny_newObj_type ?_);refine aT ⟨plainId_quiet F.plain_list_iadd _,codeAny_builtin F.entry_list_iadd ?_⟩;rw[Around.under_plainId F.plain_list_iadd _];have g0:(s.heap.push { cls:=.type "list",data:=.seq ([]:aw av).toArray }).get? s.heap.objs.size=some { cls:=.type "list",data:=.seq ([]:aw av).toArray }:=qy s.heap rfl
 have other:Builtin.List.listSameRef (.ref s.heap.objs.size) (.ref a)=false:=by simp [Builtin.List.listSameRef];exact iO la
 have g:(s.heap.push { cls:=.type "list",data:=.seq ([]:aw av).toArray }).get? a=some o:=fM _ ho;have hs1:SAt (s.heap.push { cls:=.type "list",data:=.seq ([]:aw av).toArray }) a es ep t:=⟨o,g,hex.1,hd⟩;show wpAny _ A.in1 (Builtin.List.listExtendWith (.ref s.heap.objs.size) (.ref a) (.ref s.heap.objs.size)) _ _ _;unfold Builtin.List.listExtendWith;refine aS (wpAny_typeOf (T := "set") ⟨o,g,hex.1⟩ ?_);rw[cK (by rw[other];decide)];refine aS (ZC hs1 hf ok (by omega) fun I q its m d P N zI zq _ _ _ hp u G=>?_);have ho2:=u _ _ g;have R:=u _ _ g0;have f:Shared.TypeIs { s with heap:=m,drawn:=d } (.ref a) "set" := ⟨o,ho2,hex.1⟩;refine aS (cq ?_);unfold Builtin.List.listLengthHint;refine aS (wpAny_specialOf f qCX ?_)
 (generalize H:("set.__len__" : String)=r;(fail_if_success (clear H r));wp_delta;rw[show splitId r=some ("set","__len__") from by subst H;decide +kernel])
 refine aS (wpAny_isInstance (b:=true) f (by rw[isSubtype_type];kernel_rfl) ?_);subst H;show wpAny _ A.in1 (typeOf (.ref a) >>= _) _ _ _;refine aS (wpAny_typeOf f ?_);refine aT ?_;rw[cS (by decide)];refine aS (wpAny_rule (aS ?_));show wpAny _ A.in1 (updateSeq s.heap.objs.size (·.push .none) >>= fun _=>updateSeq s.heap.objs.size (·.pop)) _ _ _;refine aS (wpAny_updateSeq R rfl ?_);have g3:=cm (Obj.mapSeq (·.push Value.none)) R rfl;refine wpAny_updateSeq g3 rfl ?_;have g4:=cm (Obj.mapSeq (·.pop)) g3 rfl;have lS:s.heap.objs.size<m.objs.size:=gQ R;have Ji:∀ b O,b≠s.heap.objs.size->m.get? b=some O->((m.update s.heap.objs.size (Obj.mapSeq (·.push Value.none))).update s.heap.objs.size (Obj.mapSeq (·.pop))).get? b=some O:=fun b O x e=>(ck _ _ (bE x)).trans ((ck _ _ (bE x)).trans e)
 have Z:s.heap.objs.size<I:=by
  have:(s.heap.push { cls:=.type "list",data:=.seq ([]:aw av).toArray }).objs.size<=I:=zI;rw[eT]at this;exact this
 have zq':q≠s.heap.objs.size:=by
  rcases zq with e | z
  .rw[e];exact jQ la
  .have:(s.heap.push { cls:=.type "list",data:=.seq ([]:aw av).toArray }).objs.size<=q:=z;rw[eT]at this;exact iO this
 have VR:s.heap.objs.size∉[I,a,q]:=by
  simp only[List.mem_cons,List.not_mem_nil,or_false,not_or];exact⟨jQ Z,iO la,bE zq'⟩
 have W:=(Y0 (prog:=prog) (w:=w) (A:=A.in1) (its:=its) (ep:=ep) (by simp [hh]) P N hf).toS
 have L:its.length<=n:=by rw[hp.length_eq,bT,e7];exact hsz
 have st4:=W.frame 0 { s with heap:=m,drawn:=d } ((m.update s.heap.objs.size (Obj.mapSeq (·.push Value.none))).update s.heap.objs.size (Obj.mapSeq (·.pop))) s.toks G (bD _) fun b x O e=>Ji b O (fun z=>VR (z▸x)) e;refine aT ⟨plainId_quiet F.plain_extend_loop _,codeAny_extend_loopS W (by rw[sizeLine_eq];omega) _ VR _ its.length 0 _ _ _ rfl (bo _) st4 g4 (ItemsOf.nil _) fun s' c _ y hS' h=>?_⟩;show wpAny _ A (load s.heap.objs.size >>= _) _ _ s';refine aS (wpAny_load hS' ?_)
 have ea:c.toList=its:=by
  apply ft;intro i
  by_cases hi:i<c.size
  .have e:=h.2 i c[i] (by simp [hi]);rw[e];simp [hi]
  .have h1:=h.1;rw[List.getElem?_eq_none (by simp;omega),fN (by omega)]
 have e1:s'.gens=s.gens:=y.gens;have e2:s'.drawn=d:=y.drawn;have e3:s'.os=s.os:=y.os;obtain⟨h',g',d',B,os'⟩:=s';have D:g'=s.gens:=e1;have e2':d'=d:=e2;have e3':os'=s.os:=e3;subst D e2' e3'
 have C:∀ v∈its,∃ k j,v=Value.int k j:=fun v X=>by
  obtain⟨e,J,rfl⟩:=eX.mp (hp.mem_iff.mp X);obtain⟨⟨k,Y,_⟩,_⟩:=hel e J;obtain⟨j,e5⟩:=Value.isInt_shape (k:=k) (v:=e.2) Y;exact⟨k,j,e5⟩
 obtain⟨M,i1,i2,_⟩:=ints_of its C;refine aT ?_;rw[ea];refine fin h' B d' its M i1 L (by omega) (fun k u=>?_) fun b O e=>?_
 .obtain⟨j,X⟩:=(i2 k).mp u;obtain⟨e,J,e5⟩:=eX.mp (hp.mem_iff.mp X);exact p k ⟨e,J,by rw[e5];exact intKind_is _ _ _ _⟩
 .have U:b<s.heap.objs.size:=gQ e;refine y.heap b O ?_ (Ji b O (jQ U) (u b O (fM _ e)));simp only[List.mem_cons,List.not_mem_nil,or_false,not_or];exact⟨jQ U,jQ (iL U Z)⟩
def YG{n:Nat}{Q:av->ae->Prop}(h:A.handled=none)(t:xX prog w s.heap a S n (j5 w))(q:n<64)
  (f:∀(H h':Heap)(T:Nat)(d:Drawn)(p:ar)(out:Array av)(ns:aw Int)(e:Nat),IntsAre out.toList ns->ns.length<=n->(∀ k∈ns,S k)->H.objs.size<=p->h'.get? p=some (seqObj "list" out e)->(∀ b o,s.heap.get? b=some o->H.get? b=some o)->(∀ b o,H.get? b=some o->h'.get? b=some o)->Q (.ref p) { s with heap:=h',toks:=T,drawn:=d }) :
  wpAny (model prog w) A (call (.builtin "sorted") [.ref a]) Q E s:=by refine Calls.call_function_entry kind_sorted plain_sorted entry_sorted (args_sorted1 _) ?_;unfold Builtin.«sorted»;refine aS (m:=checkCount "sorted" 1 1 _) (aT ?_);refine wpAny_bind (Wz (by first | exact h | simp [h]) t (by omega) fun H T d vs _ I _ L R U=>?_);refine aS (wpAny_newList ?_ (by rw[sizeLine_eq];omega));have g:(H.push (seqObj "list" vs.toArray 0)).get? H.objs.size=some (seqObj "list" vs.toArray 0):=qy _ rfl;refine aS (cq (wpAny_call_entry slot_list_sort ⟨_,g,rfl⟩ entry_list_sort (list_sort_tree (s:={ s with heap:=H.push (seqObj "list" vs.toArray 0),toks:=T,drawn:=d }) g I (by omega) fun out N a1 a2 _=>⟨_,rfl,?_⟩) (args_list_sort _)));obtain⟨e,j⟩:=sortedHeap_at (out:=out) g;refine aT ⟨_,rfl,f H _ T d H.objs.size out N e a1 (by rw[a2.length_eq];exact L) (fun k i=>R k (a2.mem_iff.mp i)) (bD _) j U fun b _ c=>?_⟩;have l:b<H.objs.size:=gQ c;rw[sortedHeap_old (jQ l) (by rw[eT];exact iE l)];exact fM _ c
end Sw
namespace L2
open PySem PySem.Spec PyProof.Rows
def tSQ(K:bV)(t:TA):TE:=fun σ H Q=>t σ H fun vs h => ∃(p:ar)(ns:aw Int),vs=[.ref p]/\aU K h p (ns.map V.int)/\ns.length<=63/\∀(q:ar)(r:aw Int),h q=none->r.length<=ns.length->(∀ k∈r,k∈ns)->Q (.ref q) (upd h q (.lst (r.map V.int)))
def BJ(y:X.calm=true)(hg:Gl X "sorted")(Z:X.mg "sorted" = none)(i:Gl X "set")(g:X.mg "set" = none)(W:PA X [a] t)
  (F:starEach [a] X.env=[(false,eval a X.env)]:=by rfl) (c:starEach [.Call (.Name "set" p2) [a] [] pos2] X.env=[(false,eval (.Call (.Name "set" p2) [a] [] pos2) X.env)]:=by rfl) :
  PE X (.Call (.Name "sorted" p1) [.Call (.Name "set" p2) [a] [] pos2] [] pos) (tSQ X.K t):=by
 intro P s σ H Q I h;refine wpAny_Call_Name_kw (jm I hg Z kg ?_);refine ki ?_ c rfl;rw[c];show wpAny _ _ (spliced ((false,eval (.Call (.Name "set" p2) [a] [] pos2) X.env)::[])) _ _ s;refine Calls.spliced_cons ?_;refine wpAny_Call_Name_kw (jm I i g PyProof.Rows.boot_set ?_);refine kn (bH (W pos2 P s σ H _ I h) fun _ l ⟨_,v,j,G,Y⟩=>?_) F rfl;obtain⟨p,ns,rfl,U,_,q⟩:=Y;obtain⟨u,rfl,R⟩:=vals1 G
 cases R
 obtain⟨its,O,pl,_⟩:=j.list U;have z:IntsAre its.toArray.toList ns:=intsAre_of O
 have m:its.toArray.size=ns.length:=by
  have:=z.length
  simpa using this
 refine Sw.X7 (j.ok.hd y) pl.isList z (by rw[m];show ns.length+1<4096;omega) fun D f S N=>Calls.spliced_nil ?_;rw[m]at S;have n:Inv X P σ v { l with heap:=D,toks:=f }:=j.kept fun b o e=>N b o (gQ e) e;refine Sw.YG (n.ok.hd y) S (by omega) fun w A T d p' out r e M E C x B i6 L=>?_;have J:Inv X P σ v { l with heap:=w,toks:=T,drawn:=d }:=(n.kept (h':=w) (t':=T) i6).drew
 have k:A.get? p'=some { cls:=.type "list",data:=.seq out.toList.toArray e }:=by
  rw[B]
 exact⟨.ref p',_,J.laid (h':=A) (t':=T) (o:=.lst (r.map V.int)) L x ⟨by rw[bT];exact zJ (by omega),out.toList,e,jK M,k⟩,rfl,q p' r (J.hok.fresh x) E C⟩
end L2
namespace lN
open PySem L2
inductive Gd where
 | yes
 | is (b n:Int)
 | under (b n:Int)
 | inn (r:Int)
 | neg (g:Gd)
 | both (g h:Gd)
 | either (g h:Gd)
def Gd.ht:Gd->Nat
 | .yes=>1
 | .is _ _=>1
 | .under _ _=>1
 | .inn _=>1
 | .neg g=>g.ht+1
 | .both g h=>1+max g.ht h.ht
 | .either g h=>1+max g.ht h.ht
theorem Gd.Vv:∀ g:Gd,1<=g.ht
 | .yes=>bD _
 | .is _ _=>bD _
 | .under _ _=>bD _
 | .inn _=>bD _
 | .neg _=>iX (bo _)
 | .both _ _=>Nat.le_add_right _ _
 | .either _ _=>Nat.le_add_right _ _
def at0(bx:aw Int)(b:Int):Int:=bx.getD b.toNat 0
noncomputable def Gd.holds(o bx:aw Int):Gd->Bool
 | .yes=>true
 | .is b n=>decide (V.int (at0 bx b)=V.int n)
 | .under b n=>decide (at0 bx b<n)
 | .inn r=>inV (.int r) (o.map V.int)
 | .neg g => !(g.holds o bx)
 | .both g h=>g.holds o bx&&h.holds o bx
 | .either g h=>g.holds o bx||h.holds o bx
def Gd.ok(N:Nat):Gd->Prop
 | .yes=>True
 | .is b _=>0<=b/\b<(N:Int)
 | .under b _=>0<=b/\b<(N:Int)
 | .inn _=>True
 | .neg g=>g.ok N
 | .both g h=>g.ok N/\h.ok N
 | .either g h=>g.ok N/\h.ok N
def aB(H h:Hp):Prop:=∀ b xs,H b=some (.tup xs)->h b=some (.tup xs)
def aB.trans(a:aB H H1)(b:aB H1 H2):aB H H2:=fun c xs h=>b c xs (a c xs h)
def aB.of(s:aH H H'):aB H H':=fun b _ h=>s b _ h
def aB.lst(h:H p=some (.lst xs))(o:HO):aB H (upd H p o):=fun b _ e=>by
 rw[zR (gU e h (by intro z;cases z))];exact e
def aB.new(h:H p=none)(o:HO):aB H (upd H p o):=.of (zF h o)
def bW(h:H p=none)(s:aH H H')(o:HO):aH H (upd H' p o):=fun b u e=>by
 rw[zR (zN e h)];exact s b u e
inductive jH(H:Hp):V->Gd->Prop where
 | yes {a:Addr}:H a=some (.tup [.str "yes"])->jH H (.ref a) .yes
 | is {a:Addr} {b n:Int}:H a=some (.tup [.str "is",.int b,.int n])->jH H (.ref a) (.is b n)
 | under {a:Addr} {b n:Int}:H a=some (.tup [.str "under",.int b,.int n])->jH H (.ref a) (.under b n)
 | inn {a:Addr} {r:Int}:H a=some (.tup [.str "in",.int r])->jH H (.ref a) (.inn r)
 | neg {a:Addr} {v:V} {g:Gd}:H a=some (.tup [.str "not",v])->jH H v g->jH H (.ref a) (.neg g)
 | both {a:Addr} {v u:V} {g h:Gd}:H a=some (.tup [.str "both",v,u])->jH H v g->jH H u h->jH H (.ref a) (.both g h)
 | either {a:Addr} {v u:V} {g h:Gd}:H a=some (.tup [.str "either",v,u])->jH H v g->jH H u h->jH H (.ref a) (.either g h)
theorem jH.mono(x:jH H v g)(k:aB H H'):jH H' v g:=by
 induction x with
 | yes e=>exact .yes (k _ _ e)
 | is e=>exact .is (k _ _ e)
 | under e=>exact .under (k _ _ e)
 | inn e=>exact .inn (k _ _ e)
 | neg e _ i=>exact .neg (k _ _ e) i
 | both e _ _ i j=>exact .both (k _ _ e) i j
 | either e _ _ i j=>exact .either (k _ _ e) i j
def yO{x y:Str}{A B:Prop}(h:¬ x=y)(b:B):if decide (V.str x=V.str y)=true then A else B:=by
 rw[cK]
 .exact b
 .intro z;have a:=ba z;injection a with Z;exact h Z
def yP{x:Str}{A B:Prop}(a:A):if decide (V.str x=V.str x)=true then A else B:=by rw[cS (bq rfl)];exact a
def Bv{bx:aw Int}{b:Int}(d:0<=b)(H:b<(bx.length:Int)):mX (bx.map V.int) b=some (.int (at0 bx b)):=by
 have k:b.toNat<bx.length:=by lia
 have e:(bx.map V.int)[b.toNat]? = some (.int (at0 bx b)):=by
  rw[dZ,fQ k];unfold at0;rw[jT,fQ k];rfl
 have q:=yR e;rw[fe d]at q;exact q
def w5(o:aw Int):(o.map V.int).all oR=true:=by rw[ff];intro x h;obtain⟨n,_,rfl⟩:=eX.mp h;rfl
def Gd.lv:Gd->Nat
 | .neg g=>g.lv
 | .both g h=>g.lv+h.lv
 | .either g h=>g.lv+h.lv
 | _=>1
def Gd.inner:Gd->aw Gd
 | .neg g=>[g]
 | .both g h=>[g,h]
 | .either g h=>[g,h]
 | _=>[]
noncomputable def Gd.oX:Gd->aw Int
 | .is b _=>[b]
 | .under b _=>[b]
 | .neg g=>g.oX
 | .both g h=>g.oX++h.oX
 | .either g h=>g.oX++h.oX
 | _=>[]
def Gd.rms:Gd->aw Int
 | .inn r=>[r]
 | .neg g=>g.rms
 | .both g h=>g.rms++h.rms
 | .either g h=>g.rms++h.rms
 | _=>[]
def Gd.fit(g:Gd):Prop:=(∀ n∈g.oX,-1<=n/\n<((62:Nat):Int))/\∀ n∈g.rms,-1<=n/\n<((62:Nat):Int)
inductive Q5(H:Hp):List V->List Gd->Prop where
 | nil:Q5 H [] []
 | cons {v:V} {g:Gd} {vs:List V} {gs:List Gd}:jH H v g->Q5 H vs gs->Q5 H (v::vs) (g::gs)
end lN
namespace vB
open PySem L2 lN
structure Rm where
 nm:Str
 kind:Str
 depth:Int
 keeps:Str
 jn:Str
 ins:V
 outs:V
def XS(H:Hp)(v:V)(r:Rm):Prop:=∃ a:ar,v = .ref a/\H a=some (.tup [.str r.nm,.str r.kind,.int r.depth,.str r.keeps,.str r.jn,r.ins,r.outs])
inductive lB(H:Hp):List V->List Rm->Prop where
 | nil:lB H [] []
 | cons {v:V} {r:Rm} {vs:List V} {rs:List Rm}:XS H v r->lB H vs rs->lB H (v::vs) (r::rs)
def XS.mono(x:XS H v r)(k:aB H H'):XS H' v r:=by obtain⟨a,e,h⟩:=x;exact⟨a,e,k _ _ h⟩
theorem lB.mono(x:lB H vs rs)(k:aB H H'):lB H' vs rs:=by
 induction x with
 | nil=>exact .nil
 | cons h _ i=>exact .cons (h.mono k) i
theorem lB.length(x:lB H vs rs):vs.length=rs.length:=by
 induction x with
 | nil=>rfl
 | cons _ _ i=>rw[dG,dG,i]
theorem lB.get(x:lB H vs rs):∀ {k:Nat} {r:Rm},rs[k]? = some r->∃ v,vs[k]? = some v/\XS H v r:=by
 induction x with
 | nil=>intro k r h;simp at h
 | cons h _ i=>
  intro k r e
  cases k with
  | zero=>
   simp at e;subst e;exact⟨_,rfl,h⟩
  | succ k=>exact i (by simpa using e)
def dW(H:Hp)(t:ar)(r:aw Rm):Prop:=∃ vs,H t=some (.tup vs)/\lB H vs r
def dW.mono(x:dW H t rs)(k:aB H H'):dW H' t rs:=by obtain⟨vs,h,r⟩:=x;exact⟨vs,k _ _ h,r.mono k⟩
def aD(r:aw Rm):aw Int:=r.map (·.depth)
def yW(r:aw Rm):(aD r).length=r.length:=bT _
def jO(h:rs[k]? = some r):(aD rs).getD k 0=r.depth:=by unfold aD;rw[jT,dZ,h];rfl
def dW.at(x:dW H t rs)(h:k<rs.length):∃ vs a r,H t=some (.tup vs)/\vs.length=rs.length/\rs[k]? = some r/\mX vs ((k:Nat):Int)=some (.ref a)/\H a=some (.tup [.str r.nm,.str r.kind,.int r.depth,.str r.keeps,.str r.jn,r.ins,r.outs]):=by obtain⟨vs,c,g⟩:=x;have e:=fQ h;obtain⟨v,b,a,rfl,l⟩:=g.get e;exact⟨vs,a,rs[k],c,g.length,e,yR b,l⟩
def Fit(R:aw Rm):Prop:=∀(k:Nat)(r:Rm),R[k]? = some r->if k+1<R.length/\(aD R).getD k 0<(aD R).getD (k+1) 0 then (r.kind = "one" ∨ r.kind = "all") else r.kind = "plain"
end vB
namespace xM
open PySem L2 lN
inductive Dd where
 | say (w:Str)
 | set (b n:Int)
 | add (b n:Int)
 | send (e:Int)
inductive sO(H:Hp):V->Dd->Prop where
 | say {a:Addr} {w:Str}:H a=some (.tup [.str "say",.str w])->sO H (.ref a) (.say w)
 | set {a:Addr} {b n:Int}:H a=some (.tup [.str "set",.int b,.int n])->sO H (.ref a) (.set b n)
 | add {a:Addr} {b n:Int}:H a=some (.tup [.str "add",.int b,.int n])->sO H (.ref a) (.add b n)
 | send {a:Addr} {e:Int}:H a=some (.tup [.str "send",.int e])->sO H (.ref a) (.send e)
theorem sO.mono(x:sO H v d)(k:aB H H'):sO H' v d:=by
 cases x with
 | say e=>exact .say (k _ _ e)
 | set e=>exact .set (k _ _ e)
 | add e=>exact .add (k _ _ e)
 | send e=>exact .send (k _ _ e)
noncomputable def Dd.upd(sz bx:aw Int):Dd->aw Int
 | .set b n=>bx.set b.toNat n
 | .add b n=>bx.set b.toNat ((at0 bx b+n)%at0 sz b)
 | _=>bx
def Dd.box:Dd->aE Int
 | .set b _=>some b
 | .add b _=>some b
 | _=>none
def Dd.ok(N:Nat)(d:Dd):Prop:=∀ b,d.box=some b->0<=b/\b<(N:Int)
def Dd.NT(sz bx:aw Int)(d:Dd):(d.upd sz bx).length=bx.length:=by cases d <;> simp [Dd.upd]
def Zw(d:0<=b)(H:b<(xs.length:Int)):at0 xs b∈xs:=by
 unfold at0
 have k:b.toNat<xs.length:=by lia
 rw[jT,fQ k];exact lQ k
inductive Dm(vs:List V)(H:Hp)(Q:VK)(E_:XK):Prop
 | mk (vd tb ts d bx sz) (_:vs=[vd,.ref tb,.ref ts]) (_:sO H vd d) (_:H tb=some (.tup (bx.map V.int))) (_:H ts=some (.tup (sz.map V.int))) (_:d.ok bx.length) (_:bx.length=sz.length) (_:bx.length<=6) (_:(∀ z∈sz,0<z)) (_:∀ t H',aH H H'->H' t=some (.tup ((d.upd sz bx).map V.int))->Q (.ref t) H')
end xM
namespace Q3
open PySem L2 lN
abbrev LA:=Hp->ar->aw ar->Nat->aw Int->Prop
structure qJB(C:Addr)(L:LA):Prop where
 keep:∀ {H H':Hp} {p:Addr} {fp:List Addr} {m:Nat} {l:List Int},L H p fp m l->(∀ b∈fp,∀ o,H b=some o->H' b=some o)->L H' p fp m l
 there:∀ {H:Hp} {p:Addr} {fp:List Addr} {m:Nat} {l:List Int},L H p fp m l->∀ b∈fp,H b≠none
 obj:∀ {H:Hp} {p:Addr} {fp:List Addr} {m:Nat} {l:List Int},L H p fp m l->∃ dx fs,H p=some (.ins C dx fs)/\fs.lookup ("add" : Str)=none/\fs.lookup ("taken" : Str)=none/\fs.lookup ("waiting" : Str)=none
structure bc(H H':Hp)(fp fp':List Addr):Prop where
 own:∀ b∈fp',b∈fp∨H b=none
 rest:∀ b o,H b=some o->b∉fp->H' b=some o
def added(m:Nat)(l:aw Int)(e:Int):aw Int:=if l.length<m then l++[e] else l
def S6(h:l.length<=m):(added m l e).length<=m:=by
 unfold added
 split
 .rw[j8,vG];lia
 .exact h
def first:aw Int->V
 | []=>.non
 | e::_=>.int e
inductive Kv(C:Addr)(L:LA)(vs:List V)(H:Hp)(Q:VK)(E_:XK):Prop
 | mk (p dx:Addr) (m:Nat) (_:vs=[.ref p,.int (m:Int)]) (_:H p=some (.ins C dx [])) (_:m<=12) (_:∀(fp:List Addr)(H':Hp),L H' p fp m []->(∀ b∈fp,b=p∨H b=none)->(∀ b o,H b=some o->b≠p->H' b=some o)->Q .non H')
inductive qAG(L:LA)(vs:List V)(H:Hp)(Q:VK)(E_:XK):Prop
 | mk (p fp m l e) (_:vs=[.ref p,.int e]) (_:L H p fp m l) (_:l.length<=m) (_:m<=12) (_:∀ fp' H',L H' p fp' m (added m l e)->bc H H' fp fp'->Q (.bl (decide (l.length<m))) H')
inductive Ng(L:LA)(vs:List V)(H:Hp)(Q:VK)(E_:XK):Prop
 | mk (p fp m l) (_:vs=[.ref p]) (_:L H p fp m l) (_:l.length<=m) (_:m<=12) (_:∀ fp' H',L H' p fp' m l.tail->bc H H' fp fp'->Q (first l) H')
inductive Di(L:LA)(vs:List V)(H:Hp)(Q:VK)(E_:XK):Prop
 | mk (p fp m l) (_:vs=[.ref p]) (_:L H p fp m l) (_:l.length<=m) (_:m<=12) (_:∀ q fp' H',L H' p fp' m l->bc H H' fp fp'->H q=none->q∉fp'->H' q=some (.lst (l.map V.int))->Q (.ref q) H')
end Q3
namespace xM
open PySem L2 lN Q3
inductive Rc where
 | say (w:Str)
 | put (b v:Int)
 | send (e:Int)
 | lost (e:Int)
noncomputable def Rc.row:Rc->aw V
 | .say w=>[.str "say",.str w]
 | .put b v=>[.str "put",.int b,.int v]
 | .send e=>[.str "send",.int e]
 | .lost e=>[.str "lost",.int e]
inductive ju(H:Hp):List V->List Rc->Prop where
 | nil:ju H [] []
 | cons {a:Addr} {r:Rc} {vs:List V} {rs:List Rc}:H a=some (.tup r.row)->ju H vs rs->ju H (.ref a::vs) (r::rs)
theorem ju.mono(x:ju H vs rs)(k:aB H H'):ju H' vs rs:=by
 induction x with
 | nil=>exact .nil
 | cons h _ i=>exact .cons (k _ _ h) i
theorem ju.length(x:ju H vs rs):vs.length=rs.length:=by
 induction x with
 | nil=>rfl
 | cons _ _ i=>rw[dG,dG,i]
theorem ju.snoc(x:ju H vs rs)(y:H a=some (.tup r.row)):ju H (vs++[.ref a]) (rs++[r]):=by
 induction x with
 | nil=>exact .cons y .nil
 | cons h _ i=>exact .cons h i
inductive il(H:Hp):List V->List Dd->Prop where
 | nil:il H [] []
 | cons {v:V} {d:Dd} {vs:List V} {ds:List Dd}:sO H v d->il H vs ds->il H (v::vs) (d::ds)
theorem il.mono(x:il H vs ds)(k:aB H H'):il H' vs ds:=by
 induction x with
 | nil=>exact .nil
 | cons h _ i=>exact .cons (h.mono k) i
theorem il.length(x:il H vs ds):vs.length=ds.length:=by
 induction x with
 | nil=>rfl
 | cons _ _ i=>rw[dG,dG,i]
theorem il.snoc(x:il H vs ds)(y:sO H v d):il H (vs++[v]) (ds++[d]):=by
 induction x with
 | nil=>exact .cons y .nil
 | cons h _ i=>exact .cons h i
theorem il.get(x:il H vs ds):∀ {k:Nat} {v:V},vs[k]? = some v->∃ d,ds[k]? = some d/\sO H v d:=by
 induction x with
 | nil=>intro k v h;simp at h
 | cons h _ i=>
  intro k v e
  cases k with
  | zero=>
   simp at e;subst e;exact⟨_,rfl,h⟩
  | succ k=>exact i (by simpa using e)
def Dd.lin(m:Nat)(l:aw Int):Dd->aw Int
 | .send e=>added m l e
 | _=>l
noncomputable def Dd.rc(sz:aw Int)(m:Nat)(bx l:aw Int):Dd->Rc
 | .say w=>.say w
 | .set b n=>.put b (at0 ((Dd.set b n).upd sz bx) b)
 | .add b n=>.put b (at0 ((Dd.add b n).upd sz bx) b)
 | .send e=>if l.length<m then .send e else .lost e
def Ao(sz:aw Int):aw Dd->aw Int->aw Int
 | [],bx=>bx
 | d::D,bx=>Ao sz D (d.upd sz bx)
def Cg(m:Nat):aw Dd->aw Int->aw Int
 | [],l=>l
 | d::D,l=>Cg m D (d.lin m l)
noncomputable def xP(sz:aw Int)(m:Nat):aw Dd->aw Int->aw Int->aw Rc
 | [],_,_=>[]
 | d::D,bx,l=>d.rc sz m bx l::xP sz m D (d.upd sz bx) (d.lin m l)
theorem Dw(sz:aw Int)(d:Dd):∀ D bx,Ao sz (D++[d]) bx=d.upd sz (Ao sz D bx)
 | [],bx=>rfl
 | x::D,bx=>Dw sz d D _
theorem Dv(m:Nat)(d:Dd):∀ D l,Cg m (D++[d]) l=d.lin m (Cg m D l)
 | [],l=>rfl
 | x::D,l=>Dv m d D _
theorem Du(sz:aw Int)(m:Nat)(d:Dd):∀ D bx l,xP sz m (D++[d]) bx l=xP sz m D bx l++[d.rc sz m (Ao sz D bx) (Cg m D l)]
 | [],bx,l=>rfl
 | x::D,bx,l=>by
  show _::xP sz m (D++[d]) _ _=_::(xP sz m D _ _++_);rw[Du sz m d D];rfl
theorem An(sz:aw Int):∀ D bx,(Ao sz D bx).length=bx.length
 | [],bx=>rfl
 | d::D,bx=>by
  show (Ao sz D (d.upd sz bx)).length=_;rw[An sz D,d.NT]
theorem Am:∀ D l,l.length<=m->(Cg m D l).length<=m
 | [],l,h=>h
 | d::D,l,h=>by
  refine Am D _ ?_
  cases d with
  | send e=>exact S6 h
  | _=>exact h
theorem uG(sz:aw Int)(m:Nat):∀ D bx l,(xP sz m D bx l).length=D.length
 | [],_,_=>rfl
 | d::D,bx,l=>by
  show (xP sz m D _ _).length+1=D.length+1;rw[uG sz m D]
def Bm(f:aw ar)(H:Hp):Hp:=fun b=>if b∈f then none else H b
def qe(h:Bm fp H b=some o):H b=some o/\b∉fp:=by
 unfold Bm at h
 split at h
 .cases h
 .exact⟨h,by assumption⟩
def ud(h:H b=some o)(n:b∉fp):Bm fp H b=some o:=by unfold Bm;rw[cK n];exact h
def Pg(h:b∈fp):Bm fp H b=none:=by unfold Bm;rw[cS h]
inductive Tp(L:LA)(vs:List V)(H:Hp)(Q:VK)(E_:XK):Prop
 | mk (td tb ts p ds bx sz l dv fp m G) (_:vs=[.ref td,.ref tb,.ref ts,.ref p]) (_:aH G H) (_:(∀ b∈fp,G b=none)) (_:G td=some (.tup dv)) (_:il G dv ds) (_:G tb=some (.tup (bx.map V.int))) (_:G ts=some (.tup (sz.map V.int))) (_:L H p fp m l) (_:(∀ d∈ds,d.ok bx.length)) (_:ds.length<=8) (_:bx.length=sz.length) (_:bx.length<=6) (_:(∀ z∈sz,0<z)) (_:l.length<=m) (_:m<=12) (_:∀ t tb' pr rv fp' H',L H' p fp' m (Cg m ds l)->bc H H' fp fp'->H' t=some (.tup [.ref tb',.ref pr])->H' tb'=some (.tup ((Ao sz ds bx).map V.int))->tb'∉fp'->H' pr=some (.lst rv)->H pr=none->ju H' rv (xP sz m ds bx l)->Q (.ref t) H')
end xM
namespace L2
open PySem
def qEW(d:PE X (.UnaryOp o e p) te)(g:PA X es t):PA X (.UnaryOp o e p::es) (TQ te t):=zA d g rfl
def qKB(d:PE X (.BinOp a o b p) te)(g:PA X es t):PA X (.BinOp a o b p::es) (TQ te t):=zA d g rfl
end L2
namespace L2
open PySem PySem.Spec PyProof.Rows
def qE7(p p':Int->Int->Bool)(t T c:TE):TE:=fun σ H Q=>t σ H fun x b=>T σ b fun y a => ∃ i j k,x = .int i/\y = .int j/\c σ a (fun z h=>z = .int k/\h=a)/\Q (.bl (p i j&&p' j k)) a
theorem rR(Y:lJ X (compareOp O) (Le fun i j=>.bl (p i j)))(f:lJ X (compareOp o) (Le fun i j=>.bl (p' i j)))(Z:PE X a t)(hb:PE X b G)(U:PE X c W)
  (hm:lastMarks [O,o] [b,c]=false:=by with_unfolding_all rfl):PE X (.Compare a [O,o] [b,c] M) (qE7 p p' t G W):=by
 intro P s σ H Q I h;refine Compare_chain (bH (Z P s σ H _ I h) fun v S ⟨x,D,I1,J,q1⟩=>chain_link (bH (hb P S σ D _ I1 q1) fun u s2 ⟨y,m,C,R,F⟩=>?_)) hm;obtain⟨i,j,k,rfl,rfl,T,q⟩:=F;refine bH (Y P s2 σ m _ _ v u (fun z l=>z = .bl (p i j)/\l=m) C J R ⟨i,j,rfl,rfl,rfl,rfl⟩) fun d s3 ⟨z,l,g,n,N,E⟩=>?_;subst N E
 cases n
 refine wpAny_truthy_bool ?_
 cases e:p i j with
 | false=>
  rw[e,eL]at q;exact ite_ff ⟨.bl false,_,g,rfl,q⟩
 | true=>
  rw[e,eR]at q
  exact ite_tt (chain_last (bH (U P s3 σ _ _ g T) fun w' B ⟨_,_,A,r,L,w⟩=>by
   subst L w
   exact f P B σ _ _ _ u w' Q A R r ⟨j,k,rfl,rfl,q⟩))
theorem Av(ho:lJ X (compareOp O) (Le fun i j=>.bl (p i j)))(f:lJ X (compareOp o) (Le fun i j=>.bl (p' i j)))(ha:PE X a t)(hb:PE X b M)(hc:PE X c tc)
  (hm:lastMarks [O,o] [b,c]=false:=by with_unfolding_all rfl):PT X (.Compare a [O,o] [b,c] W) (qAA (qE7 p p' t M tc)):=by
 intro P s σ H Q I h;refine isTrue_chain (bH (ha P s σ H _ I h) fun v S ⟨x,J,I1,N,q1⟩=>test_link (bH (hb P S σ J _ I1 q1) fun u s2 ⟨y,n,G,R,L⟩=>?_)) hm;obtain⟨i,j,k,rfl,rfl,T,_,ek,q⟩:=L
 cases ek
 refine bH (ho P s2 σ n _ _ v u (fun z m=>z = .bl (p i j)/\m=n) G N R ⟨i,j,rfl,rfl,rfl,rfl⟩) fun d s3 ⟨z,m,l,B,Z,E⟩=>?_;subst Z E
 cases B
 refine wpAny_truthy_bool ?_
 cases e:p i j with
 | false=>
  rw[e,eL]at q;exact ite_ff ⟨_,l,q⟩
 | true=>
  rw[e,eR]at q;refine ite_tt (test_last (bH (hc P s3 σ _ _ l T) fun w' F ⟨_,Y,C,r,U,A⟩=>?_));subst U A;refine bH (f P F σ _ _ _ u w' (fun z g=>z = .bl (p' j k)/\g=Y) C R r ⟨j,k,rfl,rfl,rfl,rfl⟩) fun _ _ ⟨_,g,I5,w,e5,D⟩=>?_;subst e5 D
  cases w
  exact wpAny_truthy_bool ⟨_,I5,q⟩
theorem fO{c:Bool}{A B:Prop}(H:c=true->A)(l:c=false->B):if c=true then A else B:=by
 cases c with
 | true=>
  rw[cS rfl];exact H rfl
 | false=>
  rw[cK rA];exact l rfl
def ZF(z:Str)(zs:aw Str):inV (.str z) (zs.map V.str)=zs.contains z:=by
 unfold inV;rw[fk,List.contains_eq_any_beq];congr 1
 funext y
 rw[eK];exact⟨fun h=>by rw[eq_of_beq h];exact dE z,fun h=>by rw[eq_of_beq h];exact dE y⟩
def QH(zs:aw Str):(zs.map V.str).all oR=true:=by rw[ff];intro x h;obtain⟨n,_,rfl⟩:=eX.mp h;rfl
def aH.qK1{K:bV}{H b:Hp}{a:ar}{xs:aw V}(e:aH H b)(h:aJ K H a xs):aJ K b a xs:=by
 rcases h with (h | ⟨o,h⟩) | h
 .exact .inl (.inl (e _ _ h))
 .exact .inl (.inr ⟨o,e _ _ h⟩)
 .exact .inr h
def vW:fillsNumberSlot (.type "tuple") "mul" = pure false:=
 PySem.fillsNumberSlot_seq F.slot_tuple_mul.lookup (by decide +kernel) F.slot_tuple_rmul.lookup (by decide +kernel)
def GF:seqRepeat? (.type "tuple")=pure (some (.builtin "tuple.__mul__")):=by unfold seqRepeat?;rw[PySem.seqSlot_of (T := "tuple") (name := "__mul__") (id := "tuple.__mul__") F.slot_tuple_mul.lookup (by decide +kernel),PySem.seqSlot_of (T := "tuple") (name := "__rmul__") (id := "tuple.__rmul__") F.slot_tuple_rmul.lookup (by decide +kernel)];rfl
def Lb(a:Int)(t:Tok)(l:ar)(items:Array av)(n:Nat)(D:aE ar)(S:Array (aE av)) :
  Meets (Builtin.«int.__rmul__» ⟨[.int a t,.ref l],[]⟩) (fun _ R s=>s.heap.get? l=some { cls:=.type "tuple",dict:=D,data:=.seq items n,slots:=S }/\R (.ok (.ret Value.notImplemented)) s):=
 .of_wp fun _ w A R s h=>by obtain⟨_,g,d,_,_⟩:=s;obtain⟨_,h⟩:=h;wp_walk;exact⟨_,rfl,h⟩
def TF(l:ar)(items:Array av)(n:Nat)(D:aE ar)(S:Array (aE av))(x:Int)(u:Tok)(H:x=1) :
  Meets (Builtin.«tuple.__mul__» ⟨[.ref l,.int x u],[]⟩) (fun _ R s=>s.heap.get? l=some { cls:=.type "tuple",dict:=D,data:=.seq items n,slots:=S }/\R (.ok (.ret (Value.ref l))) { s with heap:=s.heap,toks:=s.toks }):=
 .of_wp fun _ w A R s h=>by
  subst H;obtain⟨_,g,d,_,_⟩:=s;obtain⟨a,h⟩:=h;have m:=AutoSeq1.idx_int
  wp_walk using wpAny_loadPart' a
  exact⟨_,rfl,h⟩
def T9(l:ar)(items:Array av)(n:Nat)(D:aE ar)(S:Array (aE av))(x:Int)(u:Tok)(o:2<=x)(f:¬ items.isEmpty=true)(j:items.size*x<=(sizeLine:Int))(p:((List.replicate x.toNat items).foldl (· ++ ·) #[]).size<=sizeLine) :
  Meets (Builtin.«tuple.__mul__» ⟨[.ref l,.int x u],[]⟩) (fun _ R s=>s.heap.get? l=some { cls:=.type "tuple",dict:=D,data:=.seq items n,slots:=S }/\R (.ok (.ret (Value.ref s.heap.objs.size))) { s with heap:=s.heap.push { cls:=Value.type "tuple",data:=Data.seq ((List.replicate x.toNat items).foldl (· ++ ·) #[]) },toks:=s.toks }):=
 .of_wp fun _ w A R s h=>by
  obtain⟨_,g,d,_,_⟩:=s;obtain⟨a,h⟩:=h;have F:=AutoSeq1.idx_int
  have H:1<=items.size:=by
   refine Nat.pos_of_ne_zero fun z=>f ?_;rw[Array.isEmpty_iff];exact Array.eq_empty_of_size_eq_zero z
  have b:x<=(sizeLine:Int):=by
   have:(1:Int)*x<=items.size*x:=Int.mul_le_mul_of_nonneg_right (by lia) (by lia);lia
  have k:(sizeLine:Int)<2 ^ 62:=by decide
  have m:¬ (decide (x < -(2 ^ 63))||decide (x≥2 ^ 63))=true:=by
   rw[bp (by lia),bp (by lia)];decide
  have e:¬ (items.isEmpty||x==1)=true:=by
   intro z;rcases Bool.or_eq_true_iff.mp z with z | z
   .exact f z
   .have:=eq_of_beq z;lia
  have C:¬ (decide (x<=0)||items.isEmpty)=true:=by
   intro z;rcases Bool.or_eq_true_iff.mp z with z | z
   .have:=ba z;lia
   .exact f z
  have E:(sizeLine:Int)<(2 ^ 63-1)/8:=by decide
  have c:¬ ((items.size:Int)*x>(2 ^ 63-1)/8):=by lia
  have i:¬ Builtin.Tuple.tupleTooMany ((items.size:Int)*x)=true:=by
   unfold Builtin.Tuple.tupleTooMany;intro z;have:=ba z;lia
  wp_walk using wpAny_loadPart' a
  refine wpAny_ite_false (bp m) ?_
  wp_walk using wpAny_loadPart' a
  refine wpAny_ite_false (bp e) ?_
  wp_walk using wpAny_loadPart' a
  refine wpAny_ite_false (bp C) ?_
  wp_walk using wpAny_loadPart' a
  refine wpAny_ite_false (bp c) ?_
  wp_walk using wpAny_loadPart' a
  exact⟨_,rfl,h⟩
def qEQ(K:bV):R2:=fun x y H Q => ∃ a k xs,x = .ref a/\y = .int k/\aJ K H a xs/\xs≠[]/\1<=k/\xs.length*k<=(sizeLine:Int)/\(k=1->Q (.ref a) H)/\(2<=k->∀ p,H p=none->Q (.ref p) (upd H p (.tup (List.replicate k.toNat xs).flatten)))
def Yr:lJ X (binaryOp .Mult) (qEQ X.K):=by
 intro _ s σ H x y v u Q I R B h;obtain⟨a,k,xs,rfl,rfl,E,c,_,G,J,A⟩:=h
 cases R
 obtain⟨t,rfl⟩:=B;obtain⟨its,r,p,_⟩:=I.tuple E;have g:=r.length;have i:its≠[]:=fun z=>c (r.uM.mp z);obtain⟨⟨_,D,_,S⟩,o,j,n,hd⟩:=id p;simp only at j hd;subst j hd
 have f0:∀ m:Nat,List.foldl (fun C w=>C++w) #[] (List.replicate m its.toArray)=(List.replicate m its).flatten.toArray:=fun m=>by
  have:=foldl_rep its m [];rw[List.nil_append]at this;exact this
 have l:(List.replicate k.toNat xs).flatten.length<=sizeLine:=by
  rw[len_rep]
  have e:((k.toNat*xs.length:Nat):Int)=xs.length*k:=by
   rw[Int.natCast_mul,fe (by lia),Int.mul_comm]
  lia
 refine wpAny_binaryOp_repeat_ref (by decide) ⟨_,o,rfl⟩ (fun s'=>typeIs_int s' k t) vW F.fills_int_mul F.slot_int_rmul GF F.slot_int_index.lookup
  (call_meets F.slot_int_rmul (typeIs_int s k t) F.entry_int_rmul (F.args_int_rmul_2 _ _) (Lb k t a its.toArray n D S) ⟨o,rfl,⟨_,o,rfl⟩,?_⟩)
 by_cases f:k=1
 .exact call_meets F.slot_tuple_mul ⟨_,o,rfl⟩ F.entry_tuple_mul (F.args_tuple_mul_2 _ _) (TF a its.toArray n D S k t f) ⟨o,⟨.ref a,H,I,rfl,J f⟩⟩
 .have d:2<=k:=by lia
  refine call_meets F.slot_tuple_mul ⟨_,o,rfl⟩ F.entry_tuple_mul (F.args_tuple_mul_2 _ _) (T9 a its.toArray n D S k t d (by simpa using i) (by rw[List.size_toArray,<-g];exact G) ?_) ⟨o,?_⟩
  .rw[f0,CV,len_rep,<-g,<-len_rep];exact l
  .rw[f0];refine⟨.ref s.heap.objs.size,_,I.laid (fun b _ q=>fM _ q) (bD _) ?_,rfl,A d _ (I.hok.fresh (bD _))⟩;exact⟨l,_,r.rep k.toNat,IsTup.new _ _⟩
end L2
namespace Zz
open PySem L2
abbrev alpha:Str := "abcdefghijklmnopqrstuvwxyz"
def inA(c:Nat):Bool:=!(Builtin.Str.occurrences alpha ⟨#[c]⟩ 0 alpha.length 1).isEmpty
noncomputable def isW(z:Str):Bool:=(decide ((1:Int)<=(z.length:Int))&&decide ((z.length:Int)<=12))&&(z.cps.toList.map inA).all id
def zp:Sp:=fun vs H Q _ => ∃ z:Str,vs=[.str z]/\z.length<=1000/\∀ h:Hp,aH H h->Q (.bl (isW z)) h
end Zz
namespace gW
open PySem L2 lN xM Zz
inductive eQ{α:Type}(R:V->α->Prop):List V->List α->Prop where
 | nil:eQ R [] []
 | cons {v:V} {x:α} {vs:List V} {xs:List α}:R v x->eQ R vs xs->eQ R (v::vs) (x::xs)
theorem eQ.imp(x:eQ R vs xs)(k:∀ v a,R v a->R' v a):eQ R' vs xs:=by
 induction x with
 | nil=>exact .nil
 | cons h _ i=>exact .cons (k _ _ h) i
theorem eQ.length(x:eQ R vs xs):vs.length=xs.length:=by
 induction x with
 | nil=>rfl
 | cons _ _ i=>rw[dG,dG,i]
theorem eQ.append(x:eQ R vs xs)(y:eQ R us ys):eQ R (vs++us) (xs++ys):=by
 induction x with
 | nil=>exact y
 | cons h _ i=>exact .cons h i
def eQ.snoc(x:eQ R vs xs)(y:R v a):eQ R (vs++[v]) (xs++[a]):=x.append (.cons y .nil)
theorem eQ.get{R:V->α->Prop}{vs:aw V}{xs:aw α}(x:eQ R vs xs):∀ {k:Nat} {a:α},xs[k]? = some a->∃ v,vs[k]? = some v/\R v a:=by
 induction x with
 | nil=>intro k a h;simp at h
 | cons h _ i=>
  intro k a e
  cases k with
  | zero=>
   simp at e;subst e;exact⟨_,rfl,h⟩
  | succ k=>exact i (by simpa using e)
theorem eQ.take(x:eQ R vs xs):∀ k:Nat,eQ R (vs.take k) (xs.take k):=by
 induction x with
 | nil=>intro k;rw[List.take_nil,List.take_nil];exact .nil
 | cons h _ i=>
  intro k
  cases k with
  | zero=>exact .nil
  | succ k=>exact .cons h (i k)
abbrev Ft:=Str×Int
def qM0(H:Hp)(v:V)(f:Ft):Prop:=∃ a:ar,v = .ref a/\H a=some (.tup [.str f.1,.int f.2])
abbrev qB1(H:Hp):aw V->aw Ft->Prop:=eQ (qM0 H)
structure Bx where
 nm:Str
 size:Int
 start:Int
def Hk(H:Hp)(v:V)(b:Bx):Prop:=∃ a:ar,v = .ref a/\H a=some (.tup [.str b.nm,.int b.size,.int b.start])
abbrev gP(H:Hp):aw V->aw Bx->Prop:=eQ (Hk H)
def gP.mono(x:gP H vs bs)(k:aB H H'):gP H' vs bs:=x.imp fun _ _ ⟨a,e,h⟩=>⟨a,e,k _ _ h⟩
structure Ro where
 nm:Str
 kind:Str
 depth:Int
 keeps:Str
 jn:Str
 ins:List Dd
 outs:List Dd
def HS(H:Hp)(v:V)(d:aw Dd):Prop:=∃(a:ar)(O:aw V),v = .ref a/\H a=some (.tup O)/\eQ (sO H) O d
def HS.mono(x:HS H v ds)(k:aB H H'):HS H' v ds:=by obtain⟨a,O,e,h,y⟩:=x;exact⟨a,O,e,k _ _ h,y.imp fun _ _ z=>z.mono k⟩
def qA0(H:Hp)(v:V)(r:Ro):Prop:=∃(a:ar)(i o:V),v = .ref a/\H a=some (.tup [.str r.nm,.str r.kind,.int r.depth,.str r.keeps,.str r.jn,i,o])/\HS H i r.ins/\HS H o r.outs
abbrev cL(H:Hp):aw V->aw Ro->Prop:=eQ (qA0 H)
def cL.mono(x:cL H vs rs)(k:aB H H'):cL H' vs rs:=x.imp fun _ _ ⟨a,i,o,e,h,y,z⟩=>⟨a,i,o,e,k _ _ h,y.mono k,z.mono k⟩
structure Dr where
 room:Int
 event:Int
 guard:Gd
 pZ:List Dd
 way:Str
 goal:Option Int
def gv:aE Int->V
 | none=>.non
 | some i=>.int i
def qJL(H:Hp)(v:V)(d:Dr):Prop:=∃(a:ar)(g b:V),v = .ref a/\H a=some (.tup [.int d.room,.int d.event,g,b,.str d.way,gv d.goal])/\jH H g d.guard/\HS H b d.pZ
abbrev jx(H:Hp):aw V->aw Dr->Prop:=eQ (qJL H)
def jx.mono(x:jx H vs ds)(k:aB H H'):jx H' vs ds:=x.imp fun _ _ ⟨a,i,o,e,h,y,z⟩=>⟨a,i,o,e,k _ _ h,y.mono k,z.mono k⟩
structure Ch where
 order:Str
 letters:Int
 turns:Int
 oX:List Bx
 evs:List Str
 rooms:List Ro
 mV:List Dr
def jJ(H:Hp)(t:ar)(c:Ch):Prop:=∃(T e r d:ar)(b R O:aw V),H t=some (.tup [.str c.order,.int c.letters,.int c.turns,.ref T,.ref e,.ref r,.ref d])/\H T=some (.tup b)/\gP H b c.oX/\H e=some (.tup (c.evs.map V.str))/\H r=some (.tup R)/\cL H R c.rooms/\H d=some (.tup O)/\jx H O c.mV
def jJ.mono(x:jJ H t c)(k:aB H H'):jJ H' t c:=by obtain⟨T,e,r,d,b,R,O,a1,a2,a3,a4,a5,a6,a7,a8⟩:=x;exact⟨T,e,r,d,b,R,O,k _ _ a1,k _ _ a2,gP.mono a3 k,k _ _ a4,k _ _ a5,cL.mono a6 k,k _ _ a7,jx.mono a8 k⟩
abbrev big:Int:=10 ^ 30
def within(lo i n:Int):Bool:=decide (lo<=n)&&decide (n<=i)
def numOf(n:Nat)(i:Int):Bool:=decide (0<=i)&&decide (i<(n:Int))
def marks(nm:Str)(n:Nat)(b:Nat->Bool):aw Ft:=((List.range n).filter b).map fun k:Nat=>(nm,(k:Int))
def one(nm:Str)(b:Bool):aw Ft:=if b then [(nm,0)] else []
noncomputable def Zq(bs:aw Bx)(ne:Nat):Dd->Bool
 | .say w => !isW w
 | .send e => !numOf ne e
 | .set b n => !numOf bs.length b||!(decide (0<=n)&&decide (n<(bs.map (·.size)).getD b.toNat 0))
 | .add b n => !numOf bs.length b||!within (-big) big n
def Bt(bs:aw Bx)(ne:Nat)(d:aw Dd):Bool:=decide (8<d.length)||d.any (Zq bs ne)
noncomputable def qIM(bs:aw Bx)(k:Nat):Bool:=match bs[k]? with
 | none=>false
 | some b => !isW b.nm||((bs.take k).map (·.nm)).contains b.nm||!within 1 big b.size||!(decide (0<=b.start)&&decide (b.start<b.size))
noncomputable def qIK(E:aw Str)(k:Nat):Bool:=match E[k]? with
 | none=>false
 | some e => !isW e||(E.take k).contains e
def deeper(R:aw Ro)(k:Nat)(d:Int):Bool:=match R[k+1]? with
 | none=>false
 | some r=>decide (d<r.depth)
noncomputable def XF(R:aw Ro)(k:Nat)(r:Ro):Bool:=
 !([("plain" : Str),"one","all"].contains r.kind)||(deeper R k r.depth==decide (r.kind = "plain")) ||
 (if k=0 then decide (r.depth≠0) else !within 1 (min 12 ((R.map (·.depth)).getD (k-1) 0+1)) r.depth)
noncomputable def XH(r:Ro):Bool:=!([("" : Str),"near","deep"].contains r.keeps)||(decide (r.keeps = "near")&&!decide (r.kind = "one"))||(decide (r.keeps = "deep")&&decide (r.kind = "plain"))
noncomputable def qIJ(bs:aw Bx)(ne:Nat)(R:aw Ro)(k:Nat):Bool:=match R[k]? with
 | none=>false
 | some r => !isW r.nm||((R.take k).map (·.nm)).contains r.nm||XF R k r||XH r||(!decide (r.jn = "")&&!isW r.jn)||Bt bs ne r.ins||Bt bs ne r.outs
noncomputable def Ex(N a:Nat):Gd->Bool
 | .yes=>false
 | .is b n => !numOf N b||!within (-big) big n
 | .under b n => !numOf N b||!within (-big) big n
 | .inn r => !numOf a r
 | .neg g=>Ex N a g
 | .both g h=>Ex N a g||Ex N a h
 | .either g h=>Ex N a g||Ex N a h
noncomputable def qDA(r:aw Ro)(w:Str)(G:aE Int):Bool:=
 if w = "stay" then G.isSome else
 if w = "to" then (match G with | none=>true | some g => !numOf r.length g) else
 if w = "back" then (match G with | none=>true | some g => !numOf r.length g||decide ((r.map (·.keeps)).getD g.toNat ("" : Str)=("" : Str))) else true
noncomputable def qIL(bs:aw Bx)(ne:Nat)(r:aw Ro)(d:Dr):Bool:=!numOf r.length d.room||!numOf ne d.event||decide (6<d.guard.ht)||Ex bs.length r.length d.guard||Bt bs ne d.pZ||qDA r d.way d.goal
def Zo(bs:aw Bx)(ne:Nat)(r:aw Ro)(D:aw Dr)(k:Nat):Bool:=match D[k]? with
 | none=>false
 | some d=>qIL bs ne r d
noncomputable def Wi(c:Ch):aw Ft:=
 one "order" (!([("inner" : Str),"outer"].contains c.order))++one "letters" (!within 0 12 c.letters)++one "turns" (!within 1 20 c.turns)++one "boxes" (decide (6<c.oX.length))++marks "box" c.oX.length (qIM c.oX) ++
 one "events" (decide (8<c.evs.length))++marks "event" c.evs.length (qIK c.evs)++one "rooms" (decide (c.rooms.length=0)||decide (40<c.rooms.length))++marks "room" c.rooms.length (qIJ c.oX c.evs.length c.rooms) ++
 one "doors" (decide (60<c.mV.length))++marks "door" c.mV.length (Zo c.oX c.evs.length c.rooms c.mV)
structure Small(c:Ch):Prop where
 order:c.order.length<=1000
 oX:c.oX.length<=60
 bnm:∀ b∈c.oX,b.nm.length<=1000
 evs:c.evs.length<=60
 enm:∀ e∈c.evs,e.length<=1000
 rooms:c.rooms.length<=60
 rnm:∀ r∈c.rooms,r.nm.length<=1000/\r.kind.length<=1000/\r.keeps.length<=1000/\r.jn.length<=1000
 rdd:∀ r∈c.rooms,r.ins.length<=60/\r.outs.length<=60/\∀ d∈r.ins++r.outs,∀ z,d = .say z->z.length<=1000
 mV:c.mV.length<=100
 ddd:∀ d∈c.mV,d.pZ.length<=60/\d.guard.ht<=20/\d.way.length<=1000/\∀ e∈d.pZ,∀ z,e = .say z->z.length<=1000
def zy:Sp:=fun vs H Q _ => ∃(t:ar)(c:Ch),vs=[.ref t]/\jJ H t c/\Small c/\∀(p:ar)(f:aw V)(h:Hp),aH H h->H p=none->h p=some (.lst f)->qB1 h f (Wi c)->Q (.ref p) h
def S8(H:Hp)(v:V)(z:Str):Prop:=∃(b:ar)(t:aw V),v = .ref b/\H b=some (.tup (.str z::t))
theorem gP.fst(x:gP H vs bs):eQ (S8 H) vs (bs.map (·.nm)):=by
 induction x with
 | nil=>exact .nil
 | cons h _ i=>
  obtain⟨a,e,h⟩:=h;exact .cons ⟨a,_,e,h⟩ i
theorem cL.fst(x:cL H vs rs):eQ (S8 H) vs (rs.map (·.nm)):=by
 induction x with
 | nil=>exact .nil
 | cons h _ i=>
  obtain⟨a,_,_,e,h,_⟩:=h;exact .cons ⟨a,_,e,h⟩ i
def Wx(m:aJ K H1 a xs)(f:eQ (S8 H1) xs zs)(n:zs.length<=1000)
  (h:∀(b:ar)(t:aw V)(z:Str),H1 b=some (.tup (.str z::t))->∀ Q:VK,Q (.str z) H1->te (some (.ref b)::cs) H1 Q) (q:Z (zs.map V.str) H1):lD (Itt K a) cs qDT te H1 Z:=by
 have l:=f.length;refine ig (K:=K) (a:=a) (xs:=xs) (fun i A H=>H=H1/\A=(zs.take i).map V.str) ⟨rfl,rfl⟩ (fun i A H ⟨e,_⟩=>by subst e;exact m) (fun i x A H d ⟨c,E⟩=>?_) (fun A H ⟨c,E⟩=>?_)
 .subst c E
  have o:i<zs.length:=by
   have:=(oW.mp d).1;omega
  have g:zs[i]? = some zs[i]:=fQ o;obtain⟨v,k,b,t,rfl,j⟩:=f.get g;rw[k]at d
  cases d
  show te _ _ _;refine h b t _ j _ ⟨zW (by rw[bT,iQ];omega),rfl,?_⟩;rw[mq,g,qz];rfl
 .subst c E;rw[l,ib];exact q
def Bu:mX (x::xs) 0=some x:=yR (j:=0) rfl
structure SmallP(ok:List Dd->Prop)(okd:Dr->Prop)(c:Ch):Prop where
 order:c.order.length<=1000
 oX:c.oX.length<=60
 bnm:∀ b∈c.oX,b.nm.length<=1000
 evs:c.evs.length<=60
 enm:∀ e∈c.evs,e.length<=1000
 rooms:c.rooms.length<=60
 rms:∀ r∈c.rooms,ok r.ins/\ok r.outs/\r.nm.length<=1000/\r.kind.length<=1000/\r.keeps.length<=1000/\r.jn.length<=1000
 mV:c.mV.length<=100
 drs:∀ d∈c.mV,okd d
structure DueS(H:Hp)(fs:List Ft)(H':Hp)(pd:Addr):Prop where
 same:aH H H'
 new:H pd=none
 ex:∃ fv,H' pd=some (.lst fv)/\qB1 H' fv fs
def Wv(xs:aw V)(h:k<=xs.length):oG xs none (some (k:Int))=xs.take k:=by unfold oG;rw[HT.tY,HT.iJ,List.drop_zero,Nat.sub_zero,iN h]
def Zg(xs:aw V)(h:k+1<=xs.length):oG xs (some ((k:Int)+1)) none=xs.drop (k+1):=by
 have e:(k:Int)+1=((k+1:Nat):Int):=by omega
 unfold oG;rw[e,HT.tY,HT.iJ,iN h,DX (by rw[fR];exact bD _)]
end gW
namespace L2
open PySem PySem.Spec PyProof.Rows
end L2
namespace Dig
open PySem L2
def Dg:Nat->Nat->aw Nat
 | 0,_=>[]
 | f+1,n=>if n=0 then [] else Dg f (n/10)++[48+n%10]
theorem Q8:∀(f g n:Nat),n<=f->n<=g->Dg f n=Dg g n
 | 0,0,_,_,_=>rfl
 | 0,g+1,n,h,_=>by
  rw[show n=0 by omega];rfl
 | f+1,0,n,_,h=>by
  rw[show n=0 by omega];rfl
 | f+1,g+1,n,H,l=>by
  show (if n=0 then [] else _)=if n=0 then [] else _
  by_cases e:n=0
  .rw[cS e,cS e]
  .rw[cK e,cK e,Q8 f g (n/10) (by omega) (by omega)]
def D(n:Nat):aw Nat:=Dg n n
def N8:D 0=[]:=rfl
def Xh{n:Nat}(h:n≠0):D n=D (n/10)++[48+n%10]:=by obtain⟨m,rfl⟩:∃ m,n=m+1:=⟨n-1,by omega⟩;show (if m+1=0 then [] else Dg m ((m+1)/10)++_)=Dg _ _++_;rw[cK h,Q8 m ((m+1)/10) ((m+1)/10) (by omega) (bD _)]
theorem qB5:∀(k n:Nat),n<10 ^ k->(D n).length<=k
 | 0,n,h=>by
  have e:n=0:=by simp at h;exact h
  rw[e,N8];exact bD _
 | k+1,n,h=>by
  by_cases e:n=0
  .rw[e,N8];exact bo _
  .rw[Xh e,j8];have:=qB5 k (n/10) (by rw[Nat.pow_succ]at h;omega);simp only[List.length_cons,List.length_nil];omega
def xW:∀ d,d<10->(Nat.digitChar d).toNat=48+d:=by decide
theorem Ph:∀(f n:Nat)(a:aw Char),n<f->n≠0->(Nat.toDigitsCore 10 f n a).map Char.toNat=D n++a.map Char.toNat
 | 0,n,a,h,_=>eu h (Nat.not_lt_zero _)
 | f+1,n,a,h,d=>by
  rw[Nat.toDigitsCore];have hd:=xW (n%10) (Nat.mod_lt _ (by decide))
  by_cases e:n/10=0
  .simp only[e,if_true];rw[Xh d,e,N8,bt,hd];rfl
  .simp only[e,if_false];rw[Ph f (n/10) _ (by omega) e,bt,hd,Xh d,bX];rfl
def wQ(m:Nat):(Nat.toDigits 10 m).map Char.toNat=if m=0 then [48] else D m:=by
 by_cases e:m=0
 .subst e;rfl
 .rw[cK e];unfold Nat.toDigits;rw[Ph _ _ _ (iF m) e];exact oY _
noncomputable def ZW(n:Int):aw Nat:=(if n<0 then [45] else [])++(if n=0 then [48] else D n.natAbs)
theorem TV(n:Int):Str.ofString (toString n)=⟨(ZW n).toArray⟩:=by
 have ext:∀ a b:Str,a.cps.toList=b.cps.toList->a=b:=fun a b e=>by
  obtain⟨⟨a⟩⟩:=a;obtain⟨⟨b⟩⟩:=b;simp only at e;rw[e]
 apply ext;rw[Str.ofString_eq_toList];simp only;unfold ZW
 cases n with
 | ofNat m=>
  rw[cK (show ¬ Int.ofNat m<0 from Int.not_lt.mpr (fb m))];show List.map Char.toNat (String.toList (Nat.repr m))=_;rw[show Nat.repr m=String.ofList (Nat.toDigits 10 m) from rfl,String.toList_ofList,wQ]
  by_cases e:m=0
  .subst e;rfl
  .rw[cK e,cK (show ¬ Int.ofNat m=0 by intro z;exact e (by simpa using z))];rfl
 | negSucc m=>
  rw[cS (Int.negSucc_lt_zero m),cK (by intro z;cases z)];show List.map Char.toNat (String.toList ("-" ++ Nat.repr (m+1)))=_;rw[String.toList_append,show Nat.repr (m+1)=String.ofList (Nat.toDigits 10 (m+1)) from rfl,String.toList_ofList,String.toList_ofList,qz,wQ,cK (by omega)];rfl
end Dig
namespace L2
open PySem
def qLX(M:Model)(Γ:Ctx)(p:Pos)(t:Sem Fin)(fs:aw Frame)(s:ae)(e:End)(s':ae):Prop:=match fs with
 | F::fs => ∃ E S,Runs M (Γ.over (F::fs)) p t [] s E S/\(match E with
  | .ret r=>(match F with
   | .ret k _ _ _ d i _=>Runs M (Γ.goto d) i (k r) fs S e s'
   | .gen g k _ d i=>Runs M (Γ.goto d) i (k (End.ret r).result) fs (S.setGen g .finished) e s')
  | .susp v G L b C P j=>(match splitAtGen (F::fs) with
   | none=>e = .susp v G L b C P (j++F::fs)/\s'=S
   | some (u,(g,k,d,i),rest)=>Runs M (Γ.goto d) i (k (.yielded v)) rest (S.setGen g (End.susp v G L b C P (j++u)).genState) e s'))
 | []=>match t with
  | .pure (.done f)=>e = .ret (.ok f)/\s'=s
  | .pure (.again c)=>Runs M (Γ.goto c) p (M.den c) [] s e s'
  | .raise x=>e = .ret (.error x)/\s'=s
  | .rule _ k=>Runs M Γ p (k ()) [] s e s'
  | .at p' k=>Runs M Γ p' (k ()) [] s e s'
  | .load a _ k => ∃ o,s.heap.get? a=some o/\Runs M Γ p (k o) [] s e s'
  | .update a _ f k=>Runs M Γ p (k ()) [] { s with heap:=s.heap.update a f } e s'
  | .loadIfAlive a k=>Runs M Γ p (k (s.heap.get? a)) [] s e s'
  | .point _ k=>Runs M Γ p (k ()) [] s e s'
  | .alloc o k=>Runs M Γ p (k s.heap.objs.size) [] { s with heap:=s.heap.push o } e s'
  | .fresh k=>Runs M Γ p (k s.toks) [] { s with toks:=s.toks+1 } e s'
  | .ask k=>Runs M Γ p (k { program:=M.prog,params:=M.w.params }) [] s e s'
  | .choose m n k=>Runs M Γ p (k (M.w.draws m (s.drawn.get m)%n)) [] { s with drawn:=s.drawn.bump m } e s'
  | .os q _ k=>Runs M Γ p (k (Os.step s.os q).snd) [] { s with os:=(Os.step s.os q).fst } e s'
  | .handled own k=>Runs M Γ p (k (if own=true then Γ.own else Γ.handled)) [] s e s'
  | .genState g k => ∃ st,s.gens[g]? = some st/\Runs M Γ p (k st.seen) [] s e s'
  | .stack k=>Runs M Γ p (k ((Γ.code,p)::Γ.below)) [] s e s'
  | .thread k=>Runs M Γ p (k 0) [] s e s'
  | .newGen c k=>Runs M Γ p (k s.gens.size) [] { s with gens:=s.gens.push (.fresh c) } e s'
  | .call c h g l k => ∃ E S,Runs M (Γ.enter c h p) p (M.den c) [] s E S/\(match E with
   | .ret r=>Runs M Γ p (k r) [] S e s'
   | .susp v G L b C P fs=>e = .susp v G L b C P (fs++[Frame.ret k h g l Γ.code p []])/\s'=S)
  | .yield v g l k=>e = .susp v g l k Γ.code p []/\s'=s
  | .resume g r _ k => ∃ st,s.gens[g]? = some st/\(match st with
   | .fresh c=>(match r with
    | .send v=>(v = .none/\∃ E S,Runs M (Γ.wake c p) p (M.den c) [] (s.setGen g .running) E S/\Runs M Γ p (k E.result) [] (S.setGen g E.genState) e s')∨(v≠.none/\Runs M Γ p (k .justStarted) [] s e s')
    | .throw x=>Runs M Γ p (k (.raised x)) [] (s.setGen g .finished) e s')
   | .suspended b _ C P fs _ => ∃ E S,Runs M (Γ.wake C p) P (b r) fs (s.setGen g .running) E S/\Runs M Γ p (k E.result) [] (S.setGen g E.genState) e s'
   | .running=>Runs M Γ p (k .running) [] s e s'
   | .finished=>Runs M Γ p (k .finished) [] s e s')
  | _=>True
theorem aR(h:Runs M Γ p t fs s e s'):qLX M Γ p t fs s e s':=by
 cases h with
 | done=>exact⟨rfl,rfl⟩
 | raise=>exact⟨rfl,rfl⟩
 | again _ h=>exact h
 | load H l=>exact⟨_,H,l⟩
 | update _ h=>exact h
 | choose _ h=>exact h
 | genState H l=>exact⟨_,H,l⟩
 | call H l=>exact⟨_,_,H,l⟩
 | callSusp H=>exact⟨_,_,H,rfl,rfl⟩
 | yield=>exact⟨rfl,rfl⟩
 | resumeFresh H l _ j=>exact⟨_,H,.inl ⟨rfl,_,_,l,j⟩⟩
 | resumeSuspended H l _ j=>exact⟨_,H,_,_,l,j⟩
 | resumeJustStarted H l a=>exact⟨_,H,.inr ⟨l,a⟩⟩
 | resumeThrowFresh H l=>exact⟨_,H,l⟩
 | resumeRunning H l=>exact⟨_,H,l⟩
 | resumeFinished H l=>exact⟨_,H,l⟩
 | segRet H l=>exact⟨_,_,H,l⟩
 | segGen H l=>exact⟨_,_,H,l⟩
 | segSuspOut H l=>
  refine⟨_,_,l,?_⟩;rw[H];exact⟨rfl,rfl⟩
 | segSuspGen H l _ j=>
  refine⟨_,_,l,?_⟩;rw[H];exact j
 | rule h=>exact h
 | «at» h=>exact h
 | loadIfAlive h=>exact h
 | point h=>exact h
 | alloc h=>exact h
 | fresh h=>exact h
 | ask h=>exact h
 | os h=>exact h
 | handled h=>exact h
 | stack h=>exact h
 | thread h=>exact h
 | newGen h=>exact h
theorem Ak(h:Runs M Γ p t fs s e s') :
  ∀ {E:End} {S:ae},Runs M Γ p t fs s E S->e=E/\s'=S:=by
 induction h with
 | done=>intro E S l;obtain⟨rfl,rfl⟩:=aR l;exact⟨rfl,rfl⟩
 | raise=>intro E S l;obtain⟨rfl,rfl⟩:=aR l;exact⟨rfl,rfl⟩
 | again _ _ i=>intro E S l;exact i (aR l)
 | load H _ i=>
  intro E S l;obtain⟨o,q,h⟩:=aR l
  cases H.symm.trans q
  exact i h
 | update _ _ i=>intro E S l;exact i (aR l)
 | choose _ _ i=>intro E S l;exact i (aR l)
 | genState H _ i=>
  intro E S l;obtain⟨o,q,h⟩:=aR l
  cases H.symm.trans q
  exact i h
 | call _ _ a I=>
  intro E S l;obtain⟨c,b,h,h'⟩:=aR l;obtain⟨rfl,rfl⟩:=a h;exact I h'
 | callSusp _ i=>
  intro E S l;obtain⟨c,b,h,h'⟩:=aR l;obtain⟨rfl,rfl⟩:=i h;exact⟨h'.1.symm,h'.2.symm⟩
 | yield=>intro E S l;obtain⟨rfl,rfl⟩:=aR l;exact⟨rfl,rfl⟩
 | resumeFresh H _ _ _ a I=>
  intro E S l;obtain⟨st,q,h⟩:=aR l
  cases H.symm.trans q
  rcases h with ⟨_,c,b,h,h'⟩ | ⟨z,_⟩
  .obtain⟨rfl,rfl⟩:=a h;exact I h'
  .exact eu rfl z
 | resumeSuspended H _ _ _ a I=>
  intro E S l;obtain⟨st,q,h⟩:=aR l
  cases H.symm.trans q
  obtain⟨c,b,h,h'⟩:=h;obtain⟨rfl,rfl⟩:=a h;exact I h'
 | resumeJustStarted H n _ i=>
  intro E S l;obtain⟨st,q,h⟩:=aR l
  cases H.symm.trans q
  rcases h with ⟨z,_⟩ | ⟨_,h⟩
  .exact eu z n
  .exact i h
 | resumeThrowFresh H _ i=>
  intro E S l;obtain⟨st,q,h⟩:=aR l
  cases H.symm.trans q
  exact i h
 | resumeRunning H _ i=>
  intro E S l;obtain⟨st,q,h⟩:=aR l
  cases H.symm.trans q
  exact i h
 | resumeFinished H _ i=>
  intro E S l;obtain⟨st,q,h⟩:=aR l
  cases H.symm.trans q
  exact i h
 | segRet _ _ a I=>
  intro E S l;obtain⟨c,b,h,h'⟩:=aR l;obtain⟨rfl,rfl⟩:=a h;exact I h'
 | segGen _ _ a I=>
  intro E S l;obtain⟨c,b,h,h'⟩:=aR l;obtain⟨rfl,rfl⟩:=a h;exact I h'
 | segSuspOut d _ i=>
  intro E S l;obtain⟨c,b,h,h'⟩:=aR l;obtain⟨rfl,rfl⟩:=i h;simp only[d]at h';exact⟨h'.1.symm,h'.2.symm⟩
 | segSuspGen d _ _ _ a I=>
  intro E S l;obtain⟨c,b,h,h'⟩:=aR l;obtain⟨rfl,rfl⟩:=a h;simp only[d]at h';exact I h'
 | rule _ i=>intro E S l;exact i (aR l)
 | «at» _ i=>intro E S l;exact i (aR l)
 | loadIfAlive _ i=>intro E S l;exact i (aR l)
 | point _ i=>intro E S l;exact i (aR l)
 | alloc _ i=>intro E S l;exact i (aR l)
 | fresh _ i=>intro E S l;exact i (aR l)
 | ask _ i=>intro E S l;exact i (aR l)
 | os _ i=>intro E S l;exact i (aR l)
 | handled _ i=>intro E S l;exact i (aR l)
 | stack _ i=>intro E S l;exact i (aR l)
 | thread _ i=>intro E S l;exact i (aR l)
 | newGen _ i=>intro E S l;exact i (aR l)
theorem qB6(M:Model)(Γ:Ctx)(t:Sem α):∀ Q j E b p s,Sem.wp M Γ t Q E p s->Sem.wp M Γ t j b p s →
  Sem.wp M Γ t (fun a p' s'=>Q a p' s'/\j a p' s') (fun e p' s'=>E e p' s'/\b e p' s') p s:=by
 induction t with
 | pure a=>intro Q j E b p s h h';exact⟨h,h'⟩
 | raise e=>intro Q j E b p s h h';exact⟨h,h'⟩
 | load a _ k i=>intro Q j E b p s h h';obtain⟨o,d,h⟩:=h;obtain⟨O,H,h'⟩:=h';cases d.symm.trans H;exact⟨o,d,i o _ _ _ _ p s h h'⟩
 | update a _ f k i=>intro Q j E b p s h h';exact⟨h.1,i () _ _ _ _ p _ h.2 h'.2⟩
 | choose C m k i=>intro Q j E b p s h h';exact⟨h.1,i _ _ _ _ _ p _ h.2 h'.2⟩
 | call c hd g l k i=>
  intro Q j E b p s h h';obtain⟨r,n,x,h⟩:=h;obtain⟨R,S,X,h'⟩:=h';obtain⟨D,z⟩:=Ak x X
  cases D;cases z
  exact⟨r,n,x,i _ _ _ _ _ p _ h h'⟩
 | genState g k i=>intro Q j E b p s h h';obtain⟨o,d,h⟩:=h;obtain⟨O,H,h'⟩:=h';cases d.symm.trans H;exact⟨o,d,i _ _ _ _ _ p s h h'⟩
 | resume g r l k i=>
  intro Q j E b p s h h';obtain⟨A,n,x,h⟩:=h;obtain⟨R,S,X,h'⟩:=h'
  have q:A=R/\n=S:=by
   unfold Wakes at x X;revert x X;generalize s.gens[g]? = G;intro x X
   cases G with
   | none=>exact x.elim
   | some st=>
    cases st with
    | fresh c=>
     cases r with
     | throw y=>exact⟨x.1.trans X.1.symm,x.2.trans X.2.symm⟩
     | send v=>
      cases v with
      | none=>
       obtain⟨B,t1,u,_,rfl,rfl⟩:=x;obtain⟨w,T,Y,_,rfl,rfl⟩:=X;obtain⟨rfl,rfl⟩:=Ak u Y;exact⟨rfl,rfl⟩
      | _=>exact⟨x.1.trans X.1.symm,x.2.trans X.2.symm⟩
    | suspended=>
     obtain⟨B,t1,u,_,rfl,rfl⟩:=x;obtain⟨w,T,Y,_,rfl,rfl⟩:=X;obtain⟨rfl,rfl⟩:=Ak u Y;exact⟨rfl,rfl⟩
    | running=>exact⟨x.1.trans X.1.symm,x.2.trans X.2.symm⟩
    | finished=>exact⟨x.1.trans X.1.symm,x.2.trans X.2.symm⟩
  obtain⟨rfl,rfl⟩:=q;exact⟨_,_,x,i _ _ _ _ _ p _ h h'⟩
 | _=>intros;first | assumption | (rename_i i _ _ _ _ _ _ h h';exact i _ _ _ _ _ _ _ h h')
def Kf(h:wpAny M A t Q E s)(h':wpAny M A t Q' E' s) :
  wpAny M A t (fun a s'=>Q a s'/\Q' a s') (fun e s'=>E e s'/\E' e s') s:=fun Γ p H=>qB6 M Γ t _ _ _ _ p s (h Γ p H) (h' Γ p H)
def qL(h:wpAny M A t Q E s)(h':wpAny M A t Q' E s):wpAny M A t (fun a s'=>Q a s'/\Q' a s') E s:=
 c8 (Kf h h') (fun _ _ z=>z) fun _ _ z=>z.1
end L2
namespace L2
open PySem PySem.Spec PyProof.Rows
def qJ9(O:Obj):Prop:=∃ vs,O.data = .fields vs/\vs[2]? = some .none
def DictAt(h:Heap)(e:ar)(D:aE ar):Prop:=∃ O,h.get? e=some O/\O.dict=D/\(D=none->qJ9 O)
def Wt(o:Obj)(f:Array av->Array av):(o.mapFields f).dict=o.dict:=by
 obtain⟨c,d,D,_⟩:=o
 cases D <;> rfl
def DictAt.upd(x:DictAt h e dd)(d:h.get? a=some o)(hd:o.data = .fields vs)(H:∀ w:Array av,(f w)[2]? = w[2]?:=by intro w;simp):DictAt (h.update a (Obj.mapFields f)) e dd:=by
 obtain⟨O,q,r,c⟩:=x
 by_cases z:a=e
 .subst z;rw[d]at q
  cases q
  exact⟨_,cm _ d (Obj.isFreed_of_fields (Obj.data_mapFields hd f)),(Wt _ _).trans r,fun y=>let ⟨w,m,C⟩:=c y;⟨_,Obj.data_mapFields m f,(H w).trans C⟩⟩
 .exact⟨O,(ck _ _ z).trans q,r,c⟩
def DictAt.push(x:DictAt h e dd)(o:Obj):DictAt (h.push o) e dd:=
 let ⟨O,q,r⟩:=x;⟨O,fM _ q,r⟩
def xJ(ht:s.heap.TracedAtW base e cls a0 fl)(x:DictAt s.heap e dd):wpAny M A (setFlight (.ref e) none) (fun _ s'=>DictAt s'.heap e dd) E s:=by obtain⟨_,_,T,_,_,i,_,hd,H,_,_,t,h,p⟩:=ht;unfold setFlight;refine aS (wpAny_field i hd H ?_);rw[if_pos (show (Value.ref T != Value.none)=true by simp)];exact wpAny_setField t h (eB.mp p).1 (x.upd t h)
def Bl(g:A.frames=some (v::outer))(k:s.heap.FunFrames base (v::outer))(n:v.frame=some L)
  (j:s.heap.get? e=some oe) (hd:oe.data = .fields vs) (hsz:1<vs.size) (x:DictAt s.heap e dd)
  (p:∀ H T O t,DictAt H e dd->(∃ o d,H.get? e=some o/\o.data = .fields d/\d[1]? = some (.ref T))->H.get? T=some O->O.data = .fields t->3<t.size->Q () { s with heap:=H }) :
  wpAny M A (do let a ← frameOf v;let pl ← entryPlaceOf L b;let c ← EntryCells.newEntry head a .none (rawInt L) .none pl;setField (.ref e) 1 c) Q E s:=by
 refine aS (wpAny_frameOf_fun g k n fun H m=>?_);refine aS (wpAny_entryPlaceOf fun pl l=>?_);unfold EntryCells.newEntry newFields;refine aS (wpAny_newObj_type ?_ (l.sizeOk5 _ _ _ _ _));obtain⟨S,i⟩:=m.2.2 e oe j
 have X:DictAt H e dd:=by
  obtain⟨_,q,r⟩:=x;rw[j]at q
  cases q
  exact⟨_,i,r⟩
 have f:=fM { cls:=.type "traceback",dict:=none,data:=.fields ([head,.ref L,.none,rawInt L,.none]++(if pl.isEmpty then List.replicate 6 Value.none else pl)).toArray } i;have h:({ oe with slots:=S }:Obj).data = .fields vs:=hd;have ne:e≠H.objs.size:=jQ (gQ i);refine wpAny_setField f h hsz (p _ H.objs.size { cls:=.type "traceback",dict:=none,data:=.fields ([head,.ref L,.none,rawInt L,.none]++(if pl.isEmpty then List.replicate 6 Value.none else pl)).toArray } _ ((X.push _).upd f h) ?_ ?_ rfl ?_)
 .exact⟨_,_,Heap.get?_update_self _ f (Obj.isFreed_of_fields (Obj.data_mapFields h _)),Obj.data_mapFields h _,by simp [hsz]⟩
 .exact (ck _ _ ne).trans (qy H rfl)
 .simp only[List.size_toArray,List.length_append,List.length_cons,List.length_nil];lia
def R8(g:A.frames=some (v::outer))(f:v.frame=some L)(l:Heap.FlyingW base (v::outer) e cls a0 s.heap)(x:DictAt s.heap e dd):wpAny M A (noteFrame (.ref e) v) (fun _ s'=>DictAt s'.heap e dd) E s:=by
 obtain⟨_,_,j,_,_,T,_,k,i,_,hd,d,_,a,t,h,p⟩:=l;unfold noteFrame;simp only[f];refine aS (wpAny_field i hd d ?_);rw[if_pos (show (Value.ref T != Value.none)=true by simp)];refine aS (wpAny_field t h p ?_);rw[if_neg (show ¬ ((Value.none==rawInt L)=true) by simp [rawInt])];refine aS (wpAny_setField t h (eB.mp p).1 ?_);refine Bl g (j.of_keeps fun b o c H=>⟨o,(ck _ _ fun z=>?_).trans c,rfl⟩) f ((ck _ _ a).trans i) hd (eB.mp d).1 (x.upd t h) fun _ _ _ _ z _ _ _ _=>z;rw[<-z,t]at c
 cases c
 exact H k h
def Mj(g:A.frames=some (v::outer))(a:s.heap.FunFrames base (v::outer))(f:v.frame=some L)(i:s.heap.get? e=some oe)(hd:oe.data = .fields vs)(H:vs[1]? = some .none)
  (x:DictAt s.heap e dd):wpAny M A (leaving v (.ref e)) (fun _ s'=>DictAt s'.heap e dd) E s:=by unfold leaving noteFrame;simp only[f];refine aS (aS (wpAny_field i hd H ?_));rw[cK (by decide)];refine Bl g a f i hd (eB.mp H).1 x fun _ T _ _ X ⟨_,_,c,Q,m⟩ w q b=>?_;unfold setFlight;refine aS (wpAny_field c Q m ?_);rw[if_pos (show (Value.ref T != Value.none)=true by simp)];exact wpAny_setField w q b (X.upd w q)
def RK(g:A.frames=some (v::outer))(f:v.frame=some L)(l:Heap.FlyingW base (v::outer) e cls a0 s.heap)(x:DictAt s.heap e dd)
  (H:∀ h',Heap.HeldW base (v::outer) e cls a0 L h'->s.heap.UpToSlots h'->DictAt h' e dd->Q () { s with heap:=h' }):wpAny M A (noteFrame (.ref e) v) Q E s:=
 c8 (qL (wpAny_looks_onW (Q:=fun _ s'=>∃ h',s' = { s with heap:=h' }/\Heap.HeldW base (v::outer) e cls a0 L h'/\s.heap.UpToSlots h') g f l fun h' U k=>⟨h',rfl,U,k⟩) (R8 g f l x))
  (fun _ _ ⟨⟨h',z,U,k⟩,a⟩=>by subst z;exact H h' U k a) fun _ _ z=>z
def qCL(b:Heap.HeldW base l e cls a0 L s.heap)(x:DictAt s.heap e dd)(H:∀ h',Heap.FlyingW base l e cls a0 h'->s.heap.UpToSlots h'->DictAt h' e dd->Q () { s with heap:=h' }):wpAny M A (setFlight (.ref e) none) Q E s:=
 c8 (qL (wpAny_landsW (Q:=fun _ s'=>∃ h',s' = { s with heap:=h' }/\Heap.FlyingW base l e cls a0 h'/\s.heap.UpToSlots h') b fun h' U k=>⟨h',rfl,U,k⟩) (xJ b.2.2.2 x))
  (fun _ _ ⟨⟨h',z,U,k⟩,a⟩=>by subst z;exact H h' U k a) fun _ _ z=>z
def Gj(b:Heap.FlyingW base l e cls a0 s.heap)(x:DictAt s.heap e dd)(H:∀ h',Heap.FlyingW base l e cls a0 h'->s.heap.UpToSlots h'->DictAt h' e dd->Q () { s with heap:=h' }):wpAny M A (setFlight (.ref e) none) Q E s:=
 c8 (qL (lands_againW (Q:=fun _ s'=>∃ h',s' = { s with heap:=h' }/\Heap.FlyingW base l e cls a0 h'/\s.heap.UpToSlots h') b fun h' U k=>⟨h',rfl,U,k⟩) (xJ b.2.2.2.at x))
  (fun _ _ ⟨⟨h',z,U,k⟩,a⟩=>by subst z;exact H h' U k a) fun _ _ z=>z
def Jf(g:A.frames=some (v::outer))(f:v.frame=some L)(h:base.StaysIn s.heap)(a:s.heap.FunFrames base (v::outer))(c:base.get? e=none)
  (i:s.heap.get? e=some oe) (hd:oe.data = .fields vs) (H:vs[1]? = some .none) (o:vs[0]? = some a0) (m:oe.dict=none->vs[2]? = some .none)
  (d:∀ h',Heap.FlyingW base outer e oe.cls a0 h'->s.heap.UpToSlots h'->DictAt h' e oe.dict->Q () { s with heap:=h' }):wpAny M A (leaving v (.ref e)) Q E s:=
 c8 (qL (wpAny_leaving_firstW (Q:=fun _ s'=>∃ h',s' = { s with heap:=h' }/\Heap.LeftW base (v::outer) e oe.cls a0 s.heap h') g a f i h c hd H o fun h' k=>⟨h',rfl,k⟩) (Mj g a f i hd H ⟨oe,i,rfl,fun y=>⟨vs,hd,m y⟩⟩))
  (fun _ _ ⟨⟨h',z,U,⟨_,_,l⟩,j,b⟩,n⟩=>by subst z;exact d h' ⟨U,c,l,j⟩ b n) fun _ _ z=>z
def Ke(P:ag)(w:aI):KQ:=fun O H s E e s'=>
 ∃ a c A h B,e = .ref a/\s'.os=s.os/\AllBare s'.gens/\Heap.FlyingW B O a c A s'.heap ∧
  lM P w h s'.heap/\Un (frs O) [] H h s.heap s'.heap/\(∀ b,(h b).isSome=true->∃ o,s'.heap.get? b=some o/\B.get? b=some o) ∧
  (∀ b o,s.heap.get? b=some o->b∉frs O->∃ d,s'.heap.get? b=some d/\B.get? b=some d)/\∃ D,DictAt s'.heap a D/\E c D h
section
variable{P:ag}{w:aI}{H H':Hp}{h h0 h1 h2 B:Heap}{a:ar}{o:HO}{fs:aw ar}
theorem bM.there(x:bM P w H h a o):∃ O,h.get? a=some O:=by
 cases o with
 | lst xs=>obtain⟨_,_,_,_,e⟩:=x;exact⟨_,e⟩
 | tup xs=>obtain⟨_,_,_,O,e,_⟩:=x;exact⟨O,e⟩
 | dK k=>obtain⟨_,_,_,_,O,_,_,e,_⟩:=x;exact⟨O,e⟩
 | dT k=>obtain⟨_,_,_,_,O,_,_,e,_⟩:=x;exact⟨O,e⟩
 | set S n=>obtain⟨O,_,_,_,e,_⟩:=x;exact⟨O,e⟩
 | ins C d fs=>obtain⟨_,_,_,e,_⟩:=x;exact⟨_,e⟩
 | own y=>exact x
 | xd fs=>obtain⟨_,⟨O,_,_,e,_⟩,_⟩:=x;exact⟨O,e⟩
 | rng lo i=>obtain⟨_,_,_,e⟩:=x;exact⟨_,e⟩
 | Mh O u=>obtain⟨e,_⟩:=x;exact⟨_,e⟩
 | tbl ps=>exact⟨_,x⟩
 | met f y=>exact⟨_,x⟩
 | ext φ=>obtain⟨_,e,_⟩:=x;exact e
def lM.flown(hok:lM P w H h)(f:∀ b,(H b).isSome=true->∃ O,h.get? b=some O/\B.get? b=some O)(st:B.StaysIn h2):lM P w H h2:=fun a o e=>
 (hok a o e).stay (fun b u d q=>by
  have s:(H b).isSome=true:=by
   rcases d with z | z
   .rw[z,e];rfl
   .rw[z];rfl
  obtain⟨O,E,c⟩:=f b s;rw[q]at E
  cases E
  exact st b _ c) (fun _ q=>q) fun _ _ q=>q
def Un.flown(un:Un fs [] H H' h0 h1)(h:∀ b O,h0.get? b=some O->b∉fs->∃ o,h1.get? b=some o/\B.get? b=some o)(st:B.StaysIn h2)(s:h1.UpToSlots h2)
  (f:∀ b∈fs,H b=none/\∃ O,h0.get? b=some O/\∀ vs,O.data≠.fields vs):Un fs [] H H' h0 h2:=by
 have S:∀ b O,h0.get? b=some O->H b=none->b∈fs->∃ s,h2.get? b=some { O with slots:=s }:=fun b O q n c=>by
  obtain⟨_,_,a,N⟩:=f b c;rw[q]at a
  cases a
  obtain⟨_,E⟩:=un.slot b O q n c (by simp);obtain⟨d,g⟩:=s b _ E N;exact⟨d,g⟩
 refine⟨fun b O q n c x=>?_,fun b O q n c _=>S b O q n c,fun b O q n x=>un.free b O q n x,fun b O q x=>?_,un.tups,un.uZ,un.vH⟩
 .obtain⟨o,a,E⟩:=h b O q c;rw[un.keep b O q n c x]at a
  cases a
  exact st b _ E
 .by_cases c:b∈fs
  .obtain⟨d,e⟩:=S b O q (f b c).1 c;exact⟨_,e⟩
  .obtain⟨o,_,E⟩:=h b O q c;exact⟨o,st b _ E⟩
end
section
variable{P:ag}{w:aI}{K:bV}{mg:Str->aE av}{base:Heap}{N:aw Str}{qual:Str}{scope:Scope}{f:ar}{cd:av}{A:ai}{outer:aw Env}{s:ae}{H:Hp}{E E':XK}
def WN(h:e.frame=some L):frs (e::l)=L::frs l:=by unfold frs;rw[fw,h]
def Inv.frames(I:Inv X pins σ H s):∀ b∈frs X.stack,H b=none/\∃ O,s.heap.get? b=some O/\∀ vs,O.data≠.fields vs:=
 fun b c=>⟨I.xg b c,let ⟨_,O,e,B⟩:=I.stack.mem c;⟨O,e,B⟩⟩
def Inv.qBY(I:Inv X pins σ H s):∀ b∈frs X.outer,X.H₀ b=none/\∃ O,X.s₀.heap.get? b=some O/\∀ vs,O.data≠.fields vs:=
 fun b c=>⟨I.ok.ZR b c,let ⟨_,O,e,B⟩:=I.ok.uY.mem c;⟨O,e,B⟩⟩
def del(H:Hp)(e:ar):Hp:=fun b=>if b=e then none else H b
def uc:del H e e=none:=cS rfl
def oA(h:b≠e):del H e b=H b:=cK h
def Loose(o:aE HO):Prop:=o=none ∨ ∃ φ,o=some (.ext φ)
section
variable{P:ag}{w:aI}{H H':Hp}{h h':Heap}{e:ar}{fs ex:aw ar}
def Loose.ne(l:Loose (H e))(q:H b=some o)(n:∀ φ,o≠.ext φ):b≠e:=fun z=>by
 subst z;rcases l with y | ⟨φ,y⟩
 .rw[q]at y;cases y
 .rw[q]at y;cases y;exact n φ rfl
def lM.del(x:lM P w H h)(l:Loose (H e)):lM P w (L2.del H e) h:=fun a o q=>by
 by_cases z:a=e
 .subst z;rw[uc]at q
  cases q
 .rw[oA z]at q;refine (x a o q).stay (fun _ _ _ y=>y) (fun b y=>?_) fun b _ y=>?_
  .rw[oA (l.ne y fun _=>nofun)];exact y
  .rw[oA (l.ne y fun _=>nofun)];exact y
def Un.del(u:Un fs ex H H' h h')(l:Loose (H' e)):Un fs ex H (L2.del H' e) h h':=by
 refine⟨u.keep,u.slot,fun b o q n x=>?_,u.there,fun b xs q=>?_,fun b o v q=>?_,fun b ps q=>?_⟩
 .by_cases z:b=e
  .rw[z,uc]
  .rw[oA z];exact u.free b o q n x
 .have y:=u.tups b xs q;rw[oA (l.ne y fun _=>nofun)];exact y
 .have y:=u.uZ b o v q;rw[oA (l.ne y fun _=>nofun)];exact y
 .obtain⟨m,y⟩:=u.vH b ps q;exact⟨m,by rw[oA (l.ne y fun _=>nofun)];exact y⟩
end
def XX(X:Cx)(E:XK):Prop:=∀ p σ H s e C A o vs,Inv X p σ H s->X.s₀.heap.get? e=none->Loose (H e)->s.heap.get? e=some o->o.cls = .ref C →
 o.data = .fields vs->vs[0]? = some A->vs[1]? = some .none->(o.dict=none->vs[2]? = some .none)->E (.ref C) o.dict (del H e)->X.xe (.ref e) s
def qCZ:XX (wF (Ke P w) P w K mg base N qual scope f cd A outer s H E) E:=by
 intro _ σ k a e C X _ _ I T p j R hd G J m W;have F:frs (wF (Ke P w) P w K mg base N qual scope f cd A outer s H E).stack=s.heap.objs.size::frs outer:=WN rfl;generalize t:e::frs (wF (Ke P w) P w K mg base N qual scope f cd A outer s H E).stack=S
 have n:∀ v∈(wF (Ke P w) P w K mg base N qual scope f cd A outer s H E).stack,∀ b,v.frame=some b->b∈S:=
  fun v j b c=>t▸Hr _ (List.mem_filterMap.mpr ⟨v,j,c⟩)
 have B:∀ b O,a.heap.get? b=some O->b≠e->b∉frs (wF (Ke P w) P w K mg base N qual scope f cd A outer s H E).stack->(PySem.W.hideAll a.heap S).get? b=some O:=
  fun b O q z c=>PySem.W.hideAll_get _ q (by rw[<-t];exact fun y=>(dD.mp y).elim z c)
 have D:∀ b,(del k e b).isSome=true->∃ O,a.heap.get? b=some O/\(PySem.W.hideAll a.heap S).get? b=some O:=fun b c=>by
  obtain⟨u,h⟩:=jv.mp c
  have z:b≠e:=fun z=>by rw[z,uc]at h;cases h
  rw[oA z]at h;obtain⟨O,q⟩:=(I.hok b u h).there;exact⟨O,q,B b O q z fun y=>by rw[I.xg b y]at h;cases h⟩
 have g:∀ b O,s.heap.get? b=some O->b∉frs outer->∃ o,a.heap.get? b=some o/\(PySem.W.hideAll a.heap S).get? b=some o:=fun b O q c=>by
  obtain⟨r,x⟩:=I.base.there b O q (by show b∉([]:aw ar);simp);refine⟨r,x,B b r x (fun z=>?_) fun z=>?_⟩
  .subst z;have i:s.heap.get? b=none:=T;rw[q]at i
   cases i
  .rw[F]at z;exact (dD.mp z).elim (jQ (gQ q)) c
 have U:Un (frs outer) [] H (del k e) s.heap a.heap:=Un.del I.base p;show wpAny _ _ (leaving _ (.ref e)) _ _ _;refine Jf (L:=s.heap.objs.size) (base:=PySem.W.hideAll a.heap S) I.ok.frames rfl (fun b O q=>PySem.W.of_hideAll _ q) (PySem.W.funFrames_hide I.stack n) (PySem.W.hideAll_none _ (by rw[<-t];exact FZ)) j hd J G m fun m l Q M=>?_;rw[R]at l;refine⟨e,.ref C,X,del k e,_,rfl,I.os,I.bare,l,(I.hok.del p).flown D l.1,U.flown g l.1 Q I.qBY,fun b c=>?_,fun b O q c=>?_,_,M,W⟩
 .obtain⟨O,_,d⟩:=D b c;exact⟨O,l.1 b _ d,d⟩
 .obtain⟨o,_,d⟩:=g b O q c;exact⟨o,l.1 b _ d,d⟩
end
abbrev VB:aw av:=[.type "ValueError",.type "Exception",.type "BaseException",.type "object"]
theorem Inv.qF4(I:Inv X pins σ H s)(x:X.ex=[])(q:s.heap.get? e=none):X.s₀.heap.get? e=none:=by
 cases z:X.s₀.heap.get? e with
 | none=>rfl
 | some o=>
  obtain⟨_,y⟩:=I.base.there e o z (by rw[x];simp);rw[q]at y
  cases y
theorem Inv.VJ(I:Inv X pins σ H s)(q:s.heap.get? e=none):H e=none:=by
 cases z:H e with
 | none=>rfl
 | some o=>
  obtain⟨_,y⟩:=(I.hok e o z).there;rw[q]at y
  cases y
def XP(X:Cx)(p:aw (ar×Obj))(E:St->XK)(e:av)(s':ae):Prop:=∃ σ1 h S,Inv X p σ1 h S/\Ke X.prog X.w X.stack h S (E σ1) e s'
abbrev TEX:=St->Hp->VK->XK->Prop
abbrev TSX:=Ends->(St->XK)->St->Hp->Prop
def PEX(X:Cx)(e:Expr)(t:TEX):Prop:=∀ p s σ H Q E,Inv X p σ H s->t σ H Q (E σ)->wpAny (model X.prog X.w) X.A (eval e X.env) (EP X p σ Q) (XP X p E) s
def PSX(X:Cx)(st:aw Stmt)(t:TSX):Prop:=∀ p s σ H D E,Inv X p σ H s->t D E σ H->wpAny (model X.prog X.w) X.A (execs st X.env) (SP X p D) (XP X p E) s
theorem YW(F:aL X.prog X.w X.K X.mg X.base (Ke X.prog X.w) k f fd ps sp)(g:fP k X.A)(c:Binds X.K fd ps ds)(hd:Vals qw ds)
  (I:Inv X pins σ H s) (r:Vals vs us) (h:sp (vs++qw) H Q (E σ)):wpAny (model X.prog X.w) X.A (call (.ref f) us) (EP X pins σ Q) (XP X pins E) s:=by
 have R:=r.append hd
 have a:(us++ds).length=ps.length:=by
  rw[<-R.length];exact F.len _ _ _ _ h
 refine wpAny_call (codeAny_mono (F.run X.A X.stack s H ⟨us,[]⟩ (us++ds) (vs++qw) Q (E σ) g I.env0 (c s us I.mQ a) R h) fun r _ z=>?_)
 cases r with
 | error e=>exact⟨σ,H,s,I,z⟩
 | ok l=>
  cases l with
  | ret u=>exact I.after z
  | next=>exact c9 z
  | brk=>exact c9 z
  | cont=>exact c9 z
def JG(c:PEX X e tx)(b:swapsWith e none pos.line X.env=pure false:=by rfl):PSX X [.Expr e pos] (fun D E σ H=>tx σ H (fun _ a=>D.nx σ a) (E σ)):=by intro p s σ H D E I h;exact wpAny_execs_cons (wpAny_Expr_any (bH (c p s σ H _ E I h) fun v _ ⟨y,a,i,_,f⟩=>wpAny_execs_nil ⟨σ,a,i,f⟩) I.quiet b)
noncomputable abbrev Cx.Xq(X:Cx)(e:ar):Cx:={ X with A:=X.A.mark (some (.ref e)),calm:=false,xe:=fun _ _=>False }
def Inv.Xq(I:Inv X pins σ H s)(E:ar):Inv (X.Xq E) pins σ H s:=
 ⟨⟨I.ok.mod,I.ok.kind,I.ok.glob,I.ok.blt,I.ok.above,I.ok.inj,I.ok.has,I.ok.cab,(fun z=>Bool.noConfusion z),I.ok.frames,I.ok.stk,I.ok.exf,I.ok.bs,I.ok.Xw,I.ok.R9,I.ok.Wj,I.ok.uY,I.ok.ZR⟩,I.os,I.bare,I.base,I.loc,I.cell,I.free,I.jq,I.pin,I.hok,I.len⟩
def Inv.Xn(I:Inv (X.Xq ea) pins σ H s)(ok:X.Ok):Inv X pins σ H s:=⟨ok,I.os,I.bare,I.base,I.loc,I.cell,I.free,I.jq,I.pin,I.hok,I.len⟩
theorem SP.Xn(ok:X.Ok)(h:SP (X.Xq ea) pins D f s'):SP X pins D f s':=by
 cases f with
 | next=>obtain⟨σ',H,I,q⟩:=h;exact⟨σ',H,I.Xn ok,q⟩
 | brk=>obtain⟨σ',H,I,q⟩:=h;exact⟨σ',H,I.Xn ok,q⟩
 | cont=>obtain⟨σ',H,I,q⟩:=h;exact⟨σ',H,I.Xn ok,q⟩
 | ret u=>obtain⟨v,σ',H,I,r,q⟩:=h;exact⟨v,σ',H,I.Xn ok,r,q⟩
def qJN(K:bV)(C:ar)(T:TSX)(t:TS):TS:=fun D σ H=>T D (fun σ' c _ h=>PySem.W.exmOne K c (.ref C)=some true/\t D σ' h) σ H
theorem qBU(P:PSX X body tb)(T:Gl X x)(R:X.mg x=some (.ref C))(O:∀ e:ar,Cw (X.Xq e) (Q::suite) th)(c:X.stack=X.env::X.outer:=by rfl)(g:X.env.frame=some X.env.locals:=by rfl)(o:(x==("__debug__" : Str))=false:=by decide) :
  PS X (.Try body [.ExceptHandler (some (.Name x np)) none (Q::suite) hpos] [] [] pos) (qJN X.K C tb th):=by
 intro p s σ H D I h;refine wpAny_Try_except (c8 (P p s σ H D _ I h) (fun f d q=>?_) fun e d q=>?_)
 .cases f with
  | next=>exact wpAny_execs_nil q
  | brk=>exact q
  | cont=>exact q
  | ret u=>exact q
 obtain⟨σ1,_,_,i,E,b,_,m,B,rfl,y,n,r,hok,un,A,w,_,_,t,k⟩:=q;have W:=i.ok.frames;rw[c]at r W;refine wpAny_looks_onW W g r fun _ G a=>wpAny_landsW G fun v Z S=>?_;have u5:=un.flown w Z.1 (a.trans S) i.frames;have J:Inv X p σ1 m { d with heap:=v }:=i.call' y u5 (hok.flown A Z.1) n (fun _ z=>nomatch z);obtain⟨_,j,N⟩:=Z.there;refine wpAny_handleBy_cons (codeAny_handlers_test (nW (J.Xq E) T R ?_ o)) (by intro z;cases z)
 have LT:PySem.W.Looks (model X.prog X.w) v (typeOf (.ref E)) b:=by
  rw[<-N];exact (PySem.W.Looks.ld j).andThen .now
 refine (PySem.W.exm_one J.mQ LT t).here (codeAny_handlers_suite ?_);refine lands_againW Z fun L F l=>?_;have u6:=un.flown w F.1 ((a.trans S).trans l) i.frames;have M:Inv X p σ1 m { d with heap:=L }:=i.call' y u6 (hok.flown A F.1) n (fun _ z=>nomatch z);exact c8 (O E p _ σ1 m D (M.Xq E) k) (fun f _ q=>q.Xn i.ok) fun _ _ z=>z.elim
end L2
namespace L2
open PySem PySem.Spec PyProof.Rows PySem.W
structure wJ(K:Frag)(C:Addr):Prop where
 ga:findIn K (.ref C) "__getattribute__" = some (some (.builtin "BaseException.__getattribute__"))
 no:findIn K (.ref C) "__getattr__" = some none
 cl:findIn K (.ref C) "__class__" = some (some (.builtin "object.__class__"))
 ob:mroIn K C (.type "object")=some true
 be:mroIn K C (.type "BaseException")=some true
 is:(clsIn K C).isSome=true
section
variable{prog:ag}{w:aI}{A:ai}{E:av->ae->Prop}{h:Heap}{g:Array GenState}{d:Drawn}{t:Nat}{os:OsState}{a C:ar}{o:Obj}{K:Frag}
def Wk(X:K.In h)(q:wJ K C)(x:h.get? a=some o)(f:o.cls = .ref C)(b:R (.ok (.ret (.ref C))) ⟨h,g,d,t,os⟩) :
  codeAny (model prog w) A (.call (.builtin "getset_descriptor.__get__") ⟨[.builtin "object.__class__",.ref a,tp],[]⟩) R ⟨h,g,d,t,os⟩:=by
 have H:(⟨h,g,d,t,os⟩:ae).TypeIs (.builtin "object.__class__") "getset_descriptor" := F.typeOf_object_class
 have L:Looks (model prog w) h (isSubtype (.ref C) (.type (".".intercalate ("object.__class__".cutAt '.').dropLast))) true:=by
  rw[F.owner_object_class];exact looks_mroIn X q.ob
 refine codeAny_call_builtin F.slot_gs_get.plain F.entry_gs_get (F.slot_gs_get.check _ _ _ _ _ _ _ _ H (F.args_gs_get _ _ _) ?_)
 repeat (any_goals (first | assumption | (with_reducible refine wpAny_loadPart_at x ?_;rw[f]) | with_reducible refine L.at ?_ | wp_step))
 refine⟨Code.quiet_builtin _ (by decide +kernel),codeAny_builtin F.entry_object_class ?_⟩
 repeat (any_goals (first | assumption | (with_reducible refine wpAny_loadPart_at x ?_;rw[f]) | wp_step))
def Bj(X:K.In h)(q:wJ K C)(x:h.get? a=some o)(f:o.cls = .ref C)(b:Q () ⟨h,g,d,t,os⟩) :
  wpAny M A (checkBuiltinCall "BaseException.__getattribute__" ⟨[.ref a,nameV],[]⟩) Q E ⟨h,g,d,t,os⟩:=by
 have H:builtinKind "BaseException.__getattribute__" = some .slot:=by decide +kernel
 have l:splitId "BaseException.__getattribute__" = some ("BaseException","__getattribute__"):=by decide +kernel
 have p:=F.args_bexc_ga (.ref a) nameV;have LS:=looks_mroIn (M:=M) X q.be;simp only[checkBuiltinCall,H,l];refine aS ?_;unfold isInstance
 repeat (first | (with_reducible refine wpAny_loadPart_at x ?_;rw[f]) | with_reducible refine LS.at ?_ | wp_step)
 exact b
def Mq(X:K.In h)(q:wJ K C)(x:h.get? a=some o)(f:o.cls = .ref C)(c:Q (.done (.ret (.ref C))) ⟨h,g,d,t,os⟩) :
  wpAny (model prog w) A (Builtin.«object.__getattribute__» ⟨[.ref a,.str "__class__" tk],[]⟩) Q E ⟨h,g,d,t,os⟩:=by
 have H:(⟨h,g,d,t,os⟩:ae).TypeIs (.builtin "object.__class__") "getset_descriptor" := F.typeOf_object_class;have L:=looks_findIn (M:=model prog w) X q.cl;have e:=F.typeOf_object_class;have i:=F.slot_gs_get.lookup;have b:=F.slot_gs_set.lookup
 repeat (any_goals (first | assumption | (with_reducible refine wpAny_loadPart_at x ?_;rw[f]) | with_reducible refine L.at ?_ | wp_step))
 refine Wk X q x f ?_
 repeat (any_goals (first | assumption | wp_step))
def ZZ(X:K.In h)(q:wJ K C)(x:h.get? a=some o)(f:o.cls = .ref C)(H:Q (.ref C) ⟨h,g,d,t,os⟩) :
  wpAny (model prog w) A (getAttrBy (.ref a) (.str "__class__" tk) false) Q E ⟨h,g,d,t,os⟩:=by
 have B:=F.excAttr_ValueError.ga.bind (.ref a)
 have b:(Value.builtin "BaseException.__getattribute__" == Value.builtin "object.__getattribute__")=false:=by decide +kernel
 have c:(onTheHeap (Value.ref C)&&Value.builtin "BaseException.__getattribute__" == Value.builtin "object.__getattribute__")=false:=by rw[b];rfl
 have L:=looks_findIn (M:=model prog w) X q.ga;have l:=looks_findIn (M:=model prog w) X q.no
 repeat (any_goals (first | assumption | (with_reducible refine wpAny_loadPart_at x ?_;rw[f]) | with_reducible refine L.at ?_ | with_reducible refine l.at ?_ | wp_step))
 refine codeAny_call_builtin F.excAttr_ValueError.ga.plain F.entry_bexc_ga (Bj X q x f (Mq X q x f ?_))
 repeat (any_goals (first | assumption | wp_step))
def Rf(X:K.In h)(q:wJ K C)(x:h.get? a=some o)(f:o.cls = .ref C)(H:Q (some (.ref C)) ⟨h,g,d,t+1,os⟩) :
  wpAny (model prog w) A (getAttr? (.ref a) "__class__") Q E ⟨h,g,d,t,os⟩:=by
 unfold getAttr? getAttrBy?
 repeat (any_goals (first | assumption | with_reducible apply ZZ X q x f | wp_step))
def ExcAt(a C:ar)(D:aE ar)(h:Heap):Prop:=∃ O,h.get? a=some O/\O.cls = .ref C/\O.dict=D/\notCls O=true
def Ba(q:wJ K C):KitX K (.ref a) (.ref C) (ExcAt a C D) where
 ty:=fun M h _ ⟨O,x,f,_⟩=>by
  rw[<-f];exact (Looks.ld x).andThen .now
 it:=fun _ _ X _=>by
  have Z:=q.is;unfold clsIn at Z
  split at Z
  .rename_i o
   intro _ _ _ _ k z;unfold isType loadHead;exact aS (wpAny_loadPart (k _ _ (X _ _ o)) (aT z))
  .cases Z
 ne:=fun h T D _ n _ X H=>by
  refine eJ.mpr fun z=>?_;have e:C=T:=Value.ref.inj (beq_iff_eq.mp z);subst e;have Z:=q.is;unfold clsIn at Z
  split at Z
  .rename_i o
   have y:=(X _ _ o).symm.trans H
   cases y
  .cases Z
 ca:=fun {_ _ _ _ _ s} X ⟨O,x,f,_⟩ k=>by
  obtain⟨h,g,d,t,_⟩:=s;exact Rf X q x f k
end
def wD(a C:ar)(D:aE ar):HO:=.ext (ExcAt a C D)
def Gz(I:Inv X pins σ H s)(e:H a=some (wD a C dd)):ExcAt a C dd s.heap:=(I.hok a _ e).1
theorem DY:∀ {C:aw ar} {its:aw av},Vals (C.map V.ref) its->its=C.map Value.ref
 | [],_,.nil=>rfl
 | c::C,v::vs,.cons r R=>by
  cases (show v=Value.ref c from r)
  rw[bt,<-DY R]
def qES(K:Frag):aw V->Hp->VK->Prop:=fun xs H Q => ∃ a C D T b,xs=[.ref a,.ty T]/\H a=some (wD a C D)/\wJ K C/\kitOne K (.ref C) (.type T)=some b/\Q (.bl b) H
def X6:ir X (.builtin "isinstance") (qES X.K):=by
 intro _ s σ H _ _ Q I r h;obtain⟨a,C,_,T,b,rfl,d,q,e,z⟩:=h;obtain⟨u,W,rfl,c,R⟩:=vals2 r
 cases (show W=Value.type T from R)
 cases (show u=Value.ref a from c)
 exact kia_one (Ba q) I.mQ (Gz I d) e (fun y=>nomatch y) fun t=>⟨.bl b,H,I.tok t,rfl,z⟩
def qAI(K:Frag):aw V->Hp->VK->Prop:=fun xs H Q => ∃(a C T:ar)(D:aE ar)(c:aw ar)(b:Bool),xs=[.ref a,.ref T]/\H a=some (wD a C D)/\wJ K C/\H T=some (.tup (c.map V.ref)) ∧
  kitAny K (.ref C) (c.map Value.ref)=some b/\Q (.bl b) H
def Rr:ir X (.builtin "isinstance") (qAI X.K):=by
 intro _ s σ H _ _ Q I r h;obtain⟨a,C,T,_,c,b,rfl,g,q,ht,e,z⟩:=h;obtain⟨u,W,rfl,f,R⟩:=vals2 r
 cases (show W=Value.ref T from R)
 cases (show u=Value.ref a from f)
 obtain⟨_,its,v,O,d,l,n,p⟩:=(show bM X.prog X.w H s.heap T (.tup (c.map V.ref)) from I.hok T _ ht);have E:its=c.map Value.ref:=DY v;subst E;obtain⟨o,_,D,_⟩:=O
 cases (show o = .type "tuple" from l)
 cases (show D = .seq _ n from p)
 exact kia_tup (Ba q) I.mQ (Gz I g) d e (fun y=>nomatch y) fun t=>⟨.bl b,H,I.tok t,rfl,z⟩
end L2
namespace L2
open PySem PySem.Spec PyProof.Rows
def Inv.gone(I:Inv X pins σ H s)(N:X.N.Nodup)(f:X.N[i]? = some n)
  (A:∀(j:Nat)(y:Str)(v:V),X.N[j]? = some y->σ[j]? = some (some v)->Vis X.env.scope y->∃ u,RelV v u/\Look X.env s.heap m y u)
  (h:h'.Ns X.env.locals fun y=>if y=n then v' else m y) (a:Heap.SameBut X.env.locals s.heap h'):Inv X pins (σ.set i none) H { s with heap:=h',toks:=t' }:=by
 have o:∀ b O,X.s₀.heap.get? b=some O->b≠X.env.locals:=fun b O q=>jQ (KR (gQ q) I.ok.above)
 have D:i<σ.length:=by rw[I.len];exact (oW.mp f).1
 refine⟨I.ok,I.os,I.bare,⟨fun b O q z1 z2 z3=>?_,fun b O q z1 z2 z3=>?_,I.base.free,fun b O q z=>?_,I.base.tups,I.base.uZ,I.base.vH⟩,⟨_,h,fun j y v d E t=>?_⟩,fun y c q=>?_,I.free,I.jq,fun p x=>?_,fun b O q=>?_,by simpa using I.len⟩
 .exact (a.2 b (o b O q)).trans (I.base.keep b O q z1 z2 z3)
 .obtain⟨S,e⟩:=I.base.slot b O q z1 z2 z3;exact⟨S,(a.2 b (o b O q)).trans e⟩
 .obtain⟨g,e⟩:=I.base.there b O q z;exact⟨g,(a.2 b (o b O q)).trans e⟩
 .by_cases G:j=i
  .subst G;rw[dy D]at E
   cases E
  .rw[df (bE G)]at E;obtain⟨u,r,l⟩:=A j y v d E t;refine⟨u,r,?_⟩;rcases l with ⟨k,e⟩ | ⟨k,c,e,z⟩
   .have:y≠n:=fun e=>G (BV N d (e▸f));exact .inl ⟨k,(cK this).trans e⟩
   .exact .inr ⟨k,c,e,z.sameBut a (I.Zh y c e)⟩
 .obtain⟨v,z⟩:=I.cell y c q;exact⟨v,z.sameBut a (I.Zh y c q)⟩
 .obtain⟨e,z1,z2,z3,z4⟩:=I.pin p x;exact⟨(a.2 p.1 z2).trans e,z1,z2,z3,z4⟩
 .refine (I.hok b O q).stay (fun c u w e=>(a.2 c fun z=>?_).trans e) (fun _ z=>z) fun _ _ z=>z;rcases w with y | y
  .rw[<-y,z,I.free]at q
   cases q
  .rw[z,I.free]at y
   cases y
def qBA(K:bV)(C:ar)(i:Nat)(T:TSX)(t:TS):TS:=fun D σ H=>T D (fun σ' c d h=>∃ b:ar,c = .ref b/\PySem.W.exmOne K c (.ref C)=some true ∧
 ∀ E,h E=none->t { nx:=fun σ2 a=>D.nx (σ2.set i none) a,rt:=D.rt,bk:=fun σ2 a=>D.bk (σ2.set i none) a,ct:=fun σ2 a=>D.ct (σ2.set i none) a } (σ'.set i (some (.ref E))) (upd h E (wD E b d))) σ H
theorem UW(j:PSX X body tb)(hg:Gl X x)(hm:X.mg x=some (.ref C))(G:X.N.Nodup)(O:X.N[i]? = some n)(w:X.env.scope.names.lookup n=some .local)(hh:∀ e:ar,Cw (X.Xq e) (b0::suite) th)
  (hst:X.stack=X.env::X.outer:=by rfl) (hfr:X.env.frame=some X.env.locals:=by rfl) (hdb:(x==("__debug__" : Str))=false:=by decide) :
  PS X (.Try body [.ExceptHandler (some (.Name x np)) (some n) (b0::suite) hpos] [] [] pos) (qBA X.K C i tb th):=by
 intro p s σ H D I h;refine wpAny_Try_except (c8 (j p s σ H D _ I h) (fun f s1 q=>?_) fun e s1 q=>?_)
 .cases f with
  | next=>exact wpAny_execs_nil q
  | brk=>exact q
  | cont=>exact q
  | ret u=>exact q
 obtain⟨σ1,H1,s0,g,E,_,_,y,B,rfl,ho,M,fl,hok,un,hB,hC,W,hdd,T,rfl,hmt,hth⟩:=q;have WQ:=g.ok.frames;rw[hst]at fl WQ;refine RK WQ hfr fl hdd fun _ W3 P dk4=>qCL W3 dk4 fun h5 ZV S dk5=>?_;have u5:=un.flown hC ZV.1 (P.trans S) g.frames;have J5:Inv X p σ1 y { s1 with heap:=h5 }:=g.call' ho u5 (hok.flown hB ZV.1) M (fun _ z=>nomatch z);obtain⟨_,hob,hoc⟩:=ZV.there;refine wpAny_handleBy_cons (codeAny_handlers_test (nW (J5.Xq E) hg hm ?_ hdb)) (by intro z;cases z)
 have LT:PySem.W.Looks (model X.prog X.w) h5 (typeOf (.ref E)) (.ref T):=by
  rw[<-hoc];exact (PySem.W.Looks.ld hob).andThen .now
 refine (PySem.W.exm_one J5.mQ LT hmt).here (codeAny_handlers_suite_as ?_);refine Gj ZV dk5 fun U F sl6 dk6=>?_;have u6:=un.flown hC F.1 ((P.trans S).trans sl6) g.frames;obtain⟨Y,ws,R,c6,d6,_⟩:=F.first
 have q6:Y.dict=W:=by
  obtain⟨r,z1,z2⟩:=dk6;rw[show U.get? E=some Y from R]at z1
  cases z1
  exact z2.1
 have A:y E=none:=by
  cases q:y E with
  | none=>rfl
  | some z=>
   obtain⟨r,_,e2⟩:=hB E (by rw[q];rfl);rw[fl.2.1]at e2
   cases e2
 have nea:∀ b r,s0.heap.get? b=some r->b≠E:=fun b r q z=>by
  subst z
  by_cases j:b∈frs X.stack
  .obtain⟨z1,o2,J,nf⟩:=g.frames b j;rw[q]at J
   cases J
   obtain⟨_,q3⟩:=u6.slot b r q z1 j (by simp);rw[R]at q3
   cases q3
   exact nf ws d6
  .obtain⟨_,_,J⟩:=hC b r q j;rw[fl.2.1]at J
   cases J
 have u7:Un (frs X.stack) [] H1 (upd y E (wD E T W)) s0.heap U:=by
  refine⟨u6.keep,u6.slot,fun b r q z1 z2=>?_,u6.there,fun b xs q=>?_,fun b r u q=>?_,fun b ps q=>?_⟩
  .rw[zR (nea b r q)];exact u6.free b r q z1 z2
  .have Q:=u6.tups b xs q;rw[zR (zN Q A)];exact Q
  .have Q:=u6.uZ b r u q;rw[zR (zN Q A)];exact Q
  .obtain⟨more,Q⟩:=u6.vH b ps q;exact⟨more,by rw[zR (zN Q A)];exact Q⟩
 have hk6:=hok.flown hB F.1
 have hk7:lM X.prog X.w (upd y E (wD E T W)) U:=fun b r q=>by
  by_cases j:b=E
  .subst j;rw[zC]at q
   cases q
   exact⟨⟨Y,R,c6,q6,by unfold PySem.W.notCls;rw[d6]⟩,⟨Y,R⟩,fun _ _ ⟨o2,z1,z2⟩ k=>⟨o2,k o2 z1,z2⟩⟩
  .rw[zR j]at q;refine (hk6 b r q).stay (fun _ _ _ z=>z) (fun c z=>?_) fun c xs z=>?_
   .rw[zR (zN z A)];exact z
   .rw[zR (zN z A)];exact z
 have J6:Inv X p σ1 (upd y E (wD E T W)) { s1 with heap:=U }:=g.call' ho u7 hk7 M (fun _ z=>nomatch z);refine oZ (v:=.ref E) J6 G O (.inl w) rfl (fun _ I8=>?_) (.inr w);refine c8 (hh E p _ _ _ _ (I8.Xq E) (hth E A)) (fun f _ q=>?_) fun _ _ z=>z.elim
 have Z:(X.env.scope.kind==.class||(X.env.scope.kind==.module&&X.env.locals != X.env.globals))=false:=by
  rw[I.ok.kind];rfl
 cases f with
 | next=>
  obtain⟨σ9,l,t,m⟩:=q;have d:=t.Xn g.ok;obtain⟨m9,N,L⟩:=id d.loc;exact wpAny_nameGoes_keeps w N Z fun h' v' a o=>⟨_,l,d.gone G O L a o,m⟩
 | brk=>
  obtain⟨σ9,l,t,m⟩:=q;have d:=t.Xn g.ok;obtain⟨m9,N,L⟩:=id d.loc;exact wpAny_nameGoes_keeps w N Z fun h' v' a o=>⟨_,l,d.gone G O L a o,m⟩
 | cont=>
  obtain⟨σ9,l,t,m⟩:=q;have d:=t.Xn g.ok;obtain⟨m9,N,L⟩:=id d.loc;exact wpAny_nameGoes_keeps w N Z fun h' v' a o=>⟨_,l,d.gone G O L a o,m⟩
 | ret u=>
  obtain⟨v,σ9,l,t,r9,m⟩:=q;have d:=t.Xn g.ok;obtain⟨m9,N,L⟩:=id d.loc;exact wpAny_nameGoes_keeps w N Z fun h' v' a o=>⟨v,_,l,d.gone G O L a o,r9,m⟩
section
variable{P:ag}{w:aI}{K:bV}{mg:Str->aE av}{base:Heap}
def bO.okX{st:Stmt}{f:ar}{a:af}{N ps:aw Str}{k:Nat}{sp:Sp}(F:bO K x qual st f a)(S:aF N ps (aA st))(len:∀ vs H Q E,sp vs H Q E->vs.length=ps.length)
  (g:∀ c A o s H vs Q E,fP k (A.deeper (envOfC qual (aA st) s.heap.objs.size f c))->sp vs H Q E →
   ∃ t,Cw (wF (Ke P w) P w K mg base N qual (aA st) f c A o s H E) (jE st) t/\t { nx:=fun _ h=>Q .non h,rt:=Q } (start N vs) H):aL P w K mg base (Ke P w) (k+1) f a ps sp:=by apply aW;intro _ g_;obtain⟨_,_,_,_,_,_,c,_,_,rfl,L,d⟩:=F.ex;apply g_;clear g_;exact qAT L d S len fun A o s H vs Q E r z=>g c A o s H vs Q E r z
end
end L2
namespace L2
open PySem PySem.Spec PyProof.Rows PySem.W
noncomputable def sE(K:Frag)(C fI:ar):Bool:=match K.lookup C with
 | some ⟨.type "type",_,.cls c,s⟩=>(match c.mro,s.toList with
  | .ref a::b,[_,_,_,_,some (.builtin n),_]=>a==C&&(n == "ValueError.__new__" && (!c.hasDel&&(c.hasDict&&(tailIn K VB b&&(nsOkIn K c.ns&&(nsIn K c.ns "__init__" == some (some (.ref fI))&&isFn K (.ref fI)))))))
  | _,_=>false)
 | _=>false
def KN(h:Heap)(C fI:ar):Prop:=∃ b N nm q bs s sub a c D d U k e n m o,h.get? C=some (excClassObj nm q C N bs b true s sub a c D d U k e n "ValueError.__new__")/\h.Ns N m ∧
 m "__init__" = some (.ref fI)/\OwnTail h VB b/\h.get? fI=some o/\o.cls = .type "function"
def Z5{K:Frag}{h:Heap}{N:ar}{mg:Str->aE av}{n:Str}{v:av}(X:K.In h)(G:h.Ns N mg)(e:nsIn K N n=some (some v)):mg n=some v:=by
 obtain⟨o,_,_,H,hd,_,f⟩:=G;unfold nsIn at e
 split at e
 .rename_i c d E a s q
  have z:=X _ _ q;rw[H]at z
  cases z
  cases hd
  split at e
  .rename_i i
   cases e
   rw[<-f];unfold nsFind findBy;rw[<-Array.find?_toList,i];rfl
  .split at e <;> cases e
 .cases e
theorem KN.of{K:Frag}{h:Heap}{C fI:ar}(q:sE K C fI=true)(X:K.In h):KN h C fI:=by
 unfold sE at q
 split at q
 .rename_i D b s L
  split at q
  .rename_i v B u U k t n p E e
   simp only[Bool.and_eq_true,beq_iff_eq,Bool.not_eq_true']at q;obtain⟨r,j,m,d,w,a,f,g⟩:=q;subst r j;obtain⟨nm,bs,_,ns,i,_,S,sub,A,c,_⟩:=b;simp only at E m a f d;subst E m d;obtain⟨l⟩:=s;simp only at e;subst e
   have z:∃ o,h.get? fI=some o/\o.cls = .type "function" := by
    unfold isFn at g;have Q:=beq_iff_eq.mp g;simp only[typeIn]at Q
    cases lf:K.lookup fI with
    | none=>rw[lf]at Q;cases Q
    | some O=>rw[lf]at Q;exact⟨O,X _ _ lf,kJ Q⟩
   obtain⟨o,z1,z2⟩:=z;exact⟨B,ns,nm,i,bs,S,sub,A,c,D,u,U,k,t,p,_,o,X _ _ L,.of_isNs (isNs_of_in X a),Z5 X (.of_isNs (isNs_of_in X a)) f,tail_of_in X w,z1,z2⟩
  .cases q
 .cases q
section
variable{prog:ag}{w:aI}{A:ai}{E:av->ae->Prop}{h:Heap}{g:Array GenState}{d:Drawn}{t:Nat}{os:OsState}{C fI:ar}
def Rw{rest:aw av}{Q:av->ae->Prop}(c:KN h C fI)(f:rest.length<=sizeLine)
  (v:∀ h' e,Heap.MadeExcOf h h' e (.ref C) rest->wpAny (model prog w) (A.under (.builtin "type.__call__" ⟨.ref C::rest,[]⟩)) (call (.ref fI) (.ref e::rest)) (fun r s'=>r = .none/\Q (.ref e) s') E ⟨h',g,d,t,os⟩) :
  wpAny (model prog w) A (call (.ref C) rest) Q E ⟨h,g,d,t,os⟩:=by
 obtain⟨B,N,_,_,_,_,_,_,_,_,_,_,k,_,_,_,_,a,s,y,T,I,l⟩:=c;have F:=ky;have z:=tc_lookup;have O:=tc_bind (.ref C);have D:(⟨h,g,d,t,os⟩:ae).TypeIs (.ref C) "type" := ⟨_,a,rfl⟩;refine wpAny_call (codeAny_of_tree ?_);show wpAny _ _ (callAny (.ref C) _) _ _ _
 repeat (any_goals (first | assumption | with_reducible refine wpAny_loadPart_at a ?_ | wp_step))
 refine⟨rfl,codeAny_call_builtin_at (Code.quiet_builtin _ (by decide +kernel)) entry_typeCall (wpAny_check_type_call_sub a ?_)⟩
 repeat (first | with_reducible refine wpAny_loadPart_at a ?_ | with_reducible refine wpAny_madeBy_exc a ?_ | wp_step)
 refine codeAny_call_builtin_code (Code.quiet_builtin _ F.quiet) (wpAny_check_new_subT F T a (codeAny_exc_new_subT F T a ?_ f));show wpAny _ _ _ _ _ ⟨(h.push { cls:=.type "tuple",data:=.seq rest.toArray }).push { cls:=.ref C,data:=.fields #[.ref h.objs.size,.none,.none,.none,.bool false,.none] },g,d,t,os⟩;generalize i:(h.push { cls:=.type "tuple",data:=.seq rest.toArray }).push { cls:=.ref C,data:=.fields #[.ref h.objs.size,.none,.none,.none,.bool false,.none] }=m
 have k:∀ b o,h.get? b=some o->m.get? b=some o:=fun b o e=>by rw[<-i];exact fM _ (fM _ e)
 have H:m.get? (h.objs.size+1)=some { cls:=.ref C,data:=.fields #[.ref h.objs.size,.none,.none,.none,.bool false,.none] }:=by rw[<-i];heap_get
 have p:m.get? h.objs.size=some { cls:=.type "tuple",data:=.seq rest.toArray }:=by rw[<-i];exact fM _ (Heap.get?_push_at rfl rfl)
 have n:(Value.ref C::B).contains (.ref C)=true:=by simp
 have j:=k _ _ a;unfold isInstance
 repeat (first | with_reducible refine wpAny_loadPart_at H ?_ | (with_reducible refine wpAny_isSubtype_exc j ?_;rw[n]) | wp_step)
 show wpAny _ _ (typeLookup (.ref C) _) _ _ _;refine wpAny_typeLookup_tail j (s.keeps k) (T.keeps k) F.mroIs F.init.lookup ?_;rw[y];refine cq (aS ?_);unfold bindSpecial;refine aS (wpAny_typeOf (T := "function") ⟨_,k _ _ I,l⟩ ?_);rw[cS (by decide)];refine aT (aS (c8 (v _ (h.objs.size+1) ⟨k,eS (ip _),h.objs.size,H,eS (bD _),p⟩) (fun r s' q=>?_) fun _ _ x=>x));obtain⟨rfl,u⟩:=q
 wp_walk
 exact u
end
def Ld(c:A.handled=none)
  (h:wpAny M A x (fun v S => ∃ e o vs,v = .ref e/\KN S.heap C fI/\S.heap.get? e=some o/\o.cls = .ref C/\o.data = .fields vs/\vs[1]? = some .none/\E (.ref e) S) E s) :
  wpAny M A (raiseStmt env (some x) none) Q E s:=by
 unfold raiseStmt;refine aS (c8 h (fun v S j=>?_) fun _ _ x=>x);obtain⟨e,o,vs,rfl,⟨B,N,_,_,_,_,_,_,_,_,_,_,_,_,_,_,_,a,_,_,T,_,_⟩,i,f,hd,b,k⟩:=j
 have H:(Value.ref C::B).contains (.type "BaseException")=true:=by rw[List.contains_cons,T.hasType PySem.F.excBase_ValueError.hasBase,Bool.or_true]
 obtain⟨p,g,d,t,os⟩:=S;obtain⟨_,_,_,_⟩:=o;simp only at f hd;subst f hd;have fld:∀ {q:av->ae->Prop},q .none ⟨p,g,d,t,os⟩->wpAny M A (field (.ref e) 1) q E ⟨p,g,d,t,os⟩:=fun z=>wpAny_field i rfl b z
 repeat (first | with_reducible refine wpAny_loadPart_at i ?_ | with_reducible refine wpAny_loadPart_at a ?_ | (with_reducible refine wpAny_isSubtype_exc a ?_;rw[H]) | with_reducible refine fld ?_ | wp_step)
 exact wpAny_raiseNew_none c k
def qDE(e C:ar)(D:aE ar)(h:Heap):Prop:=∃ Z:ar,h.get? e=some { cls:=.ref C,dict:=D,data:=.fields #[.ref Z,.none,.none,.none,.bool false,.none] }
def xQ(e C:ar)(D:aE ar):HO:=.ext (qDE e C D)
def Ge(x:qDE e C dd h):bM P w H h e (xQ e C dd):=
 ⟨x,let ⟨_,q⟩:=x;⟨_,q⟩,fun _ _ ⟨Z,q⟩ k=>⟨Z,k _ q⟩⟩
def Inv.laidN(I:Inv X pins σ H s)(k:∀ b u,s.heap.get? b=some u->h'.get? b=some u)(p:s.heap.get? a=none)(new:bM X.prog X.w (upd H a o) h' a o) :
  Inv X pins σ (upd H a o) { s with heap:=h',toks:=t' }:=by
 have f:H a=none:=I.VJ p;refine I.un ⟨fun b u q _ _ _=>k b u q,fun b u q _ _ _=>⟨u.slots,k b u q⟩,fun b u q n _=>?_,fun b u q _=>⟨u,k b u q⟩,fun b xs q=>?_,fun b u xs q=>?_,fun b _ q=>⟨#[],?_⟩⟩ fun b u q=>?_
 .rw[zR (fun z=>by subst z;rw[p]at q;cases q)];exact n
 .rw[zR (zN q f)];exact q
 .rw[zR (zN q f)];exact q
 .rw[zR (zN q f),q];simp
 .by_cases h:b=a
  .subst h;rw[zC]at q
   cases q
   exact new
  .rw[zR h]at q
   exact (I.hok b u q).stay (fun c v _ z=>k c v z) (fun c z=>by rw[zR (zN z f)];exact z) fun c xs z=>by rw[zR (zN z f)];exact z
def Y5(C:ar)(sp:Sp)(q:aw V)(E:XK)(t:TA):TS:=fun _ σ H=>t σ H fun vs h=>vs.length<=sizeLine/\∀ e,h e=none →
 sp (.ref e::(vs++q)) (upd h e (xQ e C none)) (fun v a=>v = .non/\∃ D,a e=some (xQ e C D)/\E (.ref C) D (del a e)) E0
theorem QS{b:Expr}{rest:aw Expr}{t:TA}{E:XK}(N:XX X E)(P:X.calm=true)(hg:Gl X x)
  (c:X.mg x=some (.ref C)) (n:sE X.K C fI=true) (Q:keepIn X.K (.ref C)=true) (F:aL X.prog X.w X.K X.mg X.base (Ke X.prog X.w) k fI fd ps sp) (O:fP (k+1) X.A) (hb:Binds X.K fd ps ds) (hd:Vals qw ds)
  (ha:PA X (b::rest) t) (hex:X.ex=[]:=by rfl) (m:(x==("__debug__" : Str))=false:=by decide)
  (B:starEach (b::rest) X.env=(false,eval b X.env)::starEach rest X.env:=by rfl) (l:(backTo cpos (starEach rest X.env)).any (·.1)=false:=by rfl) :
  PS X (.Raise (some (.Call (.Name x np) (b::rest) [] cpos)) none pos) (Y5 C sp qw E t):=by
 intro p s σ H D I h;rw[arm_exec_Raise];simp only[evalOpt,Option.map];refine aS (wpAny_standAt (Ld (C:=C) (fI:=fI) (I.ok.hd P) (aS (c8 ?_ (fun v _ a=>aS (wpAny_standAt (aT a))) fun _ _ x=>x))));refine wpAny_Call_Name_kw (nW I hg c ?_ m);refine callWith_K (h₀:=X.base) I.ok.mod.kin Q (bH (ha cpos p s σ H _ I h) fun us S ⟨vs,M,i,r,q1,q⟩=>⟨i.mQ,?_⟩) B l;obtain⟨_,g,d,T,_⟩:=S;refine Rw (KN.of n i.mQ) (by rw[List.nil_append,<-r.length];exact q1) fun _ e c=>?_;obtain⟨Z,z1,_,_⟩:=c.there;have hH:M e=none:=i.VJ c.new;have f:=i.laidN (o:=xQ e C none) (t':=T) c.keeps c.new (Ge ⟨Z,z1⟩);have w:=q e hH;have R:Vals (V.ref e::(vs++qw)) (Value.ref e::(us++ds)):=.cons rfl (r.append hd)
 have G:(Value.ref e::us++ds).length=ps.length:=by
  have z:=R.length;rw[F.len _ _ _ _ w]at z;exact z.symm
 refine wpAny_call (codeAny_mono (F.run _ X.stack _ _ ⟨Value.ref e::us,[]⟩ (Value.ref e::(us++ds)) _ _ E0 (O.make C us []) (f.env0.make C us []) (hb _ (Value.ref e::us) f.mQ G) R w) fun r s' z=>?_)
 cases r with
 | error e=>obtain⟨_,_,_,_,_,_,_,_,_,_,_,_,_,_,_,y⟩:=z;exact y.elim
 | ok J=>
  cases J with
  | ret u=>
   obtain⟨v,H',j,U,W,_,A,L⟩:=f.after z;subst W;obtain⟨⟨t1,Y⟩,_⟩:=j.hok e _ A;exact⟨U,e,_,_,rfl,KN.of n j.mQ,Y,rfl,rfl,rfl,N p σ H' s' e C (.ref t1) _ _ j (i.qF4 hex c.new) (.inr ⟨_,A⟩) Y rfl rfl rfl rfl (fun _=>rfl) L⟩
  | next=>exact c9 z
  | brk=>exact c9 z
  | cont=>exact c9 z
def Rz{rest:aw av}{Q:av->ae->Prop}(c:KN s.heap C fI)(i:s.heap.get? e=some { cls:=.ref C,dict:=dd,data:=.fields #[.ref t0,.none,.none,.none,.bool false,.none] })(f:rest.length<=sizeLine)
  (h:∀ h',qDE e C dd h'->(∀ b o,b≠e->s.heap.get? b=some o->h'.get? b=some o)->Q .none { s with heap:=h' }):wpAny (model prog w) A (call (.builtin "ValueError.__init__") (.ref e::rest)) Q E s:=by
 obtain⟨_,N,_,_,_,_,_,_,_,_,_,_,_,_,_,_,_,j,_,_,T,_,_⟩:=c;have F:=ky;obtain⟨p,g,d,_,_⟩:=s;refine wpAny_call (codeAny_call_builtin F.init.plain F.initEntry (wpAny_check_init_subT F T j i rfl ?_));unfold Builtin.«BaseException.__init__»
 dsimp only
 rw[if_neg (by simp)];unfold newTuple Builtin.BaseException.bexcPut;have H:=fM (h:=p) { cls:=.type "tuple",data:=.seq rest.toArray } i;refine aS (wpAny_newObj_type (aS (aS (wpAny_field H rfl rfl (aS (wpAny_setField H rfl (by show 0<6;decide) ?_))))) (by show rest.toArray.size<=sizeLine;rw[CV];exact f));refine wpAny_letGo (aT (h _ ⟨p.objs.size,?_⟩ fun b o a q=>?_))
 .rw[cm _ H rfl];rfl
 .rw[ck _ _ (bE a)];exact fM _ q
def tBase(K:Frag)(t:TA):TS:=fun D σ H=>t σ H fun vs h => ∃ e C fI d xs,vs = .ref e::xs/\xs.length<=sizeLine/\sE K C fI=true/\h e=some (xQ e C d)/\D.nx σ (upd h e (xQ e C d))
theorem Yh{g:Expr}{rest:aw Expr}{t:TA}{pl:Sem Bool}(J:Gl X x)(G:X.mg x=some (.ref B))(j:specialIn X.K (.ref B) "__getattribute__" = some (some (.builtin "type.__getattribute__")))
  (d:readsIn X.K B (.type "type")=true) (A:findCls X.K (.ref B) (.type "type") "__init__" = some (.val (.builtin "ValueError.__init__"))) (E:PA X (g::rest) t) (c:(x==("__debug__" : Str))=false:=by decide)
  (o:starEach (g::rest) X.env=(false,eval g X.env)::starEach rest X.env:=by rfl) (l:(backTo cpos (starEach rest X.env)).any (·.1)=false:=by rfl)
  (ht:eval (.Call (.Attribute (.Name x np) "__init__" ap) (g::rest) [] cpos) X.env=(do
   let ov ← eval (.Name x np) X.env
   standAt ap.atName
   let (f,first) ← holding [ov] (getMethod ov "__init__" pl)
   callWith cpos f first (backTo cpos (starEach (g::rest) X.env)) (backToKw cpos (keywordEach [] X.env))):=by rfl)
  (q:swapsWith (.Call (.Attribute (.Name x np) "__init__" ap) (g::rest) [] cpos) none pos.line X.env=pure false:=by rfl) :
  PS X (.Expr (.Call (.Attribute (.Name x np) "__init__" ap) (g::rest) [] cpos) pos) (tBase X.K t):=by
 intro p s σ H D I h;refine wpAny_Expr_any (Q:=SP X p D) ?_ I.quiet q;refine methodCall_KW (pl:=pl) (nW I J G ?_ c) ht;refine method_cls I.mQ j (cls_value I.mQ d A rfl ?_);refine callWith_builtin1 (bH (E cpos p _ σ H _ (I.tok _) h) fun us S ⟨_,_,i,r,z⟩=>?_) o l;obtain⟨e,C,_,_,xs,rfl,F,v,m,L⟩:=z
 obtain⟨u,w,rfl,r1,r2⟩:∃ u w,us=u::w/\RelV (.ref e) u/\Vals xs w:=by
  cases r with
  | cons a b=>exact⟨_,_,rfl,a,b⟩
 cases (show u=Value.ref e from r1)
 obtain⟨⟨_,y⟩,_⟩:=i.hok e _ m;refine Rz (KN.of v i.mQ) y (by rw[<-r2.length];exact F) fun _ n k=>?_;exact⟨σ,_,i.write (x:=e) (e:=e) (t':=S.toks) (by rw[m];exact e9) (.inl rfl) k (let ⟨_,z⟩:=n;⟨_,z⟩) (Ge n),L⟩
end L2
namespace L2
open PySem PySem.Spec PyProof.Rows PySem.W
open Builtin Builtin.ObjectAttr
def Uj:aw av->Bool
 | .ref _::r=>Uj r
 | l=>l==VB
theorem wZ(S:av):∀ {l:aw av},Uj l=true->refuseLoop S "__setattr__" l=pure ()
 | .ref c::r,e=>by rw[refuseLoop_ref];exact wZ S (l:=r) e
 | [],e=>by cases e
 | .none::r,e=>by cases e
 | .bool b::r,e=>by cases e
 | .int i t::r,e=>by cases e
 | .float _ _::r,e=>by cases e
 | .str _ _::r,e=>by cases e
 | .type n::r,e=>by
  rw[show (Value.type n::r)=VB from beq_iff_eq.mp e];exact PySem.F.store_ValueError.passes S
 | .builtin n::r,e=>by cases e
 | .notImplemented::r,e=>by cases e
 | .ellipsis::r,e=>by cases e
structure HR(K:Frag)(C:Addr)(f:Str):Prop where
 sa:findIn K (.ref C) "__setattr__" = some (some (.builtin "object.__setattr__"))
 no:findIn K (.ref C) f=some none
 ok:((clsIn K C).any fun cd=>Uj cd.mro&&cd.hasDict)=true
 ob:mroIn K C (.type "object")=some true
section
variable{prog:ag}{w:aI}{A:ai}{E:av->ae->Prop}{s:ae}{K:Frag}{e C:ar}{f:Str}{v:av}{vs:Array av}
def YJ(X:K.In s.heap)(q:HR K C f)(i:s.heap.get? e=some { cls:=.ref C,dict:=none,data:=.fields vs })
  (h:∀ h' t',h'.get? e=some { cls:=.ref C,dict:=some s.heap.objs.size,data:=.fields vs }->h'.Ns1 s.heap.objs.size (fun y=>if y=f then some v else none)->(∀ b o,b≠e->s.heap.get? b=some o->h'.get? b=some o) →
   Q () { s with heap:=h',toks:=t' }):wpAny (model prog w) A (setAttr (.ref e) f v) Q E s:=by
 have I:InstAt s.heap e { cls:=.ref C,dict:=none,data:=.fields vs } C none:=⟨i,rfl,rfl,e9⟩;refine set_plain X I q.sa ?_;have S:=PySem.F.store_object;obtain⟨p,m,d⟩:=any_some q.ok;obtain⟨x,hd⟩:=dP.mp d;have sub:Looks (model prog w) s.heap (isInstance (.ref e) (.type "object")) true:=I.type.andThen (looks_mroIn X q.ob);refine codeAny_call_builtin S.slot.plain S.entry (@check_slot (model prog w) _ _ { s with toks:=s.toks+1 } "object.__setattr__" "object" "__setattr__" (.ref e) [.str f s.toks,v] [] _ S.kind S.split sub (S.args (.ref e) (.str f s.toks) v) ?_);have u:Looks (model prog w) s.heap (mroOf (.ref C)) p.mro:=(looks_clsIn X m).andThen .now;rw[osa_eq,refuse_eq];refine aS (aS (Looks.here (s:={ s with toks:=s.toks+1 }) I.type (aS (Looks.here (s:={ s with toks:=s.toks+1 }) u ?_))));rw[wZ _ x];refine aT (aS (Looks.here (s:={ s with toks:=s.toks+1 }) I.type (aS (Looks.here (s:={ s with toks:=s.toks+1 }) (looks_findIn X q.no) (aS (aT ?_))))));show wpAny _ _ (storeInOwnDict (.ref e) (.ref C) (.str f s.toks) f v false) _ _ _;refine aS (aT (aS (aS (wpAny_loadPart i (aS (Looks.here (s:={ s with toks:=s.toks+1 }) (looks_clsIn X m) ?_))))));rw[hd];have c:e≠s.heap.objs.size:=jQ (gQ i);have a:(s.heap.push { cls:=.type "dict",data:=.dict #[] }).get? e=some { cls:=.ref C,dict:=none,data:=.fields vs }:=fM _ i;refine aS (wpAny_alloc' (aS (wpAny_update' a (aT ?_))))
 have n:((s.heap.push { cls:=.type "dict",data:=.dict #[] }).update e fun o=>{ cls:=o.cls,dict:=some s.heap.objs.size,data:=o.data,slots:=o.slots }).get? s.heap.objs.size=some { cls:=.type "dict",data:=.dict #[] }:=
  (Heap.get?_update_ne _ _ _ _ c.symm).trans (Heap.get?_push_at rfl rfl)
 have r:((s.heap.push { cls:=.type "dict",data:=.dict #[] }).update e fun o=>{ cls:=o.cls,dict:=some s.heap.objs.size,data:=o.data,slots:=o.slots }).get? e=some { cls:=.ref C,dict:=some s.heap.objs.size,data:=.fields vs }:=
  cm _ a rfl
 have g:((s.heap.push { cls:=.type "dict",data:=.dict #[] }).update e fun o=>{ cls:=o.cls,dict:=some s.heap.objs.size,data:=o.data,slots:=o.slots }).Ns s.heap.objs.size (fun _=>none):=
  ⟨_,#[],_,n,rfl,fun e i=>absurd i (by simp),fun _=>rfl⟩
 refine aS (aT (aS ?_));refine wpAny_nsSet1 (Heap.Ns1.of_empty g) fun h' H l=>?_;obtain⟨_,_,_,j,k,D⟩:=H.count (Within.cons f v Within.nil);refine aS (wpAny_lookBehind j (by rw[k];exact pastItsLine_dict (br D (by rw[dG,fT,sizeLine_eq];lia))) ?_);refine aT (h h' _ ((l.2 e c).trans r) H fun b o t d=>?_);exact (l.2 b (jQ (gQ d))).trans ((Heap.get?_update_ne _ _ _ _ t).trans (fM _ d))
end
def HR.dict{K:Frag}{C:ar}{f:Str}(q:HR K C f):hasDictIn K C=true:=by obtain⟨_,h,H⟩:=any_some q.ok;unfold hasDictIn;rw[h];exact (dP.mp H).2
section
variable{prog:ag}{w:aI}{A:ai}{E:av->ae->Prop}{K:Frag}{a C dx:ar}{f:Str}{v:av}{o:Obj}{mA:Str->aE av}
def ZP{t:Nat}{os:OsState}{b:Bool}{Q:av->ae->Prop}(X:K.In h)(q:wJ K C)(j:HR K C f)(i:h.get? a=some o)(H:o.cls = .ref C)(c:notCls o=true)(hd:o.dict=some dx)(n:h.Ns1 dx mA)
  (p:mA f=some v) (k:handedIn v=true) (m:Q v ⟨h,g,d,t+1,os⟩):wpAny (model prog w) A (getAttr (.ref a) f b) Q E ⟨h,g,d,t,os⟩:=by
 obtain⟨od,u,l⟩:=Ef n;have I:InstAt h a o C (some od):=⟨i,H,c,by rw[hd];exact u⟩;have L:=looks_find (M:=model prog w) X I (findObj_own j.dict j.no rfl ((l f).trans (congrArg some p)))
 have x:(Value.builtin "BaseException.__getattribute__" == Value.builtin "object.__getattribute__")=false:=by decide +kernel
 have s:(onTheHeap (Value.ref C)&&Value.builtin "BaseException.__getattribute__" == Value.builtin "object.__getattribute__")=false:=by rw[x];rfl
 refine aS (wpAny_mkText (cq (aS (I.type _ _ _ _ (fun _ _ e=>e) (aS (looks_findIn X q.ga _ _ _ _ (fun _ _ e=>e) ?_))))))
 dsimp only
 rw[s,cK rA];refine aS ((looks_hook (mc:=.ref C) X (r:=none) (by rw[cS (show onTheHeap (Value.ref C)=true from rfl)];exact q.no)) _ _ _ _ (fun _ _ e=>e) (aS (wpAny_attempt (cq ?_))));unfold callGetattribute;rw[show (b&&onTheHeap (Value.builtin "BaseException.__getattribute__"))=false from Bool.and_false _,cK rA];unfold boundAndCalled;rw[F.excAttr_ValueError.ga.bind];refine aS (aT ?_);show wpAny _ _ (call (.builtin "BaseException.__getattribute__") [.ref a,.str f t]) _ _ _;refine wpAny_call (codeAny_call_builtin F.excAttr_ValueError.ga.plain F.entry_bexc_ga (Bj X q i H ?_))
 repeat (any_goals (first | assumption | (with_reducible refine wpAny_loadPart_at i ?_;rw[H]) | with_reducible refine L.at ?_ | wp_step))
 show wpAny _ _ (handedOut v) _ _ _;rw[handedOut_of k];exact aT m
end
def qAC(K:Frag)(t:TE)(f:Str):TE:=fun σ H Q=>t σ H fun x h => ∃ a C d fs v,x = .ref a/\h a=some (wD a C (some d))/\wJ K C/\HR K C f/\h d=some (.xd fs)/\fs.lookup f=some v/\Q v h
def qEG(K:Frag)(t T:TE)(f:Str):TS:=fun D σ H=>T σ H fun y h=>t σ h fun x a => ∃ e C,x = .ref e/\a e=some (xQ e C none)/\HR K C f/\∀ d,a d=none->d≠e->D.nx σ (upd (upd a d (.xd [(f,y)])) e (xQ e C (some d)))
def Yl(A:PE X e ta)(j:attributeBase e f X.env (eval e X.env)=eval e X.env):PE X (.Attribute e f pos) (qAC X.K ta f):=by intro p s σ H Q I h;refine Py j (bH (A p s σ H _ I h) fun u S hz_=>?_);apply aW;intro _ g_;obtain⟨x,y,i,b,a,C,D,_,v,z,E,c,n,J,l,q⟩:=hz_;apply g_;clear g_;subst z;obtain rfl:u=Value.ref a:=b;obtain⟨m,k,r⟩:=i.hok D _ J;obtain⟨_,z1,z2,z3,z4⟩:=Gz i E;obtain⟨_,w,R⟩:=oH.some_of (v:=v) (o:=m f) (by rw[<-l];exact r f);obtain⟨_,g,d,t,_⟩:=S;exact ZP i.mQ c n z1 z2 z4 z3 k w (El R) ⟨v,y,i.tok _,R,q⟩
def Ye(J:PE X o ta)(w:PE X value tv)(A:swapsWith value (some (.Attribute o f pos')) pos.line X.env=pure false):PS X (.Assign [.Attribute o f pos'] value pos) (qEG X.K ta tv f):=by
 intro p s σ H D I h;refine plainObj_wpAny_Assign_Attribute (bH (w p s σ H _ I h) fun u m ⟨y,t,L,B,q⟩=>bH (J p m σ t _ L q) fun r S hz_=>?_) A;apply aW;intro _ g_;obtain⟨x,M,i,R,e,C,G,E,n,Q⟩:=hz_;apply g_;clear g_;subst G;obtain rfl:r=Value.ref e:=R;obtain⟨⟨Z,z⟩,_⟩:=i.hok e _ E;have a:M S.heap.objs.size=none:=i.fresh;have ne:S.heap.objs.size≠e:=iO (gQ z);refine YJ i.mQ n z fun h' _ z1 z2 z3=>⟨σ,_,?_,Q _ a ne⟩;have N:∃ O,h'.get? S.heap.objs.size=some O:=let ⟨O,_,_,e,_⟩:=z2;⟨O,e⟩;have j:S.heap.get? S.heap.objs.size=none:=eS (bD _);refine i.un ⟨fun b u q n _ _=>z3 b u (fun y=>by subst y;rw[n]at E;cases E) q,fun b u q n _ _=>⟨u.slots,z3 b u (fun y=>by subst y;rw[n]at E;cases E) q⟩,fun b u q n _=>?_,fun b u q _=>?_,fun b xs q=>?_,fun b u xs q=>?_,fun b _ q=>⟨#[],?_⟩⟩ fun b u q=>?_
 .rw[zR (fun y=>by subst y;rw[n]at E;cases E),zR (fun y=>by subst y;rw[j]at q;cases q)];exact n
 .by_cases d:b=e
  .subst d;exact⟨_,z1⟩
  .exact⟨u,z3 b u d q⟩
 .rw[zR (gU q E nofun),zR (zN q a)];exact q
 .rw[zR (gU q E nofun),zR (zN q a)];exact q
 .rw[zR (gU q E nofun),zR (zN q a),q];simp
 .by_cases d:b=e
  .subst d;rw[zC]at q
   cases q
   exact Ge ⟨Z,z1⟩
  .rw[zR d]at q
   by_cases l:b=S.heap.objs.size
   .subst l;rw[zC]at q
    cases q
    refine⟨_,z2,fun y=>?_⟩
    by_cases k:y=f
    .subst k;show oH (List.lookup y [(y,_)]) (if y=y then some u else none);rw[cS rfl,List.lookup_cons_self];exact B
    .show oH (List.lookup y [(f,_)]) (if y=f then some u else none)
     have z5:(y==f)=false:=by simpa using k
     rw[cK k,gy,z5];exact e9
   .rw[zR l]at q;refine (i.hok b u q).stay (fun c v F y=>z3 c v (fun k=>?_) y) (fun c y=>?_) fun c xs y=>?_
    .rcases F with g | g
     .exact d (g.symm.trans k)
     .rw[k,E]at g;cases g
    .rw[zR (gU y E nofun),zR (zN y a)];exact y
    .rw[zR (gU y E nofun),zR (zN y a)];exact y
end L2
namespace L2
open PySem PySem.Spec PyProof.Rows
section
variable{P:ag}{w:aI}{K:bV}{mg:Str->aE av}{base:Heap}{N:aw Str}{qual:Str}{scope:Scope}{f:ar}{cd:av}{A:ai}{outer:aw Env}{s:ae}{H:Hp}{E E':XK}
end
section
variable{M:Model}{A:ai}{E:av->ae->Prop}{s:ae}{base:Heap}{env:Env}{outer:aw Env}{L e:ar}{cls a0 fl:av}{dd:aE ar}{Q:Unit->ae->Prop}
end
section
variable{X:Cx}{E:XK}
end
def qBC(C:ar)(m:Str)(sp:Sp)(q:aw V)(T:TE)(t:TA):TEX:=fun σ H Q E=>T σ H fun x h => ∃ a d fs,x = .ref a/\h a=some (.ins C d fs)/\fs.lookup m=none/\t σ h fun vs b=>sp (.ref a::(vs++q)) b Q E
def JH(J:PE X.nox o ta)(c:vC X.K C)(j:Meth X.K C m f)(F:aL X.prog X.w X.K X.mg X.base (Ke X.prog X.w) k f fd ps sp)(w:fP k X.A)(y:Binds X.K fd ps ds)(hd:Vals qw ds)(v:PA X.nox (e::es) t)
  (b:starEach (e::es) X.env=(false,eval e X.env)::starEach es X.env:=by rfl) (d:(backTo pos (starEach es X.env)).any (·.1)=false:=by rfl)
  (ht:eval (.Call (.Attribute o m apos) (e::es) [] pos) X.env=(do
   let ov ← eval o X.env
   standAt apos.atName
   let (f,first) ← holding [ov] (getMethod ov m pl)
   callWith pos f first (backTo pos (starEach (e::es) X.env)) (backToKw pos (keywordEach [] X.env))):=by rfl) :
  PEX X (.Call (.Attribute o m apos) (e::es) [] pos) (qBC C m sp qw ta t):=by intro p s σ H Q E I h;refine PySem.W.methodCall_KW (pl:=pl) (c8 (J p s σ H _ (I.wish _) h) (fun u S hz_=>?_) fun _ _ z=>z.elim) ht;apply aW;intro _ g_;obtain⟨x,B,i,R,a,_,_,D,A,l,q⟩:=hz_;apply g_;clear g_;subst D;obtain rfl:u=Value.ref a:=R;have G:=i.jU;refine rZ G A c j l ?_;refine PySem.W.callWith_K (first:=[.ref a]) (h₀:=X.base) I.ok.mod.kin j.kp (c8 (v pos p S σ B _ i q) (fun us _ ⟨vs,_,g,r,n⟩=>⟨g.jU.mQ,?_⟩) fun _ _ z=>z.elim) b d;exact YW (us:=.ref a::us) (vs:=.ref a::vs) F w y hd g.jU (.cons rfl r) n
end L2
namespace L2
open PySem PySem.Spec PyProof.Rows PySem.W
inductive qAJ(K:Frag)(xs:List V)(H:Hp)(Q:VK):Prop
 | mk (a C C2:Addr) (dd:Option Addr) (b:Bool) (_:xs=[.ref a,.ref C2]) (_:H a=some (wD a C dd)) (_:wJ K C) (_:kitOne K (.ref C) (.ref C2)=some b) (_:Q (.bl b) H)
def Rt:ir X (.builtin "isinstance") (qAJ X.K):=by
 intro _ s σ H _ _ Q I r h;obtain⟨a,C,c,_,b,rfl,f,q,e,z⟩:=h;obtain⟨u,W,rfl,d,R⟩:=vals2 r
 cases (show W=Value.ref c from R)
 cases (show u=Value.ref a from d)
 exact kia_one (Ba q) I.mQ (Gz I f) e (fun y=>nomatch y) fun T=>⟨.bl b,H,I.tok T,rfl,z⟩
end L2
namespace L2
open PySem PySem.Spec PyProof.Rows
inductive qE1(a:Str)(te:TE)(σ:St)(H:Hp)(Q:VK):Prop
 | mk (_:(Str.empty++a).length<=sizeLine) (_:te σ H fun v H1 => ∃ n:Int,v = .int n/\n.natAbs.log2<1920/\(Str.empty++a++Str.ofString (toString n)).length<=sizeLine/\Q (.str (Str.empty++a++Str.ofString (toString n))) H1)
def Yk(c:PE X e te) :
  PE X (.JoinedStr [.Constant (.str a) k1 p1,.FormattedValue e (-1) none p2] pos) (qE1 a te):=by intro p s σ H Q I h;refine wpAny_JoinedStr ?_;obtain⟨d,h⟩:=h;refine Calls.Constant_str ⟨a,_,rfl,d,?_⟩;refine wpAny_FormattedValue_plain (bH (c p _ σ H _ (I.tok _) h) fun u _ hz_=>?_);apply aW;intro _ g_;obtain⟨v,b,i,r,n,f,q,m,w⟩:=hz_;apply g_;clear g_;subst f;obtain⟨t,rfl⟩:=r;refine wpAny_formatField_int q ⟨_,_,rfl,m,?_⟩;exact⟨m,.str _,b,(i.tok _).tok _,⟨_,rfl⟩,w⟩
end L2
namespace jP
open PySem L2
inductive qBH(K:bV)(vs:List V)(H:Hp)(Q:VK)(E_:XK):Prop
 | mk (a:Addr) (ns:List Int) (k:Int) (_:vs=[.ref a,.int k]) (_:aU K H a (ns.map V.int)) (_:ns.length<=63) (_:∀ v:Int,Q (.int v) H)
inductive jC(K:bV)(vs:List V)(H:Hp)(Q:VK)(E_:XK):Prop
 | mk (a:Addr) (ns:List Int) (k salt:Int) (_:vs=[.ref a,.int k,.int salt]) (_:aU K H a (ns.map V.int)) (_:ns.length<=63) (_:(0<=k/\k<=1000000)) (_:(0<=salt/\salt<=1000)) (_:∀ r:Int,0<=r->r<2147483648->Q (.int r) H)
def scC:aF ["_law_script","_law_k"] ["_law_script","_law_k"] (aA O7):=cQ
def scM:aF ["_law_script","_law_k","_law_salt","_law_cell","_law_lap",qEF] ["_law_script","_law_k","_law_salt"] (aA Ah):=cQ
def uO(d:0<=i)(H:i<18446744073709551616):qA8 i j:=.inl ⟨by lia,by lia⟩
def Uy(F:bO K "_law_mixed" "_law_mixed" Ah f fd)(G:aL P w K mg base aN 1 g gd ["_law_script","_law_k"] (qBH K))(u:Binds K gd ["_law_script","_law_k"] [])(n:KI K g)(e:mg "_law_cell_at" = some (.ref g))
  (j:mg "len" = none) (m:mg "max" = none):aL P w K mg base aN 2 f fd ["_law_script","_law_k","_law_salt"] (jC K):=by
 refine F.ok scM ?_ ?_
 .rintro _ _ _ _⟨a,ns,k,S,rfl,_⟩;rfl
 intro _ A _ s H _ Q E r h
 apply aW;intro _ g_;obtain⟨a,ns,k,S,rfl,t,c,p,_,q⟩:=h;apply g_;clear g_
 refine⟨_,zE (zL (i:=3) scM.nd rfl (bb rfl) (zK G r rfl e n u .nil yF (zA (pv 0) (zA (pv 1) zD))))
  (zE (zL (i:=4) scM.nd rfl (bb rfl) (yD yM (pv 1) (zT (Rq rfl) rfl m PyProof.Rows.boot_max (zA zB (zA (zT zO rfl j bj (zA (pv 0) zD)) zD)))))
  (zE (zL (i:=5) scM.nd rfl (bb rfl) (yD yG (yD yG (yD yG (yD Up (pv 3) zB) (yD iB (yD iB zB (pv 1)) (pv 1))) (yD iB (yD iB zB (pv 2)) (pv 2))) zB))
  (zE (zL (i:=5) scM.nd rfl (bb rfl) (yD zZ (yD iB (pv 5) zB) zB))
  (zE (zL (i:=5) scM.nd rfl (bb rfl) (yD zZ (yD iB (pv 5) (pv 5)) zB))
  (zG (zP (yD Up (yD yG (yD qBZ (pv 3) (yD iB zB (yD yG (pv 2) (yD iB zB (pv 4))))) (pv 5)) zB))))))),?_⟩
 have d:(ns.map V.int).length=ns.length:=bT _;refine⟨_,rfl,_,rfl,a,ns,k,rfl,t,c,fun v=>?_⟩;refine⟨_,rfl,_,rfl,a,_,rfl,.inl t,_,_,rfl,eO ?_⟩
 have M:0<(if (((ns.map V.int).length:Nat):Int)>1 then (((ns.map V.int).length:Nat):Int) else 1)/\(if (((ns.map V.int).length:Nat):Int)>1 then (((ns.map V.int).length:Nat):Int) else 1)<1073741824:=by
  rw[d]
  split <;> lia
 refine⟨M,?_⟩;have b:=Int.ediv_nonneg p.1 (Int.le_of_lt M.1);refine⟨_,rfl,eO ⟨_,rfl,eO ⟨uO (by decide) (by decide),_,rfl,eO ⟨uO (by lia) (by lia),_,_,rfl,rfl,_,rfl,eO ⟨uO (by decide) (by decide),_,rfl,eO ⟨uO (by lia) (by lia),_,_,rfl,rfl,eO ?_⟩⟩⟩⟩⟩⟩;refine⟨_,rfl,eO ⟨.inr ⟨by decide,by decide⟩,_,_,rfl,rfl,(by show (0:Int)<2147483647;decide),?_⟩⟩;have o:=j7 ((Builtin.bitAnd v 2147483647+1009*k*k+7919*S*S+12)*48271) (show (2147483647:Int)≠0 by decide);have B:=jR ((Builtin.bitAnd v 2147483647+1009*k*k+7919*S*S+12)*48271) (show (0:Int)<2147483647 by decide);refine⟨_,rfl,_,rfl,eO ⟨uO o (Int.lt_trans B (by decide)),_,_,rfl,rfl,(by show (0:Int)<2147483629;decide),?_⟩⟩;refine⟨_,rfl,_,rfl,_,rfl,eO ⟨uO (by decide) (by decide),_,_,rfl,rfl,eO ⟨uO (by decide) (by decide),_,_,rfl,rfl,?_,_,rfl,eO (eO ?_)⟩⟩⟩
 .have N:∀ l:Int,0<=l->0<=31*(S+128*l):=fun l h=>by lia
  exact N _ b
 .exact q _ (qAO _).1 (qAO _).2
def eF(ns:aw Int)(k:Int):Int:=if ns.length=0 then 0 else ns.getD (k%(ns.length:Int)).toNat 0
def sX(K:bV):Sp:=fun vs H Q _ => ∃(a:ar)(ns:aw Int)(k:Int),vs=[.ref a,.int k]/\aU K H a (ns.map V.int)/\ns.length<=63/\Q (.int (eF ns k)) H
def V8(F:bO K "_law_cell_at" "_law_cell_at" O7 f fd)(m:mg "len" = none):aL P w K mg base aN 1 f fd ["_law_script","_law_k"] (sX K):=by
 refine F.ok scC ?_ ?_
 .rintro _ _ _ _⟨a,ns,k,rfl,_⟩;rfl
 intro _ A _ s H _ Q E _ h
 obtain⟨a,ns,k,rfl,t,_,q⟩:=h
 refine⟨_,zE (yE (zM yH (zT zO rfl m bj (zA (pv 0) zD)) zB (zS _)) (zG (zP zB)) zU)
  (zG (zP (yC yV (pv 0) (yD zZ (pv 1) (zT zO rfl m bj (zA (pv 0) zD))) (fun _ _=>rfl)))),?_⟩
 have l:(ns.map V.int).length=ns.length:=bT _;refine⟨_,rfl,a,_,rfl,.inl t,rfl,_,rfl,?_⟩;refine vp (fun c=>?_) (fun c=>?_)
 .have T:=ba c;injection T with T
  have z:ns.length=0:=by
   rw[l]at T;omega
  unfold eF at q;rw[cS z]at q;exact q
 .have T:¬ V.int (((ns.map V.int).length:Nat):Int)=V.int 0:=bP (eJ.mpr c);have n:ns.length≠0:=fun z=>T (by rw[l,z];rfl)
  have p:(0:Int)<(((ns.map V.int).length:Nat):Int):=by
   rw[l];omega
  unfold eF at q;rw[cK n]at q;have g:=j7 k (show (ns.length:Int)≠0 by omega);have e:=jR k (show (0:Int)<(ns.length:Int) by omega)
  have v:mX (ns.map V.int) (k%(((ns.map V.int).length:Nat):Int))=some (.int (ns.getD (k%(ns.length:Int)).toNat 0)):=by
   rw[l];generalize G:k%(ns.length:Int)=j at g e;obtain⟨i,rfl⟩:∃ i:Nat,j=(i:Int):=⟨j.toNat,by omega⟩;refine yR ?_;rw[dZ,fQ (by omega),jT,T3,fQ (by omega)];rfl
  exact⟨_,rfl,_,rfl,_,rfl,a,_,rfl,.inl t,_,_,rfl,rfl,p,a,_,_,_,rfl,rfl,t,v,q⟩
end jP
namespace jP
open PySem L2 lN
def pV:aE Nat->V
 | none=>.non
 | some j=>.int (j:Int)
def aC(s:aw Nat):aw V:=s.map fun j:Nat=>V.int (j:Int)
def Js(xs:aw V)(h:0<=d):oG xs none (some d)=xs.take d.toNat:=by show (xs.drop 0).take ((if d<0 then (d+(xs.length:Int)).toNat else min d.toNat xs.length)-0)=_;rw[cK (by lia),List.drop_zero,Nat.sub_zero,List.take_eq_take_iff];lia
end jP
namespace jP
open PySem L2 lN vB
def Eb(os:aw Nat):(aC os).all oR=true:=by rw[ff];intro x h;obtain⟨n,_,rfl⟩:=eX.mp h;rfl
def Om{os:aw Nat}{j:Int}(h:inV (.int j) (aC os)=true):∃ o∈os,(o:Int)=j:=by unfold inV aC at h;rw[fk,fi]at h;obtain⟨o,q,e⟩:=h;exact⟨o,q,by simpa [Xv] using e⟩
def JW{os:aw Nat}{i:Int}(d:0<=i)(H:i<(os.length:Int)):∃ o∈os,mX (aC os) i=some (.int (o:Int)):=by obtain⟨v,h,e⟩:=qG (xs:=aC os) (i:=i) d (by unfold aC;rw[bT];exact H);obtain⟨o,q,rfl⟩:=eX.mp h;exact⟨o,q,e⟩
def zV(os:aw Nat):(aC os).length=os.length:=bT _
def jN(os:aw Nat)(k:Nat):aC os++[.int (k:Int)]=aC (os++[k]):=by unfold aC;rw[qz];rfl
end jP
namespace dC
open PySem L2 jP lN vB
def iZ{os:aw Nat}{f:Nat->Bool}{i o:Nat}(h:os[i]? = some o):(os.take (i+1)).filter f=(os.take i).filter f++(if f o=true then [o] else []):=by
 rw[mq,h,fz];congr 1;show [o].filter f=_;rw[fA]
 split <;> rfl
def yS{os:aw Nat}{i:Nat}{x:V}(h:(aC os)[i]? = some x):∃ H:i<os.length,x = .int ((os[i]:Nat):Int):=by
 have H:i<os.length:=by
  have:=(oW.mp h).1;rw[zV]at this;exact this
 refine⟨H,?_⟩;unfold aC at h;rw[dZ,fQ H]at h;exact (kJ h).symm
end dC
namespace K02
open PySem L2 jP lN
abbrev pJ:Stmt:=jP.pJ
inductive n6(n:Nat)(vs:List V)(H:Hp)(Q:VK)(E_:XK):Prop
 | mk (vg o b g op bx) (_:vs=[vg,.ref o,.ref b]) (_:jH H vg g) (_:H o=some (.tup (op.map V.int))) (_:H b=some (.tup (bx.map V.int))) (_:g.ok bx.length) (_:g.ht<=n) (_:Q (.bl (g.holds op bx)) H)
def Iv:aF ["guard","opening","boxes","kind"] ["guard","opening","boxes"] (aA pJ):=cQ
theorem V1(F:bO K "holds" "holds" pJ f fd)(M:Dp P w K mg base aN n f fd ["guard","opening","boxes"] (n6 n) "holds") :
  aL P w K mg base aN (n+1) f fd ["guard","opening","boxes"] (n6 (n+1)):=by
 refine F.ok Iv ?_ ?_
 .rintro _ _ _ _⟨z,o,b,g,O,bx,rfl,_⟩;rfl
 intro _ A _ s H _ Q E p h
 apply aW;intro _ g_;obtain⟨z,o,b,g,O,bx,rfl,k,l,j,hok,t,q⟩:=h;apply g_;clear g_
 refine⟨_,(zE (zL (i:=3) Iv.nd rfl (bb rfl) (yC zH (pv 0) zB (fun _ _=>rfl)))
  (zE (yE (zM yH (pv 3) zQ (zS _))
  (zG (zP gG))
  zU)
  (zE (yE (zM yH (pv 3) zQ (zS _))
  (zG (zP (bK yH (yC zH (pv 2) (yC zH (pv 0) zB (fun _ _=>rfl)) (fun _ _=>rfl)) (yC zH (pv 0) zB (fun _ _=>rfl)) (zS _))))
  zU)
  (zE (yE (zM yH (pv 3) zQ (zS _))
  (zG (zP (bK mH (yC zH (pv 2) (yC zH (pv 0) zB (fun _ _=>rfl)) (fun _ _=>rfl)) (yC zH (pv 0) zB (fun _ _=>rfl)) (zS _))))
  zU)
  (zE (yE (zM yH (pv 3) zQ (zS _))
  (zG (zP (bK jM (yC zH (pv 0) zB (fun _ _=>rfl)) (pv 1) rfl)))
  zU)
  (zE (yE (zM yH (pv 3) zQ (zS _))
  (zG (zP (gC (pC M p (zA (yC zH (pv 0) zB (fun _ _=>rfl)) (zA (pv 1) (zA (pv 2) zD)))))))
  zU)
  (zE (yE (zM yH (pv 3) zQ (zS _))
  (zG (zP (rT (pC M p (zA (yC zH (pv 0) zB (fun _ _=>rfl)) (zA (pv 1) (zA (pv 2) zD)))) (gB (pC M p (zA (yC zH (pv 0) zB (fun _ _=>rfl)) (zA (pv 1) (zA (pv 2) zD))))))))
  zU)
  (zG (zP (wj (pC M p (zA (yC zH (pv 0) zB (fun _ _=>rfl)) (zA (pv 1) (zA (pv 2) zD)))) (gB (pC M p (zA (yC zH (pv 0) zB (fun _ _=>rfl)) (zA (pv 1) (zA (pv 2) zD))))))))))))))),?_⟩
 cases k with
 | @yes a e=>
  exact⟨_,rfl,aG (aJ.of e) rfl ⟨_,rfl,rfl,_,rfl,yP q⟩⟩
 | @is a c m e=>
  refine⟨_,rfl,aG (aJ.of e) rfl ⟨_,rfl,rfl,_,rfl,yO (by decide +kernel) ⟨_,rfl,rfl,_,rfl,yP ?_⟩⟩⟩;exact⟨_,rfl,_,rfl,aG (aJ.of e) rfl (aG (aJ.of j) (Bv hok.1 hok.2) ⟨_,rfl,aG (aJ.of e) rfl ⟨rfl,q⟩⟩)⟩
 | @under a c m e=>
  refine⟨_,rfl,aG (aJ.of e) rfl ⟨_,rfl,rfl,_,rfl,yO (by decide +kernel) ⟨_,rfl,rfl,_,rfl,yO (by decide +kernel) ⟨_,rfl,rfl,_,rfl,yP ?_⟩⟩⟩⟩;exact⟨_,rfl,_,rfl,aG (aJ.of e) rfl (aG (aJ.of j) (Bv hok.1 hok.2) ⟨_,rfl,aG (aJ.of e) rfl (eO q)⟩)⟩
 | @inn a r e=>
  refine⟨_,rfl,aG (aJ.of e) rfl ⟨_,rfl,rfl,_,rfl,yO (by decide +kernel) ⟨_,rfl,rfl,_,rfl,yO (by decide +kernel) ⟨_,rfl,rfl,_,rfl,yO (by decide +kernel) ⟨_,rfl,rfl,_,rfl,yP ?_⟩⟩⟩⟩⟩;exact⟨_,rfl,aG (aJ.of e) rfl ⟨_,rfl,xR rfl (.inr (aJ.of l)) ⟨rfl,w5 O,q⟩⟩⟩
 | @neg a v g e k=>
  have y:g.ht+1<=n+1:=t;refine⟨_,rfl,aG (aJ.of e) rfl ⟨_,rfl,rfl,_,rfl,yO (by decide +kernel) ⟨_,rfl,rfl,_,rfl,yO (by decide +kernel) ⟨_,rfl,rfl,_,rfl,yO (by decide +kernel) ⟨_,rfl,rfl,_,rfl,yO (by decide +kernel) ⟨_,rfl,rfl,_,rfl,yP ?_⟩⟩⟩⟩⟩⟩;exact⟨_,rfl,aG (aJ.of e) rfl ⟨_,rfl,_,rfl,v,o,b,g,O,bx,rfl,k,l,j,hok,by lia,_,rfl,q⟩⟩
 | @both a v u g h e k x=>
  have y:1+max g.ht h.ht<=n+1:=t;refine⟨_,rfl,aG (aJ.of e) rfl ⟨_,rfl,rfl,_,rfl,yO (by decide +kernel) ⟨_,rfl,rfl,_,rfl,yO (by decide +kernel) ⟨_,rfl,rfl,_,rfl,yO (by decide +kernel) ⟨_,rfl,rfl,_,rfl,yO (by decide +kernel) ⟨_,rfl,rfl,_,rfl,yO (by decide +kernel) ⟨_,rfl,rfl,_,rfl,yP ?_⟩⟩⟩⟩⟩⟩⟩;refine⟨_,rfl,aG (aJ.of e) rfl ⟨_,rfl,_,rfl,v,o,b,g,O,bx,rfl,k,l,j,hok.1,by lia,_,rfl,?_⟩⟩;have d:Q (.bl (g.holds O bx&&h.holds O bx)) H:=q;refine vp (fun c=>?_) (fun c=>?_)
  .rw[c,eR]at d;exact⟨_,rfl,aG (aJ.of e) rfl ⟨_,rfl,_,rfl,u,o,b,h,O,bx,rfl,x,l,j,hok.2,by lia,d⟩⟩
  .rw[eJ.mpr c,eL]at d;exact d
 | @either a v u g h e k x=>
  have y:1+max g.ht h.ht<=n+1:=t;refine⟨_,rfl,aG (aJ.of e) rfl ⟨_,rfl,rfl,_,rfl,yO (by decide +kernel) ⟨_,rfl,rfl,_,rfl,yO (by decide +kernel) ⟨_,rfl,rfl,_,rfl,yO (by decide +kernel) ⟨_,rfl,rfl,_,rfl,yO (by decide +kernel) ⟨_,rfl,rfl,_,rfl,yO (by decide +kernel) ⟨_,rfl,rfl,_,rfl,yO (by decide +kernel) ?_⟩⟩⟩⟩⟩⟩⟩;refine⟨_,rfl,aG (aJ.of e) rfl ⟨_,rfl,_,rfl,v,o,b,g,O,bx,rfl,k,l,j,hok.1,by lia,_,rfl,?_⟩⟩;have d:Q (.bl (g.holds O bx||h.holds O bx)) H:=q;refine vp (fun c=>?_) (fun c=>?_)
  .rw[c,Bool.true_or]at d;exact d
  .rw[eJ.mpr c,eM]at d;exact⟨_,rfl,aG (aJ.of e) rfl ⟨_,rfl,_,rfl,u,o,b,h,O,bx,rfl,x,l,j,hok.2,by lia,d⟩⟩
def M6:aL P w K mg base aN 0 f fd ["guard","opening","boxes"] (n6 0):=by
 have n:∀ vs H Q E,¬ n6 0 vs H Q E:=fun vs H Q E h=>by
  apply aW;intro _ g_;obtain⟨_,o,b,g,_,_,_,_,_,_,_,_,_⟩:=h;apply g_;clear g_;have:=g.Vv;lia
 exact⟨fun vs H Q E h=>eu h (n vs H Q E),fun A _ s H _ _ vs Q E _ _ _ _ h=>eu h (n vs H Q E)⟩
theorem FJ(F:bO K "holds" "holds" pJ f fd)(Y:Binds K fd ["guard","opening","boxes"] [])(y:mg "holds" = some (.ref f)):∀ n:Nat,aL P w K mg base aN n f fd ["guard","opening","boxes"] (n6 n)
 | 0=>M6
 | n+1=>V1 F ⟨FJ F Y y n,Y,F.kp,y⟩
end K02
namespace DQ
open PySem L2 jP lN
inductive Al{α:Type}(R:V->α->Prop):List V->List α->Prop where
 | nil:Al R [] []
 | cons {v:V} {r:α} {vs:List V} {rs:List α}:R v r->Al R vs rs->Al R (v::vs) (r::rs)
theorem Al.mono(x:Al R vs rs)(k:∀ v r,R v r->R' v r):Al R' vs rs:=by
 induction x with
 | nil=>exact .nil
 | cons h _ i=>exact .cons (k _ _ h) i
theorem Al.length(x:Al R vs rs):vs.length=rs.length:=by
 induction x with
 | nil=>rfl
 | cons _ _ i=>rw[dG,dG,i]
theorem Al.snoc(x:Al R vs rs)(y:R v r):Al R (vs++[v]) (rs++[r]):=by
 induction x with
 | nil=>exact .cons y .nil
 | cons h _ i=>exact .cons h i
theorem Al.get{R:V->α->Prop}{vs:aw V}{s:aw α}(x:Al R vs s):∀ {k:Nat} {r:α},s[k]? = some r->∃ v,vs[k]? = some v/\R v r:=by
 induction x with
 | nil=>intro k r h;simp at h
 | cons h _ i=>
  intro k r e
  cases k with
  | zero=>
   simp at e;subst e;exact⟨_,rfl,h⟩
  | succ k=>exact i (by simpa using e)
structure Dg where
 room:Int
 ev:Int
 g:Gd
def qA5(H:Hp)(v:V)(d:Dg):Prop:=∃ a gv b x X,v = .ref a/\H a=some (.tup [.int d.room,.int d.ev,gv,b,x,X])/\jH H gv d.g
def hit(o bx:aw Int)(r i:Int)(d:Dg):Bool:=decide (V.int d.room=V.int r)&&(decide (V.int d.ev=V.int i)&&d.g.holds o bx)
def fst(o bx:aw Int)(R i:Int):aw Dg->Nat->aE Nat
 | [],_=>none
 | d::r,b=>if hit o bx R i d=true then some b else fst o bx R i r (b+1)
theorem Jo(o bx:aw Int)(r i:Int)(d:Dg):∀ D b,fst o bx r i (D++[d]) b=match fst o bx r i D b with
  | some k=>some k
  | none=>if hit o bx r i d=true then some (b+D.length) else none
 | [],b=>by
  rfl
 | x::D,b=>by
  show (if hit o bx r i x=true then some b else fst o bx r i (D++[d]) (b+1))=match (if hit o bx r i x=true then some b else fst o bx r i D (b+1)) with
   | some k=>some k
   | none=>if hit o bx r i d=true then some (b+(D.length+1)) else none
  by_cases h:hit o bx r i x=true
  .rw[cS h,cS h]
  .rw[cK h,cK h,Jo o bx r i d D (b+1),show b+1+D.length=b+(D.length+1) by lia];try rfl
def eG(o bx:aw Int)(d:aw Dg)(r i:Int):aE Nat:=if inV (.int r) (o.map V.int)=true then fst o bx r i d 0 else none
theorem Jz(o bx:aw Int)(D:aw Dg)(d:Dg)(r i:Int):eG o bx (D++[d]) r i=if inV (.int r) (o.map V.int)=true/\eG o bx D r i=none/\hit o bx r i d=true then some D.length else eG o bx D r i:=by
 unfold eG
 by_cases h:inV (.int r) (o.map V.int)=true
 .rw[cS h,cS h,Jo,ja]
  cases fst o bx r i D 0 with
  | some k=>
   show some k=if _ then _ else some k;rw[cK (fun z=>by cases z.2.1)]
  | none=>
   show (if hit o bx r i d=true then some D.length else none)=if (inV (.int r) (o.map V.int)=true/\(none:aE Nat)=none/\hit o bx r i d=true) then some D.length else none
   by_cases y:hit o bx r i d=true
   .rw[cS y,cS ⟨h,rfl,y⟩]
   .rw[cK y,cK (fun z=>y z.2.2)]
 .rw[cK h,cK h,cK (fun z=>h z.1)]
def w5(os:aw Int):(os.map V.int).all oR=true:=by rw[ff];intro x h;obtain⟨n,_,rfl⟩:=eX.mp h;rfl
inductive Dq(n:Nat)(vs:List V)(H:Hp)(Q:VK)(E_:XK):Prop
 | mk (pc kI pd o b op bx ds dv x0 x1 x2 x3 x4 x5 x ev) (_:vs=[.ref pc,.ref kI,.int ev]) (_:H pc=some (.tup [x0,x1,x2,x3,x4,x5,.ref pd])) (_:H pd=some (.tup dv)) (_:Al (qA5 H) dv ds) (_:H kI=some (.tup [.ref o,.ref b,x])) (_:H o=some (.tup (op.map V.int))) (_:H b=some (.tup (bx.map V.int))) (_:(∀ d∈ds,d.g.ok bx.length/\d.g.ht<=n)) (_:ds.length<=1000) (_:∀ p kvs H',aH H H'->H' p=some (.dK kvs)->(∀ r:Int,iR kvs (Sum.inl r)=(eG op bx ds r ev).map fun k:Nat=>V.int (k:Int))->(∃ ks:List Int,kvs.map (·.1)=ks.map Sum.inl/\ks.length<=ds.length)->H p=none->Q (.ref p) H')
def gf:aF ["chart","stand","event","opening","by_room","number","door","room"] ["chart","stand","event"] (aA uE):=cQ
theorem Lz{f gh:ar}{fd dh:af}(F:bO K "answers" "answers" uE f fd)(oM:Dp P w K mg base aN n gh dh ["guard","opening","boxes"] (K02.n6 n) "holds")
  (bw:mg "enumerate" = none):aL P w K mg base aN (n+1) f fd ["chart","stand","event"] (Dq n):=by
 refine F.ok gf ?_ ?_
 .rintro _ _ _ _⟨pc,kI,pd,o,b,O,bx,D,dv,x0,x1,x2,x3,x4,x5,x,j,rfl,_⟩;rfl
 intro _ A _ s H _ Q E hr h
 apply aW;intro _ g_;obtain⟨pc,kI,pd,o,b,O,bx,D,dv,x0,x1,x2,x3,x4,x5,x,j,rfl,Vy,U,hds,G,ho,hb,hok,_,q⟩:=h;apply g_;clear g_;have hu:=iA (ic (show 1<=64 by decide) _) hr.units
 refine⟨_,(zE (zL (i:=3) gf.nd rfl (bb rfl) (yC zH (pv 1) zB (fun _ _=>rfl)))
  (zE (zL (i:=4) gf.nd rfl (bb rfl) Ue)
  (yA (bf PassesOwn.never rfl (uK rfl bw (zA (yC zH (pv 0) zB (fun _ _=>rfl)) zD)) (vU rfl (cX (yK (i:=5) gf.nd rfl (bb rfl)) (cX (yK (i:=6) gf.nd rfl (bb rfl)) qY)))
  (zE (zL (i:=7) gf.nd rfl (bb rfl) (yC zH (pv 6) zB (fun _ _=>rfl)))
  (zG (yE (bZ (PW.pt (pw_and (zM yH (yC zH (pv 6) zB (fun _ _=>rfl)) (pv 2) (zS _)) (pw_and (zM jM (pv 7) (pv 3) rfl) (pw_and (qBT (Qa hu (pv 7) (pv 4))) (yQ (aY (pC oM hr (zA (yC zH (pv 6) zB (fun _ _=>rfl)) (zA (pv 3) (zA (yC zH (pv 1) zB (fun _ _=>rfl)) zD)))))))))))
  (zG (Yg hu (pv 4) (pv 7) (pv 5) rfl))
  zU))))
  (zG (zP (pv 4)))))),?_⟩
 have ldv:=hds.length;refine⟨_,rfl,aG (aJ.of G) rfl (fun B u=>?_)⟩;have s1:=zF u (.dK []);refine⟨fun σ' p=>∃ a:aw (Key×V),aH H p/\p B=some (.dK a)/\(∀ r:Int,iR a (Sum.inl r)=(eG O bx D r j).map fun k:Nat=>V.int (k:Int))/\(∃ g:aw Int,a.map (·.1)=g.map Sum.inl/\g.length<=D.length)/\∃ R I W:aE V,σ'=[some (.ref pc),some (.ref kI),some (.int j),some (.ref o),some (.ref B),R,I,W],?_,?_⟩
 .refine⟨_,rfl,aG (aJ.of (s1 _ _ Vy)) rfl ⟨pd,rfl,⟨_,aJ.of (s1 _ _ U)⟩,?_⟩⟩;refine pY (xs:=dv) (fun i σ' p=>∃ a:aw (Key×V),aH H p/\p B=some (.dK a)/\(∃ g:aw Int,a.map (·.1)=g.map Sum.inl/\g.length<=i)/\(∀ r:Int,iR a (Sum.inl r)=(eG O bx (D.take i) r j).map fun k:Nat=>V.int (k:Int))/\∃ R I W:aE V,σ'=[some (.ref pc),some (.ref kI),some (.int j),some (.ref o),some (.ref B),R,I,W])
   ⟨[],s1,zC,⟨[],rfl,bD _⟩,(fun r=>by
    unfold eG;rw[List.take_zero]
    split <;> rfl),_,_,_,rfl⟩ (fun i σ' p _ ⟨_,s',_⟩=>aJ.of (s' _ _ U)) ?_ ?_
  .rintro i _ σ' H3 t1 hx ⟨a,s3,M,⟨g,e,lks⟩,X,R,I,W,rfl⟩ J
   have l3:a.length<=i:=by
    have:=congrArg List.length e;rw[bT,bT]at this;lia
   have hi:i<D.length:=by
    have:=(oW.mp hx).1;lia
   have ed:=fQ hi;apply aW;intro _ g_;obtain⟨v,hv,ad,gv,Y,y4,_,rfl,l,N⟩:=hds.get ed;apply g_;clear g_;rw[hv]at hx;obtain rfl:=kJ hx;have t:=hok _ (lQ hi);generalize hdd:D[i]=d at l N t ed
   have et:D.take (i+1)=D.take i++[d]:=by
    rw[mq,ed];rfl
   have elt:(D.take i).length=i:=by
    rw[iQ];lia
   have S:=s3.trans (zF J (.tup [.int (i:Int),.ref ad]));have h4:=(zF J (.tup [.int (i:Int),.ref ad])) _ _ M;refine⟨t1,_,rfl,aJ.of zC,rfl,_,_,rfl,_,_,rfl,rfl,?_⟩;generalize upd H3 t1 (.tup [.int (i:Int),.ref ad])=H4 at S h4 ⊢;refine⟨_,rfl,aG (aJ.of (S _ _ l)) rfl ?_⟩;refine⟨fun c p=>p=H4/\c=(decide (V.int d.ev=V.int j)&&(inV (.int d.room) (O.map V.int)&&(!(iR a (Sum.inl d.room)).isSome&&d.g.holds O bx))),?_,?_⟩
   .refine⟨_,rfl,aG (aJ.of (S _ _ l)) rfl ⟨_,rfl,rfl,_,rfl,fO (fun m=>?_) (fun m=>⟨rfl,?_⟩)⟩⟩
    .have m:decide (V.int d.ev=V.int j)=true:=m;rw[m,eR];refine⟨_,rfl,_,rfl,xR rfl (.inr (aJ.of (S _ _ ho))) ⟨rfl,w5 O,_,rfl,fO (fun C=>?_) (fun C=>⟨rfl,?_⟩)⟩⟩
     .have C:inV (.int d.room) (O.map V.int)=true:=C;rw[C,eR];refine⟨_,rfl,_,rfl,B,_,rfl,Hj.k (k:=Sum.inl d.room) h4,_,rfl,fO (fun c3=>?_) (fun c3=>⟨rfl,?_⟩)⟩
      .rw[c3,eR];exact⟨_,rfl,aG (aJ.of (S _ _ l)) rfl ⟨_,rfl,_,rfl,aG (aJ.of (S _ _ G)) rfl ⟨gv,o,b,d.g,O,bx,rfl,N.mono (aB.of S),S _ _ ho,S _ _ hb,t.1,t.2,_,rfl,rfl,rfl⟩⟩⟩
      .rw[c3];rfl
     .have C:inV (.int d.room) (O.map V.int)=false:=C;rw[C];rfl
    .have m:decide (V.int d.ev=V.int j)=false:=m;rw[m];rfl
   rintro c _ ⟨rfl,T⟩;refine fO (fun m=>?_) (fun m=>?_)
   .rw[m]at T;have Z:=T.symm;simp only[Bool.and_eq_true,Bool.not_eq_true']at Z;apply aW;intro _ g_;obtain⟨e1,e2,e3,e4⟩:=Z;apply g_;clear g_
    have e5:eG O bx (D.take i) d.room j=none:=by
     have:=X d.room
     cases z:eG O bx (D.take i) d.room j with
     | none=>rfl
     | some k=>
      rw[z]at this;rw[this]at e3
      cases e3
    refine⟨_,rfl,_,rfl,_,rfl,B,_,rfl,Xl.k (k:=Sum.inl d.room) h4 (zW (by lia)),putK a (Sum.inl d.room) (.int (i:Int)),bW u S _,zC,⟨g++[d.room],by rw[UT _ (by have:=X d.room;rw[e5]at this;exact this),List.map_append,List.map_append,e];rfl,by rw[List.length_append];simp;lia⟩,fun r=>?_,_,_,_,rfl⟩;rw[T4,et,Jz,elt]
    by_cases z:(Sum.inl r:Key)=Sum.inl d.room
    .have z':r=d.room:=by injection z
     subst z'
     rw[cS rfl,cS ⟨e2,e5,by
      unfold hit;rw[bq rfl,e1,e4]
      rfl⟩]
     rfl
    .rw[cK z,cK (fun y=>z (by
      have L:=y.2.2;unfold hit at L;simp only[Bool.and_eq_true]at L;have Y:=ba L.1;injection Y with y4
      rw[y4]))]
     exact X r
   .rw[m]at T;refine⟨a,S,h4,⟨g,e,by lia⟩,fun r=>?_,_,_,_,rfl⟩;rw[et,Jz,cK (fun y=>?_)]
    .exact X r
    .apply aW;intro _ g_;obtain⟨y1,L,Y⟩:=y;apply g_;clear g_;unfold hit at Y;simp only[Bool.and_eq_true]at Y;apply aW;intro _ g_;obtain⟨z1,z2,z3⟩:=Y;apply g_;clear g_;have z4:=ba z1;injection z4 with z5;subst z5;have:=X d.room;rw[L]at this;rw[z2,y1,this,z3]at T
     cases T
  .rintro σ' H3 bR;apply aW;intro _ g_;obtain⟨a,s3,M,⟨g,e,lks⟩,X,r⟩:=bR;apply g_;clear g_;rw[DX (by lia)]at X;exact⟨a,s3,M,X,⟨g,e,by lia⟩,r⟩
 rintro σ' H3 bR;apply aW;intro _ g_;obtain⟨a,s3,M,X,e,R,I,W,rfl⟩:=bR;apply g_;clear g_;exact⟨_,rfl,q B a H3 s3 M X e u⟩
end DQ
namespace dC
open PySem L2 jP lN vB
inductive Ih(vs:List V)(H:Hp)(Q:VK)(E_:XK):Prop
 | mk (t:Addr) (rs:List Rm) (k:Nat) (_:vs=[.ref t,.int (k:Int)]) (_:dW H t rs) (_:rs.length<=40) (_:k<rs.length) (_:∀ e:Nat,Tr.FT (aD rs) k e->Q (.int (e:Int)) H)
def vM:aF ["rooms","room","depth","other"] ["rooms","room"] (aA Fx):=cQ
def qC5(F:bO K "end_of" "end_of" Fx f fd)(S:mg "range" = none)(C:mg "len" = none):aL P w K mg base aN 1 f fd ["rooms","room"] Ih:=by
 refine F.ok vM ?_ ?_
 .rintro _ _ _ _⟨t,R,k,rfl,_⟩;rfl
 intro _ A _ s H vs Q E _ h
 apply aW;intro _ g_;obtain⟨t,R,k,rfl,v,_,u,q⟩:=h;apply g_;clear g_
 refine⟨_,(zE (zL (i:=2) vM.nd rfl (bb rfl) (yC zH (yC zH (pv 0) (pv 1) (fun _ _=>rfl)) zB (fun _ _=>rfl)))
  (yA (bf PassesOwn.never rfl (vR rfl S (zA (yD yG (pv 1) zB) (zA (zT zO rfl C bj (zA (pv 0) zD)) zD))) (yK (i:=3) vM.nd rfl (bb rfl))
  (zG (yE (zM fJ (yC zH (yC zH (pv 0) (pv 3) (fun _ _=>rfl)) zB (fun _ _=>rfl)) (pv 2) (zS _))
  (zG (zP (pv 3)))
  zU)))
  (zG (zP (zT zO rfl C bj (zA (pv 0) zD)))))),?_⟩
 apply aW;intro _ g_;obtain⟨vs,a,r,ht,M,g,l,U⟩:=v.at u;apply g_;clear g_;have o:=jO g;have dl:=yW R;refine⟨_,rfl,_,rfl,t,vs,_,_,rfl,rfl,aJ.of ht,l,aG (aJ.of U) rfl ?_⟩;refine⟨fun σ' b=>b=H/\Tr.FT (aD R) k R.length/\∃ G:aE V,σ'=[some (.ref t),some (.int (k:Int)),some (.int r.depth),G],?_,?_⟩
 .refine⟨_,rfl,eO ⟨_,rfl,xR rfl (.inr (aJ.of ht)) ⟨_,_,rfl,⟨by lia,by lia,by lia,by lia⟩,?_⟩⟩⟩;refine cI (fun i σ' b=>b=H/\(∀ j,k<j->j<k+1+i->(aD R).getD k 0<(aD R).getD j 0)/\∃ G:aE V,σ'=[some (.ref t),some (.int (k:Int)),some (.int r.depth),G]) ⟨rfl,fun j J x=>by lia,none,rfl⟩ ?_ ?_
  .rintro i σ' b _ B;apply aW;intro _ g_;obtain⟨rfl,n,G,rfl⟩:=B
   have I:k+1+i<R.length:=by lia
   obtain⟨_,_,D,O,_,m,N,d⟩:=v.at I;apply g_;clear g_;rw[ht]at O
   cases O
   have e:=jO m
   have p:(k:Int)+1+(i:Int)=((k+1+i:Nat):Int):=by lia
   refine⟨_,rfl,_,rfl,t,vs,_,_,rfl,rfl,aJ.of ht,(by rw[p];exact N),aG (aJ.of d) rfl ⟨_,rfl,eO ⟨_,rfl,?_⟩⟩⟩;refine vp (fun c=>?_) (fun c=>?_)
   .have T:=ba c;refine⟨_,rfl,?_⟩;have z:=q (k+1+i) ⟨by lia,by lia,n,fun _=>by rw[e,o];exact T⟩;rw[<-p]at z;exact z
   .have T:¬ D.depth<=r.depth:=fun z=>c (bq z);refine⟨rfl,fun j J x=>?_,_,rfl⟩
    by_cases y:j=k+1+i
    .rw[y,e,o];lia
    .exact n j J (by lia)
  .rintro σ' b B;apply aW;intro _ g_;obtain⟨rfl,n,G,rfl⟩:=B;apply g_;clear g_;exact⟨rfl,⟨u,by lia,fun j J x=>n j J (by lia),fun z=>by lia⟩,G,rfl⟩
 rintro σ' b B;apply aW;intro _ g_;obtain⟨rfl,L,G,rfl⟩:=B;apply g_;clear g_;refine⟨_,rfl,xR rfl (.inr (aJ.of ht)) ?_⟩;have z:=q _ L;rw[<-M]at z;exact z
inductive IW(vs:List V)(H:Hp)(Q:VK)(E_:XK):Prop
 | mk (t:Addr) (rs:List Rm) (k:Nat) (_:vs=[.ref t,.int (k:Int)]) (_:dW H t rs) (_:Tr.Good (aD rs)) (_:rs.length<=40) (_:k<rs.length) (_:∀ H',aH H H'->Q (pV (Tr.par (aD rs) k)) H')
def vL:aF ["rooms","room","depth","other"] ["rooms","room"] (aA yX):=cQ
def Ql(F:bO K "parent" "parent" yX f fd)(S:mg "range" = none):aL P w K mg base aN 1 f fd ["rooms","room"] IW:=by
 refine F.ok vL ?_ ?_
 .rintro _ _ _ _⟨t,R,k,rfl,_⟩;rfl
 intro _ A _ s H vs Q E _ h
 apply aW;intro _ g_;obtain⟨t,R,k,rfl,C,_,_,I,q⟩:=h;apply g_;clear g_
 refine⟨_,(zE (zL (i:=2) vL.nd rfl (bb rfl) (yC zH (yC zH (pv 0) (pv 1) (fun _ _=>rfl)) zB (fun _ _=>rfl)))
  (yA (bf PassesOwn.never rfl (Yi rfl S (qKB (yD lF (pv 1) zB) (qEW (Ay rH zB) (qEW (Ay rH zB) zD)))) (yK (i:=3) vL.nd rfl (bb rfl))
  (zG (yE (zM mH (yC zH (yC zH (pv 0) (pv 3) (fun _ _=>rfl)) zB (fun _ _=>rfl)) (pv 2) (zS _))
  (zG (zP (pv 3)))
  zU)))
  (zG (zP iw)))),?_⟩
 apply aW;intro _ g_;obtain⟨vs,a,r,ht,_,l,m,L⟩:=C.at I;apply g_;clear g_;have u:=jO l;refine⟨_,rfl,_,rfl,t,vs,_,_,rfl,rfl,aJ.of ht,m,aG (aJ.of L) rfl ?_⟩;refine⟨fun σ' b=>b=H/\Tr.par (aD R) k=none,?_,?_⟩
 .refine⟨_,rfl,eO ⟨_,rfl,_,rfl,(k:Int)-1,rfl,by lia,by lia,?_⟩⟩;refine WT (fun i σ' b=>b=H/\(∀ j,k<=j+i->j<k->(aD R).getD k 0<=(aD R).getD j 0)/\∃ o:aE V,σ'=[some (.ref t),some (.int (k:Int)),some (.int r.depth),o]) ⟨rfl,fun j v J=>by lia,none,rfl⟩ ?_ ?_
  .rintro i σ' b _ B;apply aW;intro _ g_;obtain⟨rfl,n,o,rfl⟩:=B
   have M:i<k:=by lia
   have G:k-1-i<R.length:=by lia
   obtain⟨_,_,D,O,_,p,N,g⟩:=C.at G;apply g_;clear g_;rw[ht]at O
   cases O
   have d:=jO p
   have x:(k:Int)-1-(i:Int)=((k-1-i:Nat):Int):=by lia
   refine⟨_,rfl,_,rfl,t,vs,_,_,rfl,rfl,aJ.of ht,(by rw[x];exact N),aG (aJ.of g) rfl ⟨_,rfl,eO ⟨_,rfl,?_⟩⟩⟩;refine vp (fun c=>?_) (fun c=>?_)
   .have T:=ba c;refine⟨_,rfl,?_⟩;have e:Tr.par (aD R) k=some (k-1-i):=Tr.rW (by lia) (by rw[d,u];exact T) fun j v J=>n j (by lia) J;have z:=q _ (aH.refl _);rw[e]at z;rw[x];exact z
   .have T:¬ D.depth<r.depth:=fun z=>c (bq z);refine⟨rfl,fun j v J=>?_,_,rfl⟩
    by_cases y:j=k-1-i
    .rw[y,d,u];lia
    .exact n j (by lia) J
  .rintro σ' b B;apply aW;intro _ g_;obtain⟨rfl,n,o,rfl⟩:=B;apply g_;clear g_;exact⟨rfl,Tr.BK fun j G=>n j (by lia) G⟩
 rintro σ' b ⟨rfl,e⟩;have z:=q _ (aH.refl _);rw[e]at z;exact z
inductive Ku(vs:List V)(H:Hp)(Q:VK)(E_:XK):Prop
 | mk (t:Addr) (rs:List Rm) (one other:Nat) (_:vs=[.ref t,.int (one:Int),.int (other:Int)]) (_:dW H t rs) (_:Tr.Good (aD rs)) (_:rs.length<=40) (_:one<rs.length) (_:other<rs.length) (_:∀ H',aH H H'->Q (.bl (Tr.bL (aD rs) one other)) H')
def LQ:aF ["rooms","one","other"] ["rooms","one","other"] (aA yc):=cQ
def Yv(F:bO K "lies_in" "lies_in" yc f fd)(j:Dp P w K mg base aN n ge de ["rooms","room"] Ih "end_of") :
  aL P w K mg base aN (n+1) f fd ["rooms","one","other"] Ku:=by
 refine F.ok LQ ?_ ?_
 .rintro _ _ _ _⟨t,r,one,other,rfl,_⟩;rfl
 intro _ A _ s H _ Q E a h
 apply aW;intro _ g_;obtain⟨t,r,one,other,rfl,i,_,R,_,l,q⟩:=h;apply g_;clear g_;have g:=q H (aH.refl _);have dl:=yW r;refine⟨_,(zG (zP (Ug mH mH (pv 2) (pv 1) (pC j a (zA (pv 0) (zA (pv 2) zD)))))),?_⟩;refine⟨_,rfl,_,rfl,eO ⟨_,rfl,?_⟩⟩;refine vp (fun c=>?_) (fun c=>?_)
 .have T:=ba c;refine⟨_,rfl,_,rfl,t,r,other,rfl,i,R,l,fun e k=>(eO ?_)⟩;rw[Tr.BZ k (by lia),bq (show other<one by lia),eR]at g;have b:decide (one<e)=decide ((one:Int)<(e:Int)):=bS.mpr (by lia);rw[b]at g;exact g
 .have T:¬ (other:Int)<(one:Int):=fun z=>c (bq z)
  have d:Tr.bL (aD r) one other=false:=by
   unfold Tr.bL;rw[Bool.eq_false_iff];intro z;have:=Tr.T5 (List.contains_iff_mem.mp z);lia
  rw[d]at g;exact g
end dC
namespace N6
open PySem L2 jP lN vB
def isOne(R:aw Rm)(x:Nat):Bool:=match R[x]? with
 | some r=>decide (V.str r.kind=V.str "one")
 | none=>false
inductive Ti(vs:List V)(H:Hp)(Q:VK)(E_:XK):Prop
 | mk (t:Addr) (rs:List Rm) (one other:Nat) (_:vs=[.ref t,.int (one:Int),.int (other:Int)]) (_:dW H t rs) (_:Tr.Good (aD rs)) (_:rs.length<=40) (_:one<rs.length) (_:other<rs.length) (_:∀ H',aH H H'->Q (pV (Tr.hall (aD rs) (isOne rs) one other)) H')
def hgt:aE Nat->Nat
 | none=>0
 | some j=>j+1
end N6
namespace dC
open PySem L2 jP lN vB
theorem RZ(d:aw Int)(f:Nat->Bool)(b k:Nat):Tr.hall d f k b=match Tr.par d k with
  | none=>none
  | some j=>if ((Tr.ups d b).contains j&&f j)=true then some j else Tr.hall d f j b:=by
 unfold Tr.hall
 cases e:Tr.par d k with
 | none=>
  rw[Tr.za e];rfl
 | some j=>
  rw[Tr.sW e,List.find?_cons];show _=if ((Tr.ups d b).contains j&&f j)=true then some j else _
  cases h:((Tr.ups d b).contains j&&f j) with
  | true=>rfl
  | false=>rfl
def nH:aF ["rooms","one","other","hall"] ["rooms","one","other"] (aA qX):=cQ
theorem Yy(F:bO K "hall_over" "hall_over" qX f fd)(L:Dp P w K mg base aN n gp dp ["rooms","room"] IW "parent")
  (T:Dp P w K mg base aN n gl dl' ["rooms","one","other"] Ku "lies_in") :
  aL P w K mg base aN (n+1) f fd ["rooms","one","other"] N6.Ti:=by
 refine F.ok nH ?_ ?_
 .rintro _ _ _ _⟨t,R,one,other,rfl,_⟩;rfl
 intro _ A _ s H vs Q E y h
 apply aW;intro _ g_;obtain⟨t,R,one,other,rfl,D,g,u,J,M,q⟩:=h;apply g_;clear g_
 refine⟨_,(zE (zL (i:=3) nH.nd rfl (bb rfl) (pC L y (zA (pv 0) (zA (pv 1) zD))))
  (yA (Aw PassesOwn.never (zM GQ (pv 3) iw (zS _))
  (zE (yE (bZ (PW.pt (pw_and (zM yH (yC zH (yC zH (pv 0) (pv 3) (fun _ _=>rfl)) zB (fun _ _=>rfl)) zQ (zS _)) (yQ (aY (pC T y (zA (pv 0) (zA (pv 2) (zA (pv 3) zD)))))))))
  (zG (zP (pv 3)))
  zU)
  (zG (zL (i:=3) nH.nd rfl (bb rfl) (pC L y (zA (pv 0) (zA (pv 3) zD)))))))
  (zG (zP iw)))),?_⟩
 refine⟨_,rfl,_,rfl,t,R,one,rfl,D,g,u,J,fun _ N=>?_⟩;refine⟨fun σ' l=>aH H l/\Tr.hall (aD R) (N6.isOne R) one other=none,?_,?_⟩
 .refine⟨fun m σ' l=>∃ k:Nat,k<R.length/\m=N6.hgt (Tr.par (aD R) k)/\aH H l/\Tr.hall (aD R) (N6.isOne R) one other=Tr.hall (aD R) (N6.isOne R) k other/\σ'=[some (.ref t),some (.int (one:Int)),some (.int (other:Int)),some (pV (Tr.par (aD R) k))],⟨_,one,J,rfl,N,rfl,rfl⟩,?_⟩;rintro m σ' l B;apply aW;intro _ g_;obtain⟨k,U,rfl,S,I,rfl⟩:=B;apply g_;clear g_;have p:=RZ (aD R) (N6.isOne R) other k
  cases e:Tr.par (aD R) k with
  | none=>
   rw[e]at p;exact⟨_,rfl,rfl,_,rfl,eE rfl ⟨S,I.trans p⟩⟩
  | some j=>
   rw[e]at p;have G:=iL (Tr.pM e) U;have o:=D.mono (aB.of S);apply aW;intro _ g_;obtain⟨vs,a,r,ht,_,v,C,W⟩:=o.at G;apply g_;clear g_
   have io:N6.isOne R j=decide (V.str r.kind=V.str "one"):=by
    unfold N6.isOne;rw[v]
   refine⟨_,rfl,rfl,_,rfl,Hq rfl ?_⟩;refine⟨fun σ' d=>aH H d/\Tr.hall (aD R) (N6.isOne R) one other=Tr.hall (aD R) (N6.isOne R) j other/\σ'=[some (.ref t),some (.int (one:Int)),some (.int (other:Int)),some (pV (Tr.par (aD R) j))],?_,?_⟩
   .rintro σ' d B;apply aW;intro _ g_;obtain⟨Y,x,rfl⟩:=B;apply g_;clear g_;refine⟨N6.hgt (Tr.par (aD R) j),?_,j,G,rfl,Y,x,rfl⟩
    cases e2:Tr.par (aD R) j with
    | none=>show 0<j+1;lia
    | some i=>have:=Tr.pM e2;show i+1<j+1;lia
   .refine⟨fun b d=>aH l d/\b=((Tr.ups (aD R) other).contains j&&N6.isOne R j),?_,?_⟩
    .refine⟨_,rfl,_,rfl,t,vs,_,_,rfl,rfl,aJ.of ht,C,aG (aJ.of W) rfl ⟨rfl,_,rfl,?_⟩⟩;refine vp (fun c=>?_) (fun c=>?_)
     .refine⟨_,rfl,_,rfl,_,rfl,t,R,other,j,rfl,o,g,u,M,G,fun d Y=>⟨_,rfl,Y,?_⟩⟩;rw[io,c,Bool.and_true];rfl
     .refine⟨aH.refl _,?_⟩;rw[io,eJ.mpr c,Bool.and_false]
    .rintro b d ⟨Y,rfl⟩;refine vp (fun c=>?_) (fun c=>?_)
     .refine⟨_,rfl,?_⟩;have z:=q d (S.trans Y);rw[I,p]at z;simp only[c,if_true]at z;exact z
     .refine⟨_,rfl,_,rfl,t,R,j,rfl,D.mono (aB.of (S.trans Y)),g,u,G,fun _ O=>⟨(S.trans Y).trans O,?_,rfl⟩⟩;rw[I,p];simp only[c,if_false];rfl
 rintro σ' l ⟨S,e⟩;have z:=q _ S;rw[e]at z;exact z
inductive Th(vs:List V)(H:Hp)(Q:VK)(E_:XK):Prop
 | mk (t:Addr) (rs:List Rm) (k:Nat) (_:vs=[.ref t,.int (k:Int)]) (_:dW H t rs) (_:Tr.Good (aD rs)) (_:rs.length<=40) (_:k<rs.length) (_:∀(p:Addr)(H':Hp),aH H H'->H p=none->H' p=some (.lst (aC (Tr.kids (aD rs) k)))->Q (.ref p) H')
def O2:aF ["rooms","room","depth"] ["rooms","room"] (aA Iz):=cQ
def Yw(F:bO K "kids" "kids" Iz f fd)(N:Dp P w K mg base aN n ge de ["rooms","room"] Ih "end_of")(X:mg "range" = none) :
  aL P w K mg base aN (n+1) f fd ["rooms","room"] Th:=by
 refine F.ok O2 ?_ ?_
 .rintro _ _ _ _⟨t,R,k,rfl,_⟩;rfl
 intro _ A _ s H vs Q E Z h
 apply aW;intro _ g_;obtain⟨t,R,k,rfl,B,g,S,I,q⟩:=h;apply g_;clear g_
 refine⟨_,(zE (zL (i:=2) O2.nd rfl (Or.inr rfl) (yD yG (yC zH (yC zH (pv 0) (pv 1) (fun _ _=>rfl)) zB (fun _ _=>rfl)) zB))
  (zG (zP (yU (bF:=[(2,"depth"),(0,"rooms")]) rfl (show bA (aA Iz) ["rooms","room","depth"] _ _ _ from vA) (vR rfl X (zA (yD yG (pv 1) zB) (zA (pC N Z (zA (pv 0) (zA (pv 1) zD))) zD))) (fun _ _ _ _ _ _=>cW (zM yH (yC (r:=dM K) zH (yC (r:=dM K) zH (pv 2) (pv 0) (fun _ _=>rfl)) zB (fun _ _=>rfl)) (pv 1) (zS _))) (fun _ _ _ _ _ _=>(pv 0)))))),?_⟩
 apply aW;intro _ g_;obtain⟨vs,a,r,ht,_,u,v,ha⟩:=B.at I;apply g_;clear g_;have J:=jO u;have dl:=yW R;refine⟨_,rfl,_,rfl,t,vs,_,_,rfl,rfl,aJ.of ht,v,aG (aJ.of ha) rfl (eO ?_)⟩;refine⟨_,rfl,eO ⟨_,rfl,_,rfl,t,R,k,rfl,B,S,I,fun e l=>?_⟩⟩;have he1:=l.lt;have Y:=l.le;refine⟨_,_,rfl,⟨by lia,by lia,by lia,by lia⟩,?_⟩;refine sH (fun i b C=>C=H/\b=aC (Tr.iG (aD R) k (k+1+i))) ⟨rfl,by rw[Tr.Bb _ _ _ (by lia)];rfl⟩ (fun i b C _ ⟨x,m⟩=>?_) (fun b C ⟨x,m⟩ p L=>?_)
 .subst x m
  have U:k+1+i<R.length:=by lia
  apply aW;intro _ g_;obtain⟨_,_,_,O,_,D,W,o⟩:=B.at U;apply g_;clear g_;rw[ht]at O
  cases O
  have d:=jO D
  have G:(k:Int)+1+(i:Int)=((k+1+i:Nat):Int):=by lia
  have M:=Tr.Oh g l (j:=k+1+i) (by lia);refine⟨_,rfl,_,rfl,t,vs,_,_,rfl,rfl,aJ.of ht,(by rw[G];exact W),aG (aJ.of o) rfl ⟨_,rfl,rfl,_,rfl,?_⟩⟩;refine vp (fun c=>?_) (fun c=>?_)
  .have T:=ba c;injection T with T;refine⟨_,rfl,?_,rfl,?_⟩
   .unfold aC;have:=Tr.MP (aD R) k (k+1+i);exact zW (by rw[bT];lia)
   .rw[show k+1+(i+1)=(k+1+i)+1 by lia,Tr.kj,cS (by rw[M.mpr ⟨by lia,by lia,by rw[d,J];exact T⟩];simp),G];unfold aC;rw[qz];rfl
  .refine⟨rfl,?_⟩;rw[show k+1+(i+1)=(k+1+i)+1 by lia,Tr.kj,cK,oY];intro z;have y:=(M.mp (eq_of_beq z)).2.2;rw[d,J]at y;exact c (bq (by rw[y]))
 .subst x m;refine q p _ (zF L _) L ?_;rw[zC,Tr.Vo g l,show k+1+((e:Int)-((k:Int)+1)).toNat=e by lia]
end dC
namespace Q4
open PySem L2 jP lN vB
def under(d:aw Int)(o:Nat):aE Nat->Bool
 | none=>true
 | some u=>Tr.bL d o u
def nT(d:aw Int)(un:aE Nat)(os:aw Nat):aw Nat:=(os.filter fun o=>under d o un).reverse
inductive Td(vs:List V)(H:Hp)(Q:VK)(E_:XK):Prop
 | mk (t ux rs un os) (_:vs=[.ref t,pV un,.ref ux]) (_:dW H t rs) (_:Tr.Good (aD rs)) (_:rs.length<=40) (_:(∀ u,un=some u->u<rs.length)) (_:H ux=some (.tup (aC os))) (_:(∀ o∈os,o<rs.length)) (_:os.length<=40) (_:os.Pairwise (· < ·)) (_:∀ p H',aH H H'->H p=none->H' p=some (.lst (aC (nT (aD rs) un os)))->Q (.ref p) H')
def ZG(k:Nat)(os:aw Nat):inV (.int (k:Int)) (aC os)=decide (k∈os):=by
 rw[eK,decide_eq_true_iff];constructor
 .intro h;obtain⟨o,q,e⟩:=Om h;rw[show k=o by lia];exact q
 .intro h;unfold inV aC;rw[fk,fi];exact⟨k,h,by simp [Xv]⟩
end Q4
namespace dC
open PySem L2 jP lN vB
def rC:aF ["rooms","under","opening","end"] ["rooms","under","opening"] (aA U4):=cQ
theorem Cm(F:bO K "goings_out" "goings_out" U4 f fd)(J:Dp P w K mg base aN n ge de ["rooms","room"] Ih "end_of")(B:mg "sorted" = none) :
  aL P w K mg base aN (n+1) f fd ["rooms","under","opening"] Q4.Td:=by
 refine F.ok rC ?_ ?_
 .rintro _ _ _ _⟨t,U,r,un,os,rfl,_⟩;rfl
 intro _ A _ s H _ Q E X h
 apply aW;intro _ g_;obtain⟨t,U,r,un,os,rfl,Y,_,M,v,d,z,_,I,q⟩:=h;apply g_;clear g_
 refine⟨_,(zE (yE (zM Li (pv 1) iw (zS _))
  (zG (zP (Az rfl B (zA (pv 2) zD))))
  zU)
  (zE (zL (i:=3) rC.nd rfl (Or.inr rfl) (pC J X (zA (pv 0) (zA (pv 1) zD))))
  (zG (zP (Az rfl B (zA (yU (bF:=[(1,"under"),(3,"end")]) rfl (show bA (aA U4) ["rooms","under","opening","end"] _ _ _ from vA) (nQ (pv 2)) (fun _ _ _ _ _ _=>cW (Av mH mH (pv 1) (pv 0) (pv 2))) (fun _ _ _ _ _ _=>(pv 0))) zD)))))),?_⟩
 have dl:=yW r
 cases un with
 | none=>
  refine⟨_,rfl,rfl,_,rfl,Hq rfl ⟨_,rfl,U,_,rfl,.inr (aJ.of (by rw[<-cj];exact d)),by rw[bT];lia,fun p R j m T=>?_⟩⟩;have e:=wU m T I;subst e;refine q p _ (zF j _) j ?_;rw[zC]
  rw[show Q4.nT (aD r) none os=os.reverse by
   unfold Q4.nT
   rw[(List.filter_eq_self (p:=fun o=>Q4.under (aD r) o none)).mpr fun _ _=>rfl],<-cj]
  rfl
 | some u=>
  have O:=v u rfl;refine⟨_,rfl,rfl,_,rfl,eE rfl ⟨_,rfl,_,rfl,t,r,u,rfl,Y,M,O,fun e N=>?_⟩⟩;refine⟨_,rfl,U,rfl,⟨_,aJ.of d⟩,?_⟩;refine ig (K:=K) (a:=U) (xs:=aC os) (fun i b k=>k=H/\b=aC ((os.take i).filter fun o=>Tr.bL (aD r) o u)) ⟨rfl,rfl⟩ (fun i b k ⟨e,_⟩=>by subst e;exact aJ.of d) (fun i x b k S ⟨y,l⟩=>?_) (fun b k ⟨y,l⟩ p j=>?_)
  .subst y l;obtain⟨G,rfl⟩:=yS S;have ho:=z _ (lQ G);have Z:=Tr.BZ N (a:=os[i]) (by lia);refine⟨_,rfl,_,rfl,_,_,(e:Int),rfl,rfl,⟨_,rfl,rfl,rfl⟩,_,rfl,?_⟩
   have D:(decide ((u:Int)<((os[i]:Nat):Int))&&decide (((os[i]:Nat):Int)<(e:Int)))=Tr.bL (aD r) os[i] u:=by
    rw[Z];congr 1
    .exact bS.mpr (by lia)
    .exact bS.mpr (by lia)
   rw[iZ (fQ G)];have L:=vD (fun o=>Tr.bL (aD r) o u) (os.take i);rw[iQ]at L;refine fO (fun c=>?_) (fun c=>?_)
   .have C:=D.symm.trans c;rw[cS C,<-jN];exact⟨_,rfl,zW (by rw[zV];lia),rfl,rfl⟩
   .have C:=D.symm.trans c;rw[cK (by rw[C];exact rA),oY];exact⟨rfl,rfl⟩
  subst y l;rw[DX (by rw[zV];exact bD _)];have L:=vD (fun o=>Tr.bL (aD r) o u) os;refine⟨p,_,rfl,.inl (aU.of (by rw[zC];unfold aC;rw[cj])),by rw[bT];lia,fun W R g m T=>?_⟩;have e:=wU m T (I.filter _);subst e;refine q W _ ((zF j _).trans (zF g _)) ((zF j _).free g) ?_;rw[zC,<-cj];rfl
def kindAt(r:aw Rm)(p:Nat):Str:=(r.map (·.kind)).getD p ("" : Str)
def Ot(h:rs[p]? = some r):kindAt rs p=r.kind:=by unfold kindAt;rw[jT,dZ,h];rfl
def S5(r:aw Rm)(p:Nat):Bool:=decide (kindAt r p=("all" : Str))
def qm(H:Hp)(p:ar)(r:aw Rm)(G:aw Nat):Prop:=H p=some (.lst (aC G))/\(∀ g∈G,g<r.length)/\G.length<=100
def qm.mono(h:qm H pg rs gs)(s:aH H H'):qm H' pg rs gs:=⟨s _ _ h.1,h.2⟩
inductive Ny(vs:List V)(H:Hp)(Q:VK)(E_:XK):Prop
 | mk (t pg:Addr) (rs:List Rm) (k:Nat) (gs:List Nat) (_:vs=[.ref t,.int (k:Int),.ref pg]) (_:dW H t rs) (_:rs.length<=40) (_:k<rs.length) (_:qm H pg rs gs) (_:∀ H',aH H H'->Q (.bl (Tr.bears (aD rs) gs k)) H')
inductive Te(vs:List V)(H:Hp)(Q:VK)(E_:XK):Prop
 | mk (t pg:Addr) (rs:List Rm) (k:Nat) (gs:List Nat) (_:vs=[.ref t,.int (k:Int),.ref pg]) (_:dW H t rs) (_:Tr.Good (aD rs)) (_:rs.length<=40) (_:k<rs.length) (_:qm H pg rs gs) (_:∀(p:Addr)(H':Hp),aH H H'->H p=none->H' p=some (.lst (aC (Tr.next (aD rs) (S5 rs) gs k)))->Q (.ref p) H')
inductive qBG(vs:List V)(H:Hp)(Q:VK)(E_:XK):Prop
 | mk (t pg rs un gs) (_:vs=[.ref t,pV un,.ref pg]) (_:dW H t rs) (_:Tr.Good (aD rs)) (_:rs.length<=40) (_:(∀ u,un=some u->u<rs.length)) (_:qm H pg rs gs) (_:∀ p ms H',aH H H'->H p=none->H' p=some (.lst (aC ms))->Tr.Q5 (aD rs) (S5 rs) gs un ms->Q (.ref p) H')
def rD:aF ["rooms","room","goals","end"] ["rooms","room","goals"] (aA Aj):=cQ
def Cp(F:bO K "bears_goal" "bears_goal" Aj f fd)(J:Dp P w K mg base aN n ge de ["rooms","room"] Ih "end_of")(B:mg "any" = none) :
  aL P w K mg base aN (n+1) f fd ["rooms","room","goals"] Ny:=by
 refine F.ok rD ?_ ?_
 .rintro _ _ _ _⟨t,m,r,k,G,rfl,_⟩;rfl
 intro _ A _ s H _ Q E L h
 apply aW;intro _ g_;obtain⟨t,m,r,k,G,rfl,N,R,M,C,q⟩:=h;apply g_;clear g_
 refine⟨_,(zE (zL (i:=3) rD.nd rfl (Or.inr rfl) (pC J L (zA (pv 0) (zA (pv 1) zD))))
  (zG (zP (zT (qi rfl) rfl B kc (zA (yU (bF:=[(1,"room"),(3,"end")]) rfl (show bA (aA Aj) ["rooms","room","goals","end"] _ _ _ from vA) (yN (pv 2)) (fun _ _ _ _ _ _=>bQ) (fun _ _ _ _ _ _=>(rR fJ mH (pv 1) (pv 0) (pv 2)))) zD))))),?_⟩
 apply aW;intro _ g_;obtain⟨y,l,_⟩:=C;apply g_;clear g_;have dl:=yW r;refine⟨_,rfl,_,rfl,t,r,k,rfl,N,R,M,fun e v=>?_⟩;refine⟨_,rfl,m,rfl,⟨_,aU.of y⟩,?_⟩;refine yT (K:=K) (a:=m) (xs:=aC G) (fun i c d=>d=H/\c=((G.take i).map fun g:Nat=>(decide ((k:Int)<=(g:Int))&&decide ((g:Int)<(e:Int)))).map V.bl) ⟨rfl,rfl⟩ (fun i c d ⟨e,_⟩=>by subst e;exact aU.of y) (fun i x c d D ⟨o,j⟩=>?_) (fun c d ⟨o,j⟩ p T=>?_)
 .subst o j;obtain⟨S,rfl⟩:=yS D;refine⟨_,rfl,_,rfl,_,_,(e:Int),rfl,rfl,⟨_,rfl,rfl,rfl⟩,zW (by rw[bT,bT,iQ];lia),rfl,?_⟩;rw[mq,fQ S,qz,qz];rfl
 subst o j;rw[DX (by rw[zV];exact bD _)];refine⟨p,_,rfl,aU.of zC,?_⟩;have z:=q (upd d p (.lst ((G.map fun g:Nat=>(decide ((k:Int)<=(g:Int))&&decide ((g:Int)<(e:Int)))).map V.bl))) (zF T _)
 have I:(G.map fun g:Nat=>(decide ((k:Int)<=(g:Int))&&decide ((g:Int)<(e:Int)))).any id=Tr.bears (aD r) G k:=by
  unfold Tr.bears;rw[fk,eK,fi,fi];have O:=v.lt
  have pt:∀ g∈G,((id ∘ fun g:Nat=>(decide ((k:Int)<=(g:Int))&&decide ((g:Int)<(e:Int)))) g=true↔(g==k||Tr.bL (aD r) g k)=true):=fun g u=>by
   have:=l g u;rw[Tr.BZ v (by lia)];show (decide ((k:Int)<=(g:Int))&&decide ((g:Int)<(e:Int)))=true↔_;rw[eP,eD,eD,decide_eq_true_iff,decide_eq_true_iff,decide_eq_true_iff,decide_eq_true_iff,beq_iff_eq];lia
  exact⟨fun ⟨g,a,b⟩=>⟨g,a,(pt g a).mp b⟩,fun ⟨g,a,b⟩=>⟨g,a,(pt g a).mpr b⟩⟩
 rw[I];exact z
def rN:aF ["rooms","room","goals","own","kid"] ["rooms","room","goals"] (aA O3):=cQ
theorem Lq(F:bO K "next_in" "next_in" O3 f fd)
  (I:Dp P w K mg base aN n gk dk ["rooms","room"] Th "kids")
  (Hg:Dp P w K mg base aN n gb db ["rooms","room","goals"] Ny "bears_goal") :
  aL P w K mg base aN (n+1) f fd ["rooms","room","goals"] Te:=by
 refine F.ok rN ?_ ?_
 .rintro _ _ _ _⟨t,y,R,k,G,rfl,_⟩;rfl
 intro _ A _ s H vs Q E hr h
 apply aW;intro _ g_;obtain⟨t,y,R,k,G,rfl,W,m,rF,hk,hG,q⟩:=h;apply g_;clear g_
 refine⟨_,(zE (zL (i:=3) rN.nd rfl (bb rfl) (pC I hr (zA (pv 0) (zA (pv 1) zD))))
  (zE (yE (zM yH (yC zH (yC zH (pv 0) (pv 1) (fun _ _=>rfl)) zB (fun _ _=>rfl)) zQ (zS _))
  (zG (zP (pv 3)))
  zU)
  (yA (bf PassesOwn.never rfl (yN (pv 3)) (yK (i:=4) rN.nd rfl (bb rfl))
  (zG (yE (aY (pC Hg hr (zA (pv 0) (zA (pv 4) (zA (pv 2) zD)))))
  (zG (zP (yL (zA (pv 4) zD))))
  zU)))
  (zG (zP (dN O1 (pv 3) gA (fu zB))))))),?_⟩
 apply aW;intro _ g_;obtain⟨vs,a,r,ht,_,J,M,ha⟩:=W.at hk;apply g_;clear g_;have dl:=yW R;refine⟨_,rfl,_,rfl,t,R,k,rfl,W,m,rF,hk,fun l L g N d=>?_⟩;refine⟨_,rfl,_,rfl,t,vs,_,_,rfl,rfl,aJ.of (g _ _ ht),M,aG (aJ.of (g _ _ ha)) rfl ⟨rfl,_,rfl,?_⟩⟩
 have u:S5 R k=decide (V.str r.kind=V.str ("all" : Str)):=by
  unfold S5;rw[Ot J];exact bS.mpr ⟨fun z=>by rw[z],fun z=>by injection z⟩
 refine fO (fun c=>?_) (fun c=>?_)
 .refine⟨_,rfl,q l L g N ?_⟩;rw[Tr.VP (u.trans c)];exact d
 have T:S5 R k=false:=u.trans c
 have kl:∀ x∈Tr.kids (aD R) k,x<R.length:=fun x b=>by
  have:=(Tr.BW.mp b).1;lia
 have X:Tr.next (aD R) (S5 R) G k=match (Tr.kids (aD R) k).find? (Tr.bears (aD R) G) with
   | some j=>[j]
   | none=>(Tr.kids (aD R) k).take 1:=by
  unfold Tr.next;rw[cK (by rw[T];exact rA)]
  all_goals (cases (Tr.kids (aD R) k).find? (Tr.bears (aD R) G) <;> rfl)
 generalize hks:Tr.kids (aD R) k=e at d kl X;refine⟨fun σ' C=>aH L C/\(∀ x∈e,Tr.bears (aD R) G x=false)/\∃ O:aE V,σ'=[some (.ref t),some (.int (k:Int)),some (.ref y),some (.ref l),O],?_,?_⟩
 .refine⟨_,rfl,l,rfl,⟨_,aU.of d⟩,?_⟩;refine pX (K:=K) (a:=l) (xs:=aC e) (fun i σ' C=>aH L C/\(∀ x∈e.take i,Tr.bears (aD R) G x=false)/\∃ O:aE V,σ'=[some (.ref t),some (.int (k:Int)),some (.ref y),some (.ref l),O])
   ⟨aH.refl _,fun x b=>(by rw[List.take_zero]at b;cases b),_,rfl⟩ (fun i σ' C _ ⟨S,_⟩=>aU.of (S _ _ d)) ?_ ?_
  .rintro j x σ' H2 b B;apply aW;intro _ g_;obtain⟨S,o,O,rfl⟩:=B;obtain⟨D,rfl⟩:=yS b;apply g_;clear g_;have U:=kl _ (lQ D);refine⟨_,rfl,_,rfl,_,rfl,t,y,R,e[j],G,rfl,W.mono (aB.of (g.trans S)),rF,U,hG.mono (g.trans S),fun _ Z=>⟨_,rfl,?_⟩⟩;refine fO (fun c=>?_) (fun c=>?_)
   .refine⟨_,rfl,zJ (by show 1<=1000;decide),fun p v=>q p _ ((g.trans (S.trans Z)).trans (zF v _)) ((g.trans (S.trans Z)).free v) ?_⟩
    have Y:e.find? (Tr.bears (aD R) G)=some e[j]:=by
     rw[List.find?_eq_some_iff_getElem];exact⟨c,j,D,rfl,fun i _=>by rw[o _ (by rw[List.mem_take_iff_getElem];exact⟨i,by lia,rfl⟩)];rfl⟩
    rw[zC,X,Y];rfl
   .refine⟨S.trans Z,fun x b=>?_,_,rfl⟩;rw[mq,fQ D]at b;rcases jz.mp b with h | h
    .exact o x h
    .rw[jA.mp h];exact c
  .rintro σ' H2 B;apply aW;intro _ g_;obtain⟨S,o,O,rfl⟩:=B;apply g_;clear g_;rw[DX (by rw[zV];exact bD _)]at o;exact⟨S,o,_,rfl⟩
 rintro σ' H2 B;apply aW;intro _ g_;obtain⟨S,o,O,rfl⟩:=B;apply g_;clear g_;refine⟨_,rfl,_,rfl,l,_,rfl,aU.of (S _ _ d),fun p v=>q p _ ((g.trans S).trans (zF v _)) ((g.trans S).free v) ?_⟩
 have Y:e.find? (Tr.bears (aD R) G)=none:=by
  rw[List.find?_eq_none];intro x b;rw[o x b];exact rA
 rw[zC,X,Y,Js _ (by decide)];show some (HO.lst ((aC e).take 1))=some (HO.lst (aC (e.take 1)));unfold aC;rw[gE]
def jD:aF ["rooms","under","goals","ahead","gone","room"] ["rooms","under","goals"] (aA sIn):=cQ
theorem Ga(F:bO K "goings_in" "goings_in" sIn f fd)
  (FW:Dp P w K mg base aN n gn dn ["rooms","room","goals"] Te "next_in")
  (aP:mg "len" = none) (cH:mg "sorted" = none):aL P w K mg base aN (n+1) f fd ["rooms","under","goals"] qBG:=by
 refine F.ok jD ?_ ?_
 .rintro _ _ _ _⟨t,J,R,un,y,rfl,_⟩;rfl
 intro _ A _ s H _ Q E hr h
 apply aW;intro _ g_;obtain⟨t,J,R,un,y,rfl,hR,G,rF,hun,hG,q⟩:=h;apply g_;clear g_
 refine⟨_,(zE (zL (i:=3) jD.nd rfl (bb rfl) (pL (mC (zM Li (pv 1) iw (zS _)) (yL (zA zB zD)) (pC FW hr (zA (pv 0) (zA (pv 1) (zA (pv 2) zD)))))))
  (zE (zL (i:=4) jD.nd rfl (bb rfl) (yL zD))
  (yA (Aw PassesOwn.never (zM cY (zT zO rfl aP bj (zA (pv 3) zD)) zB (zS _))
  (zE (zL (i:=5) jD.nd rfl (bb rfl) (Uh iu PySem.F.slot_list_pop PySem.F.type_list_pop qCH (pv 3)))
  (zE (yJ (dU iu yz yx yI (pv 4) (zA (pv 5) zD)))
  (zG (yJ (dU iu kz kC cG (pv 3) (zA (pC FW hr (zA (pv 0) (zA (pv 5) (zA (pv 2) zD)))) zD)))))))
  (zG (zP (zT qC rfl cH kg (zA (pv 4) zD))))))),?_⟩
 have dl:=yW R;have x:=G.pos;refine⟨fun v j=>∃(b:ar)(ah:aw Nat),v = .ref b/\aH H j/\H b=none/\j b=some (.lst (aC ah))/\Tr.qH (aD R) (S5 R) y un [] ah,?_,?_⟩
 .cases un with
  | none=>exact⟨_,rfl,rfl,_,rfl,Hq rfl ⟨zJ (by show 1<=1000;decide),fun p I=>⟨p,[0],rfl,zF I _,I,zC,Tr.qH.none _ _ _⟩⟩⟩
  | some u=>exact⟨_,rfl,rfl,_,rfl,eE rfl ⟨_,rfl,_,rfl,_,rfl,t,J,R,u,y,rfl,hR,G,rF,hun u rfl,hG,fun p H1 s1 np I=>⟨p,_,rfl,s1,np,I,Tr.qH.some _ _ _ u⟩⟩⟩
 rintro _ H1 C;apply aW;intro _ g_;obtain⟨b,ah,rfl,s1,S,M,wk⟩:=C;apply g_;clear g_;refine⟨bo _,fun g l=>?_⟩;have npn:=s1.free l
 have ne:g≠b:=fun e=>by
  rw[e,M]at l
  cases l
 refine⟨fun σ' j=>∃ gone:aw Nat,aH H j/\j g=some (.lst (aC gone))/\Tr.qH (aD R) (S5 R) y un gone []/\∃ O:aE V,σ'=[some (.ref t),some (pV un),some (.ref J),some (.ref b),some (.ref g),O],?_,?_⟩
 .refine⟨fun m σ' j=>∃(gone d:aw Nat),m=R.length-gone.length/\aH H j/\j b=some (.lst (aC d))/\j g=some (.lst (aC gone))/\Tr.qH (aD R) (S5 R) y un gone d/\∃ O:aE V,σ'=[some (.ref t),some (pV un),some (.ref J),some (.ref b),some (.ref g),O],
   ⟨_,[],ah,rfl,s1.trans (zF l _),(zF l _) _ _ M,zC,wk,_,rfl⟩,?_⟩
  rintro m σ' L C;apply aW;intro _ g_;obtain⟨gone,d,rfl,Z,B,o,W,O,rfl⟩:=C;apply g_;clear g_;refine⟨_,rfl,xR rfl (.inl (aU.of B)) (eO ⟨_,rfl,?_⟩)⟩;refine fO (fun c=>?_) (fun c=>?_)
  .have T:=ba c;rw[zV]at T;have wl:=W.len x;refine aW fun G_ g_=>?_
   obtain⟨a,r,rfl⟩:∃ a r,d=a++[r]:=by
    refine⟨d.dropLast,d.getLast (fun z=>by rw[z]at T;exact eu T (by decide)),(List.dropLast_concat_getLast _).symm⟩
   apply g_;clear g_
   have hrl:r<R.length:=by
    have:=(W.ok r (by simp)).lt x;lia
   rw[j8,vG]at wl;refine⟨fun σ' j=>∃(WD XQ:aw Nat),WD.length=gone.length+1/\aH H j/\j b=some (.lst (aC XQ))/\j g=some (.lst (aC WD))/\Tr.qH (aD R) (S5 R) y un WD XQ/\∃ O:aE V,σ'=[some (.ref t),some (pV un),some (.ref J),some (.ref b),some (.ref g),O],?_,?_⟩
   .rintro σ' H3 C;apply aW;intro _ g_;obtain⟨g2,a2,_,rest⟩:=C;apply g_;clear g_;exact⟨R.length-g2.length,by lia,g2,a2,rfl,rest⟩
   refine⟨_,rfl,.inl ⟨rfl,_,aU.of B⟩,b,_,.int (r:Int),rfl,rfl,B,?_,?_⟩
   .rw[<-jN,j8,vG,Nat.add_sub_cancel,zw4 (bD _),iS];rfl
   have U:(upd L b (.lst (aC (a++[r])).dropLast)) g=some (.lst (aC gone)):=by
    rw[zR ne];exact o
   refine⟨_,rfl,.inl ⟨rfl,_,aU.of U⟩,_,rfl,g,_,_,rfl,rfl,U,zW (by rw[zV];lia),?_⟩;have s3:aH H (upd (upd L b (.lst (aC (a++[r])).dropLast)) g (.lst (aC gone++[.int (r:Int)]))):=bW npn (bW S Z _) _
   have D:(upd (upd L b (.lst (aC (a++[r])).dropLast)) g (.lst (aC gone++[.int (r:Int)]))) b=some (.lst (aC a)):=by
    rw[zR (bE ne),zC,<-jN,List.dropLast_concat]
   have hn4:(upd (upd L b (.lst (aC (a++[r])).dropLast)) g (.lst (aC gone++[.int (r:Int)]))) g=some (.lst (aC (gone++[r]))):=by
    rw[zC,jN]
   generalize upd (upd L b (.lst (aC (a++[r])).dropLast)) g (.lst (aC gone++[.int (r:Int)]))=H3 at s3 D hn4 ⊢;refine⟨_,rfl,.inl ⟨rfl,_,aU.of D⟩,_,rfl,_,rfl,_,rfl,t,J,R,r,y,rfl,hR.mono (aB.of s3),G,rF,hrl,hG.mono s3,fun px _ s4 _ hpx=>?_⟩;have X:=W.step;have N:=X.len x;rw[j8]at N;refine⟨b,px,_,_,rfl,rfl,s4 _ _ D,hpx,zJ (by rw[zV,zV];rw[j8]at N;lia),gone++[r],a++Tr.next (aD R) (S5 R) y r,by rw[j8];rfl,bW S (s3.trans s4) _,?_,?_,X,_,rfl⟩
   .rw[zC];unfold aC;rw[qz]
   .rw[zR ne];exact s4 _ _ hn4
  .have T:=bP c;rw[zV]at T;have e:d=[]:=fo (by lia);subst e;exact⟨gone,Z,o,W,_,rfl⟩
 rintro σ' L C;apply aW;intro _ g_;obtain⟨gone,Z,o,W,O,rfl⟩:=C;apply g_;clear g_;have wl:=W.len x;refine⟨_,rfl,g,_,rfl,.inl (aU.of (by rw[o];unfold aC;rw[cj])),by rw[bT];lia,fun p _ I Y TY=>?_⟩
 have nd:gone.Nodup:=by
  have:=W.nd;rw[oY]at this;exact this
 apply aW;intro _ g_;obtain⟨ms,rfl,rise,hpm⟩:=pA Y TY nd;apply g_;clear g_;refine q p ms _ (Z.trans (zF I _)) (Z.free I) ?_ ⟨rise,fun k=>(hpm.mem_iff).trans (W.done k)⟩;rw[zC,<-cj];rfl
def FN(H:Hp)(v:V)(k:aw Nat):Prop:=∃ a:ar,v = .ref a/\H a=some (.tup (aC k))
inductive bh(H:Hp):List V->List (List Nat)->Prop where
 | nil:bh H [] []
 | cons {v:V} {k:List Nat} {vs:List V} {ks:List (List Nat)}:FN H v k->bh H vs ks->bh H (v::vs) (k::ks)
def FN.mono(x:FN H v k)(s:aB H H'):FN H' v k:=by obtain⟨a,e,h⟩:=x;exact⟨a,e,s _ _ h⟩
theorem bh.mono(x:bh H vs ks)(s:aB H H'):bh H' vs ks:=by
 induction x with
 | nil=>exact .nil
 | cons h _ i=>exact .cons (h.mono s) i
theorem bh.length(x:bh H vs ks):vs.length=ks.length:=by
 induction x with
 | nil=>rfl
 | cons _ _ i=>rw[dG,dG,i]
theorem bh.get(x:bh H vs ks):∀ {i:Nat} {k:aw Nat},ks[i]? = some k->∃ v,vs[i]? = some v/\FN H v k:=by
 induction x with
 | nil=>intro i k h;simp at h
 | cons h _ I=>
  intro i k e
  cases i with
  | zero=>
   simp at e;subst e;exact⟨_,rfl,h⟩
  | succ i=>exact I (by simpa using e)
theorem bh.set(x:bh H vs ks)(h:FN H v k):∀ i:Nat,bh H (vs.set i v) (ks.set i k):=by
 induction x with
 | nil=>intro i;exact .nil
 | cons h' a I=>
  intro i
  cases i with
  | zero=>exact .cons h a
  | succ i=>exact .cons h' (I i)
def dB(r:aw Rm)(p:Nat):Str:=(r.map (·.keeps)).getD p ("" : Str)
def Jh(h:rs[p]? = some r):dB rs p=r.keeps:=by unfold dB;rw[jT,dZ,h];rfl
def plB(r:aw Rm)(p:Nat):Bool:=decide (kindAt r p=("plain" : Str))
def gK(d:aw Int)(os:aw Nat)(r:Nat):aw Nat:=os.filter fun o=>Tr.bL d o r
noncomputable def mO(R:aw Rm)(os:aw Nat)(r:Nat):aw Nat:=if dB R r=("near" : Str) then (gK (aD R) os r).take 1 else (gK (aD R) os r).filter (plB R)
noncomputable def bI(R:aw Rm)(os l:aw Nat)(s:aw (aw Nat)):aw (aw Nat):=l.foldl (fun k r=>if dB R r=("" : Str) then k else k.set r (mO R os r)) s
theorem uU(R:aw Rm)(os:aw Nat):∀ l s,(bI R os l s).length=s.length
 | [],_=>rfl
 | r::l,s=>by
  show (bI R os l (if dB R r=("" : Str) then s else s.set r (mO R os r))).length=_;rw[uU R os l]
  split
  .rfl
  .rw[gu]
def Cq(R:aw Rm)(os l:aw Nat)(r:Nat)(s:aw (aw Nat)):bI R os (l++[r]) s=if dB R r=("" : Str) then bI R os l s else (bI R os l s).set r (mO R os r):=by unfold bI;rw[List.foldl_append];rfl
inductive iH(vs:List V)(H:Hp)(Q:VK)(E_:XK):Prop
 | mk (t pt rs os) (_:vs=[.ref t,.ref pt]) (_:dW H t rs) (_:rs.length<=40) (_:H pt=some (.lst (aC os))) (_:(∀ o∈os,o<rs.length)) (_:os.length<=100) (_:∀ p H',aH H H'->H' p=some (.tup (aC (os.filter (plB rs))))->Q (.ref p) H')
inductive Ib(vs:List V)(H:Hp)(Q:VK)(E_:XK):Prop
 | mk (t ux:Addr) (rs:List Rm) (os:List Nat) (r:Nat) (_:vs=[.ref t,.ref ux,.int (r:Int)]) (_:dW H t rs) (_:Tr.Good (aD rs)) (_:rs.length<=40) (_:H ux=some (.tup (aC os))) (_:(∀ o∈os,o<rs.length)) (_:os.length<=40) (_:os.Pairwise (· < ·)) (_:r<rs.length) (_:∀(p:Addr)(H':Hp),aH H H'->H' p=some (.tup (aC (mO rs os r)))->Q (.ref p) H')
inductive Dl(vs:List V)(H:Hp)(Q:VK)(E_:XK):Prop
 | mk (t ux pl pk rs os ls kv ks) (_:vs=[.ref t,.ref ux,.ref pl,.ref pk]) (_:dW H t rs) (_:Tr.Good (aD rs)) (_:rs.length<=40) (_:H ux=some (.tup (aC os))) (_:(∀ o∈os,o<rs.length)) (_:os.length<=40) (_:os.Pairwise (· < ·)) (_:H pl=some (.lst (aC ls))) (_:(∀ l∈ls,l<rs.length)) (_:H pk=some (.tup kv)) (_:bh H kv ks) (_:ks.length=rs.length) (_:∀ p Ho H',aH H H'->H' p=some (.tup Ho)->bh H' Ho (bI rs os ls ks)->Q (.ref p) H')
def Cd:aF ["rooms","told"] ["rooms","told"] (aA jd):=cQ
def Ck(F:bO K "plain_ones" "plain_ones" jd f fd)(C:mg "tuple" = none):aL P w K mg base aN 1 f fd ["rooms","told"] iH:=by
 refine F.ok Cd ?_ ?_
 .rintro _ _ _ _⟨t,pt,R,os,rfl,_⟩;rfl
 intro _ A _ s H vs Q E _ h
 apply aW;intro _ g_;obtain⟨t,pt,R,os,rfl,y,_,G,n,_,q⟩:=h;apply g_;clear g_;refine⟨_,(zG (zP (yB zY rfl C qt (zA (yU (bF:=[(0,"rooms")]) rfl (show bA (aA jd) ["rooms","told"] _ _ _ from vA) (yN (pv 1)) (fun _ _ _ _ _ _=>cW (zM yH (yC (r:=dM K) zH (yC (r:=dM K) zH (pv 1) (pv 0) (fun _ _=>rfl)) zB (fun _ _=>rfl)) zQ (zS _))) (fun _ _ _ _ _ _=>(pv 0))) zD)))),?_⟩;refine⟨_,rfl,pt,rfl,⟨_,aU.of G⟩,?_⟩;refine yT (K:=K) (a:=pt) (xs:=aC os) (fun i b d=>d=H/\b=aC ((os.take i).filter (plB R))) ⟨rfl,rfl⟩ (fun i b d ⟨e,_⟩=>by subst e;exact aU.of G) (fun i x b d D ⟨m,j⟩=>?_) (fun b d ⟨m,j⟩ p B=>?_)
 .subst m j;apply aW;intro _ g_;obtain⟨o,rfl⟩:=yS D;obtain⟨vs,a,r,ht,_,k,l,v⟩:=y.at (n _ (lQ o));apply g_;clear g_;refine⟨_,rfl,_,rfl,t,vs,_,_,rfl,rfl,aJ.of ht,l,aG (aJ.of v) rfl ⟨rfl,_,rfl,?_⟩⟩
  have ep:plB R os[i]=decide (V.str r.kind=V.str ("plain" : Str)):=by
   unfold plB;rw[Ot k];exact bS.mpr ⟨fun z=>by rw[z],fun z=>by injection z⟩
  rw[iZ (fQ o)];have L:=vD (plB R) (os.take i);rw[iQ]at L;refine fO (fun c=>?_) (fun c=>?_)
  .rw[cS (ep.trans c),<-jN];exact⟨_,rfl,zW (by rw[zV];lia),rfl,rfl⟩
  .rw[cK (by rw[show plB R os[i]=false from ep.trans c];exact rA),oY];exact⟨rfl,rfl⟩
 subst m j;rw[DX (by rw[zV];exact bD _)];exact⟨p,_,rfl,.inl ⟨aU.of zC,fun u g=>q u _ ((zF B _).trans (zF g _)) zC⟩⟩
def Ae:aF ["rooms","opening","room","inside"] ["rooms","opening","room"] (aA yd):=cQ
def Lr(F:bO K "kept_of" "kept_of" yd f fd)
  (oN:Dp P w K mg base aN n gg dg ["rooms","under","opening"] Q4.Td "goings_out")
  (HX:Dp P w K mg base aN n gp dp ["rooms","told"] iH "plain_ones")
  (cH:mg "sorted" = none) (aj:mg "tuple" = none):aL P w K mg base aN (n+1) f fd ["rooms","opening","room"] Ib:=by
 refine F.ok Ae ?_ ?_
 .rintro _ _ _ _⟨t,ux,R,os,r,rfl,_⟩;rfl
 intro _ A _ s H vs Q E Z h
 apply aW;intro _ g_;obtain⟨t,ux,R,os,r,rfl,M,G,W,x,j,L,I,g,q⟩:=h;apply g_;clear g_
 refine⟨_,(zE (zL (i:=3) Ae.nd rfl (bb rfl) (zT qC rfl cH kg (zA (pC oN Z (zA (pv 0) (zA (pv 2) (zA (pv 1) zD)))) zD)))
  (zE (yE (zM yH (yC zH (yC zH (pv 0) (pv 2) (fun _ _=>rfl)) zB (fun _ _=>rfl)) zQ (zS _))
  (zG (zP (yB zY rfl aj qt (zA (dN O1 (pv 3) gA (fu zB)) zD))))
  zU)
  (zG (zP (pC HX Z (zA (pv 0) (zA (pv 3) zD))))))),?_⟩
 apply aW;intro _ g_;obtain⟨vs,a,r0,ht,_,y,J,ha⟩:=M.at g;apply g_;clear g_;refine⟨_,rfl,_,rfl,_,rfl,t,ux,R,some r,os,rfl,M,G,W,fun u e=>(by cases e;exact g),x,j,L,I,fun pf H1 s1 _ b=>?_⟩;have eo:Q4.nT (aD R) (some r) os=(gK (aD R) os r).reverse:=rfl;have li:=vD (fun o=>Tr.bL (aD R) o r) os;have O:(gK (aD R) os r).length<=os.length:=li;have U:(gK (aD R) os r).Pairwise (· < ·):=I.filter _;have Y:∀ o∈gK (aD R) os r,o<R.length:=fun o ho=>j o (lO.mp ho).1;unfold mO at q;generalize gK (aD R) os r=xs at eo O U Y q;rw[eo]at b;refine⟨pf,_,rfl,.inl (aU.of (by rw[b];unfold aC;rw[cj])),by rw[bT,List.length_reverse];lia,fun v _ D p TY=>?_⟩;apply aW;intro _ g_;obtain⟨m,rfl,l,B⟩:=pA p TY (by unfold List.Nodup;rw[List.pairwise_reverse];exact U.imp fun z=>bE (jQ z));apply g_;clear g_
 obtain rfl:m=xs:=iU _ _ l U fun k=>by rw[B.mem_iff,hU]
 rw[<-cj];have S:=s1.trans (zF D (.lst (aC m)));have X:(upd H1 v (.lst (aC m))) v=some (.lst (aC m)):=zC
 change _ at S
 refine⟨_,rfl,_,rfl,t,vs,_,_,rfl,rfl,aJ.of (S _ _ ht),J,aG (aJ.of (S _ _ ha)) rfl ⟨rfl,_,rfl,?_⟩⟩
 have ek:(dB R r=("near" : Str))↔V.str r0.keeps=V.str ("near" : Str):=by
  rw[Jh y];exact⟨fun z=>by rw[z],fun z=>by injection z⟩
 refine fO (fun c=>?_) (fun c=>?_)
 .have T:=ek.mpr (ba c);refine⟨_,rfl,_,rfl,v,_,rfl,aU.of X,fun C d=>?_⟩;rw[Js _ (by decide)]
  have e2:(aC m).take (1:Int).toNat=aC (m.take 1):=by
   unfold aC;rw[gE];rfl
  rw[e2];refine⟨C,_,rfl,.inl ⟨aU.of zC,fun p3 N=>?_⟩⟩;refine q p3 _ ((S.trans (zF d _)).trans (zF N _)) ?_;rw[zC,cS T]
 .have T:¬ dB R r=("near" : Str):=fun z=>bP c (ek.mp z);refine⟨_,rfl,_,rfl,t,v,R,m,rfl,M.mono (aB.of S),W,X,Y,by lia,fun C H3 s3 d=>?_⟩;refine q C H3 (S.trans s3) ?_;rw[cK T];exact d
def rP:aF ["rooms","opening","left","kept","told","room"] ["rooms","opening","left","kept"] (aA tX):=cQ
def Ls(F:bO K "keeping" "keeping" tX f fd)
  (S9:Dp P w K mg base aN n gk dk ["rooms","opening","room"] Ib "kept_of")
  (fB:mg "list" = none) (aj:mg "tuple" = none):aL P w K mg base aN (n+1) f fd ["rooms","opening","left","kept"] Dl:=by
 refine F.ok rP ?_ ?_
 .rintro _ _ _ _⟨t,U,pl,J,r,os,l,kv,e,rfl,_⟩;rfl
 intro _ A _ s H vs Q E hr h
 apply aW;intro _ g_;obtain⟨t,U,pl,J,r,os,l,kv,e,rfl,hR,G,rF,y,Z,L,X,j,N,O,W,_,q⟩:=h;apply g_;clear g_
 refine⟨_,(zE (zL (i:=4) rP.nd rfl (bb rfl) (yB gO rfl fB kf (zA (pv 3) zD)))
  (yA (bf PassesOwn.never rfl (yN (pv 2)) (yK (i:=5) rP.nd rfl (bb rfl))
  (zG (yE (zM pN (yC zH (yC zH (pv 0) (pv 5) (fun _ _=>rfl)) zB (fun _ _=>rfl)) zQ (zS _))
  (zG (Ub (pC S9 hr (zA (pv 0) (zA (pv 1) (zA (pv 5) zD)))) (Ud (pv 4) (pv 5) set_list)))
  zU)))
  (zG (zP (yB zY rfl aj qt (zA (pv 4) zD)))))),?_⟩
 refine⟨_,rfl,xR rfl (.inr (aJ.of O)) (fun pt Gp=>?_)⟩;have C:=zF Gp (.lst kv);refine⟨fun σ' d=>∃ o:aw V,aH H d/\d pt=some (.lst o)/\bh d o (bI r os l e)/\∃ R:aE V,σ'=[some (.ref t),some (.ref U),some (.ref pl),some (.ref J),some (.ref pt),R],?_,?_⟩
 .refine⟨_,rfl,pl,rfl,⟨_,aU.of (C _ _ j)⟩,?_⟩;refine pX (fun i σ' d=>∃ o:aw V,aH H d/\d pt=some (.lst o)/\bh d o (bI r os (l.take i) e)/\∃ R:aE V,σ'=[some (.ref t),some (.ref U),some (.ref pl),some (.ref J),some (.ref pt),R])
   ⟨kv,C,zC,W.mono (aB.of C),_,rfl⟩ (fun i σ' d _ ⟨_,S,_⟩=>aU.of (S _ _ j)) ?_ ?_
  .rintro i x σ' H2 hx B;apply aW;intro _ g_;obtain⟨k,S,g,b,R,rfl⟩:=B;obtain⟨hi,rfl⟩:=yS hx;have m:=N _ (lQ hi);obtain⟨vs,a,r0,ht,_,D,M,ha⟩:=hR.at m;apply g_;clear g_;have I:=b.length;rw[uU]at I
   have u:bI r os (l.take (i+1)) e=if dB r l[i]=("" : Str) then bI r os (l.take i) e else (bI r os (l.take i) e).set l[i] (mO r os l[i]):=by
    rw[mq,fQ hi];exact Cq r os _ _ e
   refine⟨_,rfl,_,rfl,t,vs,_,_,rfl,rfl,aJ.of (S _ _ ht),M,aG (aJ.of (S _ _ ha)) rfl ⟨rfl,_,rfl,?_⟩⟩
   have ek:dB r l[i]=("" : Str)↔V.str r0.keeps=V.str ("" : Str):=by
    rw[Jh D];exact⟨fun z=>by rw[z],fun z=>by injection z⟩
   refine fO (fun c=>?_) (fun c=>?_)
   .have T:¬ dB r l[i]=("" : Str):=fun z=>by
     have c:=c;rw[bq (ek.mp z)]at c
     cases c
    rw[cK T]at u;refine⟨_,rfl,_,rfl,_,rfl,t,U,r,os,l[i],rfl,hR.mono (aB.of S),G,rF,S _ _ y,Z,L,X,m,fun p H3 Y v=>?_⟩;refine⟨_,rfl,_,rfl,pt,_,_,l[i],rfl,rfl,Y _ _ g,?_,?_⟩
    .unfold Su;rw[cS (by lia),cS (by lia)];simp
    have kt:aB H3 (upd H3 pt (.lst (k.set l[i] (.ref p)))):=aB.lst (Y _ _ g) _;refine⟨k.set l[i] (.ref p),bW Gp (S.trans Y) _,zC,?_,_,rfl⟩;rw[u];exact ((b.mono (aB.of Y)).mono kt).set ⟨p,rfl,kt _ _ v⟩ _
   .have T:dB r l[i]=("" : Str):=by
     have c:(!decide (V.str r0.keeps=V.str ("" : Str)))=false:=c;rw[Bool.not_eq_false']at c;exact ek.mpr (ba c)
    rw[cS T]at u;exact⟨k,S,g,by rw[u];exact b,_,rfl⟩
  .rintro σ' H2 B;apply aW;intro _ g_;obtain⟨k,S,g,b,R,rfl⟩:=B;apply g_;clear g_;rw[DX (by rw[zV];exact bD _)]at b;exact⟨k,S,g,b,_,rfl⟩
 rintro σ' H2 B;apply aW;intro _ g_;obtain⟨k,S,g,b,R,rfl⟩:=B;apply g_;clear g_;refine⟨_,rfl,pt,_,rfl,.inl ⟨aU.of g,fun p v=>?_⟩⟩;exact q p k _ (S.trans (zF v _)) zC (b.mono (aB.of (zF v _)))
end dC
namespace DQ
open PySem L2 jP lN vB
theorem uH:∀(a b:aw Int),a.Pairwise (· < ·)->b.Pairwise (· < ·)->(∀ k,k∈a↔k∈b)->a=b
 | [],[],_,_,_=>rfl
 | [],y::b,_,_,h=>absurd ((h y).mpr List.mem_cons_self) (by simp)
 | x::a,[],_,_,h=>absurd ((h x).mp List.mem_cons_self) (by simp)
 | x::a,y::b,d,g,h=>by
  obtain⟨a1,a2⟩:=i0.mp d;obtain⟨B,f⟩:=i0.mp g
  have e:x=y:=by
   rcases dD.mp ((h x).mp FZ) with e | c
   .exact e
   .rcases dD.mp ((h y).mpr FZ) with e | l
    .exact e.symm
    .have:=a1 y l;have:=B x c;lia
  subst e;congr 1;refine uH a b a2 f fun k=>?_;have H:=h k;rw[dD,dD]at H;constructor
  .intro z;rcases H.mp (.inr z) with e | Z
   .subst e;have:=a1 k z;lia
   .exact Z
  .intro z;rcases H.mpr (.inr z) with e | Z
   .subst e;have:=B k z;lia
   .exact Z
def inter(os:aw Nat):aw Int:=os.map fun j:Nat=>(j:Int)
def Gm(os:aw Nat):(inter os).map V.int=aC os:=by unfold inter aC;rw[gz];rfl
def M8(a b:aw Nat):aC a++aC b=aC (a++b):=(qz ..).symm
noncomputable def jt(os:aw Nat)(bx:aw Int)(d:aw Dg)(i:Int):aw Nat:=os.filter fun r=>(eG (inter os) bx d (r:Int) i).isSome
def Ci(inn:Bool)(d:aw Int)(r:Nat)(H:aw Nat):Bool:=H.any fun o=>if inn=true then Tr.bL d o r else Tr.bL d r o
noncomputable def ph(inn:Bool)(D:aw Int)(os:aw Nat)(bx:aw Int)(d:aw Dg)(i:Int):aw Nat:=
 ((jt os bx d i).filter fun r => !Ci inn D r (jt os bx d i)).map fun r:Nat=>(eG (inter os) bx d (r:Int) i).getD 0
def uV(od:Str):Bool:=decide (V.str od=V.str ("inner" : Str))
inductive Dk(vs:List V)(H:Hp)(Q:VK)(E_:XK):Prop
 | mk (pc t pl:Addr) (od:Str) (x1 x2 x3 x4 x6:V) (rs:List Rm) (room:Nat) (Hm:List Nat) (_:vs=[.ref pc,.int (room:Int),.ref pl]) (_:H pc=some (.tup [.str od,x1,x2,x3,x4,.ref t,x6])) (_:dW H t rs) (_:Tr.Good (aD rs)) (_:rs.length<=40) (_:room<rs.length) (_:H pl=some (.lst (aC Hm))) (_:(∀ o∈Hm,o<rs.length)) (_:Hm.length<=1000) (_:∀ H':Hp,aH H H'->Q (.bl (Ci (uV od) (aD rs) room Hm)) H')
inductive Im(n:Nat)(vs:List V)(H:Hp)(Q:VK)(E_:XK):Prop
 | mk (pc kI t pd o b od os bx rs ds dv x1 x2 x3 x4 x ev) (_:vs=[.ref pc,.ref kI,.int ev]) (_:H pc=some (.tup [.str od,x1,x2,x3,x4,.ref t,.ref pd])) (_:dW H t rs) (_:Tr.Good (aD rs)) (_:rs.length<=40) (_:H pd=some (.tup dv)) (_:Al (qA5 H) dv ds) (_:H kI=some (.tup [.ref o,.ref b,x])) (_:H o=some (.tup (aC os))) (_:(∀ o∈os,o<rs.length)) (_:os.Pairwise (· < ·)) (_:H b=some (.tup (bx.map V.int))) (_:(∀ d∈ds,d.g.ok bx.length/\d.g.ht<=n)) (_:ds.length<=63) (_:∀ p H',aH H H'->H p=none->H' p=some (.lst (aC (ph (uV od) (aD rs) os bx ds ev)))->Q (.ref p) H')
def rB:aF ["chart","room","others","rooms"] ["chart","room","others"] (aA lg):=cQ
def Lp(F:bO K "is_outdone" "is_outdone" lg f fd)(T:Dp P w K mg base aN n gl dl ["rooms","one","other"] dC.Ku "lies_in")(I:mg "any" = none) :
  aL P w K mg base aN (n+1) f fd ["chart","room","others"] Dk:=by
 refine F.ok rB ?_ ?_
 .rintro _ _ _ _⟨O,t,pl,od,Z,X,Y,x4,W,R,r,m,rfl,_⟩;rfl
 intro _ A _ s H _ Q E L h
 apply aW;intro _ g_;obtain⟨O,t,pl,od,Z,X,Y,x4,W,R,r,m,rfl,N,M,G,J,U,l,u,_,q⟩:=h;apply g_;clear g_
 refine⟨_,(zE (zL (i:=3) rB.nd rfl (Or.inr rfl) (yC zH (pv 0) zB (fun _ _=>rfl)))
  (zE (yE (zM yH (yC zH (pv 0) zB (fun _ _=>rfl)) zQ (zS _))
  (zG (zP (zT (qi rfl) rfl I kc (zA (yU (bF:=[(3,"rooms"),(1,"room")]) rfl (show bA (aA lg) ["chart","room","others","rooms"] _ _ _ from vA) (yN (pv 2)) (fun _ _ _ _ _ _=>bQ) (fun _ _ _ _ _ _=>(pC T L (zA (pv 1) (zA (pv 0) (zA (pv 2) zD)))))) zD))))
  zU)
  (zG (zP (zT (qi rfl) rfl I kc (zA (yU (bF:=[(3,"rooms"),(1,"room")]) rfl (show bA (aA lg) ["chart","room","others","rooms"] _ _ _ from vA) (yN (pv 2)) (fun _ _ _ _ _ _=>bQ) (fun _ _ _ _ _ _=>(pC T L (zA (pv 1) (zA (pv 2) (zA (pv 0) zD)))))) zD)))))),?_⟩
 refine⟨_,rfl,aG (aJ.of N) rfl ?_⟩;refine⟨_,rfl,aG (aJ.of N) rfl ⟨rfl,_,rfl,?_⟩⟩
 have go:∀(z:Nat->Bool)(g:Hp)(p:ar),aH H g->(∀ o∈m,z o=if uV od=true then Tr.bL (aD R) o r else Tr.bL (aD R) r o)->Q (.bl ((m.map z).any id)) g:=fun z g p s' v=>by
  have e:(m.map z).any id=Ci (uV od) (aD R) r m:=by
   unfold Ci;rw[fk,eK,fi,fi];exact⟨fun ⟨o,a,b⟩=>⟨o,a,(v o a)▸b⟩,fun ⟨o,a,b⟩=>⟨o,a,show z o=true from (v o a).trans b⟩⟩
  rw[e];exact q g s'
 refine fO (fun c=>?_) (fun c=>?_)
 .have D:uV od=true:=c;refine⟨_,rfl,pl,rfl,⟨_,aU.of l⟩,?_⟩;refine yT (K:=K) (a:=pl) (xs:=aC m) (fun i d g=>aH H g/\d=((m.take i).map fun o:Nat=>Tr.bL (aD R) o r).map V.bl) ⟨aH.refl _,rfl⟩ (fun i d g ⟨e,_⟩=>aU.of (e _ _ l)) (fun i x d g B ⟨j,k⟩=>?_) (fun d g ⟨j,k⟩ p C=>?_)
  .subst k;obtain⟨y,rfl⟩:=dC.yS B;refine⟨_,rfl,_,rfl,_,rfl,t,R,m[i],r,rfl,M.mono (aB.of j),G,J,u _ (lQ y),U,fun H2 S=>⟨zW (by rw[bT,bT,iQ];lia),j.trans S,?_⟩⟩;rw[mq,fQ y,qz,qz];rfl
  .subst k;rw[DX (by rw[zV];exact bD _)];exact⟨p,_,rfl,aU.of zC,go _ _ p (j.trans (zF C _)) fun o _=>by rw[cS D]⟩
 .have D:uV od=false:=c;refine⟨_,rfl,pl,rfl,⟨_,aU.of l⟩,?_⟩;refine yT (K:=K) (a:=pl) (xs:=aC m) (fun i d g=>aH H g/\d=((m.take i).map fun o:Nat=>Tr.bL (aD R) r o).map V.bl) ⟨aH.refl _,rfl⟩ (fun i d g ⟨e,_⟩=>aU.of (e _ _ l)) (fun i x d g B ⟨j,k⟩=>?_) (fun d g ⟨j,k⟩ p C=>?_)
  .subst k;obtain⟨y,rfl⟩:=dC.yS B;refine⟨_,rfl,_,rfl,_,rfl,t,R,r,m[i],rfl,M.mono (aB.of j),G,J,U,u _ (lQ y),fun H2 S=>⟨zW (by rw[bT,bT,iQ];lia),j.trans S,?_⟩⟩;rw[mq,fQ y,qz,qz];rfl
  .subst k;rw[DX (by rw[zV];exact bD _)];exact⟨p,_,rfl,aU.of zC,go _ _ p (j.trans (zF C _)) fun o _=>by rw[D];rfl⟩
def vN:aF ["chart","stand","event","by_room","answering"] ["chart","stand","event"] (aA uB):=cQ
def R3(F:bO K "chosen" "chosen" uB f fd)(SN:Dp P w K mg base aN m ga da ["chart","stand","event"] (Dq n) "answers")
  (Hd:Dp P w K mg base aN m go do' ["chart","room","others"] Dk "is_outdone") (cH:mg "sorted" = none) :
  aL P w K mg base aN (m+1) f fd ["chart","stand","event"] (Im n):=by
 refine F.ok vN ?_ ?_
 .rintro _ _ _ _⟨Z,kI,t,pd,o,b,od,os,bx,R,d,dv,x1,x2,x3,x4,x,v,rfl,_⟩;rfl
 intro _ A _ s H _ Q E hr h
 apply aW;intro _ g_;obtain⟨Z,kI,t,pd,o,b,od,os,bx,R,d,dv,x1,x2,x3,x4,x,v,rfl,Vy,hR,L,rF,hpd,hds,Y,ho,hos,inc,hb,hok,_,q⟩:=h;apply g_;clear g_;have hu:=iA (ic (show 1<=64 by decide) _) hr.units
 refine⟨_,(zE (zL (i:=3) vN.nd rfl (Or.inr rfl) (pC SN hr (zA (pv 0) (zA (pv 1) (zA (pv 2) zD)))))
  (zE (zL (i:=4) vN.nd rfl (Or.inr rfl) (zT (HD rfl) rfl cH kg (zA (pv 3) zD)))
  (zG (zP (yU (bF:=[(0,"chart"),(4,"answering"),(3,"by_room")]) rfl (show bA (aA uB) ["chart","stand","event","by_room","answering"] _ _ _ from vA) (yN (pv 4)) (fun _ _ _ _ _ _=>cW (bY (aY (pC Hd hr (zA (pv 1) (zA (pv 0) (zA (pv 2) zD))))))) (fun _ _ _ _ _ _=>(Ym hu (pv 3) (pv 0) (fun _ _=>rfl)))))))),?_⟩
 refine⟨_,rfl,_,rfl,_,rfl,Z,kI,pd,o,b,inter os,bx,d,dv,_,_,_,_,_,_,_,v,rfl,Vy,hpd,hds,Y,(by rw[Gm];exact ho),hb,hok,by lia,fun pb u H1 s1 h1 hv ⟨ks,D,_⟩ _=>?_⟩;refine⟨_,rfl,pb,u,ks,rfl,h1,D,by lia,fun S zs N nd a TY=>?_⟩
 have mk:∀ k:Int,k∈ks↔(eG (inter os) bx d k v).isSome=true:=fun k=>by
  have l:(iR u (Sum.inl k)).isSome=(eG (inter os) bx d k v).isSome:=by
   rw[hv k]
   cases eG (inter os) bx d k v <;> rfl
  rw[<-l,<-lR,fi];constructor
  .intro z
   have:(Sum.inl k:Key)∈u.map (·.1):=by rw[D];exact eX.mpr ⟨k,z,rfl⟩
   apply aW;intro _ g_;obtain⟨kv,C,e⟩:=eX.mp this;apply g_;clear g_;exact⟨kv,C,bq e⟩
  .rintro bR;apply aW;intro _ g_;obtain⟨kv,C,e⟩:=bR;apply g_;clear g_;have:(Sum.inl k:Key)∈u.map (·.1):=eX.mpr ⟨kv,C,ba e⟩;rw[D]at this;apply aW;intro _ g_;obtain⟨j,I,e⟩:=eX.mp this;apply g_;clear g_;injection e with e;exact e▸I
 have ez:zs=inter (jt os bx d v):=by
  refine uH _ _ ((TY.and (a.nodup_iff.mpr nd)).imp fun ⟨_,_⟩=>by lia) (List.pairwise_map.mpr ((inc.filter _).imp fun z=>by lia)) fun k=>?_;rw[a.mem_iff,mk k];constructor
  .intro z
   have M:inV (.int k) ((inter os).map V.int)=true:=by
    unfold eG at z
    by_cases y:inV (.int k) ((inter os).map V.int)=true
    .exact y
    .rw[cK y]at z
     cases z
   rw[Gm]at M;apply aW;intro _ g_;obtain⟨j,I,rfl⟩:=Om M;apply g_;clear g_;exact eX.mpr ⟨j,lO.mpr ⟨I,z⟩,rfl⟩
  .intro z;apply aW;intro _ g_;obtain⟨j,I,rfl⟩:=eX.mp z;apply g_;clear g_;exact (lO.mp I).2
 subst ez;rw[Gm]
 have la:(jt os bx d v).length<=63:=by
  have:=a.length_eq;unfold inter at this;rw[bT]at this;lia
 have hA:∀ r∈jt os bx d v,r<R.length/\(eG (inter os) bx d (r:Int) v).isSome=true:=fun r J=>⟨hos r (lO.mp J).1,(lO.mp J).2⟩;have W:=s1.trans (zF N (.lst (aC (jt os bx d v))));have T:upd H1 S (.lst (aC (jt os bx d v))) S=some (.lst (aC (jt os bx d v))):=zC;have G:=(zF N (.lst (aC (jt os bx d v)))) _ _ h1;generalize upd H1 S (.lst (aC (jt os bx d v)))=H2 at W T G ⊢;refine⟨_,rfl,S,rfl,⟨_,aU.of T⟩,?_⟩;refine yT (K:=K) (fun i B U=>aH H2 U/\B=aC ((((jt os bx d v).take i).filter fun r => !Ci (uV od) (aD R) r (jt os bx d v)).map fun r:Nat=>(eG (inter os) bx d (r:Int) v).getD 0)) ⟨aH.refl _,rfl⟩ (fun i B U ⟨e,_⟩=>aU.of (e _ _ T)) (fun i y B U hy ⟨l,X⟩=>?_) (fun B U ⟨l,X⟩ p hp=>?_)
 .subst X;obtain⟨hi,rfl⟩:=dC.yS hy;have hm:=hA _ (lQ hi);have et:=dC.iZ (f:=fun r => !Ci (uV od) (aD R) r (jt os bx d v)) (fQ hi);generalize (jt os bx d v)[i]=r at hm et
  have lt':(aC ((((jt os bx d v).take i).filter fun r => !Ci (uV od) (aD R) r (jt os bx d v)).map fun r:Nat=>(eG (inter os) bx d (r:Int) v).getD 0)).length<=63:=by
   rw[zV,bT];have:=vD (fun r => !Ci (uV od) (aD R) r (jt os bx d v)) ((jt os bx d v).take i);rw[iQ]at this;lia
  have s3:=W.trans l;refine⟨_,rfl,_,rfl,_,rfl,Z,t,S,od,_,_,_,_,_,R,r,jt os bx d v,rfl,s3 _ _ Vy,hR.mono (aB.of s3),L,rF,hm.1,l _ _ T,(fun o ho=>(hA o ho).1),by lia,fun _ s4=>?_⟩;refine⟨_,rfl,?_⟩;rw[et];refine fO (fun c=>?_) (fun c=>?_)
  .have c':=c;obtain⟨k,hk⟩:=jv.mp hm.2;have O:=hv (r:Int);rw[hk]at O;have g:=Hj.k (k:=Sum.inl (r:Int)) ((l.trans s4) _ _ G);rw[O]at g;refine⟨_,rfl,_,rfl,pb,_,rfl,g,zW (by lia),l.trans s4,?_⟩;rw[cS c',qz,<-M8];show _=_++aC [(eG (inter os) bx d (r:Int) v).getD 0];rw[hk];rfl
  .have c':¬ (!Ci (uV od) (aD R) r (jt os bx d v))=true:=fun z=>by
    have c:(!Ci (uV od) (aD R) r (jt os bx d v))=false:=c;rw[c]at z
    cases z
   rw[cK c',oY];exact⟨l.trans s4,rfl⟩
 .subst X;rw[DX (by rw[zV];exact bD _)];exact q p _ (W.trans (l.trans (zF hp _))) ((W.trans l).free hp) zC
end DQ
namespace dC
open PySem L2 jP lN xM
def Zf(xs:aw V)(h:k<=xs.length):oG xs none (some (k:Int))=xs.take k:=by unfold oG;rw[HT.tY,HT.iJ,List.drop_zero,Nat.sub_zero,iN h]
def Rj(xs:aw V)(h:k+1<=xs.length):oG xs (some ((k:Int)+1)) none=xs.drop (k+1):=by
 have e:(k:Int)+1=((k+1:Nat):Int):=by lia
 unfold oG;rw[e,HT.tY,HT.iJ,iN h,DX (by rw[fR];exact bD _)]
def YK{α:Type}{xs:aw α}{k:Nat}(v:α)(h:k<xs.length):xs.take k++[v]++xs.drop (k+1)=xs.set k v:=by rw[List.set_eq_take_append_cons_drop,cS h,bX];rfl
def jX:aF ["deed","boxes","sizes","kind","box","number"] ["deed","boxes","sizes"] (aA uC):=cQ
theorem Lx{f:ar}{fd:af}(F:bO K "changed" "changed" uC f fd):aL P w K mg base aN 1 f fd ["deed","boxes","sizes"] Dm:=by
 refine F.ok jX ?_ ?_
 .rintro _ _ _ _⟨D,T,ts,d,bx,sz,rfl,_⟩;rfl
 intro _ A _ s H _ Q E _ h
 apply aW;intro _ g_;obtain⟨D,T,ts,d,bx,sz,rfl,hd,Z,hs,hok,_,_,m,q⟩:=h;apply g_;clear g_
 refine⟨_,(zE (zL (i:=3) jX.nd rfl (bb rfl) (yC zH (pv 0) zB (fun _ _=>rfl)))
  (zE (yE (zM dq (pv 3) (zX (zA zQ (zA zQ zD))) rfl)
  (zG (zP (pv 1)))
  zU)
  (zE (zL (i:=4) jX.nd rfl (bb rfl) (yC zH (pv 0) zB (fun _ _=>rfl)))
  (zE (zL (i:=5) jX.nd rfl (bb rfl) (yC zH (pv 0) zB (fun _ _=>rfl)))
  (yA (yE (zM yH (pv 3) zQ (zS _))
  (zG (zL (i:=5) jX.nd rfl (bb rfl) (yD zZ (yD yG (yC zH (pv 1) (pv 4) (fun _ _=>rfl)) (pv 5)) (yC zH (pv 2) (pv 4) (fun _ _=>rfl)))))
  zU)
  (zG (zP (yD GR (pL (yD (lJ.or GR Uo) (dN rM (pv 1) gA (fu (pv 4))) (zX (zA (pv 5) zD)))) (dN rM (pv 1) (fu (yD yG (pv 4) zB)) gA))))))))),?_⟩
 have two:(∃ a c b n,D = .ref a/\H a=some (.tup [.str c,.int b,.int n])/\((c = "set" /\ d = .set b n)∨(c = "add" /\ d = .add b n))) ∨
   (∃ a c u,D = .ref a/\H a=some (.tup [.str c,u])/\(c = "say" ∨ c = "send")/\d.upd sz bx=bx):=by
  cases hd with
  | say e=>exact .inr ⟨_,_,_,rfl,e,.inl rfl,rfl⟩
  | send e=>exact .inr ⟨_,_,_,rfl,e,.inr rfl,rfl⟩
  | set e=>exact .inl ⟨_,_,_,_,rfl,e,.inl ⟨rfl,rfl⟩⟩
  | add e=>exact .inl ⟨_,_,_,_,rfl,e,.inr ⟨rfl,rfl⟩⟩
 rcases two with ⟨a,c,b,n,rfl,e,o⟩ | ⟨a,c,u,rfl,e,o,hu⟩
 .refine⟨_,rfl,aG (aJ.of e) rfl ⟨_,rfl,zJ (by show 2<=1000;decide),fun p B=>?_⟩⟩;have S:aH H (upd H p (.tup [.str "set",.str "add"])):=zF B _;have e1:=S _ _ e;refine (xR rfl (.inr (aJ.of zC)) ⟨rfl,rfl,_,rfl,eE (by rcases o with ⟨rfl,_⟩ | ⟨rfl,_⟩ <;> decide +kernel) ?_⟩);refine⟨_,rfl,aG (aJ.of e1) rfl ⟨_,rfl,aG (aJ.of e1) rfl ?_⟩⟩
  have U:0<=b/\b<(bx.length:Int):=by
   rcases o with ⟨_,rfl⟩ | ⟨_,rfl⟩ <;> exact hok b rfl
  apply aW;intro _ g_;obtain⟨j,G⟩:=U;obtain⟨k,rfl⟩:∃ k:Nat,b=(k:Int):=⟨b.toNat,by lia⟩;apply g_;clear g_
  have J:k<bx.length:=by lia
  refine⟨fun σ' r=>r=upd H p (.tup [.str "set",.str "add"])/\∃ v:Int,σ'=[some (.ref a),some (.ref T),some (.ref ts),some (.str c),some (.int (k:Int)),some (.int v)]/\d.upd sz bx=bx.set k v,?_,?_⟩
  .refine⟨_,rfl,rfl,_,rfl,?_⟩;rcases o with ⟨rfl,rfl⟩ | ⟨rfl,rfl⟩
   .refine yO (by decide +kernel) ?_;refine⟨rfl,n,rfl,?_⟩;show bx.set (k:Int).toNat n=_;rw[T3]
   .refine yP ?_;refine⟨_,rfl,_,rfl,aG (aJ.of (S _ _ Z)) (Bv j G) ⟨_,rfl,eO ⟨_,rfl,_,rfl,aG (aJ.of (S _ _ hs)) (Bv j (by lia)) (eO ⟨m _ (Zw j (by lia)),?_⟩)⟩⟩⟩;refine⟨rfl,_,rfl,?_⟩;show bx.set (k:Int).toNat _=_;rw[T3]
  rintro σ' r R;apply aW;intro _ g_;obtain⟨rfl,v,rfl,hv⟩:=R;apply g_;clear g_;have y:=S _ _ Z;refine⟨fun x r=>∃ t:ar,x = .ref t/\aH (upd H p (.tup [.str "set",.str "add"])) r/\r t=some (.tup ((bx.take k++[v]).map V.int)),?_,?_⟩
  .refine⟨_,rfl,_,rfl,_,rfl,T,_,rfl,aJ.of y,?_,fun p1 N=>?_⟩
   .rw[HT.iJ,bT];lia
   have s2:=zF N (.tup (oG (bx.map V.int) none (some (k:Int))));refine⟨_,rfl,zJ (by show 1<=1000;decide),fun M O=>?_⟩
   have g:oG (bx.map V.int) none (some (k:Int))=(bx.take k).map V.int:=by
    rw[Zf _ (by rw[bT];lia),gE]
   have Y:=zF O (.tup [.int v])
   by_cases I:k=0
   .subst I;refine .inr ⟨p1,M,_,rfl,rfl,aJ.of (Y _ _ (by rw[zC,g];rfl)),aJ.of zC,?_⟩;exact⟨M,rfl,s2.trans Y,by rw[zC];rfl⟩
   .refine .inl ⟨p1,M,_,_,rfl,rfl,aJ.of (Y _ _ zC),aJ.of zC,?_,?_,fun z=>(by cases z),fun _ p3 W=>?_⟩
    .intro z;have:=congrArg List.length z;rw[g,bT,iQ,fT]at this;lia
    .rw[g,bT,iQ];exact zJ (by show _+1<=1000;lia)
    .refine⟨p3,rfl,(s2.trans Y).trans (zF W _),?_⟩;rw[zC,g,qz];rfl
  rintro x _ R;apply aW;intro _ g_;obtain⟨t,rfl,L,ht⟩:=R;apply g_;clear g_;refine⟨_,rfl,_,rfl,eO ⟨_,rfl,T,_,rfl,aJ.of (L _ _ y),?_,fun p4 X=>?_⟩⟩
  .rw[show ((k:Int)+1)=((k+1:Nat):Int) by lia,HT.iJ,bT];lia
  have l:oG (bx.map V.int) (some ((k:Int)+1)) none=(bx.drop (k+1)).map V.int:=by
   rw[Rj _ (by rw[bT];lia),List.map_drop]
  have C:=zF X (.tup (oG (bx.map V.int) (some ((k:Int)+1)) none))
  have all:(bx.take k++[v]).map V.int++(bx.drop (k+1)).map V.int=(d.upd sz bx).map V.int:=by
   rw[<-qz,YK v J,hv]
  refine⟨t,p4,_,_,rfl,rfl,aJ.of (C _ _ ht),aJ.of zC,?_,?_,fun z=>?_,fun _ p5 Xu=>?_⟩
  .intro z;have:=congrArg List.length z;simp at this
  .rw[l,bT,bT,j8,iQ,fR];exact zJ (by show min k bx.length+1+_<=1000;lia)
  .refine q t _ ((S.trans L).trans C) ?_;rw[C _ _ ht,<-all];rw[l]at z;rw[z,oY]
  .refine q p5 _ (((S.trans L).trans C).trans (zF Xu _)) ?_;rw[zC,l,all]
 .refine⟨_,rfl,aG (aJ.of e) rfl ⟨_,rfl,zJ (by show 2<=1000;decide),fun p B=>?_⟩⟩;refine (xR rfl (.inr (aJ.of zC)) ⟨rfl,rfl,_,rfl,Hq (by rcases o with rfl | rfl <;> decide +kernel) ?_⟩);refine⟨_,rfl,q T _ (zF B _) ?_⟩;rw[hu];exact zF B _ _ _ Z
end dC
namespace dC
open PySem L2 jP lN Q3
def qF6:¬ (("most" : Str) = "events"):=by decide +kernel
def Mi(m:Nat)(d:ar):aw (Str×V):=cP "events" (.ref d) (cP "most" (.int (m:Int)) [])
def iY(m:Nat)(d:ar):(Mi m d).lookup ("events" : Str)=some (.ref d):=by unfold Mi;rw[aV,cS rfl]
def Rb(m:Nat)(d:ar):(Mi m d).lookup ("most" : Str)=some (.int (m:Int)):=by unfold Mi;rw[aV,cK qF6,aV,cS rfl]
def Gx(m:Nat)(d:ar){x:Str}(H:¬ x = "events")(l:¬ x = "most"):(Mi m d).lookup x=none:=by
 unfold Mi;rw[aV,cK H,aV,cK l]
 all_goals rfl
def LL(C:ar):LA:=fun H p f m l => ∃ D d:ar,f=[p,d]/\H p=some (.ins C D (Mi m d))/\H d=some (.lst (l.map V.int))
def j6(C:ar):qJB C (LL C) where
 keep:=by
  rintro H _ p f m l ⟨D,d,rfl,h,a⟩ k;exact⟨D,d,rfl,k p (by simp) _ h,k d (by simp) _ a⟩
 there:=by
  rintro H p f m l ⟨D,d,rfl,h,a⟩ b c;rcases dD.mp c with rfl | c
  .rw[h];intro z
   cases z
  .rw[jA.mp c,a];intro z
   cases z
 obj:=by  rintro H p f m l ⟨D,d,rfl,h,a⟩;exact⟨D,_,h,Gx _ _ (by decide +kernel) (by decide +kernel),Gx _ _ (by decide +kernel) (by decide +kernel),Gx _ _ (by decide +kernel) (by decide +kernel)⟩
def YL:aF ["self","most"] ["self","most"] (aA O4):=cQ
def Yx(F:bO K "__init__" "Letters.__init__" O4 f fd)(j:vC K C)(n:cA K C "most")(N:cA K C "events"):aL P w K mg base aN 1 f fd ["self","most"] (Kv C (LL C)):=by
 refine F.ok YL ?_ ?_
 .rintro _ _ _ _⟨p,D,m,rfl,_⟩;rfl
 intro _ A _ s H _ Q E _ h
 apply aW;intro _ g_;obtain⟨p,D,m,rfl,g,_,k⟩:=h;apply g_;clear g_;refine⟨_,(zE (vP (pv 0) (pv 1) rfl) (zG (vP (pv 0) (yL zD) rfl))),?_⟩;refine⟨_,rfl,_,rfl,p,C,D,[],rfl,g,j,n,(by show 0<1000;decide),bo _,fun d hd=>?_⟩
 have X:p≠d:=fun z=>by
  rw[<-z,zC]at hd
  cases hd
 have a:H d=none:=by
  rw[zR (bE X)]at hd;exact hd
 refine⟨_,rfl,p,C,D,_,rfl,(by rw[zR X];exact zC),j,N,(by show 1<1000;decide),?_⟩;refine k [p,d] _ ⟨D,d,rfl,zC,by rw[zR (bE X),zC];rfl⟩ (fun b c=>?_) fun b o e c=>?_
 .rcases dD.mp c with rfl | c
  .exact .inl rfl
  .rw[jA.mp c];exact .inr a
 .rw[zR c,zR (zN e a),zR c];exact e
def qBJ:aF ["self","event"] ["self","event"] (aA YM):=cQ
def qC6(F:bO K "add" "Letters.add" YM f fd)(n:vC K C)(M:cA K C "most")(N:cA K C "events")(t:mg "len" = none):aL P w K mg base aN 1 f fd ["self","event"] (qAG (LL C)):=by
 refine F.ok qBJ ?_ ?_
 .rintro _ _ _ _⟨p,q,m,l,e,rfl,_⟩;rfl
 intro _ A _ s H _ Q E _ h
 apply aW;intro _ g_;obtain⟨p,q,m,l,e,rfl,⟨D,d,rfl,a,g⟩,_,_,k⟩:=h;apply g_;clear g_
 refine⟨_,(zE (yE (zM qEX (zT zO rfl t bj (zA (gq (pv 0) rfl) zD)) (gq (pv 0) rfl) (zS _))
  (zG (zP gG))
  zU)
  (zE (yJ (dU iu yz yx yI (gq (pv 0) rfl) (zA (pv 1) zD)))
  (zG (zP gG)))),?_⟩
 refine⟨_,rfl,p,C,D,_,_,rfl,a,n,N,iY _ _,xR rfl (.inl (aU.of g)) ⟨_,rfl,p,C,D,_,_,rfl,a,n,M,Rb _ _,_,_,rfl,rfl,_,rfl,?_⟩⟩;have X:=gU a g (by intro z;cases z);refine vp (fun c=>?_) (fun c=>?_)
 .have T:=ba c;rw[bT]at T
  have i:¬ l.length<m:=by lia
  have r:=k [p,d] H ⟨D,d,rfl,a,by unfold added;rw[cK i];exact g⟩ ⟨fun b j=>.inl j,fun b o J _=>J⟩;rw[bp i]at r;exact r
 .have T:¬ ((m:Int)<=(((l.map V.int).length:Nat):Int)):=fun z=>c (bq z);rw[bT]at T
  have i:l.length<m:=by lia
  refine⟨_,rfl,p,C,D,_,_,rfl,a,n,N,iY _ _,.inl ⟨rfl,_,aU.of g⟩,_,rfl,d,_,_,rfl,rfl,g,zW (by rw[bT];lia),?_⟩
  have r:=k [p,d] (upd H d (.lst (l.map V.int++[.int e]))) ⟨D,d,rfl,by rw[zR X];exact a,by unfold added;rw[cS i,zC,qz];rfl⟩ ⟨fun b j=>.inl j,fun b o J u=>by
   rw[zR (fun z:b=d=>u (by rw[z];simp))]
   exact J⟩
  rw[bq i]at r;exact r
def LK:aF ["self"] ["self"] (aA tU):=cQ
def Lj(F:bO K "waiting" "Letters.waiting" tU f fd)(j:vC K C)(N:cA K C "events")(B:mg "list" = none):aL P w K mg base aN 1 f fd ["self"] (Di (LL C)):=by
 refine F.ok LK ?_ ?_
 .rintro _ _ _ _⟨p,g,m,l,rfl,_⟩;rfl
 intro _ A _ s H _ Q E _ h
 apply aW;intro _ g_;obtain⟨p,g,m,l,rfl,⟨D,d,rfl,c,e⟩,_,_,k⟩:=h;apply g_;clear g_;refine⟨_,(zG (zP (yB gO rfl B kf (zA (gq (pv 0) rfl) zD)))),?_⟩;refine⟨_,rfl,p,C,D,_,_,rfl,c,j,N,iY _ _,xR rfl (.inl (aU.of e)) (fun q a=>?_)⟩;refine k q [p,d] _ ⟨D,d,rfl,by rw[zR (zN c a)];exact c,by rw[zR (zN e a)];exact e⟩ ⟨fun b i=>.inl i,fun b o J _=>zF a _ b o J⟩ a (fun z=>?_) zC;rcases dD.mp z with z | z
 .exact zN c a z.symm
 .exact zN e a (jA.mp z).symm
def Tv:aF ["self"] ["self"] (aA Fq):=cQ
theorem Uq(F:bO K "taken" "Letters.taken" Fq f fd)(j:vC K C)(N:cA K C "events")(n:mg "len" = none):aL P w K mg base aN 1 f fd ["self"] (Ng (LL C)):=by
 refine F.ok Tv ?_ ?_
 .rintro _ _ _ _⟨p,i,m,l,rfl,_⟩;rfl
 intro _ A _ s H _ Q E _ h
 apply aW;intro _ g_;obtain⟨p,i,m,l,rfl,⟨D,d,rfl,a,c⟩,_,_,k⟩:=h;apply g_;clear g_
 refine⟨_,(zE (yE (zM yH (zT zO rfl n bj (zA (gq (pv 0) rfl) zD)) zB (zS _))
  (zG (zP iw))
  zU)
  (zG (zP (dU iu PySem.F.slot_list_pop PySem.F.type_list_pop Vc (gq (pv 0) rfl) (zA zB zD))))),?_⟩
 refine⟨_,rfl,p,C,D,_,_,rfl,a,j,N,iY _ _,xR rfl (.inl (aU.of c)) ⟨rfl,_,rfl,?_⟩⟩;have X:=gU a c (by intro z;cases z)
 cases l with
 | nil=>exact Hq rfl (k [p,d] H ⟨D,d,rfl,a,c⟩ ⟨fun b g=>.inl g,fun b o J _=>J⟩)
 | cons e l=>
  refine eE ?_ ?_
  .rw[bT];refine bp fun z=>?_;injection z with z;rw[dG]at z;lia
  refine⟨_,rfl,p,C,D,_,_,rfl,a,j,N,iY _ _,.inl ⟨rfl,_,aU.of c⟩,d,_,0,0,.int e,rfl,rfl,c,by decide,by decide,?_,rfl,?_⟩
  .rw[bT,dG];unfold seqIndex?;simp
  .exact k [p,d] _ ⟨D,d,rfl,by rw[zR X];exact a,zC⟩ ⟨fun b g=>.inl g,fun b o J q=>by
    rw[zR (fun z:b=d=>q (by rw[z];simp))]
    exact J⟩
end dC
namespace dC
open PySem L2 jP lN xM Q3
def N5(h:LL C H p fp m l)(ht:H t=some (.tup xs)):t∉fp:=by
 obtain⟨_,d,rfl,a,b⟩:=h;intro z;rcases dD.mp z with z | z
 .rw[z,a]at ht
  cases ht
 .rw[jA.mp z,b]at ht
  cases ht
inductive zu(L:LA)(vs:List V)(H:Hp)(Q:VK)(E_:XK):Prop
 | mk (vd tb p d bx sz l fp m G) (_:vs=[vd,.ref tb,.ref p]) (_:aH G H) (_:(∀ b∈fp,G b=none)) (_:sO G vd d) (_:G tb=some (.tup ((d.upd sz bx).map V.int))) (_:L H p fp m l) (_:d.ok bx.length) (_:bx.length<=6) (_:l.length<=m) (_:m<=12) (_:∀ t fp' H',L H' p fp' m (d.lin m l)->bc H H' fp fp'->H' t=some (.tup (d.rc sz m bx l).row)->t∉fp'->Q (.ref t) H')
def wV:aF ["deed","boxes","letters","kind"] ["deed","boxes","letters"] (aA qU):=cQ
theorem JP(F:bO K "recorded" "recorded" qU f fd)(cl:vC K C)(mA:Meth K C "add" ga)(J:aL P w K mg base aN n ga da ["self","event"] (qAG (LL C)))(N:Binds K da ["self","event"] []) :
  aL P w K mg base aN (n+1) f fd ["deed","boxes","letters"] (zu (LL C)):=by
 refine F.ok wV ?_ ?_
 .rintro _ _ _ _⟨u,tb,p,d,bx,sz,l,y,m,G,rfl,_⟩;rfl
 intro _ A _ s H _ Q E hr h
 apply aW;intro _ g_;obtain⟨u,tb,p,d,bx,sz,l,y,m,G,rfl,B,ng,hd,O,L,hok,_,hl,hm,k⟩:=h;apply g_;clear g_
 refine⟨_,(zE (zL (i:=3) wV.nd rfl (bb rfl) (yC zH (pv 0) zB (fun _ _=>rfl)))
  (zE (yE (zM yH (pv 3) zQ (zS _))
  (zG (zP (zX (zA zQ (zA (yC zH (pv 0) zB (fun _ _=>rfl)) zD)))))
  zU)
  (zE (yE (zM yH (pv 3) zQ (zS _))
  (zG (zP (zX (zA (mC (aY (Od (pv 2) cl mA J hr N .nil yF (zA (yC zH (pv 0) zB (fun _ _=>rfl)) zD))) zQ zQ) (zA (yC zH (pv 0) zB (fun _ _=>rfl)) zD)))))
  zU)
  (zG (zP (zX (zA zQ (zA (yC zH (pv 0) zB (fun _ _=>rfl)) (zA (yC zH (pv 1) (yC zH (pv 0) zB (fun _ _=>rfl)) (fun _ _=>rfl)) zD))))))))),?_⟩
 have nG:∀ b o,G b=some o->b∉y:=fun b o e z=>by
  rw[ng b z]at e
  cases e
 have q:∀ t:ar,H t=none->∀ row:aw V,row=(d.rc sz m bx l).row->d.lin m l=l->Q (.ref t) (upd H t (.tup row)):=fun t ht row x Y=>by
  have S:=zF ht (.tup row);refine k t y _ (by rw[Y];exact (j6 C).keep L fun b _ o e=>S b o e) ⟨fun b O=>.inl O,fun b o e _=>S b o e⟩ (by rw[zC,x]) (fun z=>(j6 C).there L t z ht)
 have two:(∃ a D b n,u = .ref a/\G a=some (.tup [.str D,.int b,.int n])/\(D = "set" ∨ D = "add")/\d.box=some b/\d.rc sz m bx l = .put b (at0 (d.upd sz bx) b)/\d.lin m l=l) ∨
   (∃ a W,u = .ref a/\G a=some (.tup [.str "say",.str W])/\d = .say W)∨(∃ a v,u = .ref a/\G a=some (.tup [.str "send",.int v])/\d = .send v):=by
  cases hd with
  | say e=>exact .inr (.inl ⟨_,_,rfl,e,rfl⟩)
  | send e=>exact .inr (.inr ⟨_,_,rfl,e,rfl⟩)
  | set e=>exact .inl ⟨_,_,_,_,rfl,e,.inl rfl,rfl,rfl,rfl⟩
  | add e=>exact .inl ⟨_,_,_,_,rfl,e,.inr rfl,rfl,rfl,rfl⟩
 rcases two with ⟨a,D,b,n',rfl,e,X,I,Vx,R⟩ | ⟨a,W,rfl,e,rfl⟩ | ⟨a,v,rfl,e,rfl⟩
 .have g:=B _ _ e;have T:=B _ _ O;obtain⟨b0,_⟩:=hok b I;have ul:=d.NT sz bx;refine⟨_,rfl,aG (aJ.of g) rfl ?_⟩;refine⟨_,rfl,rfl,_,rfl,yO (by rcases X with rfl | rfl <;> decide +kernel) ?_⟩;refine⟨_,rfl,rfl,_,rfl,yO (by rcases X with rfl | rfl <;> decide +kernel) ?_⟩;refine⟨_,rfl,aG (aJ.of g) rfl ⟨_,rfl,_,rfl,aG (aJ.of g) rfl (aG (aJ.of T) (Bv b0 (by lia)) ⟨zJ (by show 3<=1000;decide),fun t ht=>?_⟩)⟩⟩;exact q t ht _ (by rw[Vx];rfl) R
 .have g:=B _ _ e;refine⟨_,rfl,aG (aJ.of g) rfl ?_⟩;refine⟨_,rfl,rfl,_,rfl,yP ?_⟩;exact⟨_,rfl,aG (aJ.of g) rfl ⟨zJ (by show 2<=1000;decide),fun t ht=>q t ht _ rfl rfl⟩⟩
 .have g:=B _ _ e;apply aW;intro _ g_;obtain⟨Z,fs,ho,n1,_,_⟩:=(j6 C).obj L;apply g_;clear g_;refine⟨_,rfl,aG (aJ.of g) rfl ?_⟩;refine⟨_,rfl,rfl,_,rfl,yO (by decide +kernel) ?_⟩;refine⟨_,rfl,rfl,_,rfl,yP ?_⟩;refine⟨_,rfl,p,Z,fs,rfl,ho,n1,_,rfl,aG (aJ.of g) rfl ⟨p,y,m,l,v,rfl,L,hl,hm,fun M U r st=>⟨_,rfl,?_⟩⟩⟩;have x:=st.rest _ _ g (nG _ _ e)
  have j:∀ t:ar,U t=none->∀ row:aw V,row=((Dd.send v).rc sz m bx l).row->Q (.ref t) (upd U t (.tup row)):=fun t ht row er=>by
   have S:=zF ht (.tup row);refine k t M _ ((j6 C).keep r fun b _ o e=>S b o e) ⟨st.own,fun b o e nb=>S b o (st.rest b o e nb)⟩ (by rw[zC,er]) (fun z=>(j6 C).there r t z ht)
  refine vp (fun c=>?_) (fun c=>?_)
  .refine⟨_,rfl,aG (aJ.of x) rfl ⟨zJ (by show 2<=1000;decide),fun t ht=>j t ht _ ?_⟩⟩;show _=(if l.length<m then Rc.send v else Rc.lost v).row;rw[cS (ba c)];rfl
  .refine⟨_,rfl,aG (aJ.of x) rfl ⟨zJ (by show 2<=1000;decide),fun t ht=>j t ht _ ?_⟩⟩;show _=(if l.length<m then Rc.send v else Rc.lost v).row;rw[cK fun z=>c (bq z)];rfl
def tE:aF ["deeds","boxes","sizes","letters","held","record","deed"] ["deeds","boxes","sizes","letters"] (aA O6):=cQ
theorem Z1(F:bO K "done" "done" O6 f fd)(SM:Dp P w K mg base aN n gc dc ["deed","boxes","sizes"] Dm "changed")
  (NK:Dp P w K mg base aN n gr dr ["deed","boxes","letters"] (zu (LL C)) "recorded") :
  aL P w K mg base aN (n+1) f fd ["deeds","boxes","sizes","letters"] (Tp (LL C)):=by
 refine F.ok tE ?_ ?_
 .rintro _ _ _ _⟨td,tb,ts,p,D,bx,sz,l,dv,L,m,G,rfl,_⟩;rfl
 intro _ A _ s H _ Q E hr h
 apply aW;intro _ g_;obtain⟨td,tb,ts,p,D,bx,sz,l,dv,L,m,G,rfl,sg,ng,J,Z,htb,hts,hL,hok,_,hbs,h6,U,hl,hm,q⟩:=h;apply g_;clear g_
 refine⟨_,(zE (zL (i:=4) tE.nd rfl (bb rfl) (pv 1))
  (zE (zL (i:=5) tE.nd rfl (bb rfl) (yL zD))
  (yA (bf PassesOwn.never rfl (nQ (pv 0)) (yK (i:=6) tE.nd rfl (bb rfl))
  (zE (zL (i:=4) tE.nd rfl (bb rfl) (pC SM hr (zA (pv 6) (zA (pv 4) (zA (pv 2) zD)))))
  (zG (yJ (dU iu yz yx yI (pv 5) (zA (pC NK hr (zA (pv 6) (zA (pv 4) (zA (pv 3) zD)))) zD))))))
  (zG (zP (zX (zA (pv 4) (zA (pv 5) zD)))))))),?_⟩
 have nG:∀ b o,G b=some o->b∉L:=fun b o e z=>by
  rw[ng b z]at e
  cases e
 refine⟨_,rfl,bo _,fun r k=>?_⟩;have s0:=zF k (.lst []);have R7:r∉L:=fun z=>(j6 C).there hL r z k;have nds:=Z.length
 refine⟨fun σ' g => ∃ u c R I,σ'=[some (.ref td),some (.ref tb),some (.ref ts),some (.ref p),some (.ref u),some (.ref r),I]/\LL C g p c m (Cg m D l)/\bc H g L c ∧
   g u=some (.tup ((Ao sz D bx).map V.int))/\u∉c/\g r=some (.lst R)/\r∉c/\ju (Bm c g) R (xP sz m D bx l),?_,?_⟩
 .refine⟨_,rfl,td,rfl,⟨_,aJ.of (s0 _ _ (sg _ _ J))⟩,?_⟩
  refine ZS (K:=K) (a:=td) (xs:=dv) (fun i σ' g => ∃ u c R I,σ'=[some (.ref td),some (.ref tb),some (.ref ts),some (.ref p),some (.ref u),some (.ref r),I]/\LL C g p c m (Cg m (D.take i) l)/\bc H g L c ∧
   g u=some (.tup ((Ao sz (D.take i) bx).map V.int))/\u∉c/\g r=some (.lst R)/\r∉c/\ju (Bm c g) R (xP sz m (D.take i) bx l))
   ⟨tb,L,[],none,rfl,(j6 C).keep hL fun b _ o e=>s0 b o e,⟨fun b T=>.inl T,fun b o e _=>s0 b o e⟩,s0 _ _ (sg _ _ htb),nG _ _ htb,zC,R7,.nil⟩ ?_ ?_ ?_
  .rintro i σ' g _ B;apply aW;intro _ g_;obtain⟨u,c,R,I,rfl,_,st,_⟩:=B;apply g_;clear g_;exact aJ.of (st.rest _ _ (sg _ _ J) (nG _ _ J))
  .rintro i x σ' g hx B;apply aW;intro _ g_;obtain⟨u,c,R,I,rfl,M,st,v,nbi,Kc,R6,Vx⟩:=B;obtain⟨d,hd,hdi⟩:=Z.get hx;apply g_;clear g_;have Y:=SX hd;have hil:=(oW.mp hd).1
   have gi:∀ b o,G b=some o->g b=some o/\b∉c:=fun b o e=>by
    refine⟨st.rest b o (sg b o e) (nG b o e),fun z=>?_⟩;rcases st.own b z with y | y
    .exact nG b o e y
    .rw[sg b o e]at y
     cases y
   have X:=An sz (D.take i) bx;have ll:=Am (D.take i) l hl;refine⟨_,rfl,_,rfl,_,rfl,x,u,ts,d,_,sz,rfl,hdi.mono (fun b xs e=>(gi b _ e).1),v,(gi _ _ hts).1,(by rw[X];exact hok d Y),(by rw[X];exact hbs),(by rw[X];exact h6),U,fun t H1 S ht=>?_⟩;have hL1:=(j6 C).keep M fun b _ o e=>S b o e;have nt:=N5 hL1 ht;have j:=S _ _ Kc;refine⟨_,rfl,.inl ⟨rfl,_,aU.of j⟩,_,rfl,_,rfl,_,rfl,x,t,p,d,Ao sz (D.take i) bx,sz,Cg m (D.take i) l,c,m,Bm c H1,rfl,fun b o e=>(qe e).1,fun b T=>Pg T,?_,ud ht nt,hL1,(by rw[X];exact hok d Y),(by rw[X];exact h6),ll,hm,fun t2 CW H2 hL2 O Ox nt2=>?_⟩
   .exact hdi.mono fun b xs e=>ud (S _ _ (gi b _ e).1) (gi b _ e).2
   have hr2:=O.rest _ _ j R6
   have YC:∀ b o,H1 b=some o->b∉c->H2 b=some o/\b∉CW:=fun b o e N=>⟨O.rest b o e N,fun z=>by
    rcases O.own b z with y | y
    .exact N y
    .rw[e]at y
     cases y⟩
   have nr2:=(YC _ _ j R6).2;have rl:=Vx.length;rw[uG,iQ]at rl;refine⟨r,_,_,rfl,rfl,hr2,zW (by lia),?_⟩
   have Mr:D.take (i+1)=D.take i++[d]:=by
    rw[mq,hd];rfl
   refine⟨t,CW,R++[.ref t2],_,rfl,?_,⟨fun b T=>?_,fun b o e N=>?_⟩,?_,(YC _ _ ht nt).2,zC,nr2,?_⟩
   .rw[Mr,Dv];refine (j6 C).keep hL2 fun b T o e=>?_;rw[zR (fun z:b=r=>nr2 (by rw[<-z];exact T))];exact e
   .by_cases z:b∈L
    .exact .inl z
    .rcases O.own b T with y | y
     .exact st.own b y
     .right
      cases w':H b with
      | none=>rfl
      | some o=>
       have:=S _ _ (st.rest b o w' z);rw[y]at this
       cases this
   .have bi:b∉c:=fun z=>by
     rcases st.own b z with y | y
     .exact N y
     .rw[e]at y
      cases y
    rw[zR (zN e k)];exact O.rest b o (S _ _ (st.rest b o e N)) bi
   .rw[zR (gU ht j (by intro z;cases z)),Mr,Dw];exact (YC _ _ ht nt).1
   .rw[Mr,Du];refine (Vx.mono fun b xs e=>?_).snoc (ud ?_ nt2)
    .apply aW;intro _ g_;obtain⟨e1,e2⟩:=qe e;obtain⟨e3,e4⟩:=YC _ _ (S _ _ e1) e2;apply g_;clear g_;refine ud ?_ e4;rw[zR (gU e1 Kc (by intro z;cases z))];exact e3
    .rw[zR (gU Ox hr2 (by intro z;cases z))];exact Ox
  .rintro σ' g B;apply aW;intro _ g_;obtain⟨u,c,R,I,h1,h2,h3,h4,h5,h6',h7,W⟩:=B;apply g_;clear g_;rw[nds,ib]at h2 h4 W;exact⟨u,c,R,I,h1,h2,h3,h4,h5,h6',h7,W⟩
 rintro σ' g B;apply aW;intro _ g_;obtain⟨u,c,R,I,rfl,M,st,v,nbi,Kc,R6,Vx⟩:=B;apply g_;clear g_;refine⟨_,rfl,_,rfl,zJ (by show 2<=1000;decide),fun t ht=>?_⟩;have S:=zF ht (.tup [.ref u,.ref r]);exact q t u r R c _ ((j6 C).keep M fun b _ o e=>S b o e) ⟨st.own,fun b o e N=>S b o (st.rest b o e N)⟩ zC (S _ _ v) nbi (S _ _ Kc) k (Vx.mono fun b xs e=>S _ _ (qe e).1)
end dC
namespace Ru
open PySem L2 jP lN vB Q3 xM dC
open DQ (Al)
inductive En where
 | rc (r:Rc)
 | inn (k:Nat)
 | out (k:Nat)
 | door (k:Nat)
 | thr (k:Nat)
 | take (e:Int)
noncomputable def En.row:En->aw V
 | .rc r=>r.row
 | .inn k=>[.str "in",.int (k:Int)]
 | .out k=>[.str "out",.int (k:Int)]
 | .door k=>[.str "door",.int (k:Int)]
 | .thr k=>[.str "through",.int (k:Int)]
 | .take e=>[.str "take",.int e]
def iz(H:Hp)(v:V)(e:En):Prop:=∃ a:ar,v = .ref a/\H a=some (.tup e.row)
def iz.mono(x:iz H v e)(k:aB H H'):iz H' v e:=by obtain⟨a,h,l⟩:=x;exact⟨a,h,k _ _ l⟩
def oK(H:Hp)(v:V)(d:aw Dd):Prop:=∃ a O,v = .ref a/\H a=some (.tup O)/\il H O d
def oK.mono(x:oK H v ds)(k:aB H H'):oK H' v ds:=by obtain⟨a,O,h,l,p⟩:=x;exact⟨a,O,h,k _ _ l,p.mono k⟩
abbrev Sd:=En×aw Dd
def sJ(H:Hp)(v:V)(s:Sd):Prop:=∃ a A O,v = .ref a/\H a=some (.tup [.ref A,O])/\H A=some (.tup s.1.row)/\oK H O s.2
def sJ.mono(x:sJ H v s)(k:aB H H'):sJ H' v s:=by obtain⟨a,A,O,h,l,p,j⟩:=x;exact⟨a,A,O,h,k _ _ l,k _ _ p,j.mono k⟩
noncomputable def sstep(sz:aw Int)(m:Nat)(s:aw Int×aw Int×aw En)(x:Sd):aw Int×aw Int×aw En:=(Ao sz x.2 s.1,Cg m x.2 s.2.1,s.2.2++(x.1::(xP sz m x.2 s.1 s.2.1).map En.rc))
def cz(sz:aw Int)(m:Nat)(ss:aw Sd)(bx l:aw Int):aw Int×aw Int×aw En:=ss.foldl (sstep sz m) (bx,l,[])
def rK(sz:aw Int)(m:Nat)(ss:aw Sd)(x:Sd)(bx l:aw Int):cz sz m (ss++[x]) bx l=sstep sz m (cz sz m ss bx l) x:=by unfold cz;rw[List.foldl_append];rfl
theorem wC(sz:aw Int)(m:Nat):∀(ss:aw Sd)(s:aw Int×aw Int×aw En),(ss.foldl (sstep sz m) s).1.length=s.1.length/\(s.2.1.length<=m->(ss.foldl (sstep sz m) s).2.1.length<=m)
 | [],s=>⟨rfl,fun h=>h⟩
 | x::ss,s=>by
  have i:=wC sz m ss (sstep sz m s x);rw[fF];refine⟨by rw[i.1];exact An sz x.2 s.1,fun h=>i.2 (Am x.2 s.2.1 h)⟩
def zm(sz:aw Int)(m:Nat)(ss:aw Sd)(bx l:aw Int):(cz sz m ss bx l).1.length=bx.length:=(wC sz m ss _).1
def Fd(h:l.length<=m):(cz sz m ss bx l).2.1.length<=m:=(wC sz m ss (bx,l,[])).2 h
theorem PJ(sz:aw Int)(m:Nat):∀(ss:aw Sd)(s:aw Int×aw Int×aw En),(∀ x∈ss,x.2.length<=8)->(ss.foldl (sstep sz m) s).2.2.length<=s.2.2.length+9*ss.length
 | [],s,_=>by simp
 | x::ss,s,h=>by
  have i:=PJ sz m ss (sstep sz m s x) fun y N=>h y (Hr _ N);have H:=h x (FZ ..)
  have e:(sstep sz m s x).2.2.length=s.2.2.length+(1+x.2.length):=by
   show (s.2.2++(x.1::(xP sz m x.2 s.1 s.2.1).map En.rc)).length=_;rw[j8,dG,bT,uG];lia
  rw[fF,dG];lia
def zj(h:∀ x∈ss,x.2.length<=8):(cz sz m ss bx l).2.2.length<=9*ss.length:=by have:=PJ sz m ss (bx,l,[]) h;have e:(bx,l,([]:aw En)).2.2.length=0:=rfl;rw[e,ja]at this;exact this
theorem qBQ(x:ju H rv rs):Al (iz H) rv (rs.map En.rc):=by
 induction x with
 | nil=>exact .nil
 | cons h _ i=>exact .cons ⟨_,rfl,h⟩ i
theorem Al.app(x:Al R vs rs)(y:Al R ws ss):Al R (vs++ws) (rs++ss):=by
 induction x with
 | nil=>exact y
 | cons h _ i=>exact .cons h i
def Al.cast(e:vs=ws)(x:Al R ws rs):Al R vs rs:=by rw[e];exact x
theorem bc.trans(a:bc H H1 fp fp1)(b:bc H1 H2 fp1 CW):bc H H2 fp CW where
 own:=fun c f=>by
  by_cases z:c∈fp
  .exact .inl z
  .rcases b.own c f with y | y
   .exact a.own c y
   .right
    cases w':H c with
    | none=>rfl
    | some o=>
     have:=a.rest c o w' z;rw[y]at this
     cases this
 rest:=fun c o e N=>b.rest c o (a.rest c o e N) fun z=>by
  rcases a.own c z with y | y
  .exact N y
  .rw[e]at y
   cases y
def bc.same(f:aw ar)(s:aH H H'):bc H H' f f:=⟨fun _ h=>.inl h,fun b o e _=>s b o e⟩
def bc.apart(a:bc H H' fp fp')(e:H b=some o)(n:b∉fp):H' b=some o/\b∉fp':=⟨a.rest b o e n,fun z=>by
 rcases a.own b z with y | y
 .exact n y
 .rw[e]at y
  cases y⟩
def bc.keep(a:bc H H' fp fp')(h:LL C H p fp m l):aB H H':=fun b _ e=>a.rest b _ e (N5 h e)
def bc.upd(a:bc H H' fp fp')(n:H b=none)(o:HO):bc H (upd H' b o) fp fp':=⟨a.own,fun c u e N=>by
 rw[zR (zN e n)]
 exact a.rest c u e N⟩
def LL.same(h:LL C H p fp m l)(s:aH H H'):LL C H' p fp m l:=(j6 C).keep h fun b _ o e=>s b o e
def LL.upd(h:LL C H p fp m l)(n:b∉fp)(o:HO):LL C (upd H b o) p fp m l:=(j6 C).keep h fun c f u e=>by
 rw[zR (fun z:c=b=>n (by rw[<-z];exact f))];exact e
def LL.new(h:LL C H p fp m l)(n:H b=none):b∉fp:=fun z=>(j6 C).there h b z n
def Hk(H:Hp)(v:V)(z:Int):Prop:=∃ a n s,v = .ref a/\H a=some (.tup [n,.int z,s])
def Hk.mono(x:Hk H v z)(k:aB H H'):Hk H' v z:=by obtain⟨a,n,s,h,l⟩:=x;exact⟨a,n,s,h,k _ _ l⟩
inductive Fe(vs:List V)(H:Hp)(Q:VK)(E_:XK):Prop
 | mk (pc pb x0 x1 x2 x4 x5 x6 bv sz) (_:vs=[.ref pc]) (_:H pc=some (.tup [x0,x1,x2,.ref pb,x4,x5,x6])) (_:H pb=some (.tup bv)) (_:Al (Hk H) bv sz) (_:sz.length<=100) (_:∀ t H',aH H H'->H' t=some (.tup (sz.map V.int))->Q (.ref t) H')
def RmD(H:Hp)(R:aw Rm)(D d:Nat->aw Dd):Prop:=∀ k r,R[k]? = some r->oK H r.ins (D k)/\oK H r.outs (d k)
def RmD.mono(x:RmD H rs di dO)(k:aB H H'):RmD H' rs di dO:=fun j r h=>⟨(x j r h).1.mono k,(x j r h).2.mono k⟩
inductive lU(f:Nat->En)(ins:Bool)(vs:List V)(H:Hp)(Q:VK)(E_:XK):Prop
 | mk (t pe rs di dO es) (_:vs=[.ref t,.ref pe]) (_:dW H t rs) (_:RmD H rs di dO) (_:H pe=some (.lst (aC es))) (_:(∀ k∈es,k<rs.length)) (_:es.length<=100) (_:∀ p sv H',aH H H'->H p=none->H' p=some (.lst sv)->Al (sJ H') sv (es.map fun k=>(f k,if ins=true then di k else dO k))->Q (.ref p) H')
def outs(E:aw En):aw Nat:=E.filterMap fun e=>match e with
 | .out k=>some k
 | _=>none
inductive Tf(vs:List V)(H:Hp)(Q:VK)(E_:XK):Prop
 | mk (pr rv es) (_:vs=[.ref pr]) (_:H pr=some (.lst rv)) (_:Al (iz H) rv es) (_:es.length<=1000) (_:∀ p H',aH H H'->H p=none->H' p=some (.lst (aC (outs es)))->Q (.ref p) H')
inductive vJ(C:Addr)(vs:List V)(H:Hp)(Q:VK)(E_:XK):Prop
 | mk (ps tb ts p sv ss bx sz l fp m) (_:vs=[.ref ps,.ref tb,.ref ts,.ref p]) (_:H ps=some (.lst sv)) (_:ps∉fp) (_:Al (sJ H) sv ss) (_:H tb=some (.tup (bx.map V.int))) (_:H ts=some (.tup (sz.map V.int))) (_:LL C H p fp m l) (_:(∀ s∈ss,(∀ d∈s.2,d.ok bx.length)/\s.2.length<=8)) (_:ss.length<=110) (_:bx.length=sz.length) (_:bx.length<=6) (_:(∀ z∈sz,0<z)) (_:l.length<=m) (_:m<=12) (_:∀ t tb' pr rv fp' H',LL C H' p fp' m (cz sz m ss bx l).2.1->bc H H' fp fp'->H' t=some (.tup [.ref tb',.ref pr])->H' tb'=some (.tup ((cz sz m ss bx l).1.map V.int))->H' pr=some (.lst rv)->H pr=none->pr∉fp'->Al (iz H') rv (cz sz m ss bx l).2.2->Q (.ref t) H')
def Ir:aF ["chart"] ["chart"] (aA jb):=cQ
def JN(F:bO K "sizes_of" "sizes_of" jb f fd)(I:mg "tuple" = none):aL P w K mg base aN 1 f fd ["chart"] Fe:=by
 refine F.ok Ir ?_ ?_
 .rintro _ _ _ _⟨O,B,y,t,m,G,X,W,g,sz,rfl,_⟩;rfl
 intro _ A _ s H _ Q E _ h
 apply aW;intro _ g_;obtain⟨O,B,y,t,m,G,X,W,g,sz,rfl,N,u,e,_,q⟩:=h;apply g_;clear g_;refine⟨_,(zG (zP (yB zY rfl I qt (zA (yU (bF:=[]) rfl (show bA (aA jb) ["chart"] _ _ _ from vA) (nQ (yC zH (pv 0) zB (fun _ _=>rfl))) (fun _ _ _ _ _ _=>bQ) (fun _ _ _ _ _ _=>yC (r:=dM K) zH (pv 0) zB (fun _ _=>rfl))) zD)))),?_⟩;have L:=e.length;refine⟨_,rfl,aG (aJ.of N) rfl ⟨B,rfl,⟨_,aJ.of u⟩,?_⟩⟩;refine ig (K:=K) (a:=B) (xs:=g) (fun i c b=>b=H/\c=(sz.take i).map V.int) ⟨rfl,rfl⟩ (fun i c b z=>by rw[z.1];exact aJ.of u) ?_ ?_
 .rintro i x c b d ⟨rfl,rfl⟩
  have C:i<sz.length:=by
   have:=(oW.mp d).1;lia
  have k:=fQ C;apply aW;intro _ g_;obtain⟨v,o,a,n,s,rfl,j⟩:=e.get k;apply g_;clear g_;rw[o]at d;obtain rfl:=kJ d;refine⟨_,rfl,aG (aJ.of j) rfl ⟨by rw[bT,iQ,sizeLine_eq];lia,rfl,?_⟩⟩;rw[mq,k,qz];rfl
 .rintro c b ⟨rfl,rfl⟩ pl l;rw[DX (by lia)]at *;refine⟨pl,_,rfl,.inl ⟨aU.of zC,fun p D=>q p _ ((zF l _).trans (zF D _)) zC⟩⟩
def Ca:aF ["record"] ["record"] (aA fc):=cQ
theorem UG(e:En):∃ s x r,e.row = .str s::x::r/\(decide (V.str s=V.str ("out" : Str))=true->∃ k:Nat,e = .out k/\x = .int (k:Int))/\(decide (V.str s=V.str ("out" : Str))=false->∀ k,e≠.out k):=by
 cases e with
 | rc r=>cases r <;> exact⟨_,_,_,rfl,(fun z=>eu z (by decide +kernel)),fun _ k z=>by cases z⟩
 | inn k=>exact⟨_,_,_,rfl,(fun z=>eu z (by decide +kernel)),fun _ k z=>by cases z⟩
 | out k=>exact⟨_,_,_,rfl,fun _=>⟨k,rfl,rfl⟩,fun z=>eu z (by decide +kernel)⟩
 | door k=>exact⟨_,_,_,rfl,(fun z=>eu z (by decide +kernel)),fun _ k z=>by cases z⟩
 | thr k=>exact⟨_,_,_,rfl,(fun z=>eu z (by decide +kernel)),fun _ k z=>by cases z⟩
 | take e=>exact⟨_,_,_,rfl,(fun z=>eu z (by decide +kernel)),fun _ k z=>by cases z⟩
theorem EY(E:aw En)(e:En):outs (E++[e])=outs E++(match e with
  | .out k=>[k]
  | _=>[]):=by
 unfold outs;rw[List.filterMap_append]
 cases e <;> rfl
theorem Cj(F:bO K "rooms_left" "rooms_left" fc f fd):aL P w K mg base aN 1 f fd ["record"] Tf:=by
 refine F.ok Ca ?_ ?_
 .rintro _ _ _ _⟨p,R,d,rfl,_⟩;rfl
 intro _ A _ s H _ Q E _ h
 apply aW;intro _ g_;obtain⟨p,R,d,rfl,g,u,_,q⟩:=h;apply g_;clear g_;refine⟨_,(zG (zP (yU (bF:=[]) rfl (show bA (aA fc) ["record"] _ _ _ from vA) (yN (pv 0)) (fun _ _ _ _ _ _=>cW (zM (r:=rEq) yH (yC (r:=dM K) zH (pv 0) zB (fun _ _=>rfl)) zQ (zS _))) (fun _ _ _ _ _ _=>yC (r:=dM K) zH (pv 0) zB (fun _ _=>rfl))))),?_⟩;have L:=u.length;refine⟨_,rfl,p,rfl,⟨_,aU.of g⟩,?_⟩;refine yT (K:=K) (a:=p) (xs:=R) (fun i b m=>m=H/\b.length<=i/\b=aC (outs (d.take i))) ⟨rfl,bD _,rfl⟩ (fun i b m z=>by rw[z.1];exact aU.of g) ?_ ?_
 .rintro i x b m o B;apply aW;intro _ g_;obtain⟨rfl,_,rfl⟩:=B
  have I:i<d.length:=by
   have:=(oW.mp o).1;lia
  have t:=fQ I;obtain⟨v,C,a,rfl,n⟩:=u.get t;apply g_;clear g_;rw[C]at o;obtain rfl:=kJ o
  have M:d.take (i+1)=d.take i++[d[i]]:=by
   rw[mq,t];rfl
  apply aW;intro _ g_;obtain⟨s',_,_,D,y,j⟩:=UG d[i];apply g_;clear g_;rw[D]at n;refine⟨_,rfl,a,_,_,V.str s',rfl,rfl,aJ.of n,(yR rfl),rfl,_,rfl,fO (fun c=>?_) (fun c=>?_)⟩
  .apply aW;intro _ g_;obtain⟨k,G,rfl⟩:=y c;apply g_;clear g_;refine⟨_,rfl,aG (aJ.of n) ((yR rfl)) ⟨by rw[sizeLine_eq];lia,rfl,by rw[j8,vG];lia,?_⟩⟩;rw[M,EY,G];unfold aC;rw[qz];rfl
  .refine⟨rfl,by lia,?_⟩;rw[M,EY];have j:=j c;generalize d[i]=e at j
   cases e with
   | out k=>exact eu rfl (j k)
   | rc r=>rw[oY]
   | inn k=>rw[oY]
   | door k=>rw[oY]
   | thr k=>rw[oY]
   | take k=>rw[oY]
 .rintro b m ⟨rfl,_,rfl⟩ pl l;rw[DX (by lia)];exact q pl _ (zF l _) l zC
def Ip:aF ["rooms","entered"] ["rooms","entered"] (aA jZ):=cQ
def JM(F:bO K "steps_in" "steps_in" jZ f fd):aL P w K mg base aN 1 f fd ["rooms","entered"] (lU En.inn true):=by
 refine F.ok Ip ?_ ?_
 .rintro _ _ _ _⟨t,M,R,D,O,m,rfl,_⟩;rfl
 intro _ A _ s H vs Q E _ h
 apply aW;intro _ g_;obtain⟨t,M,R,D,O,m,rfl,N,U,e,u,_,q⟩:=h;apply g_;clear g_;refine⟨_,(zG (zP (yU (bF:=[(0,"rooms")]) rfl (show bA (aA jZ) ["rooms","entered"] _ _ _ from vA) (yN (pv 1)) (fun _ _ _ _ _ _=>bQ) (fun _ _ _ _ _ _=>(zX (zA (zX (zA zQ (zA (pv 0) zD))) (zA (yC (r:=dM K) zH (yC (r:=dM K) zH (pv 1) (pv 0) (fun _ _=>rfl)) zB (fun _ _=>rfl)) zD))))))),?_⟩;refine⟨_,rfl,M,rfl,⟨_,aU.of e⟩,?_⟩;refine yT (K:=K) (a:=M) (xs:=aC m) (fun i c b=>aH H b/\c.length=i/\Al (sJ b) c ((m.take i).map fun k=>(En.inn k,D k))) ⟨aH.refl _,rfl,.nil⟩ (fun i c b z=>aU.of (z.1 _ _ e)) ?_ ?_
 .rintro i x c b I C;apply aW;intro _ g_;obtain⟨S,L,j⟩:=C;obtain⟨y,rfl⟩:=yS I;apply g_;clear g_;have v:=fQ y;have B:=u _ (lQ y);generalize m[i]=k at v B;apply aW;intro _ g_;obtain⟨vs,a,r,G,_,n,o,T⟩:=(N.mono (aB.of S)).at B;apply g_;clear g_;have hd:=(U k r n).1;refine⟨_,rfl,zJ (by show 2<=1000;decide),fun p W=>?_⟩;have u2:=zF W (.tup [V.str ("in" : Str),V.int (k:Int)]);have d:upd b p (.tup [V.str ("in" : Str),V.int (k:Int)]) p=some (.tup (En.inn k).row):=zC;generalize upd b p (.tup [V.str ("in" : Str),V.int (k:Int)])=X at u2 d ⊢;refine⟨_,rfl,_,rfl,aG (aJ.of (u2 _ _ G)) o (aG (aJ.of (u2 _ _ T)) rfl ⟨zJ (by show 2<=1000;decide),fun J g=>⟨by rw[sizeLine_eq];lia,S.trans (u2.trans (zF g _)),by rw[j8,vG,L],?_⟩⟩)⟩;have u3:=zF g (.tup [V.ref p,r.ins]);rw[mq,v,qz];exact (j.mono fun _ _ z=>z.mono (aB.of (u2.trans u3))).snoc ⟨J,p,r.ins,rfl,zC,u3 _ _ d,hd.mono (aB.of (S.trans (u2.trans u3)))⟩
 .rintro c b ⟨S,L,j⟩ pl l;rw[zV]at j;rw[DX (bD _)]at j;exact q pl c _ (S.trans (zF l _)) (S.free l) zC (j.mono fun _ _ z=>z.mono (aB.of (zF l _)))
def Fo:aF ["rooms","left"] ["rooms","left"] (aA iT):=cQ
def GZ(F:bO K "steps_out" "steps_out" iT f fd):aL P w K mg base aN 1 f fd ["rooms","left"] (lU En.out false):=by
 refine F.ok Fo ?_ ?_
 .rintro _ _ _ _⟨t,M,R,N,D,m,rfl,_⟩;rfl
 intro _ A _ s H vs Q E _ h
 apply aW;intro _ g_;obtain⟨t,M,R,N,D,m,rfl,O,U,e,u,_,q⟩:=h;apply g_;clear g_;refine⟨_,(zG (zP (yU (bF:=[(0,"rooms")]) rfl (show bA (aA iT) ["rooms","left"] _ _ _ from vA) (yN (pv 1)) (fun _ _ _ _ _ _=>bQ) (fun _ _ _ _ _ _=>(zX (zA (zX (zA zQ (zA (pv 0) zD))) (zA (yC (r:=dM K) zH (yC (r:=dM K) zH (pv 1) (pv 0) (fun _ _=>rfl)) zB (fun _ _=>rfl)) zD))))))),?_⟩;refine⟨_,rfl,M,rfl,⟨_,aU.of e⟩,?_⟩;refine yT (K:=K) (a:=M) (xs:=aC m) (fun i c b=>aH H b/\c.length=i/\Al (sJ b) c ((m.take i).map fun k=>(En.out k,D k))) ⟨aH.refl _,rfl,.nil⟩ (fun i c b z=>aU.of (z.1 _ _ e)) ?_ ?_
 .rintro i x c b I C;apply aW;intro _ g_;obtain⟨S,L,j⟩:=C;obtain⟨y,rfl⟩:=yS I;apply g_;clear g_;have v:=fQ y;have B:=u _ (lQ y);generalize m[i]=k at v B;apply aW;intro _ g_;obtain⟨vs,a,r,G,_,n,o,T⟩:=(O.mono (aB.of S)).at B;apply g_;clear g_;have hd:=(U k r n).2;refine⟨_,rfl,zJ (by show 2<=1000;decide),fun p W=>?_⟩;have u2:=zF W (.tup [V.str ("out" : Str),V.int (k:Int)]);have d:upd b p (.tup [V.str ("out" : Str),V.int (k:Int)]) p=some (.tup (En.out k).row):=zC;generalize upd b p (.tup [V.str ("out" : Str),V.int (k:Int)])=X at u2 d ⊢;refine⟨_,rfl,_,rfl,aG (aJ.of (u2 _ _ G)) o (aG (aJ.of (u2 _ _ T)) rfl ⟨zJ (by show 2<=1000;decide),fun J g=>⟨by rw[sizeLine_eq];lia,S.trans (u2.trans (zF g _)),by rw[j8,vG,L],?_⟩⟩)⟩;have u3:=zF g (.tup [V.ref p,r.outs]);rw[mq,v,qz];exact (j.mono fun _ _ z=>z.mono (aB.of (u2.trans u3))).snoc ⟨J,p,r.outs,rfl,zC,u3 _ _ d,hd.mono (aB.of (S.trans (u2.trans u3)))⟩
 .rintro c b ⟨S,L,j⟩ pl l;rw[zV]at j;rw[DX (bD _)]at j;exact q pl c _ (S.trans (zF l _)) (S.free l) zC (j.mono fun _ _ z=>z.mono (aB.of (zF l _)))
def eY:aF ["steps","boxes","sizes","letters","held","record","mark","deeds","told"] ["steps","boxes","sizes","letters"] (aA qM):=cQ
def Lk(F:bO K "stepped" "stepped" qM f fd)(qDH:Dp P w K mg base aN n gd dd ["deeds","boxes","sizes","letters"] (Tp (LL C)) "done") :
  aL P w K mg base aN (n+1) f fd ["steps","boxes","sizes","letters"] (vJ C):=by
 refine F.ok eY ?_ ?_
 .rintro _ _ _ _⟨ps,tb,ts,p,sv,ss,bx,sz,l,J,m,rfl,_⟩;rfl
 intro _ A _ s H _ Q E hr h
 apply aW;intro _ g_;obtain⟨ps,tb,ts,p,sv,ss,bx,sz,l,J,m,rfl,hps,nps,hA,htb,hts,hL,hok,_,hbs,h6,U,hl,hm,q⟩:=h;apply g_;clear g_
 refine⟨_,(zE (zL (i:=4) eY.nd rfl (bb rfl) (pv 1))
  (zE (zL (i:=5) eY.nd rfl (bb rfl) (yL zD))
  (yA (bf PassesOwn.never rfl (yN (pv 0)) (vU rfl (cX (yK (i:=6) eY.nd rfl (bb rfl)) (cX (yK (i:=7) eY.nd rfl (bb rfl)) qY)))
  (zE (zL (i:=8) eY.nd rfl (bb rfl) (pC qDH hr (zA (pv 7) (zA (pv 4) (zA (pv 2) (zA (pv 3) zD))))))
  (zE (zL (i:=4) eY.nd rfl (bb rfl) (yC zH (pv 8) zB (fun _ _=>rfl)))
  (zE (yJ (dU iu yz yx yI (pv 5) (zA (pv 6) zD)))
  (zG (yJ (dU iu kz kC cG (pv 5) (zA (yC zH (pv 8) zB (fun _ _=>rfl)) zD))))))))
  (zG (zP (zX (zA (pv 4) (zA (pv 5) zD)))))))),?_⟩
 have lsv:=hA.length;refine⟨_,rfl,bo _,fun r k=>?_⟩;have u0:=zF k (.lst []);have R7:=LL.new hL k;refine⟨fun σ' g => ∃ u c R I W D,σ'=[some (.ref ps),some (.ref tb),some (.ref ts),some (.ref p),some (.ref u),some (.ref r),I,W,D]/\LL C g p c m (cz sz m ss bx l).2.1/\bc H g J c/\g u=some (.tup ((cz sz m ss bx l).1.map V.int))/\g r=some (.lst R)/\r∉c/\Al (iz g) R (cz sz m ss bx l).2.2,?_,?_⟩
 .refine⟨_,rfl,ps,rfl,⟨_,aU.of (u0 _ _ hps)⟩,?_⟩;refine pX (fun i σ' g => ∃ u c R I W D,σ'=[some (.ref ps),some (.ref tb),some (.ref ts),some (.ref p),some (.ref u),some (.ref r),I,W,D]/\LL C g p c m (cz sz m (ss.take i) bx l).2.1/\bc H g J c/\g u=some (.tup ((cz sz m (ss.take i) bx l).1.map V.int))/\g r=some (.lst R)/\r∉c/\Al (iz g) R (cz sz m (ss.take i) bx l).2.2)
   ⟨tb,J,[],_,_,_,rfl,LL.same hL u0,bc.same J u0,u0 _ _ htb,zC,R7,.nil⟩ (fun i σ' g _ ⟨_,_,_,_,_,_,_,_,st,_⟩=>aU.of (st.rest _ _ hps nps)) ?_ ?_
  .rintro i x σ' g hx T;apply aW;intro _ g_;obtain⟨u,c,R,I,W,D,rfl,M,st,B,L,R6,Vx⟩:=T
   have hi:i<ss.length:=by
    have:=(oW.mp hx).1;lia
   have hk:=fQ hi;have Z:=lQ hi
   have Mr:ss.take (i+1)=ss.take i++[ss[i]]:=by
    rw[mq,hk];rfl
   obtain⟨v,hv,a,d,_,rfl,h1,h2,ad,dv,rfl,h3,h4⟩:=hA.get hk;apply g_;clear g_;rw[hv]at hx;obtain rfl:=kJ hx;have kt:=bc.keep st hL;obtain⟨X,ok2⟩:=hok _ Z;have lb:=zm sz m (ss.take i) bx l;have ll:=Fd (sz:=sz) (ss:=ss.take i) (bx:=bx) hl;have les:=zj (sz:=sz) (m:=m) (ss:=ss.take i) (bx:=bx) (l:=l) fun y hy=>(hok y (gX hy)).2;have lrv:=Vx.length;rw[iQ]at les;generalize ss[i]=sd at Mr h2 h4 X ok2;have gk:aB g (Bm c g):=fun b _ e=>ud e (N5 M e);refine⟨a,_,rfl,aJ.of (kt _ _ h1),rfl,_,_,rfl,_,_,rfl,rfl,?_⟩;refine⟨_,rfl,_,rfl,_,rfl,_,rfl,ad,u,ts,p,sd.2,_,sz,_,dv,c,m,Bm c g,rfl,fun b o e=>(qe e).1,fun b hb=>Pg hb,gk _ _ (kt _ _ h3),h4.mono (kt.trans gk),gk _ _ B,gk _ _ (kt _ _ hts),M,(by rw[lb];exact X),ok2,(by rw[lb];exact hbs),(by rw[lb];exact h6),U,ll,hm,fun t tb2 Sh Dt CW H2 hL2 O Ox hb2 _ hr2 M3 S=>?_⟩;have G:=(bc.apart O L R6).1;have N:=(bc.apart O L R6).2;have k2:=bc.keep O M
   have ne2:Sh≠r:=fun z=>by
    rw[z,L]at M3
    cases M3
   refine⟨_,rfl,aG (aJ.of Ox) rfl ?_⟩;refine⟨_,rfl,.inl ⟨rfl,_,aU.of G⟩,_,rfl,r,R,_,rfl,rfl,G,(by rw[sizeLine_eq];lia),?_⟩;have k3:=aB.lst G (.lst (R++[.ref d]));have j:upd H2 r (.lst (R++[.ref d])) r=some (.lst (R++[.ref d])):=zC
   have h3p:upd H2 r (.lst (R++[.ref d])) Sh=some (.lst Dt):=by
    rw[zR ne2];exact hr2
   have st3:bc H (upd H2 r (.lst (R++[.ref d]))) J CW:=bc.upd (bc.trans st O) k _;have Y:=LL.upd hL2 N (.lst (R++[.ref d]));generalize upd H2 r (.lst (R++[.ref d]))=H3 at k3 j h3p st3 Y ⊢;have lr2:=S.length;rw[uG]at lr2;refine⟨_,rfl,.inl ⟨rfl,_,aU.of j⟩,_,rfl,aG (aJ.of (k3 _ _ Ox)) rfl ⟨r,Sh,_,_,rfl,rfl,j,h3p,(by rw[j8,vG,sizeLine_eq];lia),?_⟩⟩;have k4:=aB.lst j (.lst (R++[.ref d]++Dt));have Jj:=k2.trans (k3.trans k4);refine⟨tb2,CW,_,_,_,_,rfl,?_,bc.upd st3 k _,?_,zC,N,?_⟩
   .rw[Mr,rK];exact LL.upd Y N _
   .rw[Mr,rK];exact (k3.trans k4) _ _ hb2
   .rw[Mr,rK];refine Al.cast (show R++[V.ref d]++Dt=R++(V.ref d::Dt) by rw[bX];rfl) ?_;exact Al.app (Vx.mono fun _ _ z=>z.mono Jj) (.cons ⟨d,rfl,Jj _ _ (kt _ _ h2)⟩ (qBQ (S.mono (k3.trans k4))))
  .rintro σ' g T;apply aW;intro _ g_;obtain⟨u,c,R,I,W,D,z1,z2,z3,z4,z5,z6,z7⟩:=T;apply g_;clear g_;rw[lsv,ib]at z2 z4 z7;exact⟨u,c,R,I,W,D,z1,z2,z3,z4,z5,z6,z7⟩
 rintro σ' g T;apply aW;intro _ g_;obtain⟨u,c,R,I,W,D,rfl,M,st,B,L,R6,Vx⟩:=T;apply g_;clear g_;refine⟨_,rfl,_,rfl,zJ (by show 2<=1000;decide),fun t ht=>?_⟩;have u1:=zF ht (.tup [.ref u,.ref r]);exact q t u r R c _ (LL.same M u1) (bc.trans st (bc.same c u1)) zC (u1 _ _ B) (u1 _ _ L) k R6 (Vx.mono fun _ _ z=>z.mono (aB.of u1))
inductive Wy where
 | to (g:Nat)
 | back (g:Nat)
 | stay
def Wy.tx:Wy->Str
 | .to _ => "to"
 | .back _ => "back"
 | .stay => "stay"
def Wy.gv:Wy->V
 | .to g=>.int (g:Int)
 | .back g=>.int (g:Int)
 | .stay=>.non
def Wy.gl:Wy->Nat
 | .to g=>g
 | .back g=>g
 | .stay=>0
structure Dx where
 room:Nat
 ev:Int
 g:Gd
 dd:List Dd
 way:Wy
def Cz(H:Hp)(v:V)(d:Dx):Prop:=∃(a:ar)(gv O:V),v = .ref a/\H a=some (.tup [.int (d.room:Int),.int d.ev,gv,O,.str d.way.tx,d.way.gv])/\jH H gv d.g/\oK H O d.dd
def Cz.mono{H h:Hp}{v:V}{d:Dx}(x:Cz H v d)(k:aB H h):Cz h v d:=by obtain⟨a,gv,O,b,l,p,j⟩:=x;exact⟨a,gv,O,b,k _ _ l,p.mono k,j.mono k⟩
structure mZ where
 od:Str
 lb:Nat
 tn:Nat
 sz:List Int
 rs:List Rm
 di:Nat->List Dd
 dO:Nat->List Dd
 ds:List Dx
def jJ(H:Hp)(P:ar)(c:mZ):Prop:=∃(B t p:ar)(x:V)(b O:aw V),H P=some (.tup [.str c.od,.int (c.lb:Int),.int (c.tn:Int),.ref B,x,.ref t,.ref p])/\H B=some (.tup b)/\Al (Hk H) b c.sz/\dW H t c.rs/\RmD H c.rs c.di c.dO/\H p=some (.tup O)/\Al (Cz H) O c.ds
def jJ.mono{H h:Hp}{O:ar}{c:mZ}(x:jJ H O c)(k:aB H h):jJ h O c:=by obtain⟨B,t,P,X,b,d,a,l,p,j,f,e,u⟩:=x;exact⟨B,t,P,X,b,d,k _ _ a,k _ _ l,p.mono fun _ _ z=>z.mono k,j.mono k,f.mono k,k _ _ e,u.mono fun _ _ z=>z.mono k⟩
structure DP(c:mZ):Prop where
 good:Tr.Good (aD c.rs)
 r40:c.rs.length<=40
 b6:c.sz.length<=6
 pos:∀ z∈c.sz,0<z
 Ss:c.lb<=12
 ins:∀ k:Nat,(∀ d∈c.di k,d.ok c.sz.length)/\(c.di k).length<=8
 outs:∀ k:Nat,(∀ d∈c.dO k,d.ok c.sz.length)/\(c.dO k).length<=8
 d63:c.ds.length<=63
 door:∀ d∈c.ds,d.room<c.rs.length/\d.way.gl<c.rs.length/\(∀ x∈d.dd,x.ok c.sz.length)/\d.dd.length<=8
structure S4 where
 os:List Nat
 bx:List Int
 ks:List (List Nat)
 l:List Int
def cR(H:Hp)(ps:ar)(s:S4):Prop:=∃(l B J:ar)(v:aw V),H ps=some (.tup [.ref l,.ref B,.ref J])/\H l=some (.tup (aC s.os))/\H B=some (.tup (s.bx.map V.int))/\H J=some (.tup v)/\bh H v s.ks
def cR.mono{H h:Hp}{ps:ar}{s:S4}(x:cR H ps s)(k:aB H h):cR h ps s:=by obtain⟨l,B,J,v,a,b,p,j,f⟩:=x;exact⟨l,B,J,v,k _ _ a,k _ _ b,k _ _ p,k _ _ j,f.mono k⟩
structure jG(c:mZ)(s:S4):Prop where
 inc:s.os.Pairwise (· < ·)
 lt:∀ o∈s.os,o<c.rs.length
 Oi:s.os.length<=40
 bx:s.bx.length=c.sz.length
 ks:s.ks.length=c.rs.length
 l:s.l.length<=c.lb
def km(w:Wy)(s:aw (aw Nat)):aw Nat:=match w with
 | .to g=>[g]
 | .back g=>if s.getD g []=[] then [g] else s.getD g []
 | .stay=>[]
def vq:Wy->Bool
 | .stay=>true
 | _=>false
def rY(c:mZ)(d:Dx):aE Nat:=Tr.hall (aD c.rs) (N6.isOne c.rs) d.room d.way.gl
def bN(c:mZ)(d:Dx)(os:aw Nat):aw Nat:=if vq d.way=true then [] else Q4.nT (aD c.rs) (rY c d) os
def pU(c:mZ)(d:Dx)(os:aw Nat)(s:aw (aw Nat)):aw (aw Nat):=if vq d.way=true then s else bI c.rs os (bN c d os) s
def wI(c:mZ)(d:Dx)(s:aw (aw Nat))(m:aw Nat):Prop:=if vq d.way=true then m=[] else Tr.Q5 (aD c.rs) (S5 c.rs) (km d.way s) (rY c d) m
noncomputable def dJ(c:mZ)(d:Dx)(os:aw Nat):aw Nat:=os.filter fun o => !inV (.int (o:Int)) (aC (bN c d os))
noncomputable def jB(c:mZ)(k:Nat)(d:Dx)(os m:aw Nat):aw Sd:=[(En.door k,[])]++((bN c d os).map fun r=>(En.out r,c.dO r))++[(En.thr k,d.dd)]++m.map fun r=>(En.inn r,c.di r)
def K4(c:mZ)(k:Nat)(s:S4)(e:aw En)(s':S4):Prop:=∃(d:Dx)(m:aw Nat),c.ds[k]? = some d/\wI c d (pU c d s.os s.ks) m/\s'.os.Perm (dJ c d s.os++m)/\s'.os.Pairwise (· < ·)/\s'.ks=pU c d s.os s.ks/\(s'.bx,s'.l,e)=cz c.sz c.lb (jB c k d s.os m) s.bx s.l
def Q0(c:mZ)(d:Dx)(os:aw Nat)(s:aw (aw Nat)):Prop:=(∀ g∈km d.way (pU c d os s),g<c.rs.length)/\(km d.way (pU c d os s)).length<=100/\∀ m:aw Nat,wI c d (pU c d os s) m->(dJ c d os++m).Nodup/\(dJ c d os++m).length<=40/\∀ k∈m,k<c.rs.length
inductive Nm(vs:List V)(H:Hp)(Q:VK)(E_:XK):Prop
 | mk (pc pk:Addr) (kv:List V) (ks:List (List Nat)) (c:mZ) (k:Nat) (d:Dx) (_:vs=[.ref pc,.ref pk,.int (k:Int)]) (_:jJ H pc c) (_:c.ds[k]? = some d) (_:H pk=some (.tup kv)) (_:bh H kv ks) (_:d.way.gl<ks.length) (_:(km d.way ks).length<=100) (_:∀(p:Addr)(H':Hp),aH H H'->H p=none->H' p=some (.lst (aC (km d.way ks)))->Q (.ref p) H')
inductive IV(C:Addr)(vs:List V)(H:Hp)(Q:VK)(E_:XK):Prop
 | mk (pc ps p:Addr) (c:mZ) (k:Nat) (ik:Int) (s:S4) (fp:List Addr) (d:Dx) (_:vs=[.ref pc,.ref ps,.int ik,.ref p]) (_:ik=(k:Int)) (_:jJ H pc c) (_:DP c) (_:cR H ps s) (_:jG c s) (_:c.ds[k]? = some d) (_:Q0 c d s.os s.ks) (_:LL C H p fp c.lb s.l) (_:∀(t ps' pr:Addr)(rv:List V)(s':S4)(es:List En)(fp':List Addr)(H':Hp),K4 c k s es s'->LL C H' p fp' c.lb s'.l->bc H H' fp fp'->H' t=some (.tup [.ref ps',.ref pr])->cR H' ps' s'->jG c s'->H' pr=some (.lst rv)->H pr=none->pr∉fp'->Al (iz H') rv es->es.length<=1000->Q (.ref t) H')
theorem uT(R:aw Rm)(os:aw Nat):∀(l:aw Nat)(s:aw (aw Nat)),(bI R os l s).length=s.length
 | [],s=>rfl
 | r::l,s=>by
  show (bI R os l (if dB R r=("" : Str) then s else s.set r (mO R os r))).length=_;rw[uT R os l]
  split
  .rfl
  .rw[gu]
def yr{d:aw Int}{f:Nat->Bool}{a b u:Nat}(h:Tr.hall d f a b=some u):u<a:=Tr.T5 (List.mem_of_find?_eq_some h)
def Ul(d:aw Int)(un:aE Nat)(os:aw Nat):(Q4.nT d un os).length<=os.length:=by unfold Q4.nT;rw[List.length_reverse];exact vD _ _
section
variable{P:ag}{w:aI}{K:bV}{mg:Str->aE av}{base:Heap}{C:ar}
def pF:aF ["chart","kept","door","way","goal"] ["chart","kept","door"] (aA tu):=cQ
theorem JQ{f:ar}{L:af}(F:bO K "goals_of" "goals_of" tu f L)(Y:mg "len" = none)(U:mg "list" = none):aL P w K mg base aN 1 f L ["chart","kept","door"] Nm:=by
 refine F.ok pF ?_ ?_
 .rintro _ _ _ _⟨R,J,C,j,c,k,d,rfl,_⟩;rfl
 intro _ A _ s H _ Q E _ h
 apply aW;intro _ g_;obtain⟨R,J,C,j,c,k,d,rfl,⟨_,t,_,_,_,_,D,_,_,_,_,I,h7⟩,hd,O,B,u,_,q⟩:=h;apply g_;clear g_
 refine⟨_,(zE (zL (i:=3) pF.nd rfl (bb rfl) (yC zH (yC zH (yC zH (pv 0) zB (fun _ _=>rfl)) (pv 2) (fun _ _=>rfl)) zB (fun _ _=>rfl)))
  (zE (zL (i:=4) pF.nd rfl (bb rfl) (yC zH (yC zH (yC zH (pv 0) zB (fun _ _=>rfl)) (pv 2) (fun _ _=>rfl)) zB (fun _ _=>rfl)))
  (zE (yE (zM yH (pv 3) zQ (zS _))
  (zG (zP (yL zD)))
  zU)
  (zE (yE (PW.pt (pw_and (zM yH (pv 3) zQ (zS _)) (yQ (zM cY (zT zO rfl Y bj (zA (yC zH (pv 1) (pv 4) (fun _ _=>rfl)) zD)) zB (zS _)))))
  (zG (zP (yB gO rfl U kf (zA (yC zH (pv 1) (pv 4) (fun _ _=>rfl)) zD))))
  zU)
  (zG (zP (yL (zA (pv 4) zD)))))))),?_⟩
 apply aW;intro _ g_;obtain⟨v,X,a,_,_,rfl,G,_,_⟩:=h7.get hd;apply g_;clear g_;have n:=yR X;refine⟨_,rfl,aG (aJ.of D) rfl ⟨_,rfl,aG (aJ.of I) n (aG (aJ.of G) rfl ?_)⟩⟩;refine⟨_,rfl,aG (aJ.of D) rfl ⟨_,rfl,aG (aJ.of I) n (aG (aJ.of G) rfl ?_)⟩⟩;clear G hd;apply aW;intro _ g_;obtain⟨_,_,_,_,W⟩:=d;apply g_;clear g_
 cases W with
 | stay=>exact⟨_,rfl,rfl,_,rfl,Hq (by show decide (V.str ("stay" : Str)=V.str "stay")=true;decide +kernel) ⟨bo _,fun p b=>q p _ (zF b _) b zC⟩⟩
 | to g=>
  refine⟨_,rfl,rfl,_,rfl,eE (by show decide (V.str ("to" : Str)=V.str "stay")=false;decide +kernel) ?_⟩;refine⟨_,rfl,rfl,_,rfl,eE (by show decide (V.str ("to" : Str)=V.str "back")=false;decide +kernel) ?_⟩;exact eE rfl ⟨_,rfl,zJ (by show 1<=1000;decide),fun p b=>q p _ (zF b _) b zC⟩
 | back g=>
  have M:g<j.length:=u;apply aW;intro _ g_;obtain⟨_,x,_,rfl,m⟩:=B.get (fQ M);apply g_;clear g_;have o:=yR x
  have N:j.getD g []=j[g]:=by rw[jT,fQ M];rfl
  have r:∀(p:ar)(l:Hp),aH H l->H p=none->l p=some (.lst (aC (if j[g]=[] then [g] else j[g])))->Q (.ref p) l:=fun p l T b h=>q p l T b (by
   show l p=some (.lst (aC (if j.getD g []=[] then [g] else j.getD g [])));rw[N]
   exact h)
  refine⟨_,rfl,rfl,_,rfl,eE (by show decide (V.str ("back" : Str)=V.str "stay")=false;decide +kernel) ?_⟩;refine⟨_,rfl,rfl,_,rfl,Hq (by show decide (V.str ("back" : Str)=V.str "back")=true;decide +kernel) ?_⟩;refine⟨_,rfl,_,rfl,J,C,_,_,rfl,rfl,aJ.of O,o,xR rfl (.inr (aJ.of m)) (eO ⟨_,rfl,fO (fun z=>?_) (fun z=>?_)⟩)⟩
  .have Z:(0:Int)<((aC j[g]).length:Int):=ba z;rw[zV]at Z
   have y:j[g]≠[]:=fun e=>by
    rw[e]at Z;exact eu Z (by decide)
   rw[cK y]at r;exact⟨_,rfl,_,rfl,J,C,_,_,rfl,rfl,aJ.of O,o,xR rfl (.inr (aJ.of m)) (fun p b=>r p _ (zF b _) b zC)⟩
  .have Z:¬ (0:Int)<((aC j[g]).length:Int):=bP z;rw[zV]at Z;have S:j[g]=[]:=List.length_eq_zero_iff.mp (by lia);rw[cS S]at r;exact⟨_,rfl,zJ (by show 1<=1000;decide),fun p b=>r p _ (zF b _) b zC⟩
noncomputable abbrev GK:Scope:=⟨.function,[("chart",.local),("stand",.local),("door",.local),("letters",.local),("rooms",.local),("parts",.local),("opening",.local),("kept",.local),("left",.cell),("entered",.local),("hall",.local),("through",.local),("steps",.local),("told",.local),("staying",.local),("hall_over",.globalImplicit),("goings_out",.globalImplicit),("keeping",.globalImplicit),("goings_in",.globalImplicit),("goals_of",.globalImplicit),("steps_out",.globalImplicit),("steps_in",.globalImplicit),("stepped",.globalImplicit),("sizes_of",.globalImplicit),("tuple",.globalImplicit),("sorted",.globalImplicit)],false,false,(aA pH).more⟩
def Qd:aA pH=GK:=by rfl
def bJ:aF ["chart","stand","door","letters","rooms","parts","opening","kept","left","entered","hall","through","steps","told","staying"] ["chart","stand","door","letters"] GK:=cQ
theorem Qk{n:Nat}{f g1 g2 g3 g4 g5 g6 g7 g8 g9:ar}{fd d1 d2 d3 d4 d5 d6 d7 d8 d9:af}(F:bO K "passed" "passed" pH f fd)
  (KJ:Dp P w K mg base aN n g1 d1 ["rooms","one","other"] N6.Ti "hall_over")
  (oN:Dp P w K mg base aN n g2 d2 ["rooms","under","opening"] Q4.Td "goings_out")
  (SJ:Dp P w K mg base aN n g3 d3 ["rooms","opening","left","kept"] Dl "keeping")
  (qK:Dp P w K mg base aN n g4 d4 ["rooms","under","goals"] qBG "goings_in")
  (NQ:Dp P w K mg base aN n g5 d5 ["chart","kept","door"] Nm "goals_of")
  (K6:Dp P w K mg base aN n g6 d6 ["rooms","left"] (lU En.out false) "steps_out")
  (sS:Dp P w K mg base aN n g7 d7 ["rooms","entered"] (lU En.inn true) "steps_in")
  (wK:Dp P w K mg base aN n g8 d8 ["steps","boxes","sizes","letters"] (vJ C) "stepped")
  (sU:Dp P w K mg base aN n g9 d9 ["chart"] Fe "sizes_of")
  (aj:mg "tuple" = none) (cH:mg "sorted" = none):aL P w K mg base aN (n+1) f fd ["chart","stand","door","letters"] (IV C):=by
 refine okS GK Qd F bJ ?_ ?_
 .rintro _ _ _ _⟨pc,ps,p,c,k,ik,s,fp,d,rfl,_⟩;rfl
 intro _ A _ s H _ Q E hr h
 apply aW;intro _ g_;obtain⟨pc,ps,p,c,k,ik,st,fp,d,rfl,rfl,hC,ok,hS,S,hd,mp,hL,q⟩:=h;apply g_;clear g_
 refine⟨_,(zE (zL (i:=4) bJ.nd rfl (bb rfl) (yC zH (pv 0) zB (fun _ _=>rfl)))
  (zE (zL (i:=5) bJ.nd rfl (bb rfl) (yC zH (yC zH (pv 0) zB (fun _ _=>rfl)) (pv 2) (fun _ _=>rfl)))
  (zE (zL (i:=6) bJ.nd rfl (bb rfl) (yC zH (pv 1) zB (fun _ _=>rfl)))
  (zE (zL (i:=7) bJ.nd rfl (bb rfl) (yC zH (pv 1) zB (fun _ _=>rfl)))
  (zE (zL (i:=8) bJ.nd rfl (Or.inr rfl) (yL zD))
  (zE (zL (i:=9) bJ.nd rfl (bb rfl) (yL zD))
  (yA (yE (zM pN (yC zH (pv 5) zB (fun _ _=>rfl)) zQ (zS _))
  (zE (zL (i:=10) bJ.nd rfl (bb rfl) (pC KJ hr (zA (pv 4) (zA (yC zH (pv 5) zB (fun _ _=>rfl)) (zA (yC zH (pv 5) zB (fun _ _=>rfl)) zD)))))
  (zE (zL (i:=8) bJ.nd rfl (Or.inr rfl) (pC oN hr (zA (pv 4) (zA (pv 10) (zA (pv 6) zD)))))
  (zE (zL (i:=7) bJ.nd rfl (bb rfl) (pC SJ hr (zA (pv 4) (zA (pv 6) (zA (pv 8) (zA (pv 7) zD))))))
  (zG (zL (i:=9) bJ.nd rfl (bb rfl) (pC qK hr (zA (pv 4) (zA (pv 10) (zA (pC NQ hr (zA (pv 0) (zA (pv 7) (zA (pv 2) zD)))) zD)))))))))
  zU)
  (zE (zL (i:=11) bJ.nd rfl (bb rfl) (yL (zA (zX (zA (zX (zA zQ (zA (pv 2) zD))) (zA (yC zH (pv 5) zB (fun _ _=>rfl)) zD))) zD)))
  (zE (zL (i:=12) bJ.nd rfl (bb rfl) (yD GX (yD GX (yD GX (yL (zA (zX (zA (zX (zA zQ (zA (pv 2) zD))) (zA (zX zD) zD))) zD)) (pC K6 hr (zA (pv 4) (zA (pv 8) zD)))) (pv 11)) (pC sS hr (zA (pv 4) (zA (pv 9) zD)))))
  (zE (zL (i:=13) bJ.nd rfl (bb rfl) (pC wK hr (zA (pv 12) (zA (yC zH (pv 1) zB (fun _ _=>rfl)) (zA (pC sU hr (zA (pv 0) zD)) (zA (pv 3) zD))))))
  (zE (uI (i:=14) (bF:=[(8,"left")]) rfl bJ.nd rfl (bb rfl) (show bA GK ["chart","stand","door","letters","rooms","parts","opening","kept","left","entered","hall","through","steps","told","staying"] _ _ _ from vA) (nQ (pv 6)) (fun _ _ _ _ _ _=>cW (zM (r:=rIn K true) dq (pv 0) (pv 1) rfl)) (fun _ _ _ _ _ _=>(pv 0)))
  (zG (zP (zX (zA (zX (zA (yB zY rfl aj qt (zA (zT qC rfl cH kg (zA (yD GX (pv 14) (pv 9)) zD)) zD)) (zA (yC zH (pv 13) zB (fun _ _=>rfl)) (zA (pv 7) zD)))) (zA (yC zH (pv 13) zB (fun _ _=>rfl)) zD)))))))))))))))),?_⟩
 apply aW;intro _ g_;obtain⟨pb,t,_,_,bv,_,h1,h2,h3,h4,h5,h6,h7⟩:=id hC;obtain⟨po,Oe,pk,kv,e1,e2,e3,e4,e5⟩:=id hS;obtain⟨v,hv,a,gv,Zc,rfl,y1,_,y3⟩:=h7.get hd;apply g_;clear g_;have hat:=yR hv;have od:=ok.door d (SX hd);refine⟨_,rfl,aG (aJ.of h1) rfl ?_⟩;refine⟨_,rfl,aG (aJ.of h1) rfl ⟨_,rfl,aG (aJ.of h6) hat ?_⟩⟩;refine⟨_,rfl,aG (aJ.of e1) rfl ?_⟩;refine⟨_,rfl,aG (aJ.of e1) rfl ?_⟩;refine⟨bo _,fun W qCT=>⟨bo _,fun N qCU=>?_⟩⟩;have u1:=(zF qCT (.lst [])).trans (zF qCU (.lst []));have hl0:(upd (upd H W (.lst [])) N (.lst [])) W=some (.lst (aC [])):=zF qCU _ _ _ zC;have he0:(upd (upd H W (.lst [])) N (.lst [])) N=some (.lst (aC [])):=zC;generalize upd (upd H W (.lst [])) N (.lst [])=H1 at u1 hl0 he0 ⊢;refine⟨fun σ' H'=>∃(L pf pe:ar)(Ho:aw V)(M:aw Nat)(vV:aE V),H pf=none/\H pe=none/\aH H H'/\H' pf=some (.lst (aC (bN c d st.os)))/\H' pe=some (.lst (aC M))/\wI c d (pU c d st.os st.ks) M/\H' L=some (.tup Ho)/\bh H' Ho (pU c d st.os st.ks)/\σ'=[some (.ref pc),some (.ref ps),some (.int (k:Int)),some (.ref p),some (.ref t),some (.ref a),some (.ref po),some (.ref L),some (.ref pf),some (.ref pe),vV,none,none,none,none],?_,?_⟩
 .refine⟨_,rfl,aG (aJ.of (u1 _ _ y1)) rfl ⟨rfl,_,rfl,fO (fun cw=>?_) (fun cw=>?_)⟩⟩
  rotate_left
  .have e:vq d.way=true:=by
    cases hw:d.way with
    | stay=>rfl
    | to g=>rw[hw]at cw;exact eu cw (by show ¬ (!decide (V.str ("to" : Str)=V.str "stay"))=false;decide +kernel)
    | back g=>rw[hw]at cw;exact eu cw (by show ¬ (!decide (V.str ("back" : Str)=V.str "stay"))=false;decide +kernel)
   have el:bN c d st.os=[]:=cS e;have ek:pU c d st.os st.ks=st.ks:=cS e;rw[el,ek];exact⟨pk,W,N,kv,[],_,qCT,(zF qCT _).free qCU,u1,hl0,he0,(show wI c d st.ks [] from (cS e).mpr rfl),u1 _ _ e4,e5.mono (aB.of u1),rfl⟩
  have e:vq d.way=false:=by
   cases hw:d.way with
   | stay=>rw[hw]at cw;exact eu cw (by show ¬ (!decide (V.str ("stay" : Str)=V.str "stay"))=true;decide +kernel)
   | to g=>rfl
   | back g=>rfl
  have hs':¬ vq d.way=true:=by rw[e];decide
  have el:bN c d st.os=Q4.nT (aD c.rs) (rY c d) st.os:=cK hs';have ek:pU c d st.os st.ks=bI c.rs st.os (bN c d st.os) st.ks:=cK hs'
  have egv:d.way.gv = .int ((d.way.gl:Nat):Int):=by
   cases hw:d.way with
   | stay=>rw[hw]at e;cases e
   | to g=>rfl
   | back g=>rfl
  rw[egv]at y1;refine⟨_,rfl,_,rfl,aG (aJ.of (u1 _ _ y1)) rfl ⟨_,rfl,aG (aJ.of (u1 _ _ y1)) rfl ⟨t,c.rs,d.room,d.way.gl,rfl,h4.mono (aB.of u1),ok.good,ok.r40,od.1,od.2.1,fun H2 s2=>?_⟩⟩⟩;have D:=u1.trans s2
  have yr:∀ u,rY c d=some u->u<c.rs.length:=fun u hu=>by
   have:=yr hu;have:=od.1;lia
  refine⟨_,rfl,_,rfl,_,rfl,t,po,c.rs,rY c d,st.os,rfl,h4.mono (aB.of D),ok.good,ok.r40,yr,D _ _ e2,S.lt,S.Oi,S.inc,fun pf H3 s3 npf hpf=>?_⟩;rw[<-el]at hpf;have U:=D.trans s3
  have llt:∀ o∈bN c d st.os,o<c.rs.length:=fun o ho=>by
   rw[el]at ho;have:=List.mem_reverse.mp ho;exact S.lt o (lO.mp this).1
  refine⟨_,rfl,_,rfl,_,rfl,_,rfl,t,po,pf,pk,c.rs,st.os,bN c d st.os,kv,st.ks,rfl,h4.mono (aB.of U),ok.good,ok.r40,U _ _ e2,S.lt,S.Oi,S.inc,hpf,llt,U _ _ e4,e5.mono (aB.of U),S.ks,fun L Ho H4 s4 qG8 qGE=>?_⟩;have Sg:=U.trans s4;refine⟨_,rfl,_,rfl,_,rfl,_,rfl,_,rfl,pc,L,Ho,pU c d st.os st.ks,c,k,d,rfl,hC.mono (aB.of Sg),hd,qG8,(by rw[ek];exact qGE),(by rw[ek,uT,S.ks];exact od.2.1),mp.2.1,fun pg H5 s5 _ hpg=>?_⟩;have Z:=Sg.trans s5;refine⟨t,pg,c.rs,rY c d,km d.way (pU c d st.os st.ks),rfl,h4.mono (aB.of Z),ok.good,ok.r40,yr,⟨hpg,mp.1,mp.2.1⟩,fun pe M H6 s6 npe hpe hms=>?_⟩;exact⟨L,pf,pe,Ho,M,_,D.free npf,Z.free npe,Z.trans s6,s6 _ _ (s5 _ _ (s4 _ _ hpf)),hpe,(cK hs').mpr hms,s6 _ _ (s5 _ _ qG8),(by rw[ek];exact qGE.mono (aB.of (s5.trans s6))),rfl⟩
 rintro σ' H2 bR;apply aW;intro _ g_;obtain⟨L,pf,pe,Ho,M,vV,npf,npe,s2,h2f,h2e,hms,h2k,qLF,rfl⟩:=bR;obtain⟨nd,l40,mlt⟩:=mp.2.2 M hms;apply g_;clear g_
 have lm:M.length<=40:=by
  rw[j8]at l40;lia
 have ll:(bN c d st.os).length<=40:=by
  unfold bN
  split
  .exact bo _
  .exact br (Ul _ _ _) S.Oi
 have llt:∀ o∈bN c d st.os,o<c.rs.length:=fun o ho=>by
  unfold bN at ho
  split at ho
  .cases ho
  have:=List.mem_reverse.mp ho;exact S.lt o (lO.mp this).1
 refine⟨_,rfl,zJ (by show 2<=1000;decide),fun p1 hp1=>?_⟩;have v1:=zF hp1 (.tup [V.str ("through" : Str),V.int (k:Int)]);have i1:upd H2 p1 (.tup [V.str ("through" : Str),V.int (k:Int)]) p1=some (.tup (En.thr k).row):=zC;generalize upd H2 p1 (.tup [V.str ("through" : Str),V.int (k:Int)])=H3 at v1 i1 ⊢;refine⟨_,rfl,aG (aJ.of (v1 _ _ (s2 _ _ y1))) rfl ⟨zJ (by show 2<=1000;decide),fun B hp2=>?_⟩⟩;have v2:=zF hp2 (.tup [V.ref p1,Zc]);have i2:upd H3 B (.tup [V.ref p1,Zc]) B=some (.tup [V.ref p1,Zc]):=zC;generalize upd H3 B (.tup [V.ref p1,Zc])=H4 at v2 i2 ⊢;refine⟨zJ (by show 1<=1000;decide),fun pth qKY=>?_⟩;have v3:=zF qKY (.lst [V.ref B]);have i3:upd H4 pth (.lst [V.ref B]) pth=some (.lst [V.ref B]):=zC;generalize upd H4 pth (.lst [V.ref B])=H5 at v3 i3 ⊢;have s5:=s2.trans (v1.trans (v2.trans v3));have at5:Al (sJ H5) [V.ref B] [(En.thr k,d.dd)]:=.cons ⟨B,p1,Zc,rfl,v3 _ _ i2,v3 _ _ (v2 _ _ i1),y3.mono (aB.of s5)⟩ .nil;refine⟨_,rfl,zJ (by show 2<=1000;decide),fun q1 hq1=>?_⟩;have w1:=zF hq1 (.tup [V.str ("door" : Str),V.int (k:Int)]);have j1:upd H5 q1 (.tup [V.str ("door" : Str),V.int (k:Int)]) q1=some (.tup (En.door k).row):=zC;generalize upd H5 q1 (.tup [V.str ("door" : Str),V.int (k:Int)])=H6 at w1 j1 ⊢;refine⟨bo _,fun q2 hq2=>?_⟩;have w2:=zF hq2 (.tup []);have j2:upd H6 q2 (.tup []) q2=some (.tup []):=zC;generalize upd H6 q2 (.tup [])=H7 at w2 j2 ⊢;refine⟨zJ (by show 2<=1000;decide),fun b hq3=>?_⟩;have w3:=zF hq3 (.tup [V.ref q1,V.ref q2]);have j3:upd H7 b (.tup [V.ref q1,V.ref q2]) b=some (.tup [V.ref q1,V.ref q2]):=zC;generalize upd H7 b (.tup [V.ref q1,V.ref q2])=H8 at w3 j3 ⊢;refine⟨zJ (by show 1<=1000;decide),fun q4 hq4=>?_⟩;have w4:=zF hq4 (.lst [V.ref b]);have j4:upd H8 q4 (.lst [V.ref b]) q4=some (.lst [V.ref b]):=zC;generalize upd H8 q4 (.lst [V.ref b])=H9 at w4 j4 ⊢;have w59:=w1.trans (w2.trans (w3.trans w4));have s9:=s5.trans w59;have at9:Al (sJ H9) [V.ref b] [(En.door k,([]:aw Dd))]:=.cons ⟨b,q1,V.ref q2,rfl,w4 _ _ j3,w4 _ _ (w3 _ _ (w2 _ _ j1)),q2,[],rfl,w4 _ _ (w3 _ _ j2),.nil⟩ .nil;have f9:aH H2 H9:=v1.trans (v2.trans (v3.trans w59));refine⟨_,rfl,_,rfl,t,pf,c.rs,c.di,c.dO,bN c d st.os,rfl,h4.mono (aB.of s9),h5.mono (aB.of s9),f9 _ _ h2f,llt,by lia,fun pso G HQ uz _ qL2 hAo=>?_⟩
 have lo:G.length=(bN c d st.os).length:=by
  have:=hAo.length;rw[bT]at this;exact this
 refine⟨q4,pso,_,_,rfl,rfl,uz _ _ j4,qL2,(by rw[sizeLine_eq,lo];show 1+_<=_;lia),fun c1 hc1=>?_⟩;have z1:=zF hc1 (.lst ([V.ref b]++G));have k1:upd HQ c1 (.lst ([V.ref b]++G)) c1=some (.lst ([V.ref b]++G)):=zC;generalize upd HQ c1 (.lst ([V.ref b]++G))=Kd at z1 k1 ⊢;have f11:aH H5 Kd:=w59.trans (uz.trans z1);refine⟨_,rfl,c1,pth,_,_,rfl,rfl,k1,f11 _ _ i3,(by rw[sizeLine_eq,j8,lo];show 1+_+1<=_;lia),fun c2 hc2=>?_⟩;have z2:=zF hc2 (.lst ([V.ref b]++G++[V.ref B]));have k2:upd Kd c2 (.lst ([V.ref b]++G++[V.ref B])) c2=some (.lst ([V.ref b]++G++[V.ref B])):=zC;generalize upd Kd c2 (.lst ([V.ref b]++G++[V.ref B]))=K5 at z2 k2 ⊢;have D:=s9.trans (uz.trans (z1.trans z2));have f12:aH H2 K5:=f9.trans (uz.trans (z1.trans z2));refine⟨_,rfl,_,rfl,t,pe,c.rs,c.di,c.dO,M,rfl,h4.mono (aB.of D),h5.mono (aB.of D),f12 _ _ h2e,mlt,by lia,fun oU Y9 H13 U _ qCS Gs=>?_⟩
 have li:Y9.length=M.length:=by
  have:=Gs.length;rw[bT]at this;exact this
 refine⟨c2,oU,_,_,rfl,rfl,U _ _ k2,qCS,(by rw[sizeLine_eq,j8,j8,lo,li];show 1+_+1+_<=_;lia),fun c3 hc3=>?_⟩;have z3:=zF hc3 (.lst ([V.ref b]++G++[V.ref B]++Y9));have k3:upd H13 c3 (.lst ([V.ref b]++G++[V.ref B]++Y9)) c3=some (.lst ([V.ref b]++G++[V.ref B]++Y9)):=zC;generalize upd H13 c3 (.lst ([V.ref b]++G++[V.ref B]++Y9))=J at z3 k3 ⊢;have Sg:=D.trans (U.trans z3);have Y:aH H2 J:=f12.trans (U.trans z3)
 have qLV:Al (sJ J) ([V.ref b]++G++[V.ref B]++Y9) (jB c k d st.os M):=by
  have a1:Al (sJ J) [V.ref b] [(En.door k,([]:aw Dd))]:=at9.mono fun _ _ z=>z.mono (aB.of (uz.trans (z1.trans (z2.trans (U.trans z3)))));have a2:Al (sJ J) G ((bN c d st.os).map fun r=>(En.out r,c.dO r)):=hAo.mono fun _ _ z=>z.mono (aB.of (z1.trans (z2.trans (U.trans z3))));have a3:Al (sJ J) [V.ref B] [(En.thr k,d.dd)]:=at5.mono fun _ _ z=>z.mono (aB.of (f11.trans (z2.trans (U.trans z3))));have a4:Al (sJ J) Y9 (M.map fun r=>(En.inn r,c.di r)):=Gs.mono fun _ _ z=>z.mono (aB.of z3);exact Al.app (Al.app (Al.app a1 a2) a3) a4
 refine⟨_,rfl,_,rfl,aG (aJ.of (Sg _ _ e1)) rfl ⟨_,rfl,pc,pb,_,_,_,_,_,_,bv,c.sz,rfl,Sg _ _ h1,Sg _ _ h2,h3.mono (fun _ _ z=>z.mono (aB.of Sg)),(by have:=ok.b6;lia),fun tz H15 Z htz=>?_⟩⟩;have QR:=Sg.trans Z;have qGN:=LL.same hL QR
 have nc3:c3∉fp:=fun z=>by
  have e0:=(D.trans U).free hc3;exact LL.new hL e0 z
 have lens:(jB c k d st.os M).length<=110:=by
  unfold jB;rw[j8,j8,j8,bT,bT];show 1+_+1+_<=110;lia
 have oks:∀ s∈jB c k d st.os M,(∀ d∈s.2,d.ok st.bx.length)/\s.2.length<=8:=fun s e=>by
  rw[S.bx];unfold jB at e;rcases jz.mp e with e | e
  .rcases jz.mp e with e | e
   .rcases jz.mp e with e | e
    .rw[jA.mp e];exact⟨(fun d hd=>by cases hd),bo _⟩
    .apply aW;intro _ g_;obtain⟨r,_,rfl⟩:=eX.mp e;apply g_;clear g_;exact ok.outs r
   .rw[jA.mp e];exact od.2.2
  .apply aW;intro _ g_;obtain⟨r,_,rfl⟩:=eX.mp e;apply g_;clear g_;exact ok.ins r
 refine⟨_,rfl,c3,Oe,tz,p,_,_,st.bx,c.sz,st.l,fp,c.lb,rfl,Z _ _ k3,nc3,qLV.mono (fun _ _ z=>z.mono (aB.of Z)),QR _ _ e3,htz,qGN,oks,lens,S.bx,(by rw[S.bx];exact ok.b6),ok.pos,S.l,ok.Ss,fun _ X pr rv fp' I qLO YF htt htb hpr R7 qC9 hes=>?_⟩;have k16:aB H15 I:=bc.keep YF qGN;have stA:bc H I fp fp':=bc.trans (bc.same fp QR) YF;have kA:aB H I:=bc.keep stA hL;have qK9:I pf=some (.lst (aC (bN c d st.os))):=YF.rest _ _ (Z _ _ (Y _ _ h2f)) (LL.new hL npf);have qKA:I pe=some (.lst (aC M)):=YF.rest _ _ (Z _ _ (Y _ _ h2e)) (LL.new hL npe);have qK8:I L=some (.tup Ho):=k16 _ _ (Z _ _ (Y _ _ h2k));have qKT:=qLF.mono (aB.trans (aB.of (Y.trans Z)) k16);refine⟨_,rfl,po,rfl,⟨_,aJ.of (kA _ _ e2)⟩,?_⟩;refine ig (K:=K) (a:=po) (xs:=aC st.os) (fun i acc H'=>H'=I/\acc=aC ((st.os.take i).filter fun o => !inV (.int (o:Int)) (aC (bN c d st.os)))) ⟨rfl,rfl⟩ (fun i acc H' z=>by rw[z.1];exact aJ.of (kA _ _ e2)) ?_ ?_
 .rintro i x acc H' hx ⟨rfl,rfl⟩;obtain⟨hi,rfl⟩:=yS hx;have hk:=fQ hi;generalize st.os[i]=o at hk;refine⟨_,rfl,_,rfl,xR rfl (.inl (aU.of qK9)) ⟨rfl,Eb _,_,rfl,fO (fun z=>?_) (fun z=>?_)⟩⟩
  .refine⟨_,rfl,?_,rfl,?_⟩
   .rw[zV,sizeLine_eq];have:=vD (fun o:Nat => !inV (.int (o:Int)) (aC (bN c d st.os))) (st.os.take i);rw[iQ]at this;have:=S.Oi;lia
   .have z2:(!inV (.int (o:Int)) (aC (bN c d st.os)))=true:=z;rw[iZ hk,cS z2];unfold aC;rw[qz];rfl
  .refine⟨rfl,?_⟩;have z2:(!inV (.int (o:Int)) (aC (bN c d st.os)))=false:=z
   have z':¬ (!inV (.int (o:Int)) (aC (bN c d st.os)))=true:=fun y=>by
    rw[z2]at y
    cases y
   rw[iZ hk,cK z',oY]
 rintro acc H17 ⟨rfl,qIG⟩ kI Jm
 have ea:(st.os.take (aC st.os).length).filter (fun o:Nat => !inV (.int (o:Int)) (aC (bN c d st.os)))=dJ c d st.os:=by
  rw[zV,DX (bD _)];rfl
 rw[ea]at qIG;subst qIG;have u17:=zF Jm (.lst (aC (dJ c d st.os)));have h17:upd H17 kI (.lst (aC (dJ c d st.os))) kI=some (.lst (aC (dJ c d st.os))):=zC;generalize upd H17 kI (.lst (aC (dJ c d st.os)))=H18 at u17 h17 ⊢;rw[j8]at l40;refine⟨_,rfl,_,rfl,kI,pe,_,_,rfl,rfl,h17,u17 _ _ qKA,(by rw[zV,zV,sizeLine_eq];lia),fun Yn qG9=>?_⟩;have u18:=zF qG9 (.lst (aC (dJ c d st.os)++aC M))
 have h18:upd H18 Yn (.lst (aC (dJ c d st.os)++aC M)) Yn=some (.lst ((dJ c d st.os++M).map fun j:Nat=>V.int (j:Int))):=by
  rw[zC];unfold aC;rw[qz]
 generalize upd H18 Yn (.lst (aC (dJ c d st.os)++aC M))=H19 at u18 h18 ⊢;refine⟨Yn,(dJ c d st.os++M).map fun j:Nat=>(j:Int),rfl,.inl (aU.of (by rw[h18,cj])),(by rw[bT,j8];lia),fun psr _ qL1 perm TY=>?_⟩;apply aW;intro _ g_;obtain⟨O,rfl,rise,hpm⟩:=pA perm TY nd;apply g_;clear g_;have u19:=zF qL1 (.lst ((O.map fun j:Nat=>(j:Int)).map V.int));have h19:upd H19 psr (.lst ((O.map fun j:Nat=>(j:Int)).map V.int)) psr=some (.lst ((O.map fun j:Nat=>(j:Int)).map V.int)):=zC;generalize upd H19 psr (.lst ((O.map fun j:Nat=>(j:Int)).map V.int))=H20 at u19 h19 ⊢;refine⟨psr,_,rfl,.inl ⟨aU.of h19,fun JF qCR=>?_⟩⟩;have u20:=zF qCR (.tup ((O.map fun j:Nat=>(j:Int)).map V.int))
 have h20:upd H20 JF (.tup ((O.map fun j:Nat=>(j:Int)).map V.int)) JF=some (.tup (aC O)):=by
  rw[zC,<-cj];rfl
 generalize upd H20 JF (.tup ((O.map fun j:Nat=>(j:Int)).map V.int))=H21 at u20 h20 ⊢;have r21:aH H17 H21:=u17.trans (u18.trans (u19.trans u20));refine⟨_,rfl,aG (aJ.of (r21 _ _ htt)) rfl ⟨_,rfl,zJ (by show 3<=1000;decide),fun T qL0=>?_⟩⟩;have u21:=zF qL0 (.tup [V.ref JF,V.ref X,V.ref L]);have h21:upd H21 T (.tup [V.ref JF,V.ref X,V.ref L]) T=some (.tup [V.ref JF,V.ref X,V.ref L]):=zC;generalize upd H21 T (.tup [V.ref JF,V.ref X,V.ref L])=H22 at u21 h21 ⊢;have r22:=r21.trans u21;refine⟨_,rfl,aG (aJ.of (r22 _ _ htt)) rfl ⟨zJ (by show 2<=1000;decide),fun pot qL3=>?_⟩⟩;have u22:=zF qL3 (.tup [V.ref T,V.ref pr]);have R:=r22.trans u22
 have ksl:(pU c d st.os st.ks).length=c.rs.length:=by
  unfold pU
  split
  .exact S.ks
  .rw[uT];exact S.ks
 have les:=zj (sz:=c.sz) (m:=c.lb) (bx:=st.bx) (l:=st.l) fun y hy=>(oks y hy).2;have ko:=hpm.length_eq;rw[j8]at ko;refine q pot T pr rv ⟨O,(cz c.sz c.lb (jB c k d st.os M) st.bx st.l).1,pU c d st.os st.ks,(cz c.sz c.lb (jB c k d st.os M) st.bx st.l).2.1⟩ (cz c.sz c.lb (jB c k d st.os M) st.bx st.l).2.2 fp' _ ⟨d,M,hd,hms,hpm,rise,rfl,rfl⟩ (LL.same qLO R) (bc.trans stA (bc.same fp' R)) zC
  ⟨JF,X,L,Ho,u22 _ _ h21,(u21.trans u22) _ _ h20,R _ _ htb,R _ _ qK8,qKT.mono (aB.of R)⟩ ⟨rise,fun o ho=>?_,by show O.length<=40;lia,by show (cz _ _ _ _ _).1.length=_;rw[zm];exact S.bx,ksl,Fd S.l⟩ (R _ _ hpr) (QR.free R7) qC9 (hes.mono fun _ _ z=>z.mono (aB.of R)) (by lia)
 rcases jz.mp (hpm.mem_iff.mp ho) with z | z
 .exact S.lt o (lO.mp z).1
 .exact mlt o z
end
end Ru
namespace Ru
open PySem L2 jP lN vB Q3 xM dC
open DQ (Al Dg qA5 ph uV jt eG inter)
def Dx.dg(d:Dx):Dg:=⟨(d.room:Int),d.ev,d.g⟩
def Rn(c:mZ)(s:S4)(i:Int):aw Nat:=ph (uV c.od) (aD c.rs) s.os s.bx (c.ds.map Dx.dg) i
theorem WM(o bx:aw Int)(r i:Int):∀ D b k,DQ.fst o bx r i D b=some k->k<b+D.length
 | [],b,k,h=>by cases h
 | d::D,b,k,h=>by
  have h:(if DQ.hit o bx r i d=true then some b else DQ.fst o bx r i D (b+1))=some k:=h;rw[dG]
  split at h
  .have:=kJ h;lia
  .have:=WM o bx r i D (b+1) k h;lia
def qD7(h:k∈Rn c s ev):k<c.ds.length:=by
 unfold Rn ph at h;obtain⟨r,g,rfl⟩:=eX.mp h;have a:=(lO.mp (lO.mp g).1).2;obtain⟨k,H⟩:=jv.mp a;rw[H];show k<_;unfold eG at H
 split at H
 .have:=WM _ _ _ _ _ _ _ H;rw[bT]at this;lia
 .cases H
def Zi(c:mZ)(s:S4)(i:Int):(Rn c s i).length<=s.os.length:=by unfold Rn ph jt;rw[bT];exact br (vD _ _) (vD _ _)
structure JOk(c:mZ)(J:List Nat->List (List Nat)->Prop):Prop where
 may:∀ os ks,J os ks->∀ d∈c.ds,Q0 c d os ks
 pass:∀ k s es s',J s.os s.ks->K4 c k s es s'->J s'.os s'.ks
inductive lK(c:mZ)(s:S4):List Nat->List Nat->List En->S4->Prop where
 | nil:lK c s [] [] [] s
 | skip {ks lf:List Nat} {es:List En} {s1:S4} {k:Nat} {d:Dx}:lK c s ks lf es s1->c.ds[k]? = some d->inV (.int (d.room:Int)) (aC lf)=true->lK c s (ks++[k]) lf es s1
 | go {ks lf:List Nat} {es e1:List En} {s1 s2:S4} {k:Nat} {d:Dx}:lK c s ks lf es s1->c.ds[k]? = some d->inV (.int (d.room:Int)) (aC lf)=false->K4 c k s1 e1 s2->lK c s (ks++[k]) (lf++outs e1) (es++e1) s2
def K3(c:mZ)(i:Int)(s:S4)(e:aw En)(s':S4):Prop:=∃ l E,lK c s (Rn c s i) l E s'/\e = .take i::E
structure All(c:mZ)(J:List Nat->List (List Nat)->Prop)(n:Nat):Prop where
 ok:DP c
 j:JOk c J
 g:∀ d∈c.ds,d.g.ok c.sz.length/\d.g.ht<=n
inductive Ks(C:Addr)(n:Nat)(vs:List V)(H:Hp)(Q:VK)(E_:XK):Prop
 | mk (pc ps p c ev s fp J) (_:vs=[.ref pc,.ref ps,.int ev,.ref p]) (_:jJ H pc c) (_:All c J n) (_:cR H ps s) (_:jG c s) (_:J s.os s.ks) (_:LL C H p fp c.lb s.l) (_:∀ t ps' pr rv s' es fp' H',K3 c ev s es s'->J s'.os s'.ks->LL C H' p fp' c.lb s'.l->bc H H' fp fp'->H' t=some (.tup [.ref ps',.ref pr])->cR H' ps' s'->jG c s'->H' pr=some (.lst rv)->H pr=none->pr∉fp'->Al (iz H') rv es->es.length<=40001->Q (.ref t) H')
theorem dgs(x:Al (Cz H) dv ds):Al (qA5 H) dv (ds.map Dx.dg):=by
 induction x with
 | nil=>exact .nil
 | cons h _ i=>
  obtain⟨a,gv,_,b,l,p,_⟩:=h;exact .cons ⟨a,gv,_,_,_,b,l,p⟩ i
def Yq(e:aw En):(outs e).length<=e.length:=List.length_filterMap_le _ _
def nA:aF ["chart","stand","event","letters","now","record","left","door","told"] ["chart","stand","event","letters"] (aA Fp):=cQ
def Yt(F:bO K "turn" "turn" Fp f fd)
  (Xk:Dp P w K mg base aN m g1 d1 ["chart","stand","event"] (DQ.Im n) "chosen")
  (Xi:Dp P w K mg base aN m g2 d2 ["chart","stand","door","letters"] (IV C) "passed")
  (HW:Dp P w K mg base aN m g3 d3 ["record"] Tf "rooms_left") :
  aL P w K mg base aN (m+1) f fd ["chart","stand","event","letters"] (Ks C n):=by
 refine F.ok nA ?_ ?_
 .rintro _ _ _ _⟨pc,ps,p,c,e,s,fp,J,rfl,_⟩;rfl
 intro _ A _ s H _ Q E hr h
 apply aW;intro _ g_;obtain⟨pc,ps,p,c,e,st,fp,J,rfl,hC,Z,hS,so,js,hL,q⟩:=h;apply g_;clear g_
 refine⟨_,(zE (zL (i:=4) nA.nd rfl (bb rfl) (pv 1))
  (zE (zL (i:=5) nA.nd rfl (bb rfl) (yL (zA (zX (zA zQ (zA (pv 2) zD))) zD)))
  (zE (zL (i:=6) nA.nd rfl (bb rfl) (yL zD))
  (yA (bf PassesOwn.never rfl (yN (pC Xk hr (zA (pv 0) (zA (pv 1) (zA (pv 2) zD))))) (yK (i:=7) nA.nd rfl (bb rfl))
  (zG (yE (zM dq (yC zH (yC zH (yC zH (pv 0) zB (fun _ _=>rfl)) (pv 7) (fun _ _=>rfl)) zB (fun _ _=>rfl)) (pv 6) rfl)
  (zE (zL (i:=8) nA.nd rfl (bb rfl) (pC Xi hr (zA (pv 0) (zA (pv 4) (zA (pv 7) (zA (pv 3) zD))))))
  (zE (zL (i:=4) nA.nd rfl (bb rfl) (yC zH (pv 8) zB (fun _ _=>rfl)))
  (zE (yJ (dU iu kz kC cG (pv 5) (zA (yC zH (pv 8) zB (fun _ _=>rfl)) zD)))
  (zG (yJ (dU iu kz kC cG (pv 6) (zA (pC HW hr (zA (yC zH (pv 8) zB (fun _ _=>rfl)) zD)) zD)))))))
  zU)))
  (zG (zP (zX (zA (pv 4) (zA (pv 5) zD))))))))),?_⟩
 refine⟨_,rfl,_,rfl,zJ (by show 2<=1000;decide),fun U hp1=>⟨zJ (by show 1<=1000;decide),fun r hpr=>?_⟩⟩;have u1:=zF hp1 (.tup [V.str ("take" : Str),V.int e]);have i1:upd H U (.tup [V.str ("take" : Str),V.int e]) U=some (.tup (En.take e).row):=zC;generalize upd H U (.tup [V.str ("take" : Str),V.int e])=H1 at u1 i1 hpr ⊢;have R7:H r=none:=u1.free hpr;have u2:=zF hpr (.lst [V.ref U]);have i2:upd H1 r (.lst [V.ref U]) r=some (.lst [V.ref U]):=zC;generalize upd H1 r (.lst [V.ref U])=H2 at u2 i2 ⊢;refine⟨bo _,fun pl hpl=>?_⟩;have npl:H pl=none:=(u1.trans u2).free hpl;have qF5:r≠pl:=zN i2 hpl;have u3:=zF hpl (.lst []);have i3:upd H2 pl (.lst []) pl=some (.lst (aC [])):=zC;generalize upd H2 pl (.lst [])=H3 at u3 i3 ⊢;have Y:=u1.trans (u2.trans u3);apply aW;intro _ g_;obtain⟨_,t,pd,_,_,dv,h1,_,_,h4,_,h6,h7⟩:=id hC;obtain⟨po,Oe,_,_,e1,e2,e3,_,_⟩:=id hS;apply g_;clear g_;refine⟨fun σ' g => ∃ o b R l j S o7 X,σ'=[some (.ref pc),some (.ref ps),some (.int e),some (.ref p),some (.ref o),some (.ref r),some (.ref pl),o7,X]/\bc H g fp b/\LL C g p b c.lb S.l/\cR g o S/\jG c S/\J S.os S.ks/\lK c st (Rn c st e) l j S/\g r=some (.lst R)/\r∉b/\Al (iz g) R (.take e::j)/\j.length<=40000,?_,?_⟩
 .refine⟨_,rfl,_,rfl,_,rfl,pc,ps,t,pd,po,Oe,c.od,st.os,st.bx,c.rs,c.ds.map Dx.dg,dv,_,_,_,_,_,e,rfl,Y _ _ h1,h4.mono (aB.of Y),Z.ok.good,Z.ok.r40,Y _ _ h6,dgs (h7.mono fun _ _ z=>z.mono (aB.of Y)),Y _ _ e1,Y _ _ e2,so.lt,so.inc,Y _ _ e3,fun d hd=>?_,(by rw[bT];exact Z.ok.d63),fun pq _ s4 N hpq=>?_⟩
  .apply aW;intro _ g_;obtain⟨x,hx,rfl⟩:=eX.mp hd;apply g_;clear g_;have:=Z.g x hx;rw[so.bx];exact this
  have L:=Y.trans s4;have qKH:=LL.new hL (Y.free N);have lch:=Zi c st e;have Oi:=so.Oi;refine⟨pq,rfl,⟨_,aU.of hpq⟩,?_⟩;refine pX (fun i σ' g => ∃ o b R l j S o7 X,σ'=[some (.ref pc),some (.ref ps),some (.int e),some (.ref p),some (.ref o),some (.ref r),some (.ref pl),o7,X]/\bc H g fp b/\g pq=some (.lst (aC (Rn c st e)))/\pq∉b/\LL C g p b c.lb S.l/\cR g o S/\jG c S/\J S.os S.ks/\lK c st ((Rn c st e).take i) l j S/\g r=some (.lst R)/\r∉b/\Al (iz g) R (.take e::j)/\j.length<=1000*i/\g pl=some (.lst (aC l))/\pl∉b/\l.length<=1000*i)
   ⟨ps,fp,_,[],[],st,_,_,rfl,bc.same fp L,hpq,qKH,LL.same hL L,hS.mono (aB.of L),so,js,.nil,s4 _ _ (u3 _ _ i2),LL.new hL R7,.cons ⟨U,rfl,s4 _ _ (u3 _ _ (u2 _ _ i1))⟩ .nil,bD _,s4 _ _ i3,LL.new hL npl,bD _⟩ (fun i σ' g _ ⟨_,_,_,_,_,_,_,_,_,_,z,_⟩=>aU.of z) ?_ ?_
  .rintro i x σ' g hx bR;apply aW;intro _ g_;obtain⟨o,b,R,l,j,S,o7,X,rfl,Xo,hqi,nqi,M,O,Hl,ji,DR,Kc,R6,Gs,lei,I,nli,_⟩:=bR;obtain⟨hi,rfl⟩:=yS hx;apply g_;clear g_;have hk:=fQ hi;have hkl:=qD7 (lQ hi)
   have Mr:(Rn c st e).take (i+1)=(Rn c st e).take i++[(Rn c st e)[i]]:=by
    rw[mq,hk];rfl
   generalize (Rn c st e)[i]=k at Mr hkl;have hd:=fQ hkl;have hdm:=lQ hkl;generalize c.ds[k]=d at hd hdm;have kt:=bc.keep Xo hL;apply aW;intro _ g_;obtain⟨v,hv,a,_,_,rfl,y1,_,_⟩:=h7.get hd;apply g_;clear g_;refine⟨_,rfl,aG (aJ.of (kt _ _ h1)) rfl ⟨_,rfl,aG (aJ.of (kt _ _ h6)) (yR hv) (aG (aJ.of (kt _ _ y1)) rfl ⟨_,rfl,xR rfl (.inl (aU.of I)) ⟨rfl,Eb _,_,rfl,fO (fun z=>?_) (fun z=>?_)⟩⟩)⟩⟩
   .have z2:inV (.int (d.room:Int)) (aC l)=false:=by
     have:(!inV (.int (d.room:Int)) (aC l))=true:=z
     simpa using this
    refine⟨_,rfl,_,rfl,_,rfl,_,rfl,pc,o,p,c,k,_,S,b,d,rfl,rfl,hC.mono kt,Z.ok,O,Hl,hd,Z.j.may _ _ ji d hdm,M,fun tt ps2 Sh D s2 u CW H5 PR hL5 KY G hS5 so5 qG6 M3 _ W4 le2=>?_⟩;have k5:=bc.keep KY M;have B:=bc.apart KY Kc R6;have hl5:=bc.apart KY I nli;have hq5:=bc.apart KY hqi nqi;have qJZ:=bc.trans Xo KY
    have qKL:Sh≠r:=fun z=>by rw[z,Kc]at M3;cases M3
    have nell:Sh≠pl:=fun z=>by rw[z,I]at M3;cases M3
    have qKM:pq≠r:=fun z=>by
     have a1:=L r;rw[<-z]at R7;have:=Y.free N
     exact eu (s4 _ _ (u3 _ _ i2)) (by
      rw[<-z];intro y;have n3:=N;rw[z,u3 _ _ i2]at n3
      cases n3)
    have qKN:pq≠pl:=fun z=>by
     have n3:=N;rw[z,i3]at n3
     cases n3
    have lA:=Gs.length;have lA2:=W4.length;rw[dG]at lA;refine⟨_,rfl,aG (aJ.of G) rfl ?_⟩;refine⟨_,rfl,.inl ⟨rfl,_,aU.of B.1⟩,_,rfl,aG (aJ.of G) rfl ⟨r,Sh,_,_,rfl,rfl,B.1,qG6,(by rw[sizeLine_eq];lia),?_⟩⟩;have k6:=aB.lst B.1 (.lst (R++D));have st6:bc H (upd H5 r (.lst (R++D))) fp CW:=bc.upd qJZ R7 _;have hL6:=LL.upd hL5 B.2 (.lst (R++D));have r6:upd H5 r (.lst (R++D)) r=some (.lst (R++D)):=zC
    have r6b:upd H5 r (.lst (R++D)) Sh=some (.lst D):=by
     rw[zR qKL];exact qG6
    have T:upd H5 r (.lst (R++D)) pl=some (.lst (aC l)):=by
     rw[zR qF5.symm];exact hl5.1
    have r6q:upd H5 r (.lst (R++D)) pq=some (.lst (aC (Rn c st e))):=by
     rw[zR qKM];exact hq5.1
    generalize upd H5 r (.lst (R++D))=H6 at k6 st6 hL6 r6 r6b T r6q ⊢;refine⟨_,rfl,.inl ⟨rfl,_,aU.of T⟩,_,rfl,aG (aJ.of (k6 _ _ G)) rfl ⟨Sh,D,u,rfl,r6b,W4.mono (fun _ _ z=>z.mono k6),le2,fun po7 _ W _ qL4=>?_⟩⟩;have lo:=Yq u;refine⟨pl,po7,_,_,rfl,rfl,W _ _ T,qL4,(by rw[zV,zV,sizeLine_eq];lia),?_⟩;have k8:=aB.lst (W _ _ T) (.lst (aC l++aC (outs u)));have Jj:=k6.trans ((aB.of W).trans k8);refine⟨ps2,CW,R++D,l++outs u,j++u,s2,_,_,rfl,bc.upd (bc.trans st6 (bc.same CW W)) npl _,?_,hq5.2,LL.upd (LL.same hL6 W) hl5.2 _,hS5.mono Jj,so5,Z.j.pass k S u s2 ji PR,?_,?_,B.2,Al.app (Gs.mono fun _ _ z=>z.mono (k5.trans Jj)) (W4.mono fun _ _ z=>z.mono Jj),by rw[j8];lia,?_,hl5.2,by rw[j8];lia⟩
    .rw[zR qKN];exact W _ _ r6q
    .rw[Mr];exact .go DR hd z2 PR
    .rw[zR qF5];exact W _ _ r6
    .rw[zC];unfold aC;rw[qz]
   .have z2:inV (.int (d.room:Int)) (aC l)=true:=by
     have:(!inV (.int (d.room:Int)) (aC l))=false:=z
     simpa using this
    refine⟨o,b,R,l,j,S,_,_,rfl,Xo,hqi,nqi,M,O,Hl,ji,?_,Kc,R6,Gs,by lia,I,nli,by lia⟩;rw[Mr];exact .skip DR hd z2
  .rintro σ' g bR;apply aW;intro _ g_;obtain⟨o,b,R,l,j,S,o7,X,z1,z2,_,_,z3,z4,z5,z6,z7,z8,z9,z10,z11,_⟩:=bR;apply g_;clear g_;rw[zV]at z7 z11;rw[ib]at z7;exact⟨o,b,R,l,j,S,o7,X,z1,z2,z3,z4,z5,z6,z7,z8,z9,z10,by lia⟩
 rintro σ' g bR;apply aW;intro _ g_;obtain⟨o,b,R,l,j,S,o7,X,rfl,Xo,M,O,Hl,ji,DR,Kc,R6,Gs,lei⟩:=bR;apply g_;clear g_;refine⟨_,rfl,_,rfl,zJ (by show 2<=1000;decide),fun tt G=>?_⟩;have u9:=zF G (.tup [V.ref o,V.ref r]);exact q tt o r R S _ b _ ⟨l,j,DR,rfl⟩ ji (LL.same M u9) (bc.trans Xo (bc.same b u9)) zC (O.mono (aB.of u9)) Hl (u9 _ _ Kc) R7 R6 (Gs.mono fun _ _ z=>z.mono (aB.of u9)) (by rw[dG];lia)
end Ru
namespace Ru
open PySem L2 jP lN vB Q3 xM dC
open DQ (Al)
structure Jw(c:mZ)(os:List Nat)(ks:List (List Nat)):Prop where
 inc:os.Pairwise (· < ·)
 lt:∀ o∈os,o<c.rs.length
 len:ks.length=c.rs.length
 row:∀ r∈ks,(∀ g∈r,g<c.rs.length)/\r.length<=40
def RP{R:aw Rm}{os:aw Nat}{r g:Nat}(h:g∈mO R os r):g∈os:=by
 unfold mO gK at h
 split at h
 .exact (lO.mp (gX h)).1
 .exact (lO.mp (lO.mp h).1).1
def RQ(R:aw Rm)(os:aw Nat)(r:Nat):(mO R os r).length<=os.length:=by
 unfold mO gK;have:=vD (fun o=>Tr.bL (aD R) o r) os
 split
 .rw[iQ];lia
 .exact br (vD _ _) this
theorem Jg{R:aw Rm}{os:aw Nat}:∀ l s r,r∈bI R os l s->r∈s ∨ ∃ x,r=mO R os x
 | [],s,r,h=>.inl h
 | x::l,s,r,h=>by
  have h:r∈bI R os l (if dB R x=("" : Str) then s else s.set x (mO R os x)):=h;rcases Jg l _ r h with h | h
  .split at h
   .exact .inl h
   .rcases List.mem_or_eq_of_mem_set h with h | h
    .exact .inl h
    .exact .inr ⟨x,h⟩
  .exact .inr h
section
variable{c:mZ}{os:aw Nat}{ks:aw (aw Nat)}
def Jw.qKC(j:Jw c os ks)(ok:DP c):os.length<=40:=br (Tr.pO _ _ (Tr.iC j.inc) j.lt) ok.r40
def Jw.kept(j:Jw c os ks)(ok:DP c)(d:Dx):(pU c d os ks).length=c.rs.length/\∀ r∈pU c d os ks,(∀ g∈r,g<c.rs.length)/\r.length<=40:=by
 unfold pU
 split
 .exact⟨j.len,j.row⟩
 .refine⟨by rw[uT];exact j.len,fun r H=>?_⟩;rcases Jg _ _ r H with h | ⟨x,rfl⟩
  .exact j.row r h
  .exact⟨fun g a=>j.lt g (RP a),br (RQ _ _ _) (j.qKC ok)⟩
theorem WK(w:Wy)(ks:aw (aw Nat))(H:w.gl<n)(k:∀ r∈ks,(∀ g∈r,g<n)/\r.length<=40):(∀ g∈km w ks,g<n)/\(km w ks).length<=100:=by
 cases w with
 | to g=>exact⟨fun x h=>by rw[jA.mp h];exact H,by show 1<=100;decide⟩
 | stay=>exact⟨(fun x h=>by cases h),by show 0<=100;decide⟩
 | back g=>
  show (∀ x∈(if ks.getD g []=[] then [g] else ks.getD g []),x<n)/\(if ks.getD g []=[] then [g] else ks.getD g []).length<=100
  split
  .exact⟨fun x h=>by rw[jA.mp h];exact H,by show 1<=100;decide⟩
  .rename_i z
   by_cases q:g<ks.length
   .have e:ks.getD g []=ks[g]:=by rw[jT,fQ q];rfl
    have:=k _ (lQ q);rw[e];exact⟨this.1,by lia⟩
   .exact eu (by rw[jT,fN (by lia)];rfl) z
def zg(h:k∈dJ c d os):k∈os/\k∉bN c d os:=by unfold dJ at h;obtain⟨H,l⟩:=lO.mp h;rw[Q4.ZG]at l;exact⟨H,by simpa using l⟩
theorem RW(h:wI c d ks ms)(b:k∈dJ c d os):k∉ms:=by
 intro H;obtain⟨a,l⟩:=zg b;unfold wI at h
 split at h
 .rw[h]at H
  cases H
 .rename_i z
  refine l ?_;unfold bN;rw[cK z];unfold Q4.nT;rw[hU,lO];refine⟨a,?_⟩;have:=((h.2 k).mp H).under
  cases hh:rY c d with
  | none=>rfl
  | some u=>
   rw[hh]at this;exact this
def Vs(h:wI c d ks ms):ms.Pairwise (· < ·):=by
 unfold wI at h
 split at h
 .rw[h];exact .nil
 .exact h.1
def Vt(ok:DP c)(h:wI c d ks ms):∀ k∈ms,k<c.rs.length:=by
 intro k H;unfold wI at h
 split at h
 .rw[h]at H
  cases H
 .have:=((h.2 k).mp H).lt (by have:=ok.good.pos;lia);rw[yW]at this;exact this
def ZD(H:wI c d ks a)(l:wI c d ks b):a=b:=by
 unfold wI at H l
 split at H
 .rename_i z
  rw[cS z]at l;rw[H,l]
 .rename_i z
  rw[cK z]at l;exact H.unique l
def wide(ok:DP c):JOk c (Jw c) where
 may:=fun os _ j d hd=>by
  have J:=j.kept ok d;have g:=WK d.way _ (ok.door d hd).2.1 J.2;refine⟨g.1,g.2,fun q H=>?_⟩;have M:=Vt ok H;have S:∀ k∈dJ c d os,k<c.rs.length:=fun k f=>j.lt k (zg f).1;have n:=List.nodup_append.mpr ⟨Tr.iC (j.inc.filter _),Tr.iC (Vs H),fun a i b p e=>RW H i (by rw[e];exact p)⟩;refine⟨n,br (Tr.pO _ _ n fun k f=>?_) ok.r40,M⟩;rcases jz.mp f with h | h
  .exact S k h
  .exact M k h
 pass:=fun k s _ _ j ⟨d,q,hd,H,m,l,E,_⟩=>by
  have J:=j.kept ok d;refine⟨l,fun o r=>?_,by rw[E];exact J.1,by rw[E];exact J.2⟩;rcases jz.mp (m.mem_iff.mp r) with h | h
  .exact j.lt o (zg h).1
  .exact Vt ok H o h
def Ui(H:K4 c k s e1 s1)(l:K4 c k s e2 s2):e1=e2/\s1=s2:=by
 obtain⟨d,_,hd,m,p,r,U,f⟩:=H;obtain⟨d',_,a,h,P,R,b,q⟩:=l;obtain rfl:d=d':=kJ (hd.symm.trans a);obtain rfl:=ZD m h
 have M:=iU _ _ r R fun k=>by rw[p.mem_iff,P.mem_iff]
 have e:=f.trans q.symm;obtain⟨_,_,_,_⟩:=s1;obtain⟨_,_,_,_⟩:=s2
 cases U
 cases b
 cases M
 cases e
 exact⟨rfl,rfl⟩
theorem Rg{ks L:aw Nat}{m:aw En}{n:S4}(x:lK c s ks L m n):∀ {b l:aw Nat} {E:aw En} {S:S4},lK c s b l E S->ks=b->L=l/\m=E/\n=S:=by
 induction x with
 | nil=>
  intro b l E S H e
  cases H with
  | nil=>exact⟨rfl,rfl,rfl⟩
  | skip h hd j=>exact absurd e.symm (by simp)
  | go h hd j v=>exact absurd e.symm (by simp)
 | @skip ks L m n k d h hd j i=>
  intro b l E S H e
  cases H with
  | nil=>exact absurd e (by simp)
  | @skip g _ _ _ p D h' a o=>
   obtain⟨f,J⟩:=fm e rfl;exact i h' f
  | @go g q r w t Y p D h' a o u=>
   obtain⟨f,J⟩:=fm e rfl;obtain⟨rfl,rfl,rfl⟩:=i h' f
   cases J
   obtain rfl:=kJ (hd.symm.trans a);rw[j]at o
   cases o
 | @go ks L m y n t k d h hd j v i=>
  intro b l E S H e
  cases H with
  | nil=>exact absurd e (by simp)
  | @skip g _ _ _ p D h' a o=>
   obtain⟨f,J⟩:=fm e rfl;obtain⟨rfl,rfl,rfl⟩:=i h' f
   cases J
   obtain rfl:=kJ (hd.symm.trans a);rw[j]at o
   cases o
  | @go g q r w t Y p D h' a o u=>
   obtain⟨f,J⟩:=fm e rfl;obtain⟨rfl,rfl,rfl⟩:=i h' f
   cases J
   obtain⟨rfl,rfl⟩:=Ui v u;exact⟨rfl,rfl,rfl⟩
def Hu(H:K3 c ev s e1 s1)(l:K3 c ev s e2 s2):e1=e2/\s1=s2:=by obtain⟨_,x,d,rfl⟩:=H;obtain⟨_,_,D,rfl⟩:=l;obtain⟨_,rfl,rfl⟩:=Rg d D rfl;exact⟨rfl,rfl⟩
end
structure RBn(nb:Nat)(H:Hp)(rv:List V)(rs:List Rm)(dis dos:List (List Dd)):Prop where
 inn:lB H rv rs
 l1:dis.length=rs.length
 l2:dos.length=rs.length
 dd:RmD H rs (fun k=>dis.getD k []) (fun k=>dos.getD k [])
 say:∀ k:Nat,((∀ d∈dis.getD k [],d.ok nb)/\(dis.getD k []).length<=8)/\(∀ d∈dos.getD k [],d.ok nb)/\(dos.getD k []).length<=8
end Ru
namespace mj
open PySem L2 jP lN vB xM
def Fb{zs:aw Str}{i:Int}(d:0<=i)(H:i<(zs.length:Int)):∃ z∈zs,mX (zs.map V.str) i=some (.str z):=by obtain⟨v,h,e⟩:=qG (xs:=zs.map V.str) (i:=i) d (by rw[bT];exact H);obtain⟨z,c,rfl⟩:=eX.mp h;exact⟨z,c,e⟩
def jF(H:Hp)(ps:ar)(sz:aw Int):Prop:=H ps=some (.lst (sz.map V.int))/\(∀ z∈sz,0<z)/\sz.length<=6
def Gi{d:aw Int}{k:Nat}(h:k<d.length):mX (d.map V.int) ((k:Nat):Int)=some (.int (d.getD k 0)):=by refine yR ?_;rw[dZ,fQ h,jT,fQ h];rfl
def Xx(d:aw Int):Prop:=∀ k,k<d.length->d.getD k 0<=4
def Xx.snoc(h:Xx ds)(a:v<=4):Xx (ds++[v]):=fun k H=>by
 rw[jT]
 by_cases e:k<ds.length
 .rw[zw3 e,<-jT];exact h k e
 .have:k=ds.length:=by
   rw[j8,vG]at H;lia
  subst this;rw[zw4 (bD _),iS];exact a
end mj
namespace mj
open PySem L2 jP lN vB xM DQ
open Ru (Wy Dx Cz oK)
def gV:aE Int->V
 | none=>.non
 | some j=>.int j
end mj
namespace mj
open PySem L2 jP lN vB xM DQ
open Ru (Wy Dx Cz oK mZ jJ DP RmD)
def int_at{zs:aw Int}{i:Int}(d:0<=i)(H:i<(zs.length:Int)):∃ z∈zs,mX (zs.map V.int) i=some (.int z):=by obtain⟨v,h,e⟩:=qG (xs:=zs.map V.int) (i:=i) d (by rw[bT];exact H);obtain⟨z,c,rfl⟩:=eX.mp h;exact⟨z,c,e⟩
def SQ(H:Hp)(v:V)(z:Int×Int):Prop:=∃ a nm,v = .ref a/\H a=some (.tup [.str nm,.int z.1,.int z.2])
def SQ.mono(x:SQ H v r)(k:aB H H'):SQ H' v r:=by obtain⟨a,nm,e,h⟩:=x;exact⟨a,nm,e,k _ _ h⟩
theorem qAY(x:Al (SQ H) vs bs):Al (Ru.Hk H) vs (bs.map (·.1)):=by
 induction x with
 | nil=>exact .nil
 | cons h _ i=>
  obtain⟨a,_,e,h⟩:=h;exact .cons ⟨a,_,_,e,h⟩ i
def Sy(H:Hp)(p:ar)(c:mZ)(bs:aw (Int×Int))(ne:Nat):Prop:=∃ B P t d b n R O,H p=some (.tup [.str c.od,.int (c.lb:Int),.int (c.tn:Int),.ref B,.ref P,.ref t,.ref d])/\H B=some (.tup b)/\Al (SQ H) b bs/\H P=some (.tup n)/\n.length=ne/\H t=some (.tup R)/\lB H R c.rs/\RmD H c.rs c.di c.dO/\H d=some (.tup O)/\Al (Cz H) O c.ds
def Sy.mono(x:Sy H p c bs ne)(k:aB H H'):Sy H' p c bs ne:=by obtain⟨i,P,t,d,B,n,R,O,a,l,m,j,f,e,u,g,b,h⟩:=x;exact⟨i,P,t,d,B,n,R,O,k _ _ a,k _ _ l,m.mono fun _ _ z=>z.mono k,k _ _ j,f,k _ _ e,u.mono k,g.mono k,k _ _ b,h.mono fun _ _ z=>z.mono k⟩
structure uw(c:mZ)(bs:List (Int×Int)):Prop where
 ok:DP c
 sz:c.sz=bs.map (·.1)
 st:∀ b∈bs,0<=b.2/\b.2<b.1
 fit:Fit c.rs
 low:Xx (aD c.rs)
 l10:c.rs.length<=10
 g:∀ d∈c.ds,d.g.ok c.sz.length/\d.g.ht<=3
 l5:c.lb<=5
 t4:1<=c.tn/\c.tn<=5
def Sy.ch(x:Sy H p c bs ne)(o:uw c bs):jJ H p c:=by obtain⟨e,_,t,P,B,_,R,O,a,l,f,_,_,d,u,g,b,h⟩:=x;exact⟨e,t,P,_,B,O,a,l,by rw[o.sz];exact qAY f,⟨R,d,u⟩,g,b,h⟩
end mj
namespace Ru
open PySem L2 jP lN vB Q3 xM dC
open DQ (Al)
inductive oV(c:mZ)(ie:List En)(s0:S4):Nat->List En->S4->Prop where
 | one:oV c ie s0 1 ie s0
 | more {n:Nat} {es e2:List En} {s s2:S4} {e:Int} {l:List Int}:oV c ie s0 n es s->n<c.tn->s.l=e::l->K3 c e ⟨s.os,s.bx,s.ks,l⟩ e2 s2->oV c ie s0 (n+1) (es++e2) s2
def BX(l:aw Int):aw En:=l.map fun e=>En.rc (.lost e)
inductive zr(C:Addr)(n:Nat)(vs:List V)(H:Hp)(Q:VK)(E_:XK):Prop
 | mk (pc ps pr p c s es rv fp J) (_:vs=[.ref pc,.ref ps,.ref pr,.ref p]) (_:jJ H pc c) (_:All c J n) (_:cR H ps s) (_:jG c s) (_:J s.os s.ks) (_:LL C H p fp c.lb s.l) (_:H pr=some (.lst rv)) (_:Al (iz H) rv es) (_:es.length<=40001) (_:c.tn<=20) (_:∀ t ps' pw wv n' es' s' fp' H',oV c es s n' es' s'->(c.tn<=n'∨s'.l=[])->J s'.os s'.ks->jG c s'->bc H H' fp fp'->H' t=some (.tup [.ref ps',.ref pw])->cR H' ps' s'->H' pw=some (.lst wv)->H pw=none->pw∉fp'->Al (iz H') wv (es'++BX s'.l)->wv.length<=1000000->Q (.ref t) H')
def cR.tail(x:cR H ps s)(l:aw Int):cR H ps ⟨s.os,s.bx,s.ks,l⟩:=x
def gY:aF ["chart","stand","record","letters","now","whole","turns","told"] ["chart","stand","record","letters"] (aA pG):=cQ
theorem Qj(F:bO K "rested" "rested" pG f fd)(cl:vC K C)
  (mT:Meth K C "taken" gt) (qA2:aL P w K mg base aN m gt dt ["self"] (Ng (LL C))) (Zr:Binds K dt ["self"] [])
  (mW:Meth K C "waiting" gw) (FQ:aL P w K mg base aN m gw dw ["self"] (Di (LL C))) (Ey:Binds K dw ["self"] [])
  (NB:Dp P w K mg base aN m g1 d1 ["chart","stand","event","letters"] (Ks C n) "turn")
  (aP:mg "len" = none) (fB:mg "list" = none):aL P w K mg base aN (m+1) f fd ["chart","stand","record","letters"] (zr C n):=by
 refine F.ok gY ?_ ?_
 .rintro _ _ _ _⟨pc,ps,pr,p,c,s,k,R,fp,J,rfl,_⟩;rfl
 intro _ A _ s H _ Q E hr h
 apply aW;intro _ g_;obtain⟨pc,ps,pr,p,c,st,ie,D,fp,J,rfl,hC,al,hS,so,js,hL,hpr,hA,_,_,q⟩:=h;apply g_;clear g_
 refine⟨_,(zE (zL (i:=4) gY.nd rfl (bb rfl) (pv 1))
  (zE (zL (i:=5) gY.nd rfl (bb rfl) (yB gO rfl fB kf (zA (pv 2) zD)))
  (zE (zL (i:=6) gY.nd rfl (bb rfl) zB)
  (yA (Aw PassesOwn.never (bZ (PW.pt (pw_and (zM mH (pv 6) (yC zH (pv 0) zB (fun _ _=>rfl)) (zS _)) (yQ (zM cY (zT zO rfl aP bj (zA (jg (pv 3) cl mW FQ hr Ey .nil yF) zD)) zB (zS _))))))
  (zE (zL (i:=7) gY.nd rfl (bb rfl) (pC NB hr (zA (pv 0) (zA (pv 4) (zA (jg (pv 3) cl mT qA2 hr Zr .nil yF) (zA (pv 3) zD))))))
  (zE (zL (i:=4) gY.nd rfl (bb rfl) (yC zH (pv 7) zB (fun _ _=>rfl)))
  (zE (yJ (dU iu kz kC cG (pv 5) (zA (yC zH (pv 7) zB (fun _ _=>rfl)) zD)))
  (zG (qBV (i:=6) gY.nd rfl (bb rfl) zB qCQ))))))
  (zE (yJ (dU iu kz kC cG (pv 5) (zA (yU (bF:=[]) rfl (show bA (aA pG) ["chart","stand","record","letters","now","whole","turns","told"] _ _ _ from vA) (yN (jg (pv 3) cl mW FQ hr Ey .nil yF)) (fun _ _ _ _ _ _=>bQ) (fun _ _ _ _ _ _=>zX (zA zQ (zA (pv 0) zD)))) zD)))
  (zG (zP (zX (zA (pv 4) (zA (pv 5) zD)))))))))),?_⟩
 have lA:=hA.length;refine⟨_,rfl,_,rfl,xR rfl (.inl (aU.of hpr)) (fun g Ek=>?_)⟩;have u1:=zF Ek (.lst D);have i1:upd H g (.lst D) g=some (.lst D):=zC;generalize upd H g (.lst D)=H1 at u1 i1 ⊢;apply aW;intro _ g_;obtain⟨_,t,_,_,_,_,h1,_,_,_,_,_,_⟩:=id hC;apply g_;clear g_;refine⟨fun σ' u => ∃ N o j R k S o6 X,σ'=[some (.ref pc),some (.ref ps),some (.ref pr),some (.ref p),some (.ref o),some (.ref g),o6,X]/\bc H u fp j/\LL C u p j c.lb S.l/\cR u o S/\jG c S/\J S.os S.ks/\oV c ie st N k S/\(c.tn<=N∨S.l=[])/\u g=some (.lst R)/\g∉j/\Al (iz u) R k/\k.length<=900000,?_,?_⟩
 .refine⟨fun ms σ' u => ∃ N o j R k S X,ms=20-N/\σ'=[some (.ref pc),some (.ref ps),some (.ref pr),some (.ref p),some (.ref o),some (.ref g),some (.int (N:Int)),X]/\bc H u fp j/\LL C u p j c.lb S.l/\cR u o S/\jG c S/\J S.os S.ks/\oV c ie st N k S/\u g=some (.lst R)/\g∉j/\Al (iz u) R k/\k.length<=40001*N/\N<=20,
   ⟨_,1,ps,fp,D,ie,st,_,rfl,rfl,bc.same fp u1,LL.same hL u1,hS.mono (aB.of u1),so,js,.one,i1,LL.new hL Ek,hA.mono fun _ _ z=>z.mono (aB.of u1),by lia,by decide⟩,?_⟩
  rintro ms σ' u T;apply aW;intro _ g_;obtain⟨N,o,j,R,k,S,X,rfl,rfl,Xo,M,W,y,ji,RR,G,nwi,Gs,lei,_⟩:=T;apply g_;clear g_;have kt:=bc.keep Xo hL;refine⟨fun b r=>∃ L:aw ar,bc u r j L/\LL C r p L c.lb S.l/\(b=true->N<c.tn/\S.l≠[])/\(b=false->c.tn<=N∨S.l=[]),?_,?_⟩
  .refine⟨_,rfl,_,rfl,aG (aJ.of (kt _ _ h1)) rfl (eO ⟨_,rfl,fO (fun z=>?_) (fun z=>?_)⟩)⟩
   .have z1:=ba z;apply aW;intro _ g_;obtain⟨dx,fs,ho,n1,n2,n3⟩:=(j6 C).obj M;apply g_;clear g_;refine⟨_,rfl,p,dx,fs,rfl,ho,n3,p,j,c.lb,S.l,rfl,M,y.l,al.ok.Ss,fun qa L r hL' st' nq nqf I=>?_⟩;refine (xR rfl (.inl (aU.of I)) (eO ⟨_,rfl,L,st',hL',fun z2=>⟨by lia,fun z3=>?_⟩,fun z2=>.inr ?_⟩))
    .rw[z3]at z2
     cases z2
    .have z2:=bP z2;rw[bT]at z2;exact fo (by lia)
   .have z1:=bP z;exact⟨j,bc.same j (aH.refl _),M,(fun z=>by cases z),fun _=>.inl (by lia)⟩
  rintro b H2 T;apply aW;intro _ g_;obtain⟨Y,O,v,ht,hf⟩:=T;apply g_;clear g_;have k2:=bc.keep O M;have l:=bc.apart O G nwi;have qEC:=bc.trans Xo O;refine fO (fun z=>?_) (fun z=>?_)
  .apply aW;intro _ g_;obtain⟨lt,ne⟩:=ht z
   obtain⟨e,l',el⟩:∃ e l',S.l=e::l':=by
    cases hl:S.l with
    | nil=>exact eu hl ne
    | cons e l'=>exact⟨e,l',rfl⟩
   apply g_;clear g_;refine⟨fun σ' r=>∃ o j R k S X,σ'=[some (.ref pc),some (.ref ps),some (.ref pr),some (.ref p),some (.ref o),some (.ref g),some (.int ((N+1:Nat):Int)),X]/\bc H r fp j/\LL C r p j c.lb S.l/\cR r o S/\jG c S/\J S.os S.ks/\oV c ie st (N+1) k S/\r g=some (.lst R)/\g∉j/\Al (iz r) R k/\k.length<=40001*(N+1),?_,?_⟩
   .rintro σ' r T;apply aW;intro _ g_;obtain⟨o,j,R,k,S,X,z1,z2,z3,z4,z5,z6,z7,z8,z9,z10,z11⟩:=T;apply g_;clear g_;exact⟨20-(N+1),by lia,N+1,o,j,R,k,S,X,rfl,z1,z2,z3,z4,z5,z6,z7,z8,z9,z10,z11,by lia⟩
   apply aW;intro _ g_;obtain⟨dx,fs,ho,n1,n2,n3⟩:=(j6 C).obj v;apply g_;clear g_;refine⟨_,rfl,_,rfl,_,rfl,p,dx,fs,rfl,ho,n2,p,Y,c.lb,S.l,rfl,v,y.l,al.ok.Ss,fun fp3 H3 hL3 st3=>?_⟩;have k3:=bc.keep st3 v;have Z:=bc.apart st3 l.1 l.2;have qEB:=bc.trans qEC st3;have k03:=bc.keep qEB hL;rw[el]at hL3 ⊢;have ll:=y.l;rw[el,dG]at ll;refine⟨_,rfl,pc,o,p,c,e,⟨S.os,S.bx,S.ks,l'⟩,fp3,J,rfl,hC.mono k03,al,(W.mono (k2.trans k3)).tail l',⟨y.inc,y.lt,y.Oi,y.bx,y.ks,by show l'.length<=_;lia⟩,ji,hL3,fun tt ps2 Sh Dt s2 es2 fp4 H4 TR j4 hL4 st4 U hS4 so4 hr4 nr4 _ hA4 _=>?_⟩;have k4:=bc.keep st4 hL3;have B:=bc.apart st4 Z.1 Z.2;have qK0:=bc.trans qEB st4
   have nerw:Sh≠g:=fun z=>by rw[z,Z.1]at nr4;cases nr4
   have lAi:=Gs.length;have lA4:=hA4.length;refine⟨_,rfl,aG (aJ.of U) rfl ?_⟩;refine⟨_,rfl,.inl ⟨rfl,_,aU.of B.1⟩,_,rfl,aG (aJ.of U) rfl ⟨g,Sh,_,_,rfl,rfl,B.1,hr4,(by rw[sizeLine_eq];lia),?_⟩⟩;have k5:=aB.lst B.1 (.lst (R++Dt));have Jj:=k2.trans (k3.trans (k4.trans k5));refine⟨_,rfl,eO ⟨ps2,fp4,R++Dt,k++es2,s2,_,rfl,bc.upd qK0 Ek _,LL.upd hL4 B.2 _,hS4.mono k5,so4,j4,.more RR lt el TR,zC,B.2,Al.app (Gs.mono fun _ _ z=>z.mono Jj) (hA4.mono fun _ _ z=>z.mono k5),by rw[j8];lia⟩⟩
  .exact⟨N,o,Y,R,k,S,_,_,rfl,qEC,v,W.mono k2,y,ji,RR,hf z,l.1,l.2,Gs.mono fun _ _ z=>z.mono k2,by lia⟩
 rintro σ' u T;apply aW;intro _ g_;obtain⟨N,o,j,R,k,S,o6,X,rfl,Xo,M,W,y,ji,RR,dn,G,nwi,Gs,lei⟩:=T;obtain⟨dx,fs,ho,n1,n2,n3⟩:=(j6 C).obj M;apply g_;clear g_;refine⟨_,rfl,.inl ⟨rfl,_,aU.of G⟩,_,rfl,p,dx,fs,rfl,ho,n3,p,j,c.lb,S.l,rfl,M,y.l,al.ok.Ss,fun qa Y H2 v O nq nqf I=>?_⟩;have k2:=bc.keep O M;have l:=bc.apart O G nwi
 have newq:qa≠g:=fun z=>by rw[z,G]at nq;cases nq
 have Ss:=al.ok.Ss;have sil:=y.l;refine⟨qa,rfl,⟨_,aU.of I⟩,?_⟩;refine yT (K:=K) (a:=qa) (xs:=S.l.map V.int) (fun i d r=>aH H2 r/\d.length=i/\Al (iz r) d (BX (S.l.take i))) ⟨aH.refl _,rfl,.nil⟩ (fun i d r z=>aU.of (z.1 _ _ I)) ?_ ?_
 .rintro i x d r hx T;apply aW;intro _ g_;obtain⟨s1,la,hB⟩:=T;apply g_;clear g_;rw[dZ]at hx
  cases hk:S.l[i]? with
  | none=>rw[hk]at hx;cases hx
  | some e=>
   rw[hk]at hx;obtain rfl:=kJ hx;have hi:=(oW.mp hk).1;refine⟨_,rfl,zJ (by show 2<=1000;decide),fun p5 Xu=>⟨by rw[sizeLine_eq];lia,s1.trans (zF Xu _),by rw[j8,vG,la],?_⟩⟩;unfold BX at hB ⊢;rw[mq,hk,qz];exact (hB.mono fun _ _ z=>z.mono (aB.of (zF Xu _))).snoc ⟨p5,rfl,zC⟩
 rintro d H3 ⟨s3,la,hB⟩ pz hpz;rw[bT,DX (bD _)]at hB;rw[bT]at la;have u4:=zF hpz (.lst d);have i4:upd H3 pz (.lst d) pz=some (.lst d):=zC;have s4:=s3.trans u4;have w4:=s4 _ _ l.1;generalize upd H3 pz (.lst d)=H4 at u4 i4 s4 w4 ⊢;have lAi:=Gs.length;have nzw:g≠pz:=zN (s3 _ _ l.1) hpz;refine⟨g,pz,_,_,rfl,rfl,w4,i4,(by rw[sizeLine_eq];lia),?_⟩;have k5:=aB.lst w4 (.lst (R++d));have hL5:LL C (upd H4 g (.lst (R++d))) p Y c.lb S.l:=LL.upd (LL.same v s4) l.2 _;have KY:bc H (upd H4 g (.lst (R++d))) fp Y:=bc.upd (bc.trans (bc.trans Xo O) (bc.same Y s4)) Ek _;have r5:upd H4 g (.lst (R++d)) g=some (.lst (R++d)):=zC;generalize upd H4 g (.lst (R++d))=H5 at k5 hL5 KY r5 ⊢;refine⟨_,rfl,_,rfl,zJ (by show 2<=1000;decide),fun tt U=>?_⟩;have u6:=zF U (.tup [V.ref o,V.ref g]);have k26:aB H2 (upd H5 tt (.tup [V.ref o,V.ref g])):=(aB.of s4).trans (k5.trans (aB.of u6));exact q tt o g (R++d) N k S Y _ RR dn ji y (bc.trans KY (bc.same Y u6)) zC (W.mono (k2.trans k26)) (u6 _ _ r5) Ek l.2 (Al.app (Gs.mono fun _ _ z=>z.mono (k2.trans k26)) (hB.mono fun _ _ z=>z.mono ((aB.of u4).trans (k5.trans (aB.of u6))))) (by rw[j8];lia)
def made{H h:Hp}{x d:ar}{f:aw ar}(N:H x=none)(n:H d=none)(own:∀ b∈f,b=x∨upd (upd H d (.own x)) x (.ins C d []) b=none)(rest:∀ b o,upd (upd H d (.own x)) x (.ins C d []) b=some o->b≠x->h b=some o):aH H h/\∀ b∈f,H b=none:=by
 refine⟨fun b o e=>?_,fun b c=>?_⟩
 .have a:=zN e N;refine rest b o ?_ a;rw[zR a,zR (zN e n)];exact e
 .rcases own b c with z | z
  .rw[z];exact N
  .by_cases y:b=x
   .rw[y];exact N
   .rw[zR y]at z
    by_cases Y:b=d
    .rw[Y];exact n
    .rw[zR Y]at z;exact z
theorem J0(h:H p=some (.tup [])):∀ k:Nat,bh H (List.replicate k [V.ref p]).flatten (List.replicate k [])
 | 0=>.nil
 | k+1=>.cons ⟨p,rfl,h⟩ (J0 h k)
noncomputable def vI(c:mZ)(bs:aw (Int×Int))(m:aw Nat):S4:=⟨m,(cz c.sz c.lb (m.map fun r=>(En.inn r,c.di r)) (bs.map (·.2)) []).1,List.replicate c.rs.length [],(cz c.sz c.lb (m.map fun r=>(En.inn r,c.di r)) (bs.map (·.2)) []).2.1⟩
def Kr(c:mZ)(bs:aw (Int×Int))(m:aw Nat):aw En:=(cz c.sz c.lb (m.map fun r=>(En.inn r,c.di r)) (bs.map (·.2)) []).2.2
def Xm(c:mZ)(bs:aw (Int×Int))(e:aw En)(s:S4):Prop:=∃ m n a,Tr.Q5 (aD c.rs) (S5 c.rs) [] none m/\oV c (Kr c bs m) (vI c bs m) n a s/\(c.tn<=n∨s.l=[])/\e=a++BX s.l
theorem OD:∀ {n:Nat} {g:aw En} {f:S4},oV c ie s0 n g f->∀ {d:aw En} {S:S4},oV c ie s0 n d S->g=d/\f=S:=by
 intro n g f i
 induction i with
 | one=>
  intro d S H;generalize p:1=m at H
  cases H with
  | one=>exact⟨rfl,rfl⟩
  | @more n _ _ _ _ _ _ h _ _ _=>
   have:n=0:=by lia
   subst this
   exact eu h (by
    intro z;generalize o:(0:Nat)=q at z
    cases z with
    | one=>lia
    | more=>lia)
 | @more n u j s k e l h lt Z T I=>
  intro d S H;generalize p:n+1=m at H
  cases H with
  | one=>
   have:n=0:=by lia
   subst this
   exact eu h (by
    intro z;generalize o:(0:Nat)=q at z
    cases z with
    | one=>lia
    | more=>lia)
  | @more N r w s' Y v L h' lt' E t=>
   obtain rfl:n=N:=by lia
   obtain⟨rfl,rfl⟩:=I h';rw[Z]at E;injection E with a b;subst a;subst b;obtain⟨rfl,rfl⟩:=Hu T t;exact⟨rfl,rfl⟩
theorem O9(h:oV c ie s0 n e1 s1):1<=n:=by
 cases h with
 | one=>exact bD _
 | more=>lia
theorem U8:∀ {n:Nat} {E:aw En} {S:S4},oV c ie s0 n E S->∀ m:Nat,1<=m->m<n->∃ d a,oV c ie s0 m d a/\m<c.tn/\a.l≠[]:=by
 intro n E S H
 induction H with
 | one=>
  intro m R P;lia
 | @more n f b s k e l h lt Z t i=>
  intro m R P
  by_cases z:m<n
  .exact i m R z
  .have:m=n:=by lia
   subst this;exact⟨f,s,h,lt,by rw[Z];simp⟩
def OJ(H:oV c ie s0 n e S)(l:oV c ie s0 m E s)(D:c.tn<=n∨S.l=[])(d:c.tn<=m∨s.l=[]):e=E/\S=s:=by
 have p:=O9 H;have P:=O9 l
 have k:∀ {n m:Nat} {e:aw En} {S:S4} {E:aw En} {s:S4},oV c ie s0 n e S->oV c ie s0 m E s->1<=n->(c.tn<=n∨S.l=[])->¬ n<m:=fun {n m e S E s} H l p D z=>by
  obtain⟨_,_,h,a,b⟩:=U8 l n p z;obtain⟨_,rfl⟩:=OD H h;rcases D with y | y
  .lia
  .exact b y
 have:n=m:=by
  have a:=k H l p D;have b:=k l H P d;lia
 subst this;exact OD H l
def Pq(H:Xm c bs e1 s1)(l:Xm c bs e2 s2):e1=e2/\s1=s2:=by obtain⟨_,n,x,I,r,D,rfl⟩:=H;obtain⟨_,_,_,i,R,d,rfl⟩:=l;obtain rfl:=I.unique i;obtain⟨rfl,rfl⟩:=OJ r R D d;exact⟨rfl,rfl⟩
inductive Fi(n:Nat)(vs:List V)(H:Hp)(Q:VK)(E_:XK):Prop
 | mk (pc c bs ne) (_:vs=[.ref pc]) (_:mj.Sy H pc c bs ne) (_:mj.uw c bs) (_:3<=n) (_:∀ t ps pw wv es s H',Xm c bs es s->Jw c s.os s.ks->jG c s->aH H H'->H' t=some (.tup [.ref ps,.ref pw])->cR H' ps s->H' pw=some (.lst wv)->H pw=none->Al (iz H') wv es->es.length<=1000000->Q (.ref t) H')
def jY:aF ["chart","rooms","letters","entered","starts","told","stand"] ["chart"] (aA tO):=cQ
def VD{f gi g1 g2 g3 g4 g5:ar}{fd di d1 d2 d3 d4 d5:af}(F:bO K "begun" "begun" tO f fd)(Mk':Mk K C gi)
  (qJ:aL P w K mg base aN m gi di ["self","most"] (Kv C (LL C))) (qF:Binds K di ["self","most"] []) (vf:mg "Letters" = some (.ref C))
  (qK:Dp P w K mg base aN (m+1) g1 d1 ["rooms","under","goals"] qBG "goings_in")
  (wK:Dp P w K mg base aN (m+1) g2 d2 ["steps","boxes","sizes","letters"] (vJ C) "stepped")
  (sS:Dp P w K mg base aN (m+1) g3 d3 ["rooms","entered"] (lU En.inn true) "steps_in")
  (sU:Dp P w K mg base aN (m+1) g4 d4 ["chart"] Fe "sizes_of")
  (CK:Dp P w K mg base aN (m+1) g5 d5 ["chart","stand","record","letters"] (zr C n) "rested")
  (aj:mg "tuple" = none) (aP:mg "len" = none):aL P w K mg base aN (m+2) f fd ["chart"] (Fi n):=by
 refine F.ok jY ?_ ?_
 .rintro _ _ _ _⟨pc,c,bs,ne,rfl,_⟩;rfl
 intro _ A _ s H _ Q E O h
 apply aW;intro _ g_;obtain⟨pc,c,bs,ne,rfl,hX,ok,n3,q⟩:=h;apply g_;clear g_
 refine⟨_,(zE (zL (i:=1) jY.nd rfl (bb rfl) (yC zH (pv 0) zB (fun _ _=>rfl)))
  (zE (zL (i:=2) jY.nd rfl (bb rfl) (ym Mk' qJ O rfl vf qF .nil yF (zA (yC zH (pv 0) zB (fun _ _=>rfl)) zD)))
  (zE (zL (i:=3) jY.nd rfl (bb rfl) (pC qK O (zA (pv 1) (zA iw (zA (yL zD) zD)))))
  (zE (zL (i:=4) jY.nd rfl (bb rfl) (yB zY rfl aj qt (zA (yU (bF:=[]) rfl (show bA (aA tO) ["chart","rooms","letters","entered","starts","told","stand"] _ _ _ from vA) (nQ (yC zH (pv 0) zB (fun _ _=>rfl))) (fun _ _ _ _ _ _=>bQ) (fun _ _ _ _ _ _=>(yC (r:=dM K) zH (pv 0) zB (fun _ _=>rfl)))) zD)))
  (zE (zL (i:=5) jY.nd rfl (bb rfl) (pC wK O (zA (pC sS O (zA (pv 1) (zA (pv 3) zD))) (zA (pv 4) (zA (pC sU O (zA (pv 0) zD)) (zA (pv 2) zD))))))
  (zE (zL (i:=6) jY.nd rfl (bb rfl) (zX (zA (yB zY rfl aj qt (zA (pv 3) zD)) (zA (yC zH (pv 5) zB (fun _ _=>rfl)) (zA (pL (yD Yr (zX (zA (zX zD) zD)) (zT zO rfl aP bj (zA (pv 1) zD)))) zD)))))
  (zG (zP (pC CK O (zA (pv 0) (zA (pv 6) (zA (yC zH (pv 5) zB (fun _ _=>rfl)) (zA (pv 2) zD))))))))))))),?_⟩
 apply aW;intro _ g_;obtain⟨pb,_,t,_,bv,_,S,_,h1,h2,h3,_,_,h6,h7,h8,_,_⟩:=id hX;apply g_;clear g_;have hC:=hX.ch ok;have lrv:=h7.length;have lbv:=h3.length;have L:=ok.ok.good;have R:=L.pos;have ld:=yW c.rs;have l10:=ok.l10;have b6:=ok.ok.b6
 have lsz:c.sz.length=bs.length:=by rw[ok.sz,bT]
 refine⟨_,rfl,aG (aJ.of h1) rfl ?_⟩;refine⟨_,rfl,aG (aJ.of h1) rfl (fun x dx nx ndx _=>⟨x,dx,c.lb,rfl,zC,ok.ok.Ss,fun fp H1 Z own rest=>⟨rfl,?_⟩⟩)⟩;obtain⟨s1,nfp⟩:=made nx ndx own rest;clear own rest;refine⟨_,rfl,bo _,fun pg hpg=>?_⟩;have u2:=zF hpg (.lst []);have i2:upd H1 pg (.lst []) pg=some (.lst (aC [])):=zC;generalize upd H1 pg (.lst [])=H2 at u2 i2 ⊢;have s2:=s1.trans u2;refine⟨t,pg,c.rs,none,[],rfl,⟨S,s2 _ _ h6,h7.mono (aB.of s2)⟩,L,ok.ok.r40,(fun u hu=>by cases hu),⟨i2,(fun g hg=>by cases hg),by decide⟩,fun pe M H3 u3 npe hpe B=>?_⟩;have s3:=s2.trans u3
 have Y:∀ k∈M,k<c.rs.length:=fun k hk=>by
  have:=B.lt R k hk;lia
 have ml:M.length<=10:=by
  have:=B.len R;lia
 refine⟨_,rfl,aG (aJ.of (s3 _ _ h1)) rfl ⟨pb,rfl,⟨_,aJ.of (s3 _ _ h2)⟩,?_⟩⟩;refine ig (K:=K) (a:=pb) (xs:=bv) (fun i G p=>p=H3/\G=((bs.map (·.2)).take i).map V.int) ⟨rfl,rfl⟩ (fun i G p z=>by rw[z.1];exact aJ.of (s3 _ _ h2)) ?_ ?_
 .rintro i y G p hy ⟨rfl,rfl⟩
  have hi:i<bs.length:=by
   have:=(oW.mp hy).1;lia
  have er:=fQ hi;apply aW;intro _ g_;obtain⟨v,hv,a,_,rfl,ha⟩:=h3.get er;apply g_;clear g_;rw[hv]at hy;obtain rfl:=kJ hy;refine⟨_,rfl,aG (aJ.of (s3 _ _ ha)) rfl ⟨zW (by rw[bT,iQ,bT];lia),rfl,?_⟩⟩;rw[mq,dZ,er,qz];rfl
 rintro G p ⟨rfl,rfl⟩ I qL5;rw[show (bs.map (·.2)).take bv.length=bs.map (·.2) from DX (by rw[bT];lia)];have u4:=zF qL5 (.lst ((bs.map (·.2)).map V.int));have i4:upd p I (.lst ((bs.map (·.2)).map V.int)) I=some (.lst ((bs.map (·.2)).map V.int)):=zC;generalize upd p I (.lst ((bs.map (·.2)).map V.int))=H4 at u4 i4 ⊢;refine⟨I,_,rfl,.inl ⟨aU.of i4,fun D qKZ=>?_⟩⟩;have u5:=zF qKZ (.tup ((bs.map (·.2)).map V.int));have i5:upd H4 D (.tup ((bs.map (·.2)).map V.int)) D=some (.tup ((bs.map (·.2)).map V.int)):=zC;generalize upd H4 D (.tup ((bs.map (·.2)).map V.int))=H5 at u5 i5 ⊢;have u35:=u4.trans u5;have s5:=s3.trans u35;refine⟨_,rfl,_,rfl,t,pe,c.rs,c.di,c.dO,M,rfl,⟨S,s5 _ _ h6,h7.mono (aB.of s5)⟩,h8.mono (aB.of s5),u35 _ _ hpe,Y,by lia,fun oU Y9 H6 u6 qC8 qCS Gs=>?_⟩;have s6:=s5.trans u6;have Gs:Al (sJ H6) Y9 (M.map fun r=>(En.inn r,c.di r)):=Gs;refine⟨_,rfl,_,rfl,pc,pb,_,_,_,_,_,_,bv,c.sz,rfl,s6 _ _ h1,s6 _ _ h2,(by rw[ok.sz];exact mj.qAY (h3.mono fun _ _ z=>z.mono (aB.of s6))),(by lia),fun tz H7 u7 htz=>?_⟩;have s17:aH H1 H7:=u2.trans (u3.trans (u35.trans (u6.trans u7)));have s7:=s1.trans s17;have hL7:=LL.same Z s17
 have qKG:oU∉fp:=fun z=>by
  have e0:H oU=none:=s5.free qC8;exact LL.new Z ((u2.trans (u3.trans u35)).free qC8) z
 have oks:∀ s∈M.map (fun r=>(En.inn r,c.di r)),(∀ d∈s.2,d.ok (bs.map (·.2)).length)/\s.2.length<=8:=fun s hs=>by
  apply aW;intro _ g_;obtain⟨r,_,rfl⟩:=eX.mp hs;apply g_;clear g_;rw[bT,<-lsz];exact ok.ok.ins r
 refine⟨_,rfl,oU,D,tz,x,_,_,bs.map (·.2),c.sz,[],fp,c.lb,rfl,u7 _ _ qCS,qKG,Gs.mono (fun _ _ z=>z.mono (aB.of u7)),(u6.trans u7) _ _ i5,htz,hL7,oks,(by rw[bT];lia),(by rw[bT];lia),(by rw[bT];lia),ok.ok.pos,bo _,ok.ok.Ss,fun _ X pr rv8 U H8 hL8 T htt htb hpr _ _ hes=>?_⟩
 have W:∀ {Hx:Hp} {fpx:aw ar},bc H7 Hx fp fpx->aH H Hx:=fun st b o e=>st.rest b o (s7 b o e) fun z=>by
  rw[nfp b z]at e
  cases e
 have s8:=W T;have pe8:H8 pe=some (.lst (aC M)):=T.rest _ _ ((u35.trans (u6.trans u7)) _ _ hpe) (LL.new Z (u2.free npe));refine⟨_,rfl,pe,_,rfl,.inl ⟨aU.of pe8,fun J qCR=>?_⟩⟩;have u9:=zF qCR (.tup (aC M));have i9:upd H8 J (.tup (aC M)) J=some (.tup (aC M)):=zC;generalize upd H8 J (.tup (aC M))=H9 at u9 i9 ⊢;refine⟨_,rfl,aG (aJ.of (u9 _ _ htt)) rfl ?_⟩;refine⟨fun v p=>∃ N kv,v = .ref N/\aH H9 p/\p N=some (.tup kv)/\bh p kv (List.replicate c.rs.length []),?_,?_⟩
 .refine⟨bo _,fun j hq1=>⟨zJ (by show 1<=1000;decide),fun q2 hq2=>?_⟩⟩;have w1:=zF hq1 (.tup []);have j1:upd H9 j (.tup []) j=some (.tup []):=zC;generalize upd H9 j (.tup [])=Ha at w1 j1 hq2 ⊢;have w2:=zF hq2 (.tup [V.ref j]);have j2:upd Ha q2 (.tup [V.ref j]) q2=some (.tup [V.ref j]):=zC;generalize upd Ha q2 (.tup [V.ref j])=Hb at w2 j2 ⊢;refine⟨_,rfl,xR rfl (.inr (aJ.of ((s8.trans (u9.trans (w1.trans w2))) _ _ h6))) ⟨q2,_,[V.ref j],rfl,rfl,aJ.of j2,by simp,by lia,?_,fun _=>?_,fun _ p3 hp3=>?_⟩⟩
  .show ((1:Nat):Int)*(S.length:Int)<=_;rw[sizeLine_eq];lia
  .refine⟨q2,_,rfl,w1.trans w2,j2,?_⟩
   have e1:c.rs.length=1:=by lia
   rw[e1];exact .cons ⟨j,rfl,w2 _ _ j1⟩ .nil
  .have w3:=zF hp3 (.tup (List.replicate (S.length:Int).toNat [V.ref j]).flatten);have j3:upd Hb p3 (.tup (List.replicate (S.length:Int).toNat [V.ref j]).flatten) p3=some (.tup (List.replicate (S.length:Int).toNat [V.ref j]).flatten):=zC;generalize upd Hb p3 (.tup (List.replicate (S.length:Int).toNat [V.ref j]).flatten)=Hc at w3 j3 ⊢;refine⟨p3,_,rfl,w1.trans (w2.trans w3),j3,?_⟩;rw[T3,lrv];exact J0 ((w2.trans w3) _ _ j1) _
 rintro _ HQ bR;apply aW;intro _ g_;obtain⟨N,kv,rfl,u10,hpk,hkv⟩:=bR;apply g_;clear g_;refine⟨zJ (by show 3<=1000;decide),fun ps hps=>?_⟩;have u11:=zF hps (.tup [V.ref J,V.ref X,V.ref N]);have i11:upd HQ ps (.tup [V.ref J,V.ref X,V.ref N]) ps=some (.tup [V.ref J,V.ref X,V.ref N]):=zC;generalize upd HQ ps (.tup [V.ref J,V.ref X,V.ref N])=Kd at u11 i11 ⊢;have QB:=u9.trans (u10.trans u11);have qEA:bc H7 Kd fp U:=bc.trans T (bc.same U QB);have kZ:=W qEA;have hSd:cR Kd ps (vI c bs M):=⟨J,X,N,kv,i11,(u10.trans u11) _ _ i9,QB _ _ htb,u11 _ _ hpk,hkv.mono (aB.of u11)⟩;have les:=zj (sz:=c.sz) (m:=c.lb) (bx:=bs.map (·.2)) (l:=[]) fun y hy=>(oks y hy).2;rw[bT]at les;have sok:jG c (vI c bs M):=⟨B.1,Y,by show M.length<=40;lia,by show (cz _ _ _ _ _).1.length=_;rw[zm,bT,lsz],dA,Fd (bo _)⟩
 have jw:Jw c (vI c bs M).os (vI c bs M).ks:=⟨B.1,Y,dA,fun r O=>by
  rw[List.eq_of_mem_replicate O]
  exact⟨(fun g hg=>by cases hg),by decide⟩⟩
 refine⟨_,rfl,_,rfl,_,rfl,aG (aJ.of (QB _ _ htt)) rfl ⟨_,rfl,pc,ps,pr,x,c,vI c bs M,Kr c bs M,rv8,U,Jw c,rfl,hC.mono (aB.of kZ),⟨ok.ok,wide ok.ok,fun d hd=>⟨(ok.g d hd).1,Nat.le_trans (ok.g d hd).2 n3⟩⟩,hSd,sok,jw,LL.same hL8 QB,QB _ _ hpr,hes.mono (fun _ _ z=>z.mono (aB.of QB)),(by unfold Kr;lia),(by have:=ok.t4;lia),fun tr ps' pw wv n' es' s' _ p RR dn j' so' st' htr hS' Ek Z6 _ hA' lw=>?_⟩⟩;exact q tr ps' pw wv _ s' p ⟨M,n',es',B,RR,dn,rfl⟩ j' so' (W (bc.trans qEA st')) htr hS' Ek (kZ.free Z6) hA' (by rw[<-hA'.length];exact lw)
def qA9(c:mZ)(i:Int)(s:S4)(e:aw En)(s':S4):Prop:=∃ a E S n,K3 c i s a S/\oV c a S n E s'/\(c.tn<=n∨s'.l=[])/\e=E++BX s'.l
def Zy(H:qA9 c ev s e1 s1)(l:qA9 c ev s e2 s2):e1=e2/\s1=s2:=by obtain⟨_,_,_,_,x,u,z1,rfl⟩:=H;obtain⟨_,_,_,_,X,Y,z2,rfl⟩:=l;obtain⟨rfl,rfl⟩:=Hu x X;obtain⟨rfl,rfl⟩:=OJ u Y z1 z2;exact⟨rfl,rfl⟩
inductive Fj(n:Nat)(vs:List V)(H:Hp)(Q:VK)(E_:XK):Prop
 | mk (pc ps c ev s) (_:vs=[.ref pc,.ref ps,.int ev]) (_:jJ H pc c) (_:All c (Jw c) n) (_:cR H ps s) (_:jG c s) (_:Jw c s.os s.ks) (_:s.l=[]) (_:c.tn<=20) (_:∀ t ps' pw wv es' s' H',qA9 c ev s es' s'->Jw c s'.os s'.ks->jG c s'->aH H H'->H' t=some (.tup [.ref ps',.ref pw])->cR H' ps' s'->H' pw=some (.lst wv)->H pw=none->Al (iz H') wv es'->wv.length<=1000000->Q (.ref t) H')
def Ag:aF ["chart","stand","event","letters","told"] ["chart","stand","event"] (aA xq):=cQ
def VG(F:bO K "after" "after" xq f fd)(cl:vC K C)(Mk':Mk K C gi)
  (qJ:aL P w K mg base aN m gi di ["self","most"] (Kv C (LL C))) (qF:Binds K di ["self","most"] []) (vf:mg "Letters" = some (.ref C))
  (NB:Dp P w K mg base aN (m+1) g1 d1 ["chart","stand","event","letters"] (Ks C n) "turn")
  (CK:Dp P w K mg base aN (m+1) g2 d2 ["chart","stand","record","letters"] (zr C n) "rested") :
  aL P w K mg base aN (m+2) f fd ["chart","stand","event"] (Fj n):=by
 refine F.ok Ag ?_ ?_
 .rintro _ _ _ _⟨p,ps,c,ev,s,rfl,_⟩;rfl
 intro _ A _ s H _ Q E u h
 apply aW;intro _ g_;obtain⟨p,ps,c,ev,st,rfl,J,v,hS,so,js,l0,X,q⟩:=h;apply g_;clear g_
 refine⟨_,(zE (zL (i:=3) Ag.nd rfl (bb rfl) (ym Mk' qJ u rfl vf qF .nil yF (zA (yC zH (pv 0) zB (fun _ _=>rfl)) zD)))
  (zE (zL (i:=4) Ag.nd rfl (bb rfl) (pC NB u (zA (pv 0) (zA (pv 1) (zA (pv 2) (zA (pv 3) zD))))))
  (zG (zP (pC CK u (zA (pv 0) (zA (yC zH (pv 4) zB (fun _ _=>rfl)) (zA (yC zH (pv 4) zB (fun _ _=>rfl)) (zA (pv 3) zD))))))))),?_⟩
 apply aW;intro _ g_;obtain⟨_,t,_,_,_,_,h1,_,_,_,_,_,_⟩:=id J;apply g_;clear g_;refine⟨_,rfl,aG (aJ.of h1) rfl (fun x dx nx N _=>?_)⟩;refine⟨x,dx,c.lb,rfl,zC,v.ok.Ss,fun fp H1 r own rest=>⟨rfl,?_⟩⟩;obtain⟨S,D⟩:=made nx N own rest
 have W:∀ {H':Hp} {M:aw ar},bc H1 H' fp M->aH H H':=fun st b o e=>st.rest b o (S b o e) fun z=>by
  rw[D b z]at e
  cases e
 refine⟨_,rfl,_,rfl,_,rfl,_,rfl,p,ps,x,c,ev,st,fp,Jw c,rfl,J.mono (aB.of S),v,hS.mono (aB.of S),so,js,(by rw[l0];exact r),fun _ L pr rv s2 es CW _ TR j2 y O G B j T _ _ W4 l=>?_⟩;have k2:=bc.keep O r;refine⟨_,rfl,_,rfl,aG (aJ.of G) rfl ⟨_,rfl,aG (aJ.of G) rfl ⟨_,rfl,p,L,pr,x,c,s2,es,rv,CW,Jw c,rfl,J.mono ((aB.of S).trans k2),v,B,j,j2,y,T,W4,l,X,fun t3 R pw wv n' es' s' _ H3 RR dn j3 k U a I Z d _ g lw=>?_⟩⟩⟩;have Y:=bc.trans O U;exact q t3 R pw wv _ s' H3 ⟨es,es',s2,n',TR,RR,dn,rfl⟩ j3 k (W Y) a I Z ((W O).free d) g lw
end Ru
namespace CJ
open PySem L2 jP lN Zz
noncomputable def stem:Nat->Str
 | 0 => ""
 | 1 => "hall"
 | 2 => "quiet"
 | _ => "aaaaaaaaaaa"
def nm(a t c:Nat):Str:=Txt.slice (stem a) none (some (t:Int))++⟨#[97+c]⟩++Txt.slice (stem a) (some (t:Int)) none
noncomputable def fL(k n:Int):Str:=nm (n%4).toNat (n/4%(((stem (n%4).toNat).length:Int)+1)).toNat (k%26).toNat
def qCB:((List.range 4).all fun a=>(List.range 12).all fun t=>decide ((stem a).length<t)||(List.range 26).all fun c=>isW (nm a t c))=true:=by decide +kernel
def qF3:((List.range 4).all fun a=>(List.range 12).all fun t=>decide ((stem a).length<t)||(List.range 26).all fun c=>(nm a t c).cps.toList[t]?==some (97+c))=true:=by decide +kernel
def qCC(a:Nat)(d:a<4)(t:Nat)(ht:t<12)(H:t<=(stem a).length)(c:Nat)(f:c<26):isW (nm a t c)=true:=by have h:=fg.mp (fg.mp qCB a (hJ.mpr d)) t (hJ.mpr ht);rw[bp (by omega),eM]at h;exact fg.mp h c (hJ.mpr f)
def qCA(a:Nat)(b:a<4)(t:Nat)(ht:t<12)(g:t<=(stem a).length)(c:Nat)(f:c<26)(d:Nat)(hd:d<26)(e:nm a t c=nm a t d):c=d:=by
 have h:=fg.mp (fg.mp qF3 a (hJ.mpr b)) t (hJ.mpr ht);rw[bp (by omega),eM]at h;have H:=fg.mp h c (hJ.mpr f);have l:=fg.mp h d (hJ.mpr hd);rw[e]at H;have:=(eq_of_beq H).symm.trans (eq_of_beq l)
 simpa using this
def Nf:∀ a,a<4->(stem a).length<=11:=by decide +kernel
def parts(n:Int):(n%4).toNat<4/\(n/4%(((stem (n%4).toNat).length:Int)+1)).toNat<12/\(n/4%(((stem (n%4).toNat).length:Int)+1)).toNat<=(stem (n%4).toNat).length:=by have h:=Nf (n%4).toNat (by omega);have H:=j7 (n/4) (show ((stem (n%4).toNat).length:Int)+1≠0 by omega);have l:=jR (n/4) (show (0:Int)<((stem (n%4).toNat).length:Int)+1 by omega);exact⟨by omega,by omega,by omega⟩
def mJ(k n:Int):isW (fL k n)=true:=by obtain⟨H,l,p⟩:=parts n;exact qCC _ H _ l p _ (by omega)
def VV(h:fL k n=fL k' n):k%26=k'%26:=by obtain⟨H,l,p⟩:=parts n;have:=qCA _ H _ l p (k%26).toNat (by omega) (k'%26).toNat (by omega) h;omega
def xm:Sp:=fun vs H Q _ => ∃ k n:Int,vs=[.int k,.int n]/\∀ h,aH H h->Q (.str (fL k n)) h
def YD(n:Int):mX ([("" : Str),"hall","quiet","aaaaaaaaaaa"].map V.str) (n%4)=some (.str (stem (n%4).toNat)):=by
 have d:n%4=0∨n%4=1∨n%4=2∨n%4=3:=by omega
 rcases d with h | h | h | h <;> rw[h] <;> rfl
def XN(k:Int):mX ("abcdefghijklmnopqrstuvwxyz" : Str).cps.toList (k%26)=some (97+(k%26).toNat):=by
 have chk:((List.range 26).all fun c=>("abcdefghijklmnopqrstuvwxyz" : Str).cps.toList[c]?==some (97+c))=true:=by decide +kernel
 have h:=fg.mp chk (k%26).toNat (hJ.mpr (by omega))
 have e:(((k%26).toNat:Nat):Int)=k%26:=by omega
 have:=yR (beq_iff_eq.mp h);rw[e]at this;exact this
def pB:aF ["_law_k","_law_number","_law_rest","_law_at"] ["_law_k","_law_number"] (aA tQ):=cQ
def Ux(F:bO K "_law_name" "_law_name" tQ f fd)(G:mg "len" = none):aL P w K mg base aN 1 f fd ["_law_k","_law_number"] xm:=by
 refine F.ok pB ?_ ?_
 .rintro _ _ _ _⟨k,n,rfl,_⟩;rfl
 intro _ A _ s H _ Q E _ h
 obtain⟨k,n,rfl,q⟩:=h
 refine⟨_,(zE (zL (i:=2) pB.nd rfl (bb rfl) (yC yV (yL (zA zQ (zA zQ (zA zQ (zA zQ zD))))) (yD zZ (pv 1) zB) (fun _ _=>rfl)))
  (zE (zL (i:=3) pB.nd rfl (bb rfl) (pL (yD zZ (yD yM (pv 1) zB) (yD yG (zT ue rfl G bj (zA (pv 2) zD)) zB))))
  (zG (zP (yD BP (yD BP (dN Tt (pv 2) gA (fu (pv 3))) (yC Vq zQ (yD zZ (pv 0) zB) (fun _ _=>rfl))) (dN Tt (pv 2) (fu (pv 3)) gA)))))),?_⟩
 obtain⟨j,t,J⟩:=parts n;have L:(stem (n%4).toNat).length<=11:=Nf _ j;have l:=YD n;have o:fL k n=nm (n%4).toNat (n/4%(((stem (n%4).toNat).length:Int)+1)).toNat (k%26).toNat:=rfl;generalize d:stem (n%4).toNat=z at L l t J o;have a:z.length<=sizeLine:=zJ (by omega);have S:∀(lo g:aE Int),(Txt.slice z lo g).length<=11:=fun lo g=>br (Txt.slice_le z lo g) L;refine⟨zJ (by show 4<=1000;decide),fun p C=>⟨_,rfl,_,_,rfl,rfl,(by show (0:Int)<4;decide),p,_,_,_,rfl,rfl,aU.of zC,l,?_⟩⟩;have r:=zF C (.lst [V.str "",V.str "hall",V.str "quiet",V.str "aaaaaaaaaaa"]);refine⟨fun v u=>aH H u/\v = .int (n/4%((z.length:Int)+1)),?_,?_⟩
 .exact⟨_,rfl,_,_,rfl,rfl,⟨by decide,by decide⟩,_,rfl,z,rfl,a,_,_,rfl,rfl,_,_,rfl,rfl,(by show (0:Int)<(z.length:Int)+1;omega),r,rfl⟩
 rintro _ I ⟨B,rfl⟩;have m:=XN k
 have D:∀ x y:Str,(x++y).length=x.length+y.length:=fun x y=>by
  show (x.cps++y.cps).size=_;rw[Array.size_append];rfl
 have lo:∀ c:Nat,(⟨#[c]⟩:Str).length=1:=fun c=>rfl;have M:=S none (some (n/4%((z.length:Int)+1)));have N:=S (some (n/4%((z.length:Int)+1))) none;refine⟨_,rfl,_,rfl,_,rfl,z,rfl,a,_,rfl,_,_,rfl,rfl,(by show (0:Int)<26;decide),_,_,_,rfl,rfl,zJ (by decide +kernel),m,_,_,rfl,rfl,zJ (by rw[lo];omega),_,rfl,_,rfl,_,rfl,z,rfl,a,_,_,rfl,rfl,zJ (by rw[D,lo];omega),?_⟩;have b:=q I B;have Z:=j7 (n/4) (show (z.length:Int)+1≠0 by omega)
 have e:fL k n=Txt.slice z none (some (n/4%((z.length:Int)+1)))++⟨#[97+(k%26).toNat]⟩++Txt.slice z (some (n/4%((z.length:Int)+1))) none:=by
  rw[o];unfold nm;rw[d,fe Z]
 rw[e]at b;exact b
end CJ
namespace CJ
open PySem L2 jP lN vB xM Zz
def jF(H:Hp)(ps:ar)(sz:aw Int):Prop:=H ps=some (.lst (sz.map V.int))/\(∀ z∈sz,0<z)/\sz.length<=6
def jF.mono(h:jF H ps sz)(s:aH H H'):jF H' ps sz:=⟨s _ _ h.1,h.2⟩
def qI(sz:aw Int)(e:Int):Dd->Prop
 | .say w=>isW w=true
 | .send x=>0<=x/\x<e
 | .set b n=>(0<=b/\b<(sz.length:Int))/\0<=n/\n<sz.getD b.toNat 0
 | .add b n=>(0<=b/\b<(sz.length:Int)) /\ -(10 ^ 30)<=n/\n<=10 ^ 30
def Nu:Sp:=fun vs H Q _ => ∃(n e:Int)(ps:ar)(sz:aw Int),vs=[.int n,.ref ps,.int e]/\0<=n/\n<2147483648/\jF H ps sz/\∀(v:V)(d:Dd)(h:Hp),aH H h->sO h v d->qI sz e d->Q v h
def Vu:isW ("hum" : Str)=true:=by decide +kernel
def QJ(r:Int) : -(10 ^ 30)<=r%9-4/\r%9-4<=10 ^ 30:=by have:=j7 r (show (9:Int)≠0 by decide);have:=jR r (show (0:Int)<9 by decide);omega
def Zn(d:0<=r)(H:r<2147483648) : -(10 ^ 30)<=(r*10 ^ (20:Int).toNat+r)*(1-2*(s%2))/\(r*10 ^ (20:Int).toNat+r)*(1-2*(s%2))<=10 ^ 30:=by
 have e:(10:Int) ^ (20:Int).toNat=100000000000000000000:=by decide
 rw[e]
 have h:s%2=0∨s%2=1:=by omega
 rcases h with h | h <;> rw[h] <;> omega
theorem ZQ{sz:aw Int}{i z:Int}(d:0<=i)(h:mX (sz.map V.int) i=some (.int z)):sz.getD i.toNat 0=z:=by
 unfold mX Su at h;rw[cS d]at h
 split at h
 .have h:(sz.map V.int)[i.toNat]? = some (.int z):=h;rw[dZ]at h;rw[jT]
  cases e:sz[i.toNat]? with
  | none=>
   rw[e]at h
   cases h
  | some y=>
   rw[e]at h;have h:V.int y=V.int z:=kJ h;injection h
 .cases h
def kO:aF ["_law_number","_law_sizes","_law_events","_law_way","_law_rest","_law_b"] ["_law_number","_law_sizes","_law_events"] (aA tR):=cQ
def V6{f N:ar}{L O:af}(F:bO K "_law_deed" "_law_deed" tR f L)(W:Dp P w K mg base aN 1 N O ["_law_k","_law_number"] xm "_law_name")
  (C:mg "len" = none):aL P w K mg base aN 2 f L ["_law_number","_law_sizes","_law_events"] Nu:=by
 refine F.ok kO ?_ ?_
 .rintro _ _ _ _⟨n,e,ps,sz,rfl,_⟩;rfl
 intro _ A _ s H _ Q E U h
 obtain⟨n,e,ps,sz,rfl,_,_,hsz,q⟩:=h
 refine⟨_,(zE (zL (i:=3) kO.nd rfl (bb rfl) (yC yV (yL (zA zB (zA zB (zA zB (zA zB (zA zB zD)))))) (yD zZ (pv 0) zB) (fun _ _=>rfl)))
  (zE (zL (i:=4) kO.nd rfl (bb rfl) (yD yM (pv 0) zB))
  (zE (yE (bZ (PW.pt (pw_and (zM yH (pv 3) zB (zS _)) (yQ (zM cY (pv 2) zB (zS _))))))
  (zG (zP (zX (zA zQ (zA (yD zZ (pv 4) (pv 2)) zD)))))
  zU)
  (zE (yE (bZ (PW.pt (pw_and (zM yH (pv 3) zB (zS _)) (yQ (zM cY (zT zO rfl C bj (zA (pv 1) zD)) zB (zS _))))))
  (zE (zL (i:=5) kO.nd rfl (bb rfl) (yD zZ (pv 4) (zT zO rfl C bj (zA (pv 1) zD))))
  (zG (zP (zX (zA zQ (zA (pv 5) (zA (yD zZ (yD yM (pv 4) zB) (yC yV (pv 1) (pv 5) (fun _ _=>rfl))) zD)))))))
  zU)
  (zE (yE (bZ (PW.pt (pw_and (zM yH (pv 3) zB (zS _)) (pw_and (zM cY (zT zO rfl C bj (zA (pv 1) zD)) zB (zS _)) (yQ (zM yH (yD zZ (yD yM (pv 4) zB) zB) zB (zS _)))))))
  (zG (zP (zX (zA zQ (zA (yD zZ (pv 4) (zT zO rfl C bj (zA (pv 1) zD))) (zA (yD iB (yD yG (yD iB (pv 4) (yD GP zB zB)) (pv 4)) (yD lF zB (yD iB zB (yD zZ (yD yM (pv 4) zB) zB)))) zD))))))
  zU)
  (zE (yE (bZ (PW.pt (pw_and (zM yH (pv 3) zB (zS _)) (yQ (zM cY (zT zO rfl C bj (zA (pv 1) zD)) zB (zS _))))))
  (zG (zP (zX (zA zQ (zA (yD zZ (pv 4) (zT zO rfl C bj (zA (pv 1) zD))) (zA (yD lF (yD zZ (yD yM (pv 4) zB) zB) zB) zD))))))
  zU)
  (zE (yE (zM yH (yD zZ (pv 4) zB) zB (zS _))
  (zG (zP (zX (zA zQ (zA zQ zD)))))
  zU)
  (zG (zP (zX (zA zQ (zA (pC W U (zA (yD zZ (yD yM (pv 4) zB) zB) (zA (yD yM (pv 4) zB) zD))) zD)))))))))))),?_⟩
 obtain⟨v,t⟩:=Zv (ns:=[0,1,1,2,3]) (i:=n%5) (by omega) (by show _<(5:Int);omega);have l:(sz.map V.int).length=sz.length:=bT _;refine⟨zJ (by show 5<=1000;decide),fun I o=>⟨_,rfl,_,_,rfl,rfl,(by show (0:Int)<5;decide),I,_,_,_,rfl,rfl,aU.of zC,t,?_⟩⟩;have S:=zF o (.lst [V.int 0,V.int 1,V.int 1,V.int 2,V.int 3]);have m:=hsz.mono S;generalize upd H I (.lst [V.int 0,V.int 1,V.int 1,V.int 2,V.int 3])=R at S m ⊢;refine⟨_,rfl,_,_,rfl,rfl,⟨by decide,by decide⟩,?_⟩
 have Y:0<=n/5:=by omega
 have T:n/5<2147483648:=by omega
 refine⟨fun c x=>x=R/\(c=true->0<e),?_,?_⟩
 .refine⟨_,rfl,rfl,_,rfl,?_⟩;refine fO (fun c=>?_) (fun c=>⟨rfl,fun z=>(by cases z)⟩);exact⟨_,rfl,_,_,rfl,rfl,_,rfl,rfl,fun z=>ba z⟩
 rintro _ x ⟨rfl,r⟩;refine fO (fun c=>?_) (fun c=>?_)
 .have d:=r c;exact⟨_,rfl,_,rfl,_,_,rfl,rfl,(by show (0:Int)<e;exact d),zJ (by show 2<=1000;decide),fun p a=>q _ (.send _) _ (S.trans (zF a _)) (.send zC) ⟨j7 _ (by omega),jR _ d⟩⟩
 refine⟨fun c D=>D=x/\(c=true->0<sz.length),?_,?_⟩
 .exact⟨_,rfl,rfl,_,rfl,fO (fun c=>⟨_,rfl,ps,_,rfl,.inl (aU.of m.1),_,_,rfl,rfl,_,rfl,rfl,fun z=>(by have:=ba z;rw[l]at this;omega)⟩) (fun c=>⟨rfl,fun z=>(by cases z)⟩)⟩
 rintro _ D ⟨rfl,g⟩;refine fO (fun c=>?_) (fun c=>?_)
 .have d:=g c;have k:=j7 (n/5) (show (((sz.map V.int).length:Nat):Int)≠0 by omega);have G:=jR (n/5) (show (0:Int)<(((sz.map V.int).length:Nat):Int) by omega);obtain⟨_,B,J⟩:=qG (xs:=sz.map V.int) (i:=n/5%(((sz.map V.int).length:Nat):Int)) k G;obtain⟨z,b,rfl⟩:=eX.mp B;refine⟨_,rfl,_,rfl,ps,_,rfl,.inl (aU.of m.1),_,_,rfl,rfl,(by show (0:Int)<(((sz.map V.int).length:Nat):Int);omega),?_⟩;exact⟨_,rfl,_,rfl,_,_,rfl,rfl,⟨by decide,by decide⟩,_,rfl,_,rfl,ps,_,_,_,rfl,rfl,aU.of m.1,J,_,_,rfl,rfl,(by show (0:Int)<z;exact m.2.1 z b),zJ (by show 3<=1000;decide),fun p a=>q _ (.set _ _) _ (S.trans (zF a _)) (.set zC) ⟨⟨k,by rw[<-l];exact G⟩,j7 _ (by have:=m.2.1 z b;omega),by rw[ZQ k J];exact jR _ (m.2.1 z b)⟩⟩
 refine⟨fun c y=>y=D/\(c=true->0<sz.length),?_,?_⟩
 .refine⟨_,rfl,rfl,_,rfl,fO (fun c=>?_) (fun c=>⟨rfl,fun z=>(by cases z)⟩)⟩;refine⟨_,rfl,ps,_,rfl,.inl (aU.of m.1),_,_,rfl,rfl,_,rfl,fO (fun c=>?_) (fun c=>⟨rfl,fun z=>(by cases z)⟩)⟩
  .have:=ba c;rw[l]at this;exact⟨_,rfl,_,_,rfl,rfl,⟨by decide,by decide⟩,_,_,rfl,rfl,(by show (0:Int)<5;decide),rfl,_,rfl,rfl,fun _=>by omega⟩
 rintro _ y ⟨rfl,j⟩;refine fO (fun c=>?_) (fun c=>?_)
 .have d:=j c;exact⟨_,rfl,_,rfl,ps,_,rfl,.inl (aU.of m.1),_,_,rfl,rfl,(by show (0:Int)<(((sz.map V.int).length:Nat):Int);omega),_,rfl,_,_,rfl,rfl,⟨by decide,by decide,by decide⟩,_,_,rfl,rfl,.inl ⟨by omega,by omega⟩,_,rfl,_,_,rfl,rfl,_,rfl,_,_,rfl,rfl,⟨by decide,by decide⟩,_,_,rfl,rfl,(by show (0:Int)<2;decide),_,_,rfl,rfl,.inl ⟨by decide,by decide⟩,_,_,rfl,rfl,_,_,rfl,rfl,.inr ⟨by omega,by omega⟩,zJ (by show 3<=1000;decide),fun p a=>q _ (.add _ _) _ (S.trans (zF a _)) (.add zC) ⟨⟨j7 _ (by omega),by rw[<-l];exact jR _ (by omega)⟩,Zn Y T⟩⟩
 refine⟨fun c M=>M=y/\(c=true->0<sz.length),?_,?_⟩
 .exact⟨_,rfl,rfl,_,rfl,fO (fun c=>⟨_,rfl,ps,_,rfl,.inl (aU.of m.1),_,_,rfl,rfl,_,rfl,rfl,fun z=>(by have:=ba z;rw[l]at this;omega)⟩) (fun c=>⟨rfl,fun z=>(by cases z)⟩)⟩
 rintro _ M ⟨rfl,u⟩;refine fO (fun c=>?_) (fun c=>?_)
 .have d:=u c;exact⟨_,rfl,_,rfl,ps,_,rfl,.inl (aU.of m.1),_,_,rfl,rfl,(by show (0:Int)<(((sz.map V.int).length:Nat):Int);omega),_,rfl,_,_,rfl,rfl,⟨by decide,by decide⟩,_,_,rfl,rfl,(by show (0:Int)<9;decide),_,_,rfl,rfl,zJ (by show 3<=1000;decide),fun p a=>q _ (.add _ _) _ (S.trans (zF a _)) (.add zC) ⟨⟨j7 _ (by omega),by rw[<-l];exact jR _ (by omega)⟩,QJ _⟩⟩
 refine⟨_,rfl,_,_,rfl,rfl,(by show (0:Int)<2;decide),rfl,_,rfl,fO (fun c=>?_) (fun c=>?_)⟩
 .exact⟨zJ (by show 2<=1000;decide),fun p a=>q _ (.say _) _ (S.trans (zF a _)) (.say zC) Vu⟩
 .exact⟨_,rfl,_,_,rfl,rfl,⟨by decide,by decide⟩,_,_,rfl,rfl,(by show (0:Int)<3;decide),_,rfl,_,_,rfl,rfl,⟨by decide,by decide⟩,_,_,rfl,fun _ X=>⟨zJ (by show 2<=1000;decide),fun p a=>q _ (.say _) _ ((S.trans X).trans (zF a _)) (.say zC) (mJ _ _)⟩⟩
def zz(K:bV):Sp:=fun vs H Q _ => ∃(a ps:ar)(ns sz:aw Int)(k S e:Int),vs=[.ref a,.int k,.int S,.ref ps,.int e]/\aU K H a (ns.map V.int)/\ns.length<=63/\(0<=k/\k<=1000)/\(0<=S/\S<=100)/\jF H ps sz/\∀(v:V)(D:aw Dd)(h:Hp),aH H h->Ru.oK h v D->(∀ d∈D,qI sz e d)->D.length<=8->Q v h
def GoodG(N r:Int):Gd->Prop
 | .yes=>True
 | .is b n=>(0<=b/\b<N) /\ -(10 ^ 30)<=n/\n<=10 ^ 30
 | .under b n=>(0<=b/\b<N) /\ -(10 ^ 30)<=n/\n<=10 ^ 30
 | .inn x=>0<=x/\x<r
 | .neg g=>GoodG N r g
 | .both g k=>GoodG N r g/\GoodG N r k
 | .either g k=>GoodG N r g/\GoodG N r k
def jV(h:Nat):Sp:=fun vs H Q _ => ∃(n r i:Int)(N:Nat),vs=[.int n,.int r,.int (N:Int),.int i]/\0<r/\1<=i/\i<=(h:Int)/\∀(v:V)(g:Gd)(a:Hp),aH H a->jH a v g->GoodG N r g->(g.ht:Int)<=i->Q v a
def qBP(r:Int) : -(10 ^ 30)<=r%4/\r%4<=10 ^ 30:=by have:=j7 r (show (4:Int)≠0 by decide);have:=jR r (show (0:Int)<4 by decide);omega
def qBO(r:Int) : -(10 ^ 30)<=r%5/\r%5<=10 ^ 30:=by have:=j7 r (show (5:Int)≠0 by decide);have:=jR r (show (0:Int)<5 by decide);omega
def fX:aF ["_law_script","_law_k","_law_salt","_law_sizes","_law_events","_law_number","_law_many","_law_deeds_here","_law_j"] ["_law_script","_law_k","_law_salt","_law_sizes","_law_events"] (aA qT):=cQ
def R0(F:bO K "_law_deeds" "_law_deeds" qT f fd)
  (M:Dp P w K mg base aN 2 gm dm ["_law_script","_law_k","_law_salt"] (jC K) "_law_mixed")
  (Z:Dp P w K mg base aN 2 gd dd ["_law_number","_law_sizes","_law_events"] Nu "_law_deed")
  (W:mg "range" = none) (aj:mg "tuple" = none):aL P w K mg base aN 3 f fd ["_law_script","_law_k","_law_salt","_law_sizes","_law_events"] (zz K):=by
 refine F.ok fX ?_ ?_
 .rintro _ _ _ _⟨a,ps,ns,sz,k,S,e,rfl,_⟩;rfl
 intro _ A _ s H _ Q E C h
 obtain⟨a,ps,ns,sz,k,S,e,rfl,I,n,⟨_,_⟩,⟨_,_⟩,hsz,q⟩:=h
 refine⟨_,(zE (zL (i:=5) fX.nd rfl (bb rfl) (pC M C (zA (pv 0) (zA (pv 1) (zA (pv 2) zD)))))
  (zE (zL (i:=6) fX.nd rfl (bb rfl) (yC yV (yL (zA zB (zA zB (zA zB (zA zB (zA zB (zA zB (zA zB (zA zB zD))))))))) (yD zZ (pv 5) zB) (fun _ _=>rfl)))
  (zE (zL (i:=7) fX.nd rfl (bb rfl) (yL zD))
  (yA (bf PassesOwn.never rfl (cg rfl W (zA (pv 6) zD)) (yK (i:=8) fX.nd rfl (bb rfl))
  (zG (yJ (dU iu yz yx yI (pv 7) (zA (pC Z C (zA (pC M C (zA (pv 0) (zA (pv 1) (zA (yD yG (yD yG (pv 2) zB) (pv 8)) zD)))) (zA (pv 3) (zA (pv 4) zD)))) zD)))))
  (zG (zP (yB zY rfl aj qt (zA (pv 7) zD)))))))),?_⟩
 refine⟨_,rfl,_,rfl,_,rfl,a,ns,_,_,rfl,I,n,⟨by omega,by omega⟩,⟨by omega,by omega⟩,fun x _ _=>?_⟩
 obtain⟨m,hm,hat⟩:∃ m:Nat,m<=3/\mX [V.int 0,V.int 0,V.int 1,V.int 1,V.int 1,V.int 2,V.int 2,V.int 3] (x%8)=some (.int (m:Int)):=by
  obtain⟨o,ho,e⟩:=JW (os:=[0,0,1,1,1,2,2,3]) (i:=x%8) (by omega) (by show _<(8:Int);omega);refine⟨o,?_,e⟩;simp only[List.mem_cons,List.not_mem_nil,or_false]at ho;omega
 refine⟨zJ (by show 8<=1000;decide),fun J B=>⟨_,rfl,_,_,rfl,rfl,(by show (0:Int)<8;decide),J,_,_,_,rfl,rfl,aU.of zC,hat,?_⟩⟩;have z:=zF B (.lst [V.int 0,V.int 0,V.int 1,V.int 1,V.int 1,V.int 2,V.int 2,V.int 3]);generalize upd H J (.lst [V.int 0,V.int 0,V.int 1,V.int 1,V.int 1,V.int 2,V.int 2,V.int 3])=H1 at z ⊢;refine⟨bo _,fun c U=>?_⟩;have X:H c=none:=z.free U;have s2:=z.trans (zF U (.lst []));refine⟨fun σ' b=>∃(xs:aw V)(D:aw Dd),aH H b/\b c=some (.lst xs)/\il b xs D/\(∀ d∈D,qI sz e d)/\D.length<=8/\∃ O:aE V,σ'=[some (.ref a),some (.int k),some (.int S),some (.ref ps),some (.int e),some (.int x),some (.int (m:Int)),some (.ref c),O],?_,?_⟩
 .refine⟨_,rfl,_,rfl,by omega,by omega,?_⟩;refine cI (fun i σ' b=>∃(xs:aw V)(D:aw Dd),aH H b/\b c=some (.lst xs)/\il b xs D/\(∀ d∈D,qI sz e d)/\D.length<=i/\∃ O:aE V,σ'=[some (.ref a),some (.int k),some (.int S),some (.ref ps),some (.int e),some (.int x),some (.int (m:Int)),some (.ref c),O])
   ⟨[],[],s2,zC,.nil,(fun d h=>by cases h),bD _,_,rfl⟩ ?_ (fun σ' b ⟨xs,D,Y,g,t,ok,l,r⟩=>⟨xs,D,Y,g,t,ok,by omega,r⟩)
  rintro i σ' H3 _ ⟨xs,D,Y,g,t,ok,_,O,rfl⟩;have R:=t.length;refine⟨_,rfl,.inl ⟨rfl,_,aU.of g⟩,_,rfl,_,rfl,_,rfl,_,_,rfl,rfl,_,rfl,_,_,rfl,rfl,a,ns,_,_,rfl,Y.seq I,n,⟨by omega,by omega⟩,⟨by omega,by omega⟩,fun y T y1=>?_⟩;refine⟨_,rfl,_,rfl,y,e,ps,sz,rfl,T,y1,hsz.mono Y,fun v d _ u hd G=>?_⟩;have L:=aB.lst (u _ _ g) (.lst (xs++[v]));refine⟨c,_,_,rfl,rfl,u _ _ g,zW (by omega),xs++[v],D++[d],bW X (Y.trans u) _,zC,(t.mono ((aB.of u).trans L)).snoc (hd.mono L),fun x j=>?_,by rw[j8,vG];omega,_,rfl⟩;rcases jz.mp j with j | j
  .exact ok x j
  .rw[jA.mp j];exact G
 rintro σ' H3 ⟨xs,D,Y,g,t,ok,l,O,rfl⟩;exact⟨_,rfl,c,_,rfl,.inl ⟨aU.of g,fun p N=>q _ D _ (Y.trans (zF N _)) ⟨p,xs,rfl,zC,t.mono (aB.new N _)⟩ ok l⟩⟩
def nF:aF ["_law_number","_law_rooms_here","_law_boxes","_law_high","_law_way","_law_rest"] ["_law_number","_law_rooms_here","_law_boxes","_law_high"] (aA jL):=cQ
def Qs(F:bO K "_law_guard" "_law_guard" jL f fd)(D:Dp P w K mg base aN n f fd ["_law_number","_law_rooms_here","_law_boxes","_law_high"] (jV n) "_law_guard") :
  aL P w K mg base aN (n+1) f fd ["_law_number","_law_rooms_here","_law_boxes","_law_high"] (jV (n+1)):=by
 refine F.ok nF ?_ ?_
 .rintro _ _ _ _⟨m,r,e,b,rfl,_⟩;rfl
 intro _ A _ s H _ Q E l h
 obtain⟨m,r,e,b,rfl,R,_,_,q⟩:=h
 refine⟨_,(zE (zL (i:=4) nF.nd rfl (bb rfl) (yD zZ (pv 0) zB))
  (zE (zL (i:=5) nF.nd rfl (bb rfl) (yD yM (pv 0) zB))
  (zE (yE (bZ (PW.pt (pw_and (zM cY (pv 3) zB (zS _)) (yQ (zM yH (pv 4) zB (zS _))))))
  (zG (zP (zX (zA zQ (zA (pC D l (zA (pv 5) (zA (pv 1) (zA (pv 2) (zA (yD lF (pv 3) zB) zD))))) zD)))))
  zU)
  (zE (yE (bZ (PW.pt (pw_and (zM cY (pv 3) zB (zS _)) (yQ (zM yH (pv 4) zB (zS _))))))
  (zG (zP (zX (zA zQ (zA (pC D l (zA (pv 5) (zA (pv 1) (zA (pv 2) (zA (yD lF (pv 3) zB) zD))))) (zA (pC D l (zA (yD yM (pv 5) zB) (zA (pv 1) (zA (pv 2) (zA (yD lF (pv 3) zB) zD))))) zD))))))
  zU)
  (zE (yE (bZ (PW.pt (pw_and (zM cY (pv 3) zB (zS _)) (yQ (zM yH (pv 4) zB (zS _))))))
  (zG (zP (zX (zA zQ (zA (pC D l (zA (pv 5) (zA (pv 1) (zA (pv 2) (zA (yD lF (pv 3) zB) zD))))) (zA (pC D l (zA (yD yM (pv 5) zB) (zA (pv 1) (zA (pv 2) (zA (yD lF (pv 3) zB) zD))))) zD))))))
  zU)
  (zE (yE (bZ (PW.pt (pw_or (zM yH (pv 4) zB (zS _)) (pw_or1 (zM yH (pv 4) zB (zS _))))))
  (zG (zP (zX (zA zQ (zA (yD zZ (pv 5) (pv 1)) zD)))))
  zU)
  (zE (yE (bZ (PW.pt (pw_and (zM yH (pv 4) zB (zS _)) (yQ (zM cY (pv 2) zB (zS _))))))
  (zG (zP (zX (zA zQ (zA (yD zZ (pv 5) (pv 2)) (zA (yD zZ (yD yM (pv 5) zB) zB) zD))))))
  zU)
  (zE (yE (bZ (PW.pt (pw_and (zM yH (pv 4) zB (zS _)) (yQ (zM cY (pv 2) zB (zS _))))))
  (zG (zP (zX (zA zQ (zA (yD zZ (pv 5) (pv 2)) (zA (yD zZ (yD yM (pv 5) zB) zB) zD))))))
  zU)
  (zG (zP (zX (zA zQ zD)))))))))))),?_⟩
 refine⟨_,rfl,_,_,rfl,rfl,(by show (0:Int)<9;decide),?_⟩;refine⟨_,rfl,_,_,rfl,rfl,⟨by decide,by decide⟩,?_⟩;refine⟨fun c d=>d=H/\(c=true->1<e),?_,?_⟩
 .refine⟨_,rfl,_,_,rfl,rfl,_,rfl,fO (fun c=>?_) (fun c=>⟨rfl,fun z=>(by cases z)⟩)⟩;exact⟨_,rfl,rfl,_,rfl,rfl,fun _=>ba c⟩
 rintro _ H ⟨rfl,y⟩;refine fO (fun c=>?_) (fun c=>?_)
 .have j:=y c;exact⟨_,rfl,_,rfl,_,rfl,_,rfl,_,_,rfl,rfl,_,_,_,_,rfl,R,by omega,by omega,fun v g J S o Z G=>⟨zJ (by show 2<=1000;decide),fun p a=>q _ (.neg g) _ (S.trans (zF a _)) (.neg zC (o.mono (aB.new a _))) Z (by show ((g.ht+1:Nat):Int)<=e;omega)⟩⟩
 refine⟨fun c d=>d=H/\(c=true->1<e),?_,?_⟩
 .refine⟨_,rfl,_,_,rfl,rfl,_,rfl,fO (fun c=>?_) (fun c=>⟨rfl,fun z=>(by cases z)⟩)⟩;exact⟨_,rfl,rfl,_,rfl,rfl,fun _=>ba c⟩
 rintro _ H ⟨rfl,u⟩;refine fO (fun c=>?_) (fun c=>?_)
 .have j:=u c;exact⟨_,rfl,_,rfl,_,rfl,_,rfl,_,_,rfl,rfl,_,_,_,_,rfl,R,by omega,by omega,fun v g J S o Z G=>⟨_,rfl,_,_,rfl,rfl,⟨by decide,by decide⟩,_,rfl,_,rfl,_,rfl,_,_,rfl,rfl,_,_,_,_,rfl,R,by omega,by omega,fun v3 X L t k Y C=>⟨zJ (by show 3<=1000;decide),fun p a=>q _ (.both g X) _ ((S.trans t).trans (zF a _)) (.both zC (o.mono (aB.of (t.trans (zF a _)))) (k.mono (aB.new a _))) ⟨Z,Y⟩ (by show ((1+max g.ht X.ht:Nat):Int)<=e;omega)⟩⟩⟩
 refine⟨fun c d=>d=H/\(c=true->1<e),?_,?_⟩
 .refine⟨_,rfl,_,_,rfl,rfl,_,rfl,fO (fun c=>?_) (fun c=>⟨rfl,fun z=>(by cases z)⟩)⟩;exact⟨_,rfl,rfl,_,rfl,rfl,fun _=>ba c⟩
 rintro _ H ⟨rfl,x⟩;refine fO (fun c=>?_) (fun c=>?_)
 .have j:=x c;exact⟨_,rfl,_,rfl,_,rfl,_,rfl,_,_,rfl,rfl,_,_,_,_,rfl,R,by omega,by omega,fun v g J S o Z G=>⟨_,rfl,_,_,rfl,rfl,⟨by decide,by decide⟩,_,rfl,_,rfl,_,rfl,_,_,rfl,rfl,_,_,_,_,rfl,R,by omega,by omega,fun v3 X L t k Y C=>⟨zJ (by show 3<=1000;decide),fun p a=>q _ (.either g X) _ ((S.trans t).trans (zF a _)) (.either zC (o.mono (aB.of (t.trans (zF a _)))) (k.mono (aB.new a _))) ⟨Z,Y⟩ (by show ((1+max g.ht X.ht:Nat):Int)<=e;omega)⟩⟩⟩
 refine⟨fun c d=>d=H,?_,?_⟩
 .exact⟨_,rfl,rfl,_,rfl,fO (fun c=>rfl) (fun c=>⟨_,rfl,rfl,_,rfl,rfl⟩)⟩
 rintro _ H rfl;refine fO (fun c=>?_) (fun c=>?_)
 .exact⟨_,rfl,_,rfl,_,_,rfl,rfl,(by show (0:Int)<r;exact R),zJ (by show 2<=1000;decide),fun p a=>q _ (.inn _) _ (zF a _) (.inn zC) ⟨j7 _ (by omega),jR _ R⟩ (by show (1:Int)<=e;omega)⟩
 refine⟨fun c d=>d=H/\(c=true->0<(b:Int)),?_,?_⟩
 .refine⟨_,rfl,rfl,_,rfl,fO (fun c=>⟨_,rfl,_,_,rfl,rfl,_,rfl,rfl,fun z=>ba z⟩) (fun c=>⟨rfl,fun z=>(by cases z)⟩)⟩
 rintro _ H ⟨rfl,B⟩;refine fO (fun c=>?_) (fun c=>?_)
 .have j:=B c;exact⟨_,rfl,_,rfl,_,_,rfl,rfl,(by show (0:Int)<(b:Int);exact j),_,rfl,_,_,rfl,rfl,⟨by decide,by decide⟩,_,_,rfl,rfl,(by show (0:Int)<4;decide),zJ (by show 3<=1000;decide),fun p a=>q _ (.is _ _) _ (zF a _) (.is zC) ⟨⟨j7 _ (by omega),jR _ j⟩,qBP _⟩ (by show (1:Int)<=e;omega)⟩
 refine⟨fun c d=>d=H/\(c=true->0<(b:Int)),?_,?_⟩
 .refine⟨_,rfl,rfl,_,rfl,fO (fun c=>⟨_,rfl,_,_,rfl,rfl,_,rfl,rfl,fun z=>ba z⟩) (fun c=>⟨rfl,fun z=>(by cases z)⟩)⟩
 rintro _ H ⟨rfl,I⟩;refine fO (fun c=>?_) (fun c=>?_)
 .have j:=I c;exact⟨_,rfl,_,rfl,_,_,rfl,rfl,(by show (0:Int)<(b:Int);exact j),_,rfl,_,_,rfl,rfl,⟨by decide,by decide⟩,_,_,rfl,rfl,(by show (0:Int)<5;decide),zJ (by show 3<=1000;decide),fun p a=>q _ (.under _ _) _ (zF a _) (.under zC) ⟨⟨j7 _ (by omega),jR _ j⟩,qBO _⟩ (by show (1:Int)<=e;omega)⟩
 exact⟨zJ (by show 1<=1000;decide),fun p a=>q _ .yes _ (zF a _) (.yes zC) trivial (by show (1:Int)<=e;omega)⟩
def JT:aL P w K mg base aN 0 f fd ["_law_number","_law_rooms_here","_law_boxes","_law_high"] (jV 0):=by
 have n:∀ vs H Q E,¬ jV 0 vs H Q E:=fun vs H Q E h=>by
  obtain⟨m,r,_,b,_,_,_,_,_⟩:=h;omega
 exact⟨fun vs H Q E h=>eu h (n vs H Q E),fun A _ s H _ _ vs Q E _ _ _ _ h=>eu h (n vs H Q E)⟩
theorem By(F:bO K "_law_guard" "_law_guard" jL f fd)(U:Binds K fd ["_law_number","_law_rooms_here","_law_boxes","_law_high"] [])(u:mg "_law_guard" = some (.ref f)):∀ n:Nat,aL P w K mg base aN n f fd ["_law_number","_law_rooms_here","_law_boxes","_law_high"] (jV n)
 | 0=>JT
 | n+1=>Qs F ⟨By F U u n,U,F.kp,u⟩
end CJ
namespace CJ
open PySem L2 jP lN vB xM Zz gW
end CJ
namespace mj
open PySem L2 jP lN vB xM
inductive Ik(K:bV)(vs:List V)(H:Hp)(Q:VK)(E_:XK):Prop
 | mk (a:Addr) (ns:List Int) (m:Nat) (_:vs=[.ref a,.int (m:Int)]) (_:aU K H a (ns.map V.int)) (_:ns.length<=63) (_:1<=m) (_:m<=12) (_:∀(p:Addr)(ds:List Int)(H':Hp),aH H H'->H p=none->H' p=some (.lst (ds.map V.int))->Tr.Good ds->Xx ds->ds.length=m->Q (.ref p) H')
def lE:aF ["_law_script","_law_many","_law_depths_here","_law_k"] ["_law_script","_law_many"] (aA nJ):=cQ
def Qy(F:bO K "_law_depths" "_law_depths" nJ f fd)(M:Dp P w K mg base aN 2 gm dm ["_law_script","_law_k","_law_salt"] (jC K) "_law_mixed")
  (z:mg "range" = none) (v:mg "min" = none):aL P w K mg base aN 3 f fd ["_law_script","_law_many"] (Ik K):=by
 refine F.ok lE ?_ ?_
 .rintro _ _ _ _⟨a,ns,m,rfl,_⟩;rfl
 intro _ A _ s H _ Q E r h
 apply aW;intro _ g_;obtain⟨a,ns,m,rfl,o,d,_,_,q⟩:=h;apply g_;clear g_
 refine⟨_,(zE (zL (i:=2) lE.nd rfl (bb rfl) (yL (zA zB zD)))
  (yA (bf PassesOwn.never rfl (vR rfl z (zA zB (zA (pv 1) zD))) (yK (i:=3) lE.nd rfl (bb rfl))
  (zG (yJ (dU iu yz yx yI (pv 2) (zA (yD yG zB (yD zZ (pC M r (zA (pv 0) (zA (yD yG zB (pv 3)) (zA zB zD)))) (yD yG (zT (Ep rfl) rfl v PyProof.Rows.boot_min (zA (yC yV (pv 2) (yD lF (pv 3) zB) (fun _ _=>rfl)) (zA zB zD))) zB))) zD)))))
  (zG (zP (pv 2))))),?_⟩
 refine⟨zJ (by show 1<=1000;decide),fun p U=>?_⟩;refine⟨fun σ' c=>∃ dl:aw Int,aH H c/\c p=some (.lst (dl.map V.int))/\Tr.Good dl/\Xx dl/\dl.length=m/\∃ G:aE V,σ'=[some (.ref a),some (.int (m:Int)),some (.ref p),G],?_,?_⟩
 .refine⟨_,rfl,1,(m:Int),rfl,⟨by decide,by decide,by lia,by lia⟩,?_⟩;refine cI (fun i σ' c=>∃ dl:aw Int,aH H c/\c p=some (.lst (dl.map V.int))/\Tr.Good dl/\Xx dl/\dl.length=i+1/\∃ G:aE V,σ'=[some (.ref a),some (.int (m:Int)),some (.ref p),G])
   ⟨[0],zF U _,zC,.one,(fun k u=>by (have:k=0:=by simpa using u);subst this;decide),rfl,none,rfl⟩ ?_ ?_
  .rintro i σ' e _ B;apply aW;intro _ g_;obtain⟨dl,S,l,g,low,b,G,rfl⟩:=B;apply g_;clear g_;have N:=g.nonneg i (by lia)
   have t:mX (dl.map V.int) (1+(i:Int)-1)=some (.int (dl.getD i 0)):=by
    rw[show (1+(i:Int))-1=(i:Int) by lia];exact Gi (by lia)
   refine⟨_,rfl,.inl ⟨rfl,_,aU.of l⟩,_,rfl,_,rfl,eO ⟨a,ns,_,_,rfl,S.seq o,d,⟨by lia,by lia⟩,⟨by decide,by decide⟩,fun y _ _=>?_⟩⟩
   have T:0<=(if (3:Int)<dl.getD i 0 then 3 else dl.getD i 0)/\(if (3:Int)<dl.getD i 0 then 3 else dl.getD i 0)<=dl.getD i 0/\(if (3:Int)<dl.getD i 0 then 3 else dl.getD i 0)<=3:=by split <;> lia
   have n:=j7 y (show (if (3:Int)<dl.getD i 0 then 3 else dl.getD i 0)+1≠0 by lia);have j:=jR y (show 0<(if (3:Int)<dl.getD i 0 then 3 else dl.getD i 0)+1 by lia);refine⟨_,rfl,_,rfl,eO (gJ (aU.of l) t ⟨_,_,rfl,eO (eO ⟨(by show (0:Int)<(if (3:Int)<dl.getD i 0 then 3 else dl.getD i 0)+1;lia),_,_,rfl,rfl,p,_,_,rfl,rfl,l,zW (by rw[bT];lia),?_⟩)⟩)⟩;refine⟨dl++[1+y%((if (3:Int)<dl.getD i 0 then 3 else dl.getD i 0)+1)],bW U S _,?_,g.snoc (by lia) (by rw[b,Nat.add_sub_cancel];lia),low.snoc (by lia),by simp [b],_,rfl⟩;rw[zC,qz];rfl
  .rintro σ' e B;apply aW;intro _ g_;obtain⟨dl,S,l,g,low,b,G,rfl⟩:=B;apply g_;clear g_;exact⟨dl,S,l,g,low,by lia,G,rfl⟩
 rintro σ' e B;apply aW;intro _ g_;obtain⟨dl,S,l,g,low,b,G,rfl⟩:=B;apply g_;clear g_;exact⟨_,rfl,q p dl e S U l g low b⟩
end mj
namespace CJ
open PySem L2 jP lN vB xM Zz
structure RoG(sz:List Int)(e sd:Int)(ds:List Int)(k:Nat)(r:gW.Ro):Prop where
 nm:r.nm=fL (k:Int) sd
 sh:if k+1<ds.length/\ds.getD k 0<ds.getD (k+1) 0 then (r.kind = "one" ∨ r.kind = "all") else (r.kind = "plain" /\ r.keeps = "")
 dp:r.depth=ds.getD k 0
 kp:r.keeps = "" ∨ (r.keeps = "near" /\ r.kind = "one")∨r.keeps = "deep"
 lp:r.jn = "" ∨ isW r.jn=true
 di:∀ d∈r.ins,qI sz e d
 dO:∀ d∈r.outs,qI sz e d
 l8:r.ins.length<=8/\r.outs.length<=8
inductive Hw(K:bV)(vs:List V)(H:Hp)(Q:VK)(E_:XK):Prop
 | mk (a pd ps:Addr) (ns ds sz:List Int) (e:Int) (_:vs=[.ref a,.ref pd,.ref ps,.int e]) (_:aU K H a (ns.map V.int)) (_:ns.length<=63) (_:H pd=some (.lst (ds.map V.int))) (_:ds.length<=12) (_:jF H ps sz) (_:∀(t:Addr)(rv:List V)(rs:List gW.Ro)(sd:Int)(H':Hp),aH H H'->H' t=some (.tup rv)->gW.cL H' rv rs->rs.length=ds.length->(∀ k r,rs[k]? = some r->RoG sz e sd ds k r)->Q (.ref t) H')
theorem Jp(h:Ru.oK H v ds):gW.HS H v ds:=by
 obtain⟨a,O,e,b,l⟩:=h;refine⟨a,O,e,b,?_⟩;clear b
 induction l with
 | nil=>exact .nil
 | cons h _ i=>exact .cons h i
def ao:aF ["_law_script","_law_depths_here","_law_sizes","_law_events","_law_rooms_here","_law_k","_law_number","_law_kind","_law_keeps","_law_lamp","_law_ins","_law_outs"] ["_law_script","_law_depths_here","_law_sizes","_law_events"] (aA Fv):=cQ
def Qh(F:bO K "_law_rooms" "_law_rooms" Fv f fd)(aM:Dp P w K mg base aN 3 gm dm ["_law_script","_law_k","_law_salt"] (jC K) "_law_mixed")
  (fH:Dp P w K mg base aN 3 gn dn ["_law_k","_law_number"] xm "_law_name")
  (lC:Dp P w K mg base aN 3 gd dd ["_law_script","_law_k","_law_salt","_law_sizes","_law_events"] (zz K) "_law_deeds")
  (bU:Dp P w K mg base aN 3 gc dc ["_law_script","_law_k"] (sX K) "_law_cell_at")
  (az:mg "range" = none) (aP:mg "len" = none) (aj:mg "tuple" = none):aL P w K mg base aN 4 f fd ["_law_script","_law_depths_here","_law_sizes","_law_events"] (Hw K):=by
 refine F.ok ao ?_ ?_
 .rintro _ _ _ _⟨a,Z,ps,ns,d,sz,e,rfl,_⟩;rfl
 intro _ A _ s H vs Q E hr h
 apply aW;intro _ g_;obtain⟨a,Z,ps,ns,d,sz,e,rfl,hS,o,hd,_,hsz,q⟩:=h;apply g_;clear g_
 refine⟨_,(zE (zL (i:=4) ao.nd rfl (bb rfl) (yL zD))
  (yA (bf PassesOwn.never rfl (cg rfl az (zA (zT zO rfl aP bj (zA (pv 1) zD)) zD)) (yK (i:=5) ao.nd rfl (bb rfl))
  (zE (zL (i:=6) ao.nd rfl (bb rfl) (pC aM hr (zA (pv 0) (zA (yD yG zB (pv 5)) (zA zB zD)))))
  (zE (zL (i:=7) ao.nd rfl (bb rfl) zQ)
  (zE (zL (i:=8) ao.nd rfl (bb rfl) zQ)
  (yA (yE (bZ (PW.pt (pw_and (zM mH (yD yG (pv 5) zB) (zT zO rfl aP bj (zA (pv 1) zD)) (zS _)) (yQ (zM cY (yC yV (pv 1) (yD yG (pv 5) zB) (fun _ _=>rfl)) (yC yV (pv 1) (pv 5) (fun _ _=>rfl)) (zS _))))))
  (zE (zL (i:=7) ao.nd rfl (bb rfl) (yC yV (yL (zA zQ (zA zQ (zA zQ zD)))) (yD zZ (pv 6) zB) (fun _ _=>rfl)))
  (zG (zL (i:=8) ao.nd rfl (bb rfl) (yC yV (yL (zA zQ (zA zQ (zA zQ zD)))) (yD zZ (yD yM (pv 6) zB) zB) (fun _ _=>rfl)))))
  zU)
  (yA (yE (bZ (PW.pt (pw_and (zM yH (pv 7) zQ (zS _)) (yQ (zM yH (pv 8) zQ (zS _))))))
  (zG (zL (i:=8) ao.nd rfl (bb rfl) zQ))
  zU)
  (zE (zL (i:=9) ao.nd rfl (bb rfl) zQ)
  (yA (yE (zM yH (yD zZ (yD yM (pv 6) zB) zB) zB (zS _))
  (zG (zL (i:=9) ao.nd rfl (bb rfl) (pC fH hr (zA (yD zZ (yD yM (pv 6) zB) zB) (zA (yD yM (pv 6) zB) zD)))))
  zU)
  (zE (zL (i:=10) ao.nd rfl (bb rfl) (pC lC hr (zA (pv 0) (zA (yD yG zB (pv 5)) (zA zB (zA (pv 2) (zA (pv 3) zD)))))))
  (zE (zL (i:=11) ao.nd rfl (bb rfl) (pC lC hr (zA (pv 0) (zA (yD yG zB (pv 5)) (zA zB (zA (pv 2) (zA (pv 3) zD)))))))
  (zG (yJ (dU iu yz yx yI (pv 4) (zA (zX (zA (pC fH hr (zA (pv 5) (zA (yD zZ (pC bU hr (zA (pv 0) (zA zB zD))) zB) zD))) (zA (pv 7) (zA (yC yV (pv 1) (pv 5) (fun _ _=>rfl)) (zA (pv 8) (zA (pv 9) (zA (pv 10) (zA (pv 11) zD)))))))) zD))))))))))))))
  (zG (zP (yB zY rfl aj qt (zA (pv 4) zD)))))),?_⟩
 have L:(d.map V.int).length=d.length:=bT _;refine⟨bo _,fun m hpr=>?_⟩;have s1:=zF hpr (.lst []);refine⟨fun σ' N=>∃ vs R,aH H N/\N m=some (.lst vs)/\gW.cL N vs R/\R.length=d.length/\(∀ k r,R[k]? = some r->RoG sz e (eF ns 0%997) d k r)/\∃ o5 o6 o7 o8 O v J:aE V,σ'=[some (.ref a),some (.ref Z),some (.ref ps),some (.int e),some (.ref m),o5,o6,o7,o8,O,v,J],?_,?_⟩
 .refine⟨_,rfl,xR rfl (.inl (aU.of (s1 _ _ hd))) ⟨_,rfl,by lia,by rw[L];lia,?_⟩⟩
  refine cI (fun i σ' N=>∃(vs:aw V)(R:aw gW.Ro),aH H N/\N m=some (.lst vs)/\gW.cL N vs R/\R.length=i/\(∀ k r,R[k]? = some r->RoG sz e (eF ns 0%997) d k r) ∧
   ∃ o5 o6 o7 o8 O v J:aE V,σ'=[some (.ref a),some (.ref Z),some (.ref ps),some (.int e),some (.ref m),o5,o6,o7,o8,O,v,J]) ⟨[],[],s1,zC,.nil,rfl,(fun k x h=>by simp at h),none,none,none,none,none,none,none,rfl⟩ ?_ ?_
  .rintro i σ' H3 hi B;apply aW;intro _ g_;obtain⟨vs,R,Y,h3,X,n,j,o5,o6,o7,o8,O,v,J,rfl⟩:=B;apply g_;clear g_
   have hi':i<d.length:=by
    simp only[List.length_map,Int.toNat_natCast]at hi;exact hi
   have u:=Y _ _ hd
   have hat:mX (d.map V.int) (0+(i:Int))=some (.int (d.getD i 0)):=by
    rw[cf];exact mj.Gi hi'
   refine⟨_,rfl,_,rfl,eO ⟨a,ns,_,_,rfl,Y.seq hS,o,⟨by lia,by lia⟩,⟨by decide,by decide⟩,fun x _ _=>?_⟩⟩;refine⟨fun σ' H4=>aH H3 H4/\∃ b p:Str,(if i+1<d.length/\d.getD i 0<d.getD (i+1) 0 then ((b = "one" ∨ b = "all")/\(p = "" ∨ p = "near" ∨ p = "deep")) else (b = "plain" /\ p = ""))/\σ'=[some (.ref a),some (.ref Z),some (.ref ps),some (.int e),some (.ref m),some (.int (0+(i:Int))),some (.int x),some (.str b),some (.str p),O,v,J],?_,?_⟩
   .refine⟨fun c H4=>H4=H3/\c=decide (i+1<d.length/\d.getD i 0<d.getD (i+1) 0),?_,?_⟩
    .refine⟨_,rfl,eO ⟨_,rfl,xR rfl (.inl (aU.of u)) (eO ⟨_,rfl,?_⟩)⟩⟩;refine vp (fun c=>?_) (fun c=>⟨rfl,?_⟩)
     .have c':(0:Int)+(i:Int)+1<(((d.map V.int).length:Nat):Int):=ba c;rw[L]at c'
      have Bd:mX (d.map V.int) (0+(i:Int)+1)=some (.int (d.getD (i+1) 0)):=by
       rw[show (0:Int)+(i:Int)+1=((i+1:Nat):Int) by lia];exact mj.Gi (by lia)
      refine⟨_,rfl,_,rfl,eO (gJ (aU.of u) Bd ⟨_,rfl,_,rfl,gJ (aU.of u) hat (eO ⟨_,rfl,rfl,?_⟩)⟩)⟩
      have e:i+1<d.length:=by lia
      simp [e]
     .have c':¬ (0:Int)+(i:Int)+1<(((d.map V.int).length:Nat):Int):=fun z=>c (bq z);rw[L]at c'
      have e:¬ i+1<d.length:=by lia
      simp [e]
    rintro c H4 ⟨rfl,l⟩;refine vp (fun I=>?_) (fun I=>?_)
    .rw[I]at l;have D:=ba l.symm;apply aW;intro _ g_;obtain⟨b,hkm,C⟩:=mj.Fb (zs:=[("one" : Str),"one","all"]) (i:=x%3) (by lia) (by show _<(3:Int);lia);obtain⟨p,hpm,M⟩:=mj.Fb (zs:=[("" : Str),"near","deep"]) (i:=x/3%3) (by lia) (by show _<(3:Int);lia);apply g_;clear g_;refine⟨zJ (by show 3<=1000;decide),fun _ Xu=>?_⟩;have s5:=zF Xu (.lst [V.str "one",V.str "one",V.str "all"]);refine⟨_,rfl,eO ⟨(by show (0:Int)<3;decide),gJ (aU.of zC) C ?_⟩⟩;refine⟨zJ (by show 3<=1000;decide),fun p6 hp6=>?_⟩;have s6:=s5.trans (zF hp6 (.lst [V.str "",V.str "near",V.str "deep"]))
     refine⟨_,rfl,_,_,rfl,rfl,⟨by decide,by decide⟩,_,_,rfl,rfl,(by show (0:Int)<3;decide),p6,_,_,_,rfl,rfl,aU.of zC,M,s6,b,p,(by
      rw[cS D];simp only[List.mem_cons,List.not_mem_nil,or_false]at hkm hpm;refine⟨?_,hpm⟩;rcases hkm with h | h | h
      .exact .inl h
      .exact .inl h
      .exact .inr h),rfl⟩
    .rw[eJ.mpr I]at l;have D:=bP l.symm;exact⟨aH.refl _,_,_,(by rw[cK D];exact⟨rfl,rfl⟩),rfl⟩
   rintro σ5 H5 B;apply aW;intro _ g_;obtain⟨s4,b,kp0,G,rfl⟩:=B;apply g_;clear g_;refine⟨fun σ' W=>W=H5/\∃ p:Str,((if i+1<d.length/\d.getD i 0<d.getD (i+1) 0 then (b = "one" ∨ b = "all") else (b = "plain" /\ p = ""))/\(p = "" ∨ (p = "near" /\ b = "one")∨p = "deep"))/\σ'=[some (.ref a),some (.ref Z),some (.ref ps),some (.int e),some (.ref m),some (.int (0+(i:Int))),some (.int x),some (.str b),some (.str p),O,v,J],?_,?_⟩
   .refine⟨fun c W=>W=H5/\c=(decide (V.str b=V.str "all")&&decide (V.str kp0=V.str "near")),?_,?_⟩
    .exact⟨_,rfl,rfl,_,rfl,fO (fun c=>⟨_,rfl,rfl,_,rfl,rfl,by rw[c];rfl⟩) (fun c=>⟨rfl,by rw[c];rfl⟩)⟩
    rintro c W ⟨rfl,l⟩;refine fO (fun I=>⟨rfl,_,⟨?_,.inr (.inr rfl)⟩,rfl⟩) (fun I=>⟨rfl,_,⟨?_,?_⟩,rfl⟩)
    .rw[I]at l;have hk:=(dP.mp l.symm).1;injection ba hk with hk
     split at G
     .rw[cS ‹_›];exact G.1
     .exact eu (hk.symm.trans G.1) (by decide)
    .split at G
     .rw[cS ‹_›];exact G.1
     .rw[cK ‹_›];exact G
    .rw[I]at l
     split at G
     .obtain⟨C,M⟩:=G;rcases M with h | h | h
      .exact .inl h
      .rcases C with g | g
       .exact .inr (.inl ⟨h,g⟩)
       .rw[h,g]at l;exact eu l (by decide)
      .exact .inr (.inr h)
     .exact .inl G.2
   rintro σ6 W B;apply aW;intro _ g_;obtain⟨rfl,p,⟨hsh,hkp⟩,rfl⟩:=B;apply g_;clear g_;refine⟨fun σ' H7=>aH W H7/\∃ U:Str,(U = "" ∨ isW U=true)/\σ'=[some (.ref a),some (.ref Z),some (.ref ps),some (.int e),some (.ref m),some (.int (0+(i:Int))),some (.int x),some (.str b),some (.str p),some (.str U),v,J],?_,?_⟩
   .refine⟨_,rfl,eO ⟨⟨by decide,by decide⟩,_,_,rfl,rfl,(by show (0:Int)<3;decide),rfl,_,rfl,fO (fun c=>?_) (fun c=>⟨aH.refl _,_,.inl rfl,rfl⟩)⟩⟩;exact⟨_,rfl,eO ⟨⟨by decide,by decide⟩,_,_,rfl,rfl,(by show (0:Int)<3;decide),_,rfl,eO ⟨⟨by decide,by decide⟩,_,_,rfl,fun H7 s7=>⟨s7,_,.inr (mJ _ _),rfl⟩⟩⟩⟩
   rintro σ7 H7 B;apply aW;intro _ g_;obtain⟨s7,U,hlp,rfl⟩:=B;apply g_;clear g_;have S:=(Y.trans s4).trans s7;refine⟨_,rfl,_,rfl,eO ⟨_,rfl,_,rfl,a,ps,ns,sz,_,_,_,rfl,S.seq hS,o,⟨by lia,by lia⟩,⟨by decide,by decide⟩,hsz.mono S,fun vi di _ s8 hdi oki ldi=>?_⟩⟩;have y:=S.trans s8;refine⟨_,rfl,_,rfl,eO ⟨_,rfl,_,rfl,a,ps,ns,sz,_,_,_,rfl,y.seq hS,o,⟨by lia,by lia⟩,⟨by decide,by decide⟩,hsz.mono y,fun vo dO _ s9 hdo oko ldo=>?_⟩⟩;have s39:=y.trans s9;have h9:=((s4.trans s7).trans (s8.trans s9)) _ _ h3;refine⟨_,rfl,.inl ⟨rfl,_,aU.of h9⟩,_,rfl,_,rfl,a,ns,_,rfl,s39.seq hS,o,?_⟩;refine (eO ⟨(by show (0:Int)<997;decide),_,_,rfl,fun _ uz=>?_⟩);have T:=((s4.trans s7).trans (s8.trans s9)).trans uz;have h10:=T _ _ h3;refine⟨_,rfl,_,rfl,_,rfl,gJ (aU.of (T _ _ u)) hat ⟨_,rfl,_,rfl,_,rfl,_,rfl,zJ (by show 7<=1000;decide),fun p7 hp7=>?_⟩⟩;have u3:=zF hp7 (.tup [.str (fL (0+(i:Int)) (eF ns 0%997)),.str b,.int (d.getD i 0),.str p,.str U,vi,vo]);have h7:=u3 _ _ h10;have lv:=X.length;have kl:=aB.lst h7 (.lst (vs++[.ref p7]));refine⟨m,_,_,rfl,rfl,h7,zW (by lia),vs++[.ref p7],R++[⟨fL (0+(i:Int)) (eF ns 0%997),b,d.getD i 0,p,U,di,dO⟩],bW hpr ((Y.trans T).trans u3) _,zC,(gW.cL.mono X ((aB.of (T.trans u3)).trans kl)).snoc ⟨p7,vi,vo,rfl,kl _ _ zC,(Jp hdi).mono ((aB.of ((s9.trans uz).trans u3)).trans kl),(Jp hdo).mono ((aB.of (uz.trans u3)).trans kl)⟩,by simp [n],fun k x hx=>?_,_,_,_,_,_,_,_,rfl⟩
   by_cases hk:k<R.length
   .rw[zw3 hk]at hx;exact j k x hx
   .have hk':k=R.length:=by
     have:=(oW.mp hx).1;simp only[List.length_append,List.length_singleton]at this;lia
    subst hk';rw[zw4 (bD _),iS]at hx
    cases hx
    rw[n];exact⟨by rw[cf],hsh,rfl,hkp,hlp,oki,oko,ldi,ldo⟩
  .rintro σ' H3 B;apply aW;intro _ g_;obtain⟨vs,R,Y,h3,X,n,j,r⟩:=B;apply g_;clear g_;rw[show (((d.map V.int).length:Nat):Int).toNat=d.length by simp]at n;exact⟨vs,R,Y,h3,X,n,j,r⟩
 rintro σ' H3 B;apply aW;intro _ g_;obtain⟨vs,R,Y,h3,X,n,j,o5,o6,o7,o8,O,v,J,rfl⟩:=B;apply g_;clear g_;refine⟨_,rfl,m,_,rfl,.inl ⟨aU.of h3,fun t ht=>?_⟩⟩;exact q t vs R _ _ (Y.trans (zF ht _)) zC (gW.cL.mono X (aB.new ht _)) n j
structure DrG(sz:List Int)(e:Int)(rs:List gW.Ro)(d:gW.Dr):Prop where
 rm:0<=d.room/\d.room<(rs.length:Int)
 ev:0<=d.event/\d.event<e
 g:GoodG (sz.length:Int) (rs.length:Int) d.guard
 ht:d.guard.ht<=3
 dd:∀ x∈d.pZ,qI sz e x
 l8:d.pZ.length<=8
 wy:(d.way = "stay" /\ d.goal=none)∨((d.way = "to" ∨ d.way = "back")/\∃ j:Nat,d.goal=some (j:Int)/\j<rs.length/\(d.way = "back" -> ∃ r,rs[j]? = some r/\r.keeps ≠ ""))
inductive Ii(K:bV)(vs:List V)(H:Hp)(Q:VK)(E_:XK):Prop
 | mk (a t ps:Addr) (ns sz:List Int) (rv:List V) (rs:List gW.Ro) (m:Nat) (e:Int) (_:vs=[.ref a,.int (m:Int),.ref t,.ref ps,.int e]) (_:aU K H a (ns.map V.int)) (_:ns.length<=63) (_:m<=12) (_:H t=some (.tup rv)) (_:gW.cL H rv rs) (_:1<=rs.length) (_:rs.length<=12) (_:jF H ps sz) (_:0<=e) (_:∀(p:Addr)(dv:List V)(ds:List gW.Dr)(H':Hp),aH H H'->H' p=some (.tup dv)->gW.jx H' dv ds->(∀ d∈ds,DrG sz e rs d)->ds.length<=12->Q (.ref p) H')
def aq:aF ["_law_script","_law_many","_law_rooms_here","_law_sizes","_law_events","_law_doors_here","_law_k","_law_number","_law_goal","_law_way","_law_keepers","_law_guard_here","_law_deeds_here"] ["_law_script","_law_many","_law_rooms_here","_law_sizes","_law_events"] (aA lY):=cQ
def Qw(F:bO K "_law_doors" "_law_doors" lY f fd)(aM:Dp P w K mg base aN 3 gm dm ["_law_script","_law_k","_law_salt"] (jC K) "_law_mixed")
  (dY:Dp P w K mg base aN 3 gg dg ["_law_number","_law_rooms_here","_law_boxes","_law_high"] (jV 3) "_law_guard")
  (lC:Dp P w K mg base aN 3 G dd ["_law_script","_law_k","_law_salt","_law_sizes","_law_events"] (zz K) "_law_deeds")
  (az:mg "range" = none) (O:mg "len" = none) (aj:mg "tuple" = none) (uQ:mg "int" = none):aL P w K mg base aN 4 f fd ["_law_script","_law_many","_law_rooms_here","_law_sizes","_law_events"] (Ii K):=by
 refine F.ok aq ?_ ?_
 .rintro _ _ _ _⟨a,t,ps,ns,sz,R,B,m,e,rfl,_⟩;rfl
 intro _ A _ s H vs Q E hr h
 obtain⟨a,t,ps,ns,sz,R,B,m,e,rfl,hS,I,_,k,hrs,_,_,hsz,_,q⟩:=h
 refine⟨_,(zE (zL (i:=5) aq.nd rfl (bb rfl) (yL zD))
  (yA (bf PassesOwn.never rfl (cg rfl az (zA (yD iB (pv 1) (yB Er rfl uQ ke (zA (bK cY (pv 4) zB (zS _)) zD))) zD)) (yK (i:=6) aq.nd rfl (bb rfl))
  (zE (zL (i:=7) aq.nd rfl (bb rfl) (pC aM hr (zA (pv 0) (zA (yD yG zB (pv 6)) (zA zB zD)))))
  (zE (zL (i:=8) aq.nd rfl (bb rfl) (yD zZ (yD yM (pv 7) zB) (zT zO rfl O bj (zA (pv 2) zD))))
  (zE (zL (i:=9) aq.nd rfl (bb rfl) (yC yV (yL (zA zQ (zA zQ (zA zQ (zA zQ (zA zQ zD)))))) (yD zZ (pv 7) zB) (fun _ _=>rfl)))
  (zE (uI (i:=10) (bF:=[(2,"_law_rooms_here")]) rfl aq.nd rfl (bb rfl) (show bA (aA lY) ["_law_script","_law_many","_law_rooms_here","_law_sizes","_law_events","_law_doors_here","_law_k","_law_number","_law_goal","_law_way","_law_keepers","_law_guard_here","_law_deeds_here"] _ _ _ from vA) (cg rfl az (zA (zT zO rfl O bj (zA (pv 2) zD)) zD)) (fun _ _ _ _ _ _=>cW (zM pN (yC (r:=dM K) zH (yC (r:=dM K) zH (pv 1) (pv 0) (fun _ _=>rfl)) zB (fun _ _=>rfl)) zQ (zS _))) (fun _ _ _ _ _ _=>(pv 0)))
  (yA (yE (bZ (PW.pt (pw_and (zM yH (pv 9) zQ (zS _)) (yQ (zM yH (zT zO rfl O bj (zA (pv 10) zD)) zB (zS _))))))
  (zG (zL (i:=9) aq.nd rfl (bb rfl) zQ))
  zU)
  (yA (yE (zM yH (pv 9) zQ (zS _))
  (zG (zL (i:=8) aq.nd rfl (bb rfl) (yC yV (pv 10) (yD zZ (pv 8) (zT zO rfl O bj (zA (pv 10) zD))) (fun _ _=>rfl))))
  zU)
  (yA (yE (zM yH (pv 9) zQ (zS _))
  (zG (zL (i:=8) aq.nd rfl (bb rfl) iw))
  zU)
  (zE (zL (i:=11) aq.nd rfl (bb rfl) (zX (zA zQ zD)))
  (yA (yE (zM yH (yD zZ (yD yM (pv 7) zB) zB) zB (zS _))
  (zG (zL (i:=11) aq.nd rfl (bb rfl) (pC dY hr (zA (pC aM hr (zA (pv 0) (zA (yD yG zB (pv 6)) (zA zB zD)))) (zA (zT zO rfl O bj (zA (pv 2) zD)) (zA (zT zO rfl O bj (zA (pv 3) zD)) (zA zB zD)))))))
  zU)
  (zE (zL (i:=12) aq.nd rfl (bb rfl) (pC lC hr (zA (pv 0) (zA (yD yG zB (pv 6)) (zA zB (zA (pv 3) (zA (pv 4) zD)))))))
  (zG (yJ (dU iu yz yx yI (pv 5) (zA (zX (zA (yD zZ (pC aM hr (zA (pv 0) (zA (yD yG zB (pv 6)) (zA zB zD)))) (zT zO rfl O bj (zA (pv 2) zD))) (zA (yD zZ (yD zZ (yD yM (pv 7) zB) zB) (pv 4)) (zA (pv 11) (zA (pv 12) (zA (pv 9) (zA (pv 8) zD))))))) zD)))))))))))))))
  (zG (zP (yB zY rfl aj qt (zA (pv 5) zD)))))),?_⟩
 have lrv:=hrs.length;refine⟨bo _,fun u hpr=>?_⟩;have s1:=zF hpr (.lst []);refine⟨fun σ' b=>∃(vs:aw V)(D:aw gW.Dr),aH H b/\b u=some (.lst vs)/\gW.jx b vs D/\(∀ d∈D,DrG sz e B d)/\D.length<=12/\∃ o6 o7 o8 o9 vV L Z:aE V,σ'=[some (.ref a),some (.int (m:Int)),some (.ref t),some (.ref ps),some (.int e),some (.ref u),o6,o7,o8,o9,vV,L,Z],?_,?_⟩
 .have hN:((m:Int)*(if decide (0<e)=true then 1 else 0)).toNat<=m/\(0<((m:Int)*(if decide (0<e)=true then 1 else 0)).toNat->0<e)/\((m:Int)*(if decide (0<e)=true then 1 else 0))<=12/\0<=((m:Int)*(if decide (0<e)=true then 1 else 0)):=by
   by_cases c:0<e
   .rw[cS (bq c)];exact⟨by lia,fun _=>c,by lia,by lia⟩
   .rw[cK (by rw[bp c];exact rA)];exact⟨by lia,fun z=>by lia,by lia,by lia⟩
  refine⟨_,rfl,_,rfl,_,_,rfl,rfl,.inr ⟨_,rfl,_,_,rfl,rfl,uO (by lia) (by lia),_,rfl,by lia,?_,?_⟩⟩
  .exact Int.lt_of_le_of_lt hN.2.2.1 (by decide)
  refine cI (fun i σ' b=>∃(vs:aw V)(D:aw gW.Dr),aH H b/\b u=some (.lst vs)/\gW.jx b vs D/\(∀ d∈D,DrG sz e B d)/\D.length=i/\∃ o6 o7 o8 o9 vV L Z:aE V,σ'=[some (.ref a),some (.int (m:Int)),some (.ref t),some (.ref ps),some (.int e),some (.ref u),o6,o7,o8,o9,vV,L,Z])
   ⟨[],[],s1,zC,.nil,(fun d h=>by cases h),rfl,none,none,none,none,none,none,none,rfl⟩ ?_ (fun σ' b ⟨vs,D,h1,h2,h3,h4,_,X⟩=>⟨vs,D,h1,h2,h3,h4,by have:=hN.1;lia,X⟩)
  rintro i σ' H3 _ ⟨vs,D,s3,h3,hA,l,n,o6,o7,o8,o9,vV,L,Z,rfl⟩
  have him:i<12:=by
   have:=hN.1;lia
  have ep:0<e:=hN.2.1 (by lia);refine⟨_,rfl,_,rfl,_,_,rfl,rfl,a,ns,_,_,rfl,s3.seq hS,I,⟨by lia,by lia⟩,⟨by decide,by decide⟩,fun x _ _=>?_⟩
  have lp:(0:Int)<((R.length:Nat):Int):=by lia
  have g00:=j7 (x/15) (show ((R.length:Nat):Int)≠0 by lia);have g01:=jR (x/15) lp;refine⟨_,rfl,_,_,rfl,rfl,⟨by decide,by decide⟩,_,rfl,t,_,rfl,.inr (aJ.of (s3 _ _ k)),_,_,rfl,rfl,lp,?_⟩;obtain⟨w0,hw0,qLI⟩:=mj.Fb (zs:=[("to" : Str),"to","back","back","stay"]) (i:=x%5) (by lia) (by show _<(5:Int);lia);refine⟨zJ (by show 5<=1000;decide),fun p5 Xu=>⟨_,rfl,_,_,rfl,rfl,(by show (0:Int)<5;decide),p5,_,_,_,rfl,rfl,aU.of zC,qLI,?_⟩⟩;have s5:=zF Xu (.lst [V.str "to",V.str "to",V.str "back",V.str "back",V.str "stay"]);generalize hH5:upd H3 p5 (.lst [V.str "to",V.str "to",V.str "back",V.str "back",V.str "stay"])=H5 at s5 ⊢;have S:=s3.trans s5;refine⟨_,rfl,t,_,rfl,.inr (aJ.of (S _ _ k)),_,rfl,by lia,by lia,?_⟩;refine sH (fun i' M b=>b=H5/\∃ J:aw Nat,M=aC J/\J.length<=i'/\(∀ j∈J,∃ r,B[j]? = some r/\r.keeps ≠ "")) ⟨rfl,[],rfl,bD _,fun j z=>by cases z⟩ (fun i' M b _ ⟨e1,J,e2,e3,e4⟩=>?_) (fun M b ⟨e1,J,e2,e3,e4⟩ o hp2=>?_)
  .subst e1 e2
   have hj:i'<B.length:=by lia
   obtain⟨_,hv2,a2,_,_,rfl,ha2,_⟩:=hrs.get (fQ hj)
   have Bd:mX R (0+(i':Int))=some (.ref a2):=by
    rw[cf];exact yR hv2
   refine⟨_,rfl,_,rfl,t,_,_,_,rfl,rfl,aJ.of (S _ _ k),Bd,a2,_,_,_,rfl,rfl,aJ.of (S _ _ ha2),rfl,rfl,_,rfl,?_⟩;refine fO (fun c=>?_) (fun c=>⟨rfl,J,rfl,by lia,e4⟩);refine⟨_,rfl,zW (by rw[zV];lia),rfl,J++[i'],?_,by simp;lia,fun j z=>?_⟩
   .rw[<-jN,cf]
   .rcases jz.mp z with z | z
    .exact e4 j z
    .rw[jA.mp z];exact⟨_,fQ hj,fun z=>by rw[z]at c;cases c⟩
  subst e1 e2;have s6:=zF hp2 (.lst (aC J));have X:upd b o (.lst (aC J)) o=some (.lst (aC J)):=zC;generalize hH6:upd b o (.lst (aC J))=H6 at s6 X ⊢;have s36:=S.trans s6;have ln:=zV J;refine⟨fun σ' b=>b=H6/\∃ W:Str,(W = "to" ∨ W = "back" ∨ W = "stay")/\(W = "back" -> J≠[])/\σ'=[some (.ref a),some (.int (m:Int)),some (.ref t),some (.ref ps),some (.int e),some (.ref u),some (.int (0+(i:Int))),some (.int x),some (.int (x/15%((R.length:Nat):Int))),some (.str W),some (.ref o),L,Z],?_,?_⟩
  .refine⟨fun c b=>b=H6/\(c=false->w0 = "back" -> J≠[]),?_,?_⟩
   .refine⟨_,rfl,rfl,_,rfl,fO (fun c=>?_) (fun c=>⟨rfl,fun _ z=>?_⟩)⟩
    .exact⟨_,rfl,o,_,rfl,.inl (aU.of X),rfl,_,rfl,rfl,fun z _ z2=>by
      subst z2
      exact bP z rfl⟩
    .exact eu (by rw[z]) (bP c)
   rintro c b ⟨rfl,hc⟩;refine fO (fun c=>?_) (fun c=>?_)
   .exact⟨rfl,_,.inl rfl,fun z=>eu z (by decide),rfl⟩
   .refine⟨rfl,w0,?_,hc c,rfl⟩;simp only[List.mem_cons,List.not_mem_nil,or_false]at hw0;rcases hw0 with h | h | h | h | h
    .exact .inl h
    .exact .inl h
    .exact .inr (.inl h)
    .exact .inr (.inl h)
    .exact .inr (.inr h)
  rintro σ7 H7 ⟨rfl,W,hwy,hne,rfl⟩;refine⟨fun σ' b=>b=H7/\∃ g:Nat,g<B.length/\(W = "back" -> ∃ r,B[g]? = some r/\r.keeps ≠ "")/\σ'=[some (.ref a),some (.int (m:Int)),some (.ref t),some (.ref ps),some (.int e),some (.ref u),some (.int (0+(i:Int))),some (.int x),some (.int (g:Int)),some (.str W),some (.ref o),L,Z],?_,?_⟩
  .refine⟨_,rfl,rfl,_,rfl,fO (fun c=>?_) (fun c=>⟨rfl,(x/15%((R.length:Nat):Int)).toNat,by lia,fun z=>?_,by rw[fe g00]⟩)⟩
   rotate_left
   .exact eu (by rw[z]) (bP c)
   have c':V.str W=V.str "back" := ba c
   have wb:W = "back" := by injection c'
   have ljs:0<J.length:=List.length_pos_iff.mpr (hne wb)
   obtain⟨pk,hpm,hpk⟩:=JW (os:=J) (i:=(x/15%((R.length:Nat):Int))%(((aC J).length:Nat):Int)) (j7 _ (by lia)) (by
     have:=jR (x/15%((R.length:Nat):Int)) (show (0:Int)<(((aC J).length:Nat):Int) by lia)
     lia)
   refine⟨_,rfl,_,rfl,_,rfl,o,_,rfl,.inl (aU.of X),_,_,rfl,rfl,(by show (0:Int)<(((aC J).length:Nat):Int);lia),o,_,_,_,rfl,rfl,aU.of X,hpk,rfl,pk,?_,fun _=>e4 pk hpm,rfl⟩;obtain⟨_,h,_⟩:=e4 pk hpm;exact (oW.mp h).1
  rintro σ8 H8 ⟨rfl,g,g1,g2,rfl⟩;refine⟨fun σ' b=>b=H8/\∃ gv:aE Int,((W = "stay" /\ gv=none)∨((W = "to" ∨ W = "back")/\∃ j:Nat,gv=some (j:Int)/\j<B.length/\(W = "back" -> ∃ r,B[j]? = some r/\r.keeps ≠ "")))/\σ'=[some (.ref a),some (.int (m:Int)),some (.ref t),some (.ref ps),some (.int e),some (.ref u),some (.int (0+(i:Int))),some (.int x),some (gW.gv gv),some (.str W),some (.ref o),L,Z],?_,?_⟩
  .refine⟨_,rfl,rfl,_,rfl,fO (fun c=>?_) (fun c=>?_)⟩
   .have c':V.str W=V.str "stay" := ba c;exact⟨rfl,none,.inl ⟨by injection c',rfl⟩,rfl⟩
   .refine⟨rfl,some (g:Int),.inr ⟨?_,g,rfl,g1,g2⟩,rfl⟩;rcases hwy with h | h | h
    .exact .inl h
    .exact .inr h
    .exact eu (by rw[h]) (bP c)
  rintro σ9 H9 ⟨rfl,gv,hgv,rfl⟩;refine⟨zJ (by show 1<=1000;decide),fun p9 hp9=>?_⟩;have s9:=zF hp9 (.tup [V.str "yes"]);have g9:jH (upd H9 p9 (.tup [V.str "yes"])) (.ref p9) .yes:=.yes zC;generalize hH10:upd H9 p9 (.tup [V.str "yes"])=HQ at s9 g9 ⊢;have C:=s36.trans s9;refine⟨fun σ' b=>aH HQ b/\∃(G:V)(g:Gd),jH b G g/\GoodG (sz.length:Int) (B.length:Int) g/\g.ht<=3/\σ'=[some (.ref a),some (.int (m:Int)),some (.ref t),some (.ref ps),some (.int e),some (.ref u),some (.int (0+(i:Int))),some (.int x),some (gW.gv gv),some (.str W),some (.ref o),some G,Z],?_,?_⟩
  .refine⟨_,rfl,_,_,rfl,rfl,⟨by decide,by decide⟩,_,_,rfl,rfl,(by show (0:Int)<2;decide),rfl,_,rfl,fO (fun c=>?_) (fun c=>⟨aH.refl _,_,_,g9,trivial,(by show 1<=3;decide),rfl⟩)⟩;refine⟨_,rfl,_,rfl,_,_,rfl,rfl,a,ns,_,_,rfl,C.seq hS,I,⟨by lia,by lia⟩,⟨by decide,by decide⟩,fun y y0 y1=>?_⟩;exact⟨_,rfl,t,_,rfl,.inr (aJ.of (C _ _ k)),_,rfl,ps,_,rfl,.inl (aU.of (hsz.mono C).1),_,_,_,sz.length,(by rw[bT];rfl),lp,by decide,by decide,fun v g b s' hg ZM ght=>⟨s',v,g,hg,(by rw[<-lrv];exact ZM),(by lia),rfl⟩⟩
  rintro σ10 _ ⟨uz,G,gg,hgd,ZM,ght,rfl⟩;have qEK:=C.trans uz;refine⟨_,rfl,_,rfl,_,_,rfl,rfl,_,rfl,_,rfl,a,ps,ns,sz,_,_,_,rfl,qEK.seq hS,I,⟨by lia,by lia⟩,⟨by decide,by decide⟩,hsz.mono qEK,fun vd dd K5 s12 hdd okd ldd=>?_⟩;have T:aH H3 K5:=(((s5.trans s6).trans s9).trans uz).trans s12;have U:=s3.trans T;have h12:=T _ _ h3;refine⟨_,rfl,.inl ⟨rfl,_,aU.of h12⟩,_,rfl,_,rfl,_,_,rfl,rfl,a,ns,_,_,rfl,U.seq hS,I,⟨by lia,by lia⟩,⟨by decide,by decide⟩,fun y y0 y1=>?_⟩;refine⟨_,rfl,t,_,rfl,.inr (aJ.of (U _ _ k)),_,_,rfl,rfl,lp,?_⟩;refine⟨_,rfl,_,_,rfl,rfl,⟨by decide,by decide⟩,_,_,rfl,rfl,(by show (0:Int)<3;decide),_,rfl,_,_,rfl,rfl,(by show (0:Int)<e;exact ep),_,rfl,_,rfl,_,rfl,_,rfl,zJ (by show 6<=1000;decide),fun Y qCV=>?_⟩;have y2:=j7 y (show ((R.length:Nat):Int)≠0 by lia);have y3:=jR y lp;have u13:=zF qCV (.tup [.int (y%((R.length:Nat):Int)),.int (x/5%3%e),G,vd,.str W,gW.gv gv]);have i13:upd K5 Y (.tup [.int (y%((R.length:Nat):Int)),.int (x/5%3%e),G,vd,.str W,gW.gv gv]) Y=some (.tup [.int (y%((R.length:Nat):Int)),.int (x/5%3%e),G,vd,.str W,gW.gv gv]):=zC;have N:=u13 _ _ h12;generalize upd K5 Y (.tup [.int (y%((R.length:Nat):Int)),.int (x/5%3%e),G,vd,.str W,gW.gv gv])=H13 at u13 i13 N ⊢;have lv:=hA.length;have kl:=aB.lst N (.lst (vs++[.ref Y]));refine⟨u,_,_,rfl,rfl,N,zW (by lia),vs++[.ref Y],D++[⟨y%((R.length:Nat):Int),x/5%3%e,gg,dd,W,gv⟩],bW hpr (U.trans u13) _,zC,(gW.jx.mono hA ((aB.of (T.trans u13)).trans kl)).snoc ⟨Y,G,vd,rfl,kl _ _ i13,hgd.mono ((aB.of (s12.trans u13)).trans kl),(Jp hdd).mono ((aB.of u13).trans kl)⟩,fun d hd=>?_,by simp [n],_,_,_,_,_,_,_,rfl⟩;rcases jz.mp hd with hd | hd
  .exact l d hd
  .rw[jA.mp hd];exact⟨⟨y2,by rw[<-lrv];exact y3⟩,⟨j7 _ (by lia),jR _ ep⟩,ZM,ght,okd,ldd,hgv⟩
 rintro σ' H3 ⟨vs,D,s3,h3,hA,l,n,o6,o7,o8,o9,vV,L,Z,rfl⟩;refine⟨_,rfl,u,_,rfl,.inl ⟨aU.of h3,fun p hp=>?_⟩⟩;exact q p vs D _ (s3.trans (zF hp _)) zC (gW.jx.mono hA (aB.new hp _)) l n
structure BxG(sd:Int)(k:Nat)(b:gW.Bx):Prop where
 nm:b.nm=fL (k:Int) sd
 sz:1<=b.size/\b.size<=10 ^ 30
 st:0<=b.start/\b.start<b.size
structure ChG(c:gW.Ch):Prop where
 od:c.order = "inner" ∨ c.order = "outer"
 lb:∃ n:Nat,c.letters=(n:Int)/\n<=5
 tn:∃ n:Nat,c.turns=(n:Int)/\1<=n/\n<=5
 b6:c.oX.length<=6
 bx:∃ sd,∀ k b,c.oX[k]? = some b->BxG sd k b
 e8:c.evs.length<=8
 ev:∃ sd:Int,∀(k:Nat)(z:Str),c.evs[k]? = some z->z=fL (k:Int) sd
 ro:∃ sd ds,Tr.Good ds/\mj.Xx ds/\ds.length<=10/\c.rooms.length=ds.length/\∀ k r,c.rooms[k]? = some r->RoG (c.oX.map (·.size)) (c.evs.length:Int) sd ds k r
 d12:c.mV.length<=12
 dr:∀ d∈c.mV,DrG (c.oX.map (·.size)) (c.evs.length:Int) c.rooms d
inductive Io(K:bV)(vs:List V)(H:Hp)(Q:VK)(E_:XK):Prop
 | mk (a:Addr) (ns:List Int) (_:vs=[.ref a]) (_:aU K H a (ns.map V.int)) (_:ns.length<=63) (_:∀(p:Addr)(c:gW.Ch)(H':Hp),aH H H'->gW.jJ H' p c->ChG c->(∃ n:Nat,c.turns=(n:Int)/\n<=4)->Q (.ref p) H')
noncomputable abbrev X5:Scope:=⟨.function,[("_law_script",.cell),("_law_many",.local),("_law_events",.local),("_law_boxes",.local),("_law_k",.local),("_law_size",.local),("_law_sizes",.local),("_law_names",.local),("_law_rooms_here",.local),("_law_count",.local),("_law_doors_here",.local),("_law_order",.local),("_law_letters",.local),("_law_turns",.local),("_law_mixed",.globalImplicit),("range",.globalImplicit),("_law_cell_at",.globalImplicit),("_law_name",.globalImplicit),("tuple",.globalImplicit),("_law_rooms",.globalImplicit),("_law_depths",.globalImplicit),("_law_doors",.globalImplicit)],false,false,(aA lZ).more⟩
def Zk:aA lZ=X5:=by rfl
def aa:aF ["_law_script","_law_many","_law_events","_law_boxes","_law_k","_law_size","_law_sizes","_law_names","_law_rooms_here","_law_count","_law_doors_here","_law_order","_law_letters","_law_turns"] ["_law_script"] X5:=cQ
def R4(F:bO K "_law_chart" "_law_chart" lZ f fd)(M:Dp P w K mg base aN n gm dm ["_law_script","_law_k","_law_salt"] (jC K) "_law_mixed")
  (bU:Dp P w K mg base aN n gc dc ["_law_script","_law_k"] (sX K) "_law_cell_at")
  (fH:Dp P w K mg base aN n gn dn ["_law_k","_law_number"] xm "_law_name")
  (HY:Dp P w K mg base aN n ge de ["_law_script","_law_many"] (mj.Ik K) "_law_depths")
  (K8:Dp P w K mg base aN n gr dr ["_law_script","_law_depths_here","_law_sizes","_law_events"] (Hw K) "_law_rooms")
  (KD:Dp P w K mg base aN n gd dd ["_law_script","_law_many","_law_rooms_here","_law_sizes","_law_events"] (Ii K) "_law_doors")
  (az:mg "range" = none) (aj:mg "tuple" = none):aL P w K mg base aN (n+1) f fd ["_law_script"] (Io K):=by
 refine okS X5 Zk F aa ?_ ?_
 .rintro _ _ _ _⟨a,ns,rfl,_⟩;rfl
 intro _ A _ s H vs Q E o h
 obtain⟨a,ns,rfl,S,g,q⟩:=h
 refine⟨_,RSs.p (jf (J9 (zL (i:=1) aa.nd rfl (bb rfl) (yD yG zB (yD yM (yD yG (yD iB (yD zZ (pC M o (zA (pv 0) (zA zB (zA zB zD)))) zB) zB) zB) zB))))
  (jf (JB (i:=2) aa.nd rfl (bb rfl) (JD (JC (Aq (vs:=[.int 0,.int 1,.int 1,.int 2,.int 2,.int 2,.int 3,.int 3]) (by rfl))) (yD zZ (pC M o (zA (pv 0) (zA zB (zA zB zD)))) zB) (fun _ _=>rfl)))
  (jf (J9 (zL (i:=3) aa.nd rfl (bb rfl) (yL zD)))
  (qEO (J9 (bf PassesOwn.never rfl (cg rfl az (zA (yD zZ (pC M o (zA (pv 0) (zA zB (zA zB zD)))) zB) zD)) (yK (i:=4) aa.nd rfl (bb rfl))
  (zE (zL (i:=5) aa.nd rfl (bb rfl) (yD yG zB (yD zZ (pC M o (zA (pv 0) (zA zB (zA (yD yG zB (pv 4)) zD)))) zB)))
  (yA (yE (zM yH (yD zZ (pC M o (zA (pv 0) (zA zB (zA (yD yG zB (pv 4)) zD)))) zB) zB (zS _))
  (zG (zL (i:=5) aa.nd rfl (bb rfl) (yD yG zB (yD zZ (pC bU o (zA (pv 0) (zA zB zD))) (yD GP zB zB)))))
  zU)
  (zG (yJ (dU iu yz yx yI (pv 3) (zA (zX (zA (pC fH o (zA (pv 4) (zA (yD zZ (pC bU o (zA (pv 0) (zA zB zD))) zB) zD))) (zA (pv 5) (zA (yD zZ (pC M o (zA (pv 0) (zA zB (zA (yD yG zB (pv 4)) zD)))) (pv 5)) zD)))) zD))))))))
  (jf (J9 (uI (i:=6) (bF:=[]) rfl aa.nd rfl (bb rfl) (show bA X5 ["_law_script","_law_many","_law_events","_law_boxes","_law_k","_law_size","_law_sizes","_law_names","_law_rooms_here","_law_count","_law_doors_here","_law_order","_law_letters","_law_turns"] _ _ _ from vA) (yN (pv 3)) (fun _ _ _ _ _ _=>bQ) (fun _ _ _ _ _ _=>(yC (r:=dM K) zH (pv 0) zB (fun _ _=>rfl)))))
  (jf (J9 (zL (i:=7) aa.nd rfl (bb rfl) (yB zY rfl aj qt (zA (yU (bF:=[(0,"_law_script")]) rfl (show bA X5 ["_law_script","_law_many","_law_events","_law_boxes","_law_k","_law_size","_law_sizes","_law_names","_law_rooms_here","_law_count","_law_doors_here","_law_order","_law_letters","_law_turns"] _ _ _ from vA) (cg rfl az (zA (pv 2) zD)) (fun _ _ _ _ _ _=>bQ) (fun _ _ _ _ _ _=>(pC fH o (zA (pv 0) (zA (yD zZ (pC bU o (zA (pv 1) (zA zB zD))) zB) zD))))) zD))))
  (jf (J9 (zL (i:=8) aa.nd rfl (bb rfl) (pC K8 o (zA (pv 0) (zA (pC HY o (zA (pv 0) (zA (pv 1) zD))) (zA (pv 6) (zA (pv 2) zD)))))))
  (jf (JB (i:=9) aa.nd rfl (bb rfl) (JD (JC (Aq (vs:=[.int 4,.int 5,.int 6,.int 7,.int 8,.int 9,.int 10,.int 6,.int 7,.int 8,.int 2,.int 0]) (by rfl))) (yD zZ (pC M o (zA (pv 0) (zA zB (zA zB zD)))) zB) (fun _ _=>rfl)))
  (jf (J9 (zL (i:=10) aa.nd rfl (bb rfl) (pC KD o (zA (pv 0) (zA (pv 9) (zA (pv 8) (zA (pv 6) (zA (pv 2) zD))))))))
  (jf (JB (i:=11) aa.nd rfl (bb rfl) (JD (JC (Aq (vs:=[.str "inner",.str "outer"]) (by rfl))) (yD zZ (pC M o (zA (pv 0) (zA zB (zA zB zD)))) zB) (fun _ _=>rfl)))
  (jf (JB (i:=12) aa.nd rfl (bb rfl) (JD (JC (Aq (vs:=[.int 0,.int 1,.int 2,.int 3,.int 2,.int 4,.int 3,.int 5]) (by rfl))) (yD zZ (pC M o (zA (pv 0) (zA zB (zA zB zD)))) zB) (fun _ _=>rfl)))
  (jf (JB (i:=13) aa.nd rfl (bb rfl) (JD (JC (Aq (vs:=[.int 1,.int 2,.int 3,.int 4,.int 3,.int 4,.int 2,.int 4]) (by rfl))) (yD zZ (pC M o (zA (pv 0) (zA zB (zA zB zD)))) zB) (fun _ _=>rfl)))
  (qEN (J9 (zP (zX (zA (pv 11) (zA (pv 12) (zA (pv 13) (zA (yB zY rfl aj qt (zA (pv 3) zD)) (zA (pv 7) (zA (pv 8) (zA (pv 10) zD))))))))))))))))))))))),?_⟩
 refine⟨_,rfl,a,ns,_,_,rfl,S,g,⟨by decide,by decide⟩,⟨by decide,by decide⟩,fun x _ _=>⟨_,_,rfl,rfl,(by show (0:Int)<16;decide),_,_,rfl,rfl,uO (by lia) (by lia),_,_,rfl,rfl,_,_,rfl,rfl,⟨by decide,by decide⟩,_,_,rfl,rfl,?_⟩⟩;obtain⟨m,hm,m1,m10⟩:∃ m:Nat,1+(x%16*9+14)/16=(m:Int)/\1<=m/\m<=10:=⟨(1+(x%16*9+14)/16).toNat,by lia,by lia,by lia⟩;refine⟨zJ (by show 8<=1000;decide),fun p1 hp1=>?_⟩;have s1:=zF hp1 (.lst [V.int 0,V.int 1,V.int 1,V.int 2,V.int 2,V.int 2,V.int 3,V.int 3]);refine⟨_,rfl,a,ns,_,_,rfl,s1.seq S,g,⟨by decide,by decide⟩,⟨by decide,by decide⟩,fun x2 _ _=>?_⟩;obtain⟨e,he,qLL⟩:=mj.int_at (zs:=[0,1,1,2,2,2,3,3]) (i:=x2%8) (by lia) (by show _<(8:Int);lia)
 have e03:0<=e/\e<=3:=by
  simp only[List.mem_cons,List.not_mem_nil,or_false]at he;lia
 refine⟨_,_,rfl,rfl,(by show (0:Int)<8;decide),p1,_,_,_,rfl,rfl,aU.of zC,qLL,?_⟩;generalize upd H p1 (.lst [V.int 0,V.int 1,V.int 1,V.int 2,V.int 2,V.int 2,V.int 3,V.int 3])=H1 at s1 ⊢;refine⟨bo _,fun B hpb=>?_⟩;have npb:H B=none:=s1.free hpb;have s2:=s1.trans (zF hpb (.lst []));refine⟨fun σ' l=>∃(vs:aw V)(sz:aw gW.Bx),aH H l/\l B=some (.lst vs)/\gW.gP l vs sz/\(∀ k b,sz[k]? = some b->BxG (eF ns 2%991) k b)/\sz.length<=6/\∃ o4 o5:aE V,σ'=[some (.ref a),some (.int (1+(x%16*9+14)/16)),some (.int e),some (.ref B),o4,o5,none,none,none,none,none,none,none,none],?_,?_⟩
 .refine⟨_,rfl,a,ns,_,_,rfl,s2.seq S,g,⟨by decide,by decide⟩,⟨by decide,by decide⟩,fun _ _ _=>⟨_,_,rfl,rfl,(by show (0:Int)<3;decide),_,rfl,by lia,by lia,?_⟩⟩;refine cI (fun i σ' l=>∃(vs:aw V)(sz:aw gW.Bx),aH H l/\l B=some (.lst vs)/\gW.gP l vs sz/\(∀ k b,sz[k]? = some b->BxG (eF ns 2%991) k b)/\sz.length=i/\∃ o4 o5:aE V,σ'=[some (.ref a),some (.int (1+(x%16*9+14)/16)),some (.int e),some (.ref B),o4,o5,none,none,none,none,none,none,none,none])
   ⟨[],[],s2,zC,.nil,(fun d b h=>by simp at h),rfl,none,none,rfl⟩ ?_ (fun σ' l ⟨vs,sz,h1,h2,h3,h4,h5,I⟩=>⟨vs,sz,h1,h2,h3,h4,by lia,I⟩)
  rintro i σ' H3 hi ⟨vs,sz,s3,h3,W,u,D,o4,o5,rfl⟩
  have hi3:i<3:=by lia
  refine⟨_,rfl,_,rfl,_,_,rfl,rfl,a,ns,_,_,rfl,s3.seq S,g,⟨by decide,by decide⟩,⟨by lia,by lia⟩,fun y _ _=>⟨_,_,rfl,rfl,(by show (0:Int)<3;decide),_,_,rfl,rfl,?_⟩⟩;refine⟨fun σ' l=>l=H3/\∃ z:Int,(1<=z/\z<=10 ^ 30)/\σ'=[some (.ref a),some (.int (1+(x%16*9+14)/16)),some (.int e),some (.ref B),some (.int (0+(i:Int))),some (.int z),none,none,none,none,none,none,none,none],?_,?_⟩
  .refine⟨_,rfl,_,rfl,_,_,rfl,rfl,a,ns,_,_,rfl,s3.seq S,g,⟨by decide,by decide⟩,⟨by lia,by lia⟩,fun y2 y20 y21=>⟨_,_,rfl,rfl,(by show (0:Int)<6;decide),rfl,_,rfl,fO (fun c=>?_) (fun c=>⟨rfl,1+y%3,by lia,rfl⟩)⟩⟩;refine⟨_,rfl,a,ns,_,rfl,s3.seq S,g,⟨_,_,rfl,rfl,⟨by decide,by decide,by decide⟩,_,_,rfl,rfl,(by show (0:Int)<10 ^ 30;decide),_,_,rfl,rfl,rfl,1+eF ns 2%10 ^ 30,?_,rfl⟩⟩;have:=j7 (eF ns 2) (show (10:Int) ^ 30≠0 by decide);have:=jR (eF ns 2) (show (0:Int)<10 ^ 30 by decide);lia
  rintro σ4 _ ⟨rfl,z,z0,rfl⟩;refine⟨_,rfl,.inl ⟨rfl,_,aU.of h3⟩,_,rfl,_,rfl,a,ns,_,rfl,s3.seq S,g,⟨_,_,rfl,rfl,(by show (0:Int)<991;decide),_,_,rfl,fun H5 s5=>?_⟩⟩;have s35:=s3.trans s5;refine⟨_,rfl,_,rfl,_,rfl,_,_,rfl,rfl,a,ns,_,_,rfl,s35.seq S,g,⟨by decide,by decide⟩,⟨by lia,by lia⟩,fun y3 y30 y31=>?_⟩;refine⟨_,rfl,_,_,rfl,rfl,(by show (0:Int)<z;lia),zJ (by show 3<=1000;decide),fun p6 hp6=>?_⟩;have u6:=zF hp6 (.tup [.str (fL (0+(i:Int)) (eF ns 2%991)),.int z,.int (y3%z)]);have I:=u6 _ _ (s5 _ _ h3);have lv:=W.length;have kl:=aB.lst I (.lst (vs++[.ref p6]));refine⟨B,_,_,rfl,rfl,I,zW (by lia),vs++[.ref p6],sz++[⟨fL (0+(i:Int)) (eF ns 2%991),z,y3%z⟩],bW npb (s35.trans u6) _,zC,(gW.gP.mono W ((aB.of (s5.trans u6)).trans kl)).snoc ⟨p6,rfl,kl _ _ zC⟩,fun k b R=>?_,by simp [D],_,_,rfl⟩
  by_cases hk:k<sz.length
  .rw[zw3 hk]at R;exact u k b R
  .have J:k=sz.length:=by
    have:=(oW.mp R).1;simp only[List.length_append,List.length_singleton]at this;lia
   subst J;rw[zw4 (bD _),iS]at R
   cases R
   rw[D];exact⟨by rw[cf],z0,j7 _ (by lia),jR _ (by lia)⟩
 rintro σ5 H5 ⟨vs,bs,s5,h5,W,hst,_,o4,o5,rfl⟩;obtain⟨sz,hsz0⟩:∃ sz:aw Int,sz=bs.map (·.size):=⟨_,rfl⟩
 have lsz:sz.length=bs.length:=by rw[hsz0,bT]
 have u:∀ z∈sz,0<z:=fun z hz=>by
  rw[hsz0]at hz;obtain⟨b,R,rfl⟩:=eX.mp hz;obtain⟨k,hk⟩:=gT.mp R;have:=(hst k b hk).sz;lia
 have lv:=W.length;refine⟨_,rfl,B,rfl,⟨_,aU.of h5⟩,?_⟩;refine yT (K:=K) (a:=B) (xs:=vs) (fun i j l=>l=H5/\j=(sz.take i).map V.int) ⟨rfl,rfl⟩ (fun i j l ⟨e,_⟩=>by subst e;exact aU.of h5) (fun i y j l hx ⟨C,G⟩=>?_) (fun j l ⟨C,G⟩ ps hps=>?_)
 .subst C G
  have hi:i<sz.length:=by
   have:=(oW.mp hx).1;lia
  have hib:i<bs.length:=by lia
  have erb:=fQ hib
  have er:sz[i]? = some (bs[i]).size:=by rw[hsz0,dZ,erb];rfl
  obtain⟨v,hv,a2,rfl,ha2⟩:=W.get erb;rw[hv]at hx;obtain rfl:=kJ hx;refine⟨_,rfl,a2,_,_,_,rfl,rfl,aJ.of ha2,rfl,zW (by rw[bT,iQ];lia),rfl,?_⟩;rw[mq,er,qz];rfl
 subst C G;rw[show sz.take vs.length=sz from DX (by lia)];have s6:=zF hps (.lst (sz.map V.int));have I:(upd l ps (.lst (sz.map V.int))) ps=some (.lst (sz.map V.int)):=zC;generalize upd l ps (.lst (sz.map V.int))=H6 at s6 I ⊢;have s56:=s5.trans s6;have hsz:jF H6 ps sz:=⟨I,u,by lia⟩;refine⟨_,rfl,_,rfl,by lia,by lia,?_⟩;refine sH (fun i j l=>aH H6 l/\∃ p:aw Str,j=p.map V.str/\p.length=i/\∀(k:Nat)(z:Str),p[k]? = some z->z=fL (k:Int) (eF ns 3%983)) ⟨aH.refl _,[],rfl,rfl,fun k z h=>by simp at h⟩ (fun i j l hi ⟨C,p,G,e3,e4⟩=>?_) (fun j Hn ⟨C,p,G,e3,e4⟩ pl hpl=>?_)
 .subst G;refine⟨_,rfl,_,rfl,a,ns,_,rfl,(s56.trans C).seq S,g,⟨_,_,rfl,rfl,(by show (0:Int)<983;decide),_,_,rfl,fun _ s''=>⟨zW (by rw[bT];lia),C.trans s'',p++[fL (0+(i:Int)) (eF ns 3%983)],by rw[qz];rfl,by rw[j8,e3];rfl,fun k z h=>?_⟩⟩⟩
  by_cases hk:k<p.length
  .rw[zw3 hk]at h;exact e4 k z h
  .have J:k=p.length:=by
    have:=(oW.mp h).1;simp only[List.length_append,List.length_singleton]at this;lia
   subst J;rw[zw4 (bD _),iS]at h
   cases h
   rw[e3,cf]
 have s7:=C.trans (zF hpl (.lst j));refine⟨pl,_,rfl,.inl ⟨aU.of zC,fun pn hpn=>?_⟩⟩;have s8:=s7.trans (zF hpn (.tup j));have h8n:upd (upd Hn pl (.lst j)) pn (.tup j) pn=some (.tup j):=zC
 have qKS:p.length<=8:=by lia
 generalize upd (upd Hn pl (.lst j)) pn (.tup j)=H8 at s8 h8n ⊢;have s58:=s56.trans s8;refine⟨_,rfl,_,rfl,_,rfl,a,ns,m,(by show [V.ref a,V.int (1+(x%16*9+14)/16)]=[V.ref a,V.int (m:Int)];rw[hm]),s58.seq S,g,m1,by lia,fun pd dl _ s9 _ hpd good low ldl=>?_⟩;have s59:=s58.trans s9;refine⟨_,rfl,_,rfl,a,pd,ps,ns,dl,sz,e,rfl,s59.seq S,g,hpd,by lia,hsz.mono (s8.trans s9),fun t rv rs sd HQ uz hrv hR lrd hro=>?_⟩;have qEJ:=s59.trans uz
 have lr:rs.length=m:=by rw[lrd,ldl]
 refine⟨zJ (by show 12<=1000;decide),fun p11 qLA=>?_⟩;have Z:=zF qLA (.lst [V.int 4,V.int 5,V.int 6,V.int 7,V.int 8,V.int 9,V.int 10,V.int 6,V.int 7,V.int 8,V.int 2,V.int 0]);refine⟨_,rfl,a,ns,_,_,rfl,(qEJ.trans Z).seq S,g,⟨by decide,by decide⟩,⟨by decide,by decide⟩,fun y2 y20 y21=>?_⟩;obtain⟨ct,hct,Bd⟩:=mj.int_at (zs:=[4,5,6,7,8,9,10,6,7,8,2,0]) (i:=y2%12) (by lia) (by show _<(12:Int);lia)
 obtain⟨c,rfl,c12⟩:∃ c:Nat,ct=(c:Int)/\c<=12:=by
  simp only[List.mem_cons,List.not_mem_nil,or_false]at hct;exact⟨ct.toNat,by omega,by omega⟩
 refine⟨_,_,rfl,rfl,(by show (0:Int)<12;decide),p11,_,_,_,rfl,rfl,aU.of zC,Bd,?_⟩;generalize upd HQ p11 (.lst [V.int 4,V.int 5,V.int 6,V.int 7,V.int 8,V.int 9,V.int 10,V.int 6,V.int 7,V.int 8,V.int 2,V.int 0])=Kd at Z ⊢;have qEI:=qEJ.trans Z;refine⟨_,rfl,_,rfl,_,rfl,_,rfl,_,rfl,a,t,ps,ns,sz,rv,rs,c,e,rfl,qEI.seq S,g,c12,Z _ _ hrv,gW.cL.mono hR (aB.of Z),by lia,by lia,hsz.mono (((s8.trans s9).trans uz).trans Z),e03.1,fun pdo dv ds K5 N hdv hDv qIH d12=>?_⟩;have YQ:=qEI.trans N;refine⟨zJ (by show 2<=1000;decide),fun Yp qCV=>?_⟩;have uF:=zF qCV (.lst [V.str "inner",V.str "outer"]);refine⟨_,rfl,a,ns,_,_,rfl,(YQ.trans uF).seq S,g,⟨by decide,by decide⟩,⟨by decide,by decide⟩,fun y3 y30 y31=>?_⟩;obtain⟨od,hom,hat3⟩:=mj.Fb (zs:=[("inner" : Str),"outer"]) (i:=y3%2) (by lia) (by show _<(2:Int);lia);refine⟨_,_,rfl,rfl,(by show (0:Int)<2;decide),Yp,_,_,_,rfl,rfl,aU.of zC,hat3,?_⟩;generalize upd K5 Yp (.lst [V.str "inner",V.str "outer"])=H13 at uF ⊢;refine⟨zJ (by show 8<=1000;decide),fun Y qL9=>?_⟩;have Sg:=uF.trans (zF qL9 (.lst [V.int 0,V.int 1,V.int 2,V.int 3,V.int 2,V.int 4,V.int 3,V.int 5]));refine⟨_,rfl,a,ns,_,_,rfl,(YQ.trans Sg).seq S,g,⟨by decide,by decide⟩,⟨by decide,by decide⟩,fun y4 _ _=>?_⟩;obtain⟨lt,hlt,qLK⟩:=mj.int_at (zs:=[0,1,2,3,2,4,3,5]) (i:=y4%8) (by lia) (by show _<(8:Int);lia);refine⟨_,_,rfl,rfl,(by show (0:Int)<8;decide),Y,_,_,_,rfl,rfl,aU.of zC,qLK,?_⟩;generalize upd H13 Y (.lst [V.int 0,V.int 1,V.int 2,V.int 3,V.int 2,V.int 4,V.int 3,V.int 5])=H14 at Sg ⊢;refine⟨zJ (by show 8<=1000;decide),fun p15 qL8=>?_⟩;have KZ:=Sg.trans (zF qL8 (.lst [V.int 1,V.int 2,V.int 3,V.int 4,V.int 3,V.int 4,V.int 2,V.int 4]));refine⟨_,rfl,a,ns,_,_,rfl,(YQ.trans KZ).seq S,g,⟨by decide,by decide⟩,⟨by decide,by decide⟩,fun y5 _ _=>?_⟩;obtain⟨tn,htn,qLJ⟩:=mj.int_at (zs:=[1,2,3,4,3,4,2,4]) (i:=y5%8) (by lia) (by show _<(8:Int);lia);refine⟨_,_,rfl,rfl,(by show (0:Int)<8;decide),p15,_,_,_,rfl,rfl,aU.of zC,qLJ,?_⟩;generalize upd H14 p15 (.lst [V.int 1,V.int 2,V.int 3,V.int 4,V.int 3,V.int 4,V.int 2,V.int 4])=U at KZ ⊢;have qE9:aH l U:=((((((s6.trans s8).trans s9).trans uz).trans Z).trans N)).trans KZ;refine⟨_,rfl,_,rfl,_,rfl,_,rfl,B,_,rfl,.inl ⟨aU.of (qE9 _ _ h5),fun Oe qL7=>?_⟩⟩;have L:=zF qL7 (.tup vs);have i16:upd U Oe (.tup vs) Oe=some (.tup vs):=zC;generalize upd U Oe (.tup vs)=H16 at L i16 ⊢;refine⟨_,rfl,_,rfl,_,rfl,zJ (by show 7<=1000;decide),fun pc Vy=>?_⟩
 obtain⟨X,rfl,lb5⟩:∃ X:Nat,lt=(X:Int)/\X<=5:=by
  simp only[List.mem_cons,List.not_mem_nil,or_false]at hlt;exact⟨lt.toNat,by lia,by lia⟩
 obtain⟨T,rfl,tm1,tm4⟩:∃ T:Nat,tn=(T:Int)/\1<=T/\T<=4:=by
  simp only[List.mem_cons,List.not_mem_nil,or_false]at htn;exact⟨tn.toNat,by lia,by lia,by lia⟩
 have O:=zF Vy (.tup [.str od,.int (X:Int),.int (T:Int),.ref Oe,.ref pn,.ref t,.ref pdo]);have O8:=(KZ.trans L).trans O;have U5:=((Z.trans N)).trans O8
 have ee:e=((p.length:Nat):Int):=by lia
 have hod:od = "inner" ∨ od = "outer" := by simpa using hom
 subst G;refine q pc ⟨od,(X:Int),(T:Int),bs,p,rs,ds⟩ _ (YQ.trans O8) ⟨Oe,pn,t,pdo,vs,rv,dv,zC,O _ _ i16,gW.gP.mono W (aB.of ((qE9.trans L).trans O)),((s9.trans uz).trans U5) _ _ h8n,U5 _ _ hrv,gW.cL.mono hR (aB.of U5),O8 _ _ hdv,gW.jx.mono hDv (aB.of O8)⟩ ?_ ⟨T,rfl,tm4⟩;rw[hsz0,ee]at qIH hro;exact⟨hod,⟨X,rfl,lb5⟩,⟨T,rfl,tm1,by lia⟩,by show bs.length<=6;lia,⟨_,hst⟩,qKS,⟨_,e4⟩,⟨sd,dl,good,low,by lia,lrd,hro⟩,d12,qIH⟩
end CJ
namespace CJ
open PySem L2 jP lN vB xM Zz gW
open DQ (Al)
open Ru (Wy Dx Cz oK mZ RmD)
theorem Wq(h:HS H v ds):oK H v ds:=by
 obtain⟨a,O,e,b,l⟩:=h;refine⟨a,O,e,b,?_⟩;clear b
 induction l with
 | nil=>exact .nil
 | cons h _ i=>exact .cons h i
theorem qBN(h:cL H rv rs):∃ R:aw Rm,lB H rv R/\R.length=rs.length/\∀(k:Nat)(r:Ro),rs[k]? = some r->∃ b,R[k]? = some b/\b.kind=r.kind/\b.depth=r.depth/\b.jn=r.jn/\oK H b.ins r.ins/\oK H b.outs r.outs:=by
 induction h with
 | nil=>exact⟨[],.nil,rfl,fun k r z=>by simp at z⟩
 | @cons v x vs xs h _ i=>
  obtain⟨R,g,I,f⟩:=i;obtain⟨a,d,o,e,c,l,p⟩:=h;refine⟨⟨x.nm,x.kind,x.depth,x.keeps,x.jn,d,o⟩::R,.cons ⟨a,e,c⟩ g,by rw[dG,dG,I],fun k r z=>?_⟩
  cases k with
  | zero=>
   cases z
   exact⟨_,rfl,rfl,rfl,rfl,Wq l,Wq p⟩
  | succ k=>exact f k r z
def DxG(n N:Nat)(d:Dx):Prop:=d.room<n/\d.way.gl<n/\d.g.ok N/\d.g.ht<=3/\(∀ x∈d.dd,x.ok N)/\d.dd.length<=8
theorem qAV(h:qI sz e d):d.ok sz.length:=by
 cases d with
 | say w=>intro b z;cases z
 | send x=>intro b z;cases z
 | set b n=>intro G z;cases z;exact h.1
 | add b n=>intro G z;cases z;exact h.1
theorem Eo{N:Nat}{r:Int}:∀ {g:Gd},GoodG (N:Int) r g->g.ok N
 | .yes,_=>trivial
 | .is b n,h=>h.1
 | .under b n,h=>h.1
 | .inn x,h=>trivial
 | .neg g,h=>Eo (g:=g) h
 | .both g k,h=>⟨Eo (g:=g) h.1,Eo (g:=k) h.2⟩
 | .either g k,h=>⟨Eo (g:=g) h.1,Eo (g:=k) h.2⟩
theorem qD1(n:0<rs.length)(h:jx H dv D):(∀ d∈D,DrG sz e rs d)->∃ xs:aw Dx,Al (Cz H) dv xs/\xs.length=D.length/\∀ x∈xs,DxG rs.length sz.length x:=by
 induction h with
 | nil=>exact fun _=>⟨[],.nil,rfl,fun x z=>by cases z⟩
 | @cons v d vs D h _ I=>
  intro G;obtain⟨xs,m,q,o⟩:=I fun d hd=>G d (Hr _ hd);obtain⟨a,f,i,E,l,p,s⟩:=h;have g:=G d (FZ ..)
  obtain⟨y,y1,y2,y3⟩:∃ y:Wy,y.tx=d.way/\y.gv=gv d.goal/\y.gl<rs.length:=by
   rcases g.wy with ⟨E,c⟩ | ⟨E,j,c,k,_⟩
   .exact⟨.stay,E.symm,by rw[c];rfl,n⟩
   .rcases E with E | E
    .exact⟨.to j,E.symm,by rw[c];rfl,k⟩
    .exact⟨.back j,E.symm,by rw[c];rfl,k⟩
  have r:((d.room.toNat:Nat):Int)=d.room:=fe g.rm.1;refine⟨⟨d.room.toNat,d.event,d.guard,d.pZ,y⟩::xs,.cons ⟨a,f,i,E,by show H a=some (.tup [.int ((d.room.toNat:Nat):Int),.int d.event,f,i,.str y.tx,y.gv]);rw[r,y1,y2];exact l,p,Wq s⟩ m,by rw[dG,dG,q],fun x b=>?_⟩;rcases dD.mp b with rfl | b
  .refine⟨?_,y3,Eo g.g,g.ht,fun x b=>qAV (g.dd x b),g.l8⟩;have:=g.rm.2;show d.room.toNat<rs.length;omega
  .exact o x b
theorem qII(h:gP H bv bs):Al (mj.SQ H) bv (bs.map fun b=>(b.size,b.start)):=by
 induction h with
 | nil=>exact .nil
 | cons h _ i=>
  obtain⟨a,e,h⟩:=h;exact .cons ⟨a,_,e,h⟩ i
structure Runs(c:Ch)(d:mZ)(bs:List (Int×Int)):Prop where
 ok:mj.uw d bs
 jn:∀(k:Nat)(r:Ro),c.rooms[k]? = some r->∃ r',d.rs[k]? = some r'/\r'.jn=r.jn
 len:d.rs.length=c.rooms.length
theorem ChG.runs(h:gW.jJ H t c)(g:ChG c):∃(d:mZ)(bs:aw (Int×Int)),mj.Sy H t d bs c.evs.length/\Runs c d bs:=by
 obtain⟨M,te,C,td,bv,rv,O,A,w,J,h4,W,F,Z,h8⟩:=h;obtain⟨_,⟨u,U,l2⟩,⟨Y,t1,T,t3⟩,_,⟨_,bx⟩,_,⟨_,_⟩,⟨_,D,G,L,_,lr,x⟩,_,B⟩:=g;have p:=G.pos;obtain⟨R,N,m,n⟩:=qBN F;obtain⟨xs,x1,_,X⟩:=qD1 (by omega) h8 B;have I:(c.oX.map (·.size)).length=c.oX.length:=bT _
 have j:aD R=D:=by
  refine ft fun k=>?_;unfold aD;rw[dZ]
  by_cases l:k<c.rooms.length
  .obtain⟨a,E,_,i,_⟩:=n k _ (fQ l);rw[E,fQ (show k<D.length by omega)];show some a.depth=_;rw[i,(x k _ (fQ l)).dp,jT,fQ (show k<D.length by omega)];rfl
  .rw[fN (by omega),fN (by omega)];rfl
 have at_:∀ {k:Nat} {a:Rm},R[k]? = some a->∃ r,c.rooms[k]? = some r/\a.kind=r.kind/\oK H a.ins r.ins/\oK H a.outs r.outs:=fun {k a} e=>by
  have l:=(oW.mp e).1;obtain⟨_,E,i,_,_,y,e5⟩:=n k _ (fQ (show k<c.rooms.length by omega));rw[e]at E
  cases E
  exact⟨_,fQ (by omega),i,y,e5⟩
 have P:∀ f:Ro->aw Dd,(∀(k:Nat)(r:Ro),c.rooms[k]? = some r->(∀ d∈f r,qI (c.oX.map (·.size)) (c.evs.length:Int) d)/\(f r).length<=8)->∀ k:Nat,(∀ d∈(c.rooms.map f).getD k [],d.ok (c.oX.map (·.size)).length)/\((c.rooms.map f).getD k []).length<=8:=fun f v k=>by
  rw[jT,dZ]
  cases e:c.rooms[k]? with
  | none=>exact⟨nofun,bo _⟩
  | some r=>exact⟨fun d hd=>qAV ((v k r e).1 d hd),(v k r e).2⟩
 refine⟨⟨c.order,u,Y,c.oX.map (·.size),R,fun k=>(c.rooms.map (·.ins)).getD k [],fun k=>(c.rooms.map (·.outs)).getD k [],xs⟩,c.oX.map fun b=>(b.size,b.start),⟨M,te,C,td,bv,_,rv,O,by rw[<-U,<-t1];exact A,w,qII J,h4,bT _,W,N,fun k a e=>?_,Z,x1⟩,⟨⟨⟨?_,?_,?_,?_,?_,?_,?_,?_,fun d hd=>?_⟩,?_,?_,?_,?_,?_,fun d hd=>?_,l2,T,t3⟩,fun k r S=>?_,m⟩⟩
 .obtain⟨r,E,_,i,Q⟩:=at_ e;show oK H a.ins ((c.rooms.map (·.ins)).getD k [])/\oK H a.outs ((c.rooms.map (·.outs)).getD k []);rw[jT,jT,dZ,dZ,E];exact⟨i,Q⟩
 .show Tr.Good (aD R);rw[j];exact G
 .show R.length<=40;omega
 .show (c.oX.map (·.size)).length<=6;omega
 .intro z s;obtain⟨b,o,rfl⟩:=eX.mp s;obtain⟨k,l⟩:=gT.mp o;have:=(bx k b l).sz.1;omega
 .show u<=12;omega
 .exact P (·.ins) fun k r e=>⟨(x k r e).di,(x k r e).l8.1⟩
 .exact P (·.outs) fun k r e=>⟨(x k r e).dO,(x k r e).l8.2⟩
 .show xs.length<=63;omega
 .have z:=X d hd;rw[<-m]at z;exact⟨z.1,z.2.1,z.2.2.2.2⟩
 .show c.oX.map (·.size)=(c.oX.map fun b=>(b.size,b.start)).map (·.1);rw[gz];rfl
 .intro z s;obtain⟨b,o,rfl⟩:=eX.mp s;obtain⟨k,l⟩:=gT.mp o;exact (bx k b l).st
 .intro k a e;obtain⟨r,E,i,_⟩:=at_ e;have z:=(x k r E).sh;show if k+1<R.length/\(aD R).getD k 0<(aD R).getD (k+1) 0 then _ else _;rw[j,m,lr,i]
  by_cases q:k+1<D.length/\D.getD k 0<D.getD (k+1) 0
  .rw[cS q]at z ⊢;exact z
  .rw[cK q]at z ⊢;exact z.1
 .show mj.Xx (aD R);rw[j];exact L
 .show R.length<=10;omega
 .have z:=X d hd;exact⟨z.2.2.1,z.2.2.2.1⟩
 .obtain⟨a,E,_,_,i,_⟩:=n k r S;exact⟨a,E,i⟩
end CJ
namespace CJ
open PySem L2 jP lN vB xM Zz gW
def ChG.other{c:Ch}(g:ChG c){od:Str}{t:Nat}(h:od = "inner" ∨ od = "outer")(t1:1<=t)(T:t<=5):ChG { c with order:=od,turns:=(t:Int) }:=
 ⟨h,g.lb,⟨t,rfl,t1,T⟩,g.b6,g.bx,g.e8,g.ev,g.ro,g.d12,g.dr⟩
def Um(h:mj.uw d bs)(t1:1<=tn)(T:tn<=5):mj.uw { d with od:=od,tn:=tn } bs:=
 ⟨⟨h.ok.good,h.ok.r40,h.ok.b6,h.ok.pos,h.ok.Ss,h.ok.ins,h.ok.outs,h.ok.d63,h.ok.door⟩,h.sz,h.st,h.fit,h.low,h.l10,h.g,h.l5,t1,T⟩
end CJ
namespace L2
open PySem
def uL{e:Expr}:PE X e fun _ _ _=>False:=fun _ _ _ _ _ _ h=>h.elim
theorem yp{P:Int->Prop}:∀ {l:aw V},(∀ v∈l,∃ n,v = .int n/\P n)->∃ ns:aw Int,l=ns.map V.int/\∀ n∈ns,P n
 | [],_=>⟨[],rfl,nofun⟩
 | v::l,h=>by
  obtain⟨n,rfl,p⟩:=h v FZ;obtain⟨ns,rfl,q⟩:=yp fun u f=>h u (Hr _ f);exact⟨n::ns,rfl,List.forall_mem_cons.mpr ⟨p,q⟩⟩
def qD8{l:aw V}(h:∀ v∈l,v = .bl b):l=(List.replicate l.length b).map V.bl:=by rw[List.map_replicate];exact List.eq_replicate_iff.mpr ⟨rfl,h⟩
def Br{l:aw V}(h:∀ v∈l,v = .bl b):aU K (upd H p (.lst l)) p ((List.replicate l.length b).map V.bl):=by rw[<-qD8 h];exact aU.of zC
def qg{xs:aw V}(R:V->Prop)(g:H1 a=some (.lst xs))(j:xs.length<=1000)
  (e:∀ x∈xs,∀ H,aH H1 H->∀(Y:VK)(N:Hp->Prop),(∀ v c,aH H1 c->R v->Y v c)->(∀ h,aH H1 h->N h)->tc (some x::cs) H fun b h=>if b=true then te (some x::cs) h Y else N h)
  (hd:∀ A H,aH H1 H->(∀ v∈A,R v)->A.length<=xs.length->Z A H):lD (Itl K a) cs tc te H1 Z:=
 yT (fun i A H=>aH H1 H/\(∀ v∈A,R v)/\A.length<=i) ⟨aH.refl _,nofun,bD _⟩ (fun i A H p=>aU.of (p.1 _ _ g)) (fun i x A H d p=>e x (SX d) H p.1 _ _ (fun v c s r=>⟨zW (by have:=(oW.mp d).1;omega),s,fun u f=>(jz.mp f).elim (p.2.1 u) fun z=>by rw[jA.mp z];exact r,by rw[j8];exact iX p.2.2⟩) fun h s=>⟨s,p.2.1,Nat.le_succ_of_le p.2.2⟩) fun A H p=>hd A H p.1 p.2.1 p.2.2
end L2
namespace FP
open PySem L2 jP lN
inductive Lf(b r:Int)(H:Hp):V->Prop
 | yes:H a=some (.tup [.str "yes"])->Lf b r H (.ref a)
 | box {k:Str}:k = "is" ∨ k = "under" -> H a=some (.tup [.str k,.int i,.int n])->0<=i/\i<b -> -(10 ^ 30)<=n/\n<=10 ^ 30->Lf b r H (.ref a)
 | inn:H a=some (.tup [.str "in",.int i])->0<=i/\i<r->Lf b r H (.ref a)
inductive Gw(b r:Int)(H:Hp):Nat->V->Prop
 | leaf:Lf b r H v->Gw b r H (n+1) v
 | neg:H a=some (.tup [.str "not",v])->Gw b r H n v->Gw b r H (n+1) (.ref a)
 | two {k:Str}:k = "both" ∨ k = "either" -> H a=some (.tup [.str k,v,u])->Gw b r H n v->Gw b r H n u->Gw b r H (n+1) (.ref a)
theorem Lf.keep(x:Lf b r H v)(s:aB H H'):Lf b r H' v:=by
 cases x with
 | yes e=>exact .yes (s _ _ e)
 | box c e h i=>exact .box c (s _ _ e) h i
 | inn e h=>exact .inn (s _ _ e) h
def Lf.mono(x:Lf b r H v)(s:aH H H'):Lf b r H' v:=x.keep (.of s)
theorem Gw.mono(x:Gw b r H n v)(s:aH H H'):Gw b r H' n v:=by
 induction x with
 | leaf l=>exact .leaf (l.mono s)
 | neg e _ i=>exact .neg (s _ _ e) i
 | two c e _ _ i j=>exact .two c (s _ _ e) i j
theorem Lf.hd(x:Lf b r H v):∃(a:ar)(k:Str)(t:aw V),v = .ref a/\H a=some (.tup (.str k::t))/\¬ k = "not" /\ inV (.str k) [.str "both",.str "either"]=false:=by
 cases x with
 | yes e=>exact⟨_,_,_,rfl,e,by decide +kernel,by decide +kernel⟩
 | box c e=>rcases c with rfl | rfl <;> exact⟨_,_,_,rfl,e,by decide +kernel,by decide +kernel⟩
 | inn e=>exact⟨_,_,_,rfl,e,by decide +kernel,by decide +kernel⟩
def oh:Sp:=fun vs H Q _ => ∃(b r:Int)(n:Nat)(v:V),vs=[v]/\Gw b r H (n+1) v/\∀(p:ar)(us:aw V)(h:Hp),aH H h->H p=none->h p=some (.lst us)->us.length<=2->(us=[]->Lf b r H v)->(∀ u∈us,Gw b r H n u)->Q (.ref p) h
def lV(n:Nat):Sp:=fun vs H Q _ => ∃(b r:Int)(m:Nat)(v:V),vs=[v]/\Gw b r H m v/\m<=n/\∀(x:Int)(h:Hp),x<=m->aH H h->Q (.int x) h
def iH(n:Nat):Sp:=fun vs H Q _ => ∃(b r:Int)(m:Nat)(v:V),vs=[v]/\Gw b r H m v/\m<=n/\m<=5/\∀(p:ar)(us:aw V)(h:Hp),aH H h->H p=none->h p=some (.lst us)->us.length<=2 ^ m->(∀ u∈us,Lf b r h u)->Q (.ref p) h
def Nz:Sp:=fun vs H Q _ => ∃(b r:Int)(m:Nat)(v:V),vs=[v]/\Gw b r H m v/\m<=5/\∀(t p P:ar)(bs R:aw Int)(h:Hp),aH H h->h t=some (.tup [.ref p,.ref P])->h p=some (.lst (bs.map V.int))->h P=some (.lst (R.map V.int))->bs.length<=63->R.length<=63->(∀ i∈bs,0<=i/\i<b)->(∀ i∈R,0<=i/\i<r)->Q (.ref t) h
def QL:aF ["guard"] ["guard"] (aA xr):=cQ
theorem Qf(F:bO K "guards_within" "guards_within" xr f fd):aL P w K mg base aN 1 f fd ["guard"] oh:=by
 refine F.ok QL ?_ ?_
 .rintro _ _ _ _⟨b,r,n,v,rfl,_⟩;rfl
 intro _ A _ s H _ Q E _ h
 obtain⟨b,r,n,v,rfl,y,q⟩:=h
 refine⟨_,(zE (yE (zM yH (yC zH (pv 0) zB (fun _ _=>rfl)) zQ (zS _))
  (zG (zP (yL (zA (yC zH (pv 0) zB (fun _ _=>rfl)) zD))))
  zU)
  (zE (yE (zM jM (yC zH (pv 0) zB (fun _ _=>rfl)) (zX (zA zQ (zA zQ zD))) rfl)
  (zG (zP (yL (zA (yC zH (pv 0) zB (fun _ _=>rfl)) (zA (yC zH (pv 0) zB (fun _ _=>rfl)) zD)))))
  zU)
  (zG (zP (yL zD))))),?_⟩
 cases y with
 | leaf l=>
  obtain⟨a,k,_,rfl,e,c,d⟩:=l.hd;exact⟨_,rfl,a,_,_,_,rfl,rfl,aJ.of e,gW.Bu,rfl,_,rfl,yO c ⟨_,rfl,a,_,_,_,rfl,rfl,aJ.of e,gW.Bu,zJ (by show 2<=1000;decide),fun p j=>⟨p,_,rfl,.inr (aJ.of zC),rfl,rfl,_,rfl,eE d ⟨bo _,fun o i=>q o [] _ ((zF j _).trans (zF i _)) ((zF j _).free i) zC (by decide) (fun _=>l) nofun⟩⟩⟩⟩
 | @neg a v n e g=>exact⟨_,rfl,a,_,_,_,rfl,rfl,aJ.of e,rfl,rfl,_,rfl,yP ⟨_,rfl,a,_,_,_,rfl,rfl,aJ.of e,rfl,zJ (by show 1<=1000;decide),fun p j=>q p [v] _ (zF j _) j zC (ip 1) nofun fun u z=>by rw[jA.mp z];exact g⟩⟩
 | @two a v u n k c e g h=>
  have m:∀ x∈[v,u],Gw b r H n x:=List.forall_mem_cons.mpr ⟨g,List.forall_mem_singleton.mpr h⟩
  have d:¬ k = "not" /\ inV (.str k) [.str "both",.str "either"]=true:=by rcases c with rfl | rfl <;> decide +kernel
  refine⟨_,rfl,a,_,_,_,rfl,rfl,aJ.of e,rfl,rfl,_,rfl,yO d.1 ⟨_,rfl,a,_,_,_,rfl,rfl,aJ.of e,rfl,zJ (by show 2<=1000;decide),fun p j=>⟨p,_,rfl,.inr (aJ.of zC),rfl,rfl,_,rfl,Hq d.2 ?_⟩⟩⟩;have t:=(zF j (.tup [.str "both",.str "either"])) _ _ e;exact⟨_,rfl,a,_,_,_,rfl,rfl,aJ.of t,rfl,_,rfl,a,_,_,_,rfl,rfl,aJ.of t,rfl,zJ (by show 2<=1000;decide),fun o i=>q o [v,u] _ ((zF j _).trans (zF i _)) ((zF j _).free i) zC (bD 2) nofun m⟩
theorem qAN{f:Nat->Int}(h:∀ i,f i<=M):∀(k:Nat)(b:Int)(j:Nat),b<=M->Sw.RC f b j k<=M
 | 0,b,j,c=>c
 | k+1,b,j,c=>qAN h k _ _ (by split;exact h j;exact c)
theorem qCG{ns:aw Int}{n:Nat}(h:∀ m∈ns,m<=(n:Int)):Sw.mxN (fun i=>ns.getD i 0) 0 ns.length<=(n:Int):=by
 have h':∀ i,ns.getD i 0<=(n:Int):=fun i=>by
  rw[jT]
  cases e:ns[i]? with
  | none=>exact fb n
  | some z=>exact h z (SX e)
 cases ns.length with
 | zero=>exact fb n
 | succ k=>exact qAN h' k _ 1 (h' 0)
def QQ:aF ["guard"] ["guard"] (aA qW):=cQ
theorem Qq{f G:ar}{a D:af}(F:bO K "height" "height" qW f a)(I:Dp P w K mg base aN (n+1) f a ["guard"] (lV n) "height")
  (o:Dp P w K mg base aN (n+1) G D ["guard"] oh "guards_within") (O:mg "max" = none) :
  aL P w K mg base aN (n+2) f a ["guard"] (lV (n+1)):=by
 refine F.ok QQ ?_ ?_
 .rintro _ _ _ _⟨b,r,m,v,rfl,_⟩;rfl
 intro _ A _ s H _ Q E g h
 obtain⟨b,r,m,v,rfl,j,_,q⟩:=h;refine⟨_,(zG (zP (yD yG zB (Yj rfl rfl O (zA (yU (bF:=[]) rfl (show bA (aA qW) ["guard"] _ _ _ from vA) (yN (pC o g (zA (pv 0) zD))) (fun _ _ _ _ _ _=>bQ) (fun _ _ _ _ _ _=>(pC I g (zA (pv 0) zD)))) zD))))),?_⟩
 cases m with
 | zero=>cases j
 | succ m=>
 refine⟨_,rfl,b,r,m,v,rfl,j,fun p _ _ e _ c _ _ u=>⟨p,rfl,⟨_,aU.of c⟩,?_⟩⟩;refine qg (K:=K) (fun v => ∃ x,v = .int x/\x<=(m:Int)) c (by omega) (fun x i t S Y N y _=>?_) fun _ t S B _ k d=>?_
 .exact⟨_,rfl,b,r,m,x,rfl,(u x i).mono (e.trans S),by omega,fun z _ C J=>y _ _ (S.trans J) ⟨z,rfl,C⟩⟩
 .obtain⟨ns,rfl,l⟩:=yp B;exact⟨k,ns,rfl,aU.of zC,_,_,rfl,rfl,q _ _ (by have:=qCG l;omega) ((e.trans S).trans (zF d _))⟩
def JS:aL P w K mg base aN 1 f fd ["guard"] (lV 0):=by
 have n:∀ vs H Q E,¬ lV 0 vs H Q E:=fun vs H Q E ⟨_,_,_,_,_,g,m,_⟩=>by
  cases Nat.le_zero.mp m
  cases g
 exact⟨fun vs H Q E h=>eu h (n vs H Q E),fun A _ s H _ _ vs Q E _ _ _ _ h=>eu h (n vs H Q E)⟩
theorem Bw(F:bO K "height" "height" qW f fd)(J:Binds K fd ["guard"] [])(j:mg "height" = some (.ref f))(o:Dp P w K mg base aN 1 gw dw ["guard"] oh "guards_within")(O:mg "max" = none) :
  ∀ n:Nat,aL P w K mg base aN (n+1) f fd ["guard"] (lV n)
 | 0=>JS
 | n+1=>Qq F ⟨Bw F J j o O n,J,F.kp,j⟩ ⟨o.G.mono (show 1<=n+1 by omega),o.b,o.k,o.m⟩ O
def eU:aF ["guard","inner","plain","within"] ["guard"] (aA jd):=cQ
theorem Uu{f gw:ar}{C dw:af}(F:bO K "plain_guards" "plain_guards" jd f C)(dX:Dp P w K mg base aN (n+1) f C ["guard"] (iH n) "plain_guards")
  (aQ:Dp P w K mg base aN (n+1) gw dw ["guard"] oh "guards_within") (aP:mg "len" = none) :
  aL P w K mg base aN (n+2) f C ["guard"] (iH (n+1)):=by
 refine F.ok eU ?_ ?_
 .rintro _ _ _ _⟨b,r,m,v,rfl,_⟩;rfl
 intro _ A _ s H _ Q E J h
 obtain⟨b,r,m,v,rfl,O,_,_,q⟩:=h
 refine⟨_,(zE (zL (i:=1) eU.nd rfl (bb rfl) (pC aQ J (zA (pv 0) zD)))
  (zE (yE (zM yH (zT zO rfl aP bj (zA (pv 1) zD)) zB (zS _))
  (zG (zP (yL (zA (pv 0) zD))))
  zU)
  (zE (zL (i:=2) eU.nd rfl (bb rfl) (yL zD))
  (zE (bf PassesOwn.never rfl (yN (pv 1)) (yK (i:=3) eU.nd rfl (bb rfl))
  (zG (yJ (dU iu kz kC cG (pv 2) (zA (pC dX J (zA (pv 3) zD)) zD)))))
  (zG (zP (pv 2))))))),?_⟩
 cases m with
 | zero=>cases O
 | succ m=>
 refine⟨_,rfl,b,r,m,v,rfl,O,fun p us H1 S _ B l2 Z k=>?_⟩;refine⟨_,rfl,p,_,rfl,.inl (aU.of B),rfl,_,rfl,fO (fun c=>?_) (fun _=>?_)⟩
 .have c':V.int ((us.length:Nat):Int)=V.int 0:=ba c;injection c' with c2;exact⟨_,rfl,zJ (by show 1<=1000;decide),fun p2 e=>q p2 [v] _ (S.trans (zF e _)) (S.free e) zC Nat.one_le_two_pow fun u k=>by rw[jA.mp k];exact (Z (fo (by omega))).mono (S.trans (zF e _))⟩
 have T:2 ^ m<=2 ^ 5:=iP (by decide) (by omega);refine⟨bo _,fun o d=>?_⟩;refine⟨_,rfl,p,rfl,⟨_,aU.of ((zF d _) _ _ B)⟩,?_⟩;refine pX (K:=K) (a:=p) (xs:=us) (fun i σ' y=>∃(W:aw V)(G:aE V),aH H1 y/\y o=some (.lst W)/\W.length<=i*2 ^ m/\(∀ u∈W,Lf b r y u)/\σ'=[some v,some (.ref p),some (.ref o),G])
  ⟨[],none,zF d _,zC,bo _,nofun,rfl⟩ (fun i σ' y _ ⟨_,_,g,_⟩=>aU.of (g _ _ B)) ?_ ?_
 .rintro i x σ' R D ⟨W,G,g,t,N,I,rfl⟩;have hi:=(oW.mp D).1;refine⟨_,rfl,.inl ⟨rfl,_,aU.of t⟩,_,rfl,b,r,m,x,rfl,(k x (SX D)).mono (S.trans g),by omega,by omega,fun p3 zs M Y _ h3 _ X=>?_⟩;have j:=Y _ _ t
  have L:(W++zs).length<=(i+1)*2 ^ m:=by rw[j8,Nat.succ_mul];omega
  have i1:(i+1)*2 ^ m<=2*2 ^ m:=Nat.mul_le_mul_right _ (by omega);rw[j8]at L;have U:∀ u,Lf b r M u->Lf b r (upd M o (.lst (W++zs))) u:=fun u l=>l.keep (aB.lst j _);exact⟨o,p3,W,zs,rfl,rfl,j,h3,zJ (by omega),W++zs,_,bW d (g.trans Y) _,zC,by rw[j8];exact L,fun u k=>U u ((jz.mp k).elim (fun z=>(I u z).mono Y) (X u)),rfl⟩
 .rintro σ' R ⟨W,G,g,t,N,I,rfl⟩;exact⟨_,rfl,q o W R (S.trans g) (S.free d) t (br N (by rw[Nat.pow_succ,Nat.mul_comm];exact Nat.mul_le_mul_left _ l2)) I⟩
def M4:aL P w K mg base aN 1 f fd ["guard"] (iH 0):=by
 have n:∀ vs H Q E,¬ iH 0 vs H Q E:=fun vs H Q E ⟨_,_,_,_,_,g,m,_⟩=>by
  cases Nat.le_zero.mp m
  cases g
 exact⟨fun vs H Q E h=>eu h (n vs H Q E),fun A _ s H _ _ vs Q E _ _ _ _ h=>eu h (n vs H Q E)⟩
theorem all_plain(F:bO K "plain_guards" "plain_guards" jd f fd)(q:Binds K fd ["guard"] [])(p:mg "plain_guards" = some (.ref f))(o:Dp P w K mg base aN 1 gw dw ["guard"] oh "guards_within")(C:mg "len" = none) :
  ∀ n:Nat,aL P w K mg base aN (n+1) f fd ["guard"] (iH n)
 | 0=>M4
 | n+1=>Uu F ⟨all_plain F q p o C n,q,F.kp,p⟩ ⟨o.G.mono (show 1<=n+1 by omega),o.b,o.k,o.m⟩ C
def tK:aF ["guard","plain","boxes","rooms"] ["guard"] (aA vO):=cQ
theorem VF(F:bO K "asked" "asked" vO f fd)(dX:Dp P w K mg base aN 21 gp dp ["guard"] (iH 20) "plain_guards")
  (O:mg "sorted" = none) (g:mg "set" = none):aL P w K mg base aN 22 f fd ["guard"] Nz:=by
 refine F.ok tK ?_ ?_
 .rintro _ _ _ _⟨b,r,m,v,rfl,_⟩;rfl
 intro _ A _ s H _ Q E hr h
 obtain⟨b,r,m,v,rfl,hg,m5,q⟩:=h
 refine⟨_,(zE (zL (i:=1) tK.nd rfl (bb rfl) (pC dX hr (zA (pv 0) zD)))
  (zE (uI (i:=2) (bF:=[]) rfl tK.nd rfl (bb rfl) (show bA (aA vO) ["guard","plain","boxes","rooms"] _ _ _ from vA) (yN (pv 1)) (fun _ _ _ _ _ _=>cW (zM (r:=rIn K false) jM (yC (r:=dM K) zH (pv 0) zB (fun _ _=>rfl)) (zX (zA zQ (zA zQ zD))) rfl)) (fun _ _ _ _ _ _=>(yC (r:=dM K) zH (pv 0) zB (fun _ _=>rfl))))
  (zE (uI (i:=3) (bF:=[]) rfl tK.nd rfl (bb rfl) (show bA (aA vO) ["guard","plain","boxes","rooms"] _ _ _ from vA) (yN (pv 1)) (fun _ _ _ _ _ _=>cW (zM yH (yC (r:=dM K) zH (pv 0) zB (fun _ _=>rfl)) zQ (zS _))) (fun _ _ _ _ _ _=>(yC (r:=dM K) zH (pv 0) zB (fun _ _=>rfl))))
  (zG (zP (zX (zA (BJ rfl rfl O rfl g (zA (pv 2) zD)) (zA (BJ rfl rfl O rfl g (zA (pv 3) zD)) zD)))))))),?_⟩
 have p32:2 ^ m<=2 ^ 5:=iP (by decide) m5;refine⟨_,rfl,b,r,m,v,rfl,hg,by omega,m5,fun p _ _ s1 _ l _ T=>⟨_,rfl,p,rfl,⟨_,aU.of l⟩,?_⟩⟩;refine qg (K:=K) (fun v => ∃ i,v = .int i/\0<=i/\i<b) l (by omega) (fun x D H' d Y N y n=>?_) fun B _ d ha la p2 I=>?_
 .cases (T x D).mono d with
  | @yes a e=>exact⟨_,rfl,a,_,_,_,rfl,rfl,aJ.of e,rfl,zJ (by show 2<=1000;decide),fun pt G=>⟨pt,_,rfl,.inr (aJ.of zC),rfl,rfl,_,rfl,eE (by decide +kernel) (n _ (d.trans (zF G _)))⟩⟩
  | @box a i _ k c e h=>exact⟨_,rfl,a,_,_,_,rfl,rfl,aJ.of e,rfl,zJ (by show 2<=1000;decide),fun pt G=>⟨pt,_,rfl,.inr (aJ.of zC),rfl,rfl,_,rfl,Hq (by rcases c with rfl | rfl <;> decide +kernel) ⟨_,rfl,a,_,_,_,rfl,rfl,aJ.of ((zF G _) _ _ e),rfl,y _ _ (d.trans (zF G _)) ⟨i,rfl,h⟩⟩⟩⟩
  | @inn a i e h=>exact⟨_,rfl,a,_,_,_,rfl,rfl,aJ.of e,rfl,zJ (by show 2<=1000;decide),fun pt G=>⟨pt,_,rfl,.inr (aJ.of zC),rfl,rfl,_,rfl,eE (by decide +kernel) (n _ (d.trans (zF G _)))⟩⟩
 obtain⟨bs,rfl,hb⟩:=yp ha;have o:=d.trans (zF I (.lst (bs.map V.int)));refine⟨_,rfl,p,rfl,⟨_,aU.of (o _ _ l)⟩,?_⟩;refine qg (K:=K) (fun v => ∃ i,v = .int i/\0<=i/\i<r) (o _ _ l) (by omega) (fun x D H' S Y N y n=>?_) fun B _ S J L p4 X=>?_
 .cases (T x D).mono (o.trans S) with
  | @yes a e=>exact⟨_,rfl,a,_,_,_,rfl,rfl,aJ.of e,rfl,rfl,_,rfl,yO (by decide +kernel) (n _ S)⟩
  | @box a i _ k c e h=>exact⟨_,rfl,a,_,_,_,rfl,rfl,aJ.of e,rfl,rfl,_,rfl,yO (by rcases c with rfl | rfl <;> decide +kernel) (n _ S)⟩
  | @inn a i e h=>exact⟨_,rfl,a,_,_,_,rfl,rfl,aJ.of e,rfl,rfl,_,rfl,yP ⟨_,rfl,a,_,_,_,rfl,rfl,aJ.of e,rfl,y _ _ S ⟨i,rfl,h⟩⟩⟩
 obtain⟨R,rfl,C⟩:=yp J;rw[bT]at la L;have s5:=S.trans (zF X (.lst (R.map V.int)));refine⟨_,rfl,p2,bs,rfl,aU.of (s5 _ _ zC),by omega,fun q1 W u _ m1=>?_⟩;have Z:=zF u (.lst (W.map V.int));refine⟨_,rfl,p4,R,rfl,aU.of (Z _ _ zC),by omega,fun U r1 j _ m2=>⟨zJ (by show 2<=1000;decide),fun t ht=>?_⟩⟩;have M:=zF ht (.tup [.ref q1,.ref U]);exact q t q1 U W r1 _ ((((s1.trans o).trans s5).trans Z).trans ((zF j _).trans M)) zC (M _ _ ((zF j _) _ _ zC)) (M _ _ zC) (by omega) (by omega) (fun i z=>hb i (m1 i z)) fun i z=>C i (m2 i z)
end FP
namespace gW
open L2
theorem eQ.back{R:V->α->Prop}{vs:aw V}{xs:aw α}(x:eQ R vs xs):∀ {k:Nat} {v:V},vs[k]? = some v->∃ a,xs[k]? = some a/\R v a:=by
 induction x with
 | nil=>intro k a h;simp at h
 | cons h _ i=>
  intro k a e
  cases k with
  | zero=>
   simp at e;subst e;exact⟨_,rfl,h⟩
  | succ k=>exact i (by simpa using e)
end gW
namespace dC
open PySem L2 jP lN xM Zz gW CJ
def says(H:Hp)(Q:VK)(b:Bool):Prop:=∀ h,aH H h->Q (.bl b) h
def Jq(a b:Str):decide (V.str a=V.str b)=decide (a=b):=bS.mpr ⟨fun h=>by injection h,fun h=>by rw[h]⟩
def Bs(H:Hp)(T t:ar)(bs:aw Bx)(ne:Int):Prop:=(∃ b,H T=some (.tup b)/\gP H b bs)/\∃ i:aw V,H t=some (.tup i)/\(i.length:Int)=ne
def Bs.mono(x:Bs H tb te bs ne)(s:aH H H'):Bs H' tb te bs ne:=⟨x.1.imp fun _ z=>⟨s _ _ z.1,gP.mono z.2 (aB.of s)⟩,x.2.imp fun _ z=>⟨s _ _ z.1,z.2⟩⟩
def nb2{a b:Bool}(H:a=true)(l:b=true):(!(a&&b))=false:=by rw[H,l];rfl
def qb{Q:VK}{b c:Bool}(h:b=c)(q:Q (.bl c) H):Q (.bl b) H:=h▸q
def DpH(H:Hp)(v:V)(e:Int):Prop:=∃(a:ar)(x y:V)(t:aw V),v = .ref a/\H a=some (.tup (x::y::.int e::t))
def zp:Sp:=fun vs H Q _ => ∃ z:Str,vs=[.str z]/\isW z=true/\says H Q true
def xj(K:bV):Sp:=fun vs H Q _ => ∃(z:Str)(a:ar)(zs:aw Str),vs=[.str z,.ref a]/\(aU K H a (zs.map V.str)∨aJ K H a (zs.map V.str))/\isW z=true/\z∉zs/\says H Q false
def Fg(K:bV):Sp:=fun vs H Q _ => ∃(a:ar)(xs:aw V)(zs:aw Str),vs=[.ref a]/\aJ K H a xs/\eQ (S8 H) xs zs/\zs.length<=1000/\∀ p,H p=none->Q (.ref p) (upd H p (.lst (zs.map V.str)))
def Tq:Sp:=fun vs H Q _ => ∃(v:V)(t:ar)(b:Bx)(xs:aw V)(zs:aw Str),vs=[v,.ref t]/\Hk H v b/\H t=some (.tup xs)/\eQ (S8 H) xs zs/\zs.length<=60/\isW b.nm=true/\b.nm∉zs/\(1<=b.size/\b.size<=big)/\(0<=b.start/\b.start<b.size)/\says H Q false
def Il:Sp:=fun vs H Q _ => ∃(d:Int)(t:ar)(R:aw V),vs=[.int d,.ref t]/\H t=some (.tup R)/\(R=[]/\d=0 ∨ ∃ v e,R≠[]/\mX R (-1)=some v/\DpH H v e/\1<=d/\d<=e+1/\d<=12)/\Q (.bl false) H
def Ie:Sp:=fun vs H Q _ => ∃(a b:Str),vs=[.str a,.str b]/\(a = "" ∨ a = "near" /\ b = "one" ∨ a = "deep" /\ (b = "one" ∨ b = "all"))/\says H Q false
def Tn:Sp:=fun vs H Q _ => ∃(v:V)(t:ar)(r:Ro)(R:aw V),vs=[v,.ref t]/\qA0 H v r/\H t=some (.tup R)/\(R=[]/\r.kind = "plain" ∨ ∃ v e,R≠[]/\mX R 0=some v/\DpH H v e/\decide (r.depth<e) = !decide (r.kind = "plain"))/\Q (.bl false) H
def LR:aF ["text"] ["text"] (aA tZ):=cQ
def Lw(F:bO K "is_word" "is_word" tZ f fd)(C:mg "len" = none)(J:mg "all" = none)(W:mg "LONGEST" = some (.int 12 tL))(I:mg "SMALL_LETTERS" = some (.str alpha tS)):aL P w K mg base aN 1 f fd ["text"] zp:=by
 refine F.ok LR ?_ ?_
 .rintro _ _ _ _⟨z,rfl,_⟩;rfl
 intro _ A _ s H _ Q E _ h
 obtain⟨z,rfl,k,q⟩:=h
 refine⟨_,zG (zP (rT (QZ fJ fJ zB (zT ue rfl C bj (zA (pv 0) zD)) (bC (v:=.int 12) rfl W ⟨_,rfl⟩))
  (gB (zT (qj rfl) rfl J kb (zA (yU (bF:=[]) rfl (show bA (aA tZ) ["text"] _ _ _ from vA) (qBW (pv 0)) (fun _ _ _ _ _ _=>bQ)
   (fun _ _ _ _ _ _=>bK Qe (pv 0) (bC (v:=.str alpha) rfl I ⟨_,rfl⟩) rfl)) zD))))),?_⟩
 obtain⟨c,d⟩:=dP.mp k;have l:=ba (dP.mp c).2;have L:z.cps.size<=12:=Int.ofNat_le.mp l;rw[List.all_map,ff]at d;refine⟨_,rfl,z,rfl,zJ (br L (by decide)),_,_,rfl,rfl,_,rfl,Hq c ⟨_,rfl,z,rfl,?_⟩⟩;refine Ww (fun i a b=>b=H/\i<=z.cps.size/\a.length=i/\∀ v∈a,v = .bl true) ⟨rfl,bo _,rfl,nofun⟩ (fun i T a b R ⟨g,_,j,e⟩=>?_) (fun a b ⟨g,_,_,e⟩ p n=>?_)
 .subst g;have o:i<z.cps.size:=(eB.mp R).1;have d':inA T=true:=d T (Array.mem_toList_iff.mpr (Array.mem_of_getElem? R));exact⟨_,rfl,_,_,rfl,rfl,zW (by omega),rfl,o,by rw[j8,j];rfl,fun v m=>(jz.mp m).elim (e v) fun y=>by rw[jA.mp y,<-d'];rfl⟩
 .subst g;exact⟨p,_,rfl,Br e,qb (Q:=Q) (by simp) (q _ (zF n _))⟩
def sZ:aF ["name","ahead"] ["name","ahead"] (aA yZ):=cQ
def Yu(F:bO K "name_has_fault" "name_has_fault" yZ f fd)(m:Dp P w K mg base aN n gw dw ["text"] zp "is_word") :
  aL P w K mg base aN (n+1) f fd ["name","ahead"] (xj K):=by
 refine F.ok sZ ?_ ?_
 .rintro _ _ _ _⟨z,a,zs,rfl,_⟩;rfl
 intro _ A _ s H _ Q E g h
 obtain⟨z,a,zs,rfl,i,e,d,q⟩:=h;refine⟨_,(zG (zP (wj (gC (pC m g (zA (pv 0) zD))) (gB (bK jM (pv 0) (pv 1) rfl))))),?_⟩;refine⟨_,rfl,z,rfl,e,fun b S=>⟨_,rfl,_,rfl,eE rfl ⟨_,rfl,_,rfl,a,_,rfl,i.imp (fun x=>S.seq x) (fun x=>S.qK1 x),rfl,QH _,?_⟩⟩⟩;show Q (.bl (inV (.str z) (zs.map V.str))) b;rw[ZF,eJ.mpr fun c=>d (List.contains_iff_mem.mp c)];exact q b S
def Iu:aF ["things"] ["things"] (aA pI):=cQ
def Uw(F:bO K "names_of" "names_of" pI f fd):aL P w K mg base aN 1 f fd ["things"] (Fg K):=by
 refine F.ok Iu ?_ ?_
 .rintro _ _ _ _⟨a,xs,zs,rfl,_⟩;rfl
 intro _ A _ s H _ Q E _ h
 obtain⟨a,xs,zs,rfl,c,d,l,q⟩:=h;refine⟨_,zG (zP (yU (bF:=[]) rfl (show bA (aA pI) ["things"] _ _ _ from vA) (nQ (pv 0)) (fun _ _ _ _ _ _=>bQ) (fun _ _ _ _ _ _=>(yC (r:=dM K) zH (pv 0) zB (fun _ _=>rfl))))),?_⟩;exact⟨_,rfl,a,rfl,⟨_,c⟩,Wx (K:=K) (zs:=zs) c d l (fun b _ z e Q q=>⟨_,rfl,b,_,_,_,rfl,rfl,aJ.of e,Bu,q⟩) q⟩
def gZ:aF ["box","ahead","size","start"] ["box","ahead"] (aA Fz):=cQ
def Z2(F:bO K "box_has_fault" "box_has_fault" Fz f fd)(r:Dp P w K mg base aN n gn dn ["things"] (Fg K) "names_of")(c:Dp P w K mg base aN n gw dw ["name","ahead"] (xj K) "name_has_fault")(G:mg "GREATEST" = some (.int big tG)) :
  aL P w K mg base aN (n+1) f fd ["box","ahead"] Tq:=by
 refine F.ok gZ ?_ ?_
 .rintro _ _ _ _⟨v,t,b,_,_,rfl,_⟩;rfl
 intro _ A _ s H _ Q E g h
 obtain⟨v,t,b,xs,zs,rfl,⟨a,rfl,d⟩,ht,z,_,e,j,⟨m,u⟩,⟨C,k⟩,q⟩:=h
 refine⟨_,(zE (zL (i:=2) gZ.nd rfl (bb rfl) (yC zH (pv 0) zB (fun _ _=>rfl)))
  (zE (zL (i:=3) gZ.nd rfl (bb rfl) (yC zH (pv 0) zB (fun _ _=>rfl)))
  (zE (yE (aY (pC c g (zA (yC zH (pv 0) zB (fun _ _=>rfl)) (zA (pC r g (zA (pv 1) zD)) zD)))) bB zU)
  (zG (zP (wj (gC (rR fJ fJ zB (pv 2) (bC (v:=.int big) rfl G ⟨_,rfl⟩))) (gB (gC (rR fJ mH zB (pv 3) (pv 2)))))))))),?_⟩
 refine⟨_,rfl,a,_,_,_,rfl,rfl,aJ.of d,rfl,_,rfl,a,_,_,_,rfl,rfl,aJ.of d,rfl,_,rfl,a,_,_,_,rfl,rfl,aJ.of d,rfl,_,rfl,t,xs,zs,rfl,aJ.of ht,z,by omega,fun p o=>?_⟩;exact⟨b.nm,p,_,rfl,.inl (aU.of zC),e,j,fun l S=>⟨_,rfl,eE rfl ⟨_,rfl,_,_,big,rfl,rfl,⟨rfl,rfl⟩,_,rfl,_,rfl,eE (nb2 (bq m) (bq u)) ⟨_,rfl,_,_,_,rfl,rfl,⟨_,rfl,rfl,rfl⟩,_,rfl,qb (Q:=Q) (nb2 (bq C) (bq k)) (q l ((zF o _).trans S))⟩⟩⟩⟩
def rO:aF ["keeps","kind"] ["keeps","kind"] (aA tW):=cQ
def Qo(F:bO K "keeps_has_fault" "keeps_has_fault" tW f fd):aL P w K mg base aN 1 f fd ["keeps","kind"] Ie:=by
 refine F.ok rO ?_ ?_
 .rintro _ _ _ _⟨a,b,rfl,_⟩;rfl
 intro _ A _ s H _ Q E _ h
 obtain⟨a,b,rfl,k,q⟩:=h
 refine⟨_,(zE (yE (zM yH (pv 0) zQ (zS _))
  (zG (zP (bK pN (pv 1) zQ (zS _))))
  zU)
  (zE (yE (zM yH (pv 0) zQ (zS _))
  (zG (zP (bK dq (pv 1) (zX (zA zQ (zA zQ zD))) rfl)))
  zU)
  (zG (zP (bK pN (pv 0) zQ (zS _)))))),?_⟩
 have c:=q H (aH.refl _);rcases k with rfl | ⟨rfl,rfl⟩ | ⟨rfl,e⟩
 .exact⟨_,rfl,rfl,_,rfl,yO (by decide +kernel) ⟨_,rfl,rfl,_,rfl,yO (by decide +kernel) ⟨_,rfl,rfl,c⟩⟩⟩
 .exact⟨_,rfl,rfl,_,rfl,yP ⟨_,rfl,rfl,c⟩⟩
 .refine⟨_,rfl,rfl,_,rfl,yO (by decide +kernel) ⟨_,rfl,rfl,_,rfl,yP ⟨_,rfl,zJ (by show 2<=1000;decide),fun p d=>⟨p,_,rfl,.inr (aJ.of zC),rfl,rfl,?_⟩⟩⟩⟩;rcases e with rfl | rfl <;> exact q _ (zF d _)
def rQ:aF ["depth","ahead"] ["depth","ahead"] (aA uA):=cQ
def at2{xs:aw V}:mX (x::y::z::xs) 2=some z:=yR (j:=2) rfl
def qCE{xs:aw V}(h:xs≠[]):decide (V.int (xs.length:Int)=V.int 0)=false:=bp fun e=>by
 injection e with e;exact h (fo (by omega))
def Qz(F:bO K "depth_has_fault" "depth_has_fault" uA f fd)(C:mg "len" = none)(W:mg "DEEPEST" = some (.int 12 tD)):aL P w K mg base aN 1 f fd ["depth","ahead"] Il:=by
 refine F.ok rQ ?_ ?_
 .rintro _ _ _ _⟨d,t,R,rfl,_⟩;rfl
 intro _ A _ s H _ Q E _ h
 obtain⟨d,t,R,rfl,ht,hd,q⟩:=h
 refine⟨_,(zE (yE (zM yH (zT zO rfl C bj (zA (pv 1) zD)) zB (zS _))
  (zG (zP (bK pN (pv 0) zB (zS _))))
  zU)
  (zG (zP (wj (gC (rR fJ fJ zB (pv 0) (yD yG (yC zH (yC zH (pv 1) (Ay rH zB) (fun _ _=>rfl)) zB (fun _ _=>rfl)) zB))) (gB (bK cY (pv 0) (bC (v:=.int 12) rfl W ⟨_,rfl⟩) (zS _))))))),?_⟩
 rcases hd with ⟨rfl,rfl⟩ | ⟨v,e,n,c,⟨a,x,y,T,rfl,b⟩,D,g,i⟩
 .exact⟨_,rfl,t,_,rfl,.inr (aJ.of ht),rfl,_,rfl,Hq rfl ⟨_,rfl,rfl,q⟩⟩
 .exact⟨_,rfl,t,_,rfl,.inr (aJ.of ht),rfl,_,rfl,eE (qCE n) ⟨_,rfl,_,_,e+1,rfl,rfl,⟨_,rfl,_,rfl,t,R,_,_,rfl,rfl,aJ.of ht,c,a,_,_,_,rfl,rfl,aJ.of b,at2,_,_,rfl,rfl,rfl,rfl⟩,_,rfl,_,rfl,eE (nb2 (bq D) (bq g)) ⟨_,rfl,_,_,rfl,rfl,qb (Q:=Q) (bp (by omega)) q⟩⟩⟩
def lX:aF ["room","behind","has_kids"] ["room","behind"] (aA Fy):=cQ
def Z0(F:bO K "end_has_fault" "end_has_fault" Fy f fd)(C:mg "len" = none):aL P w K mg base aN 1 f fd ["room","behind"] Tn:=by
 refine F.ok lX ?_ ?_
 .rintro _ _ _ _⟨v,t,r,R,rfl,_⟩;rfl
 intro _ A _ s H _ Q E _ h
 obtain⟨v,t,r,R,rfl,⟨a,_,_,rfl,d,_⟩,ht,m,q⟩:=h
 refine⟨_,(zE (zL (i:=2) lX.nd rfl (bb rfl) (rT (bK cY (zT zO rfl C bj (zA (pv 1) zD)) zB (zS _)) (gB (bK cY (yC zH (yC zH (pv 1) zB (fun _ _=>rfl)) zB (fun _ _=>rfl)) (yC zH (pv 0) zB (fun _ _=>rfl)) (zS _)))))
  (zE (yE (zM yH (yC zH (pv 0) zB (fun _ _=>rfl)) zQ (zS _))
  (zG (zP (pv 2)))
  zU)
  (zG (zP (gC (pv 2)))))),?_⟩
 rcases m with ⟨rfl,p⟩ | ⟨v,e,g,l,⟨k,x,y,T,rfl,b⟩,j⟩
 .exact⟨_,rfl,t,_,rfl,.inr (aJ.of ht),_,_,rfl,rfl,_,rfl,eE rfl ⟨_,rfl,a,_,_,_,rfl,rfl,aJ.of d,rfl,rfl,_,rfl,Hq (by rw[p];exact bq rfl) ⟨_,rfl,q⟩⟩⟩
 .refine⟨_,rfl,t,_,rfl,.inr (aJ.of ht),_,_,rfl,rfl,_,rfl,Hq (bq (Int.ofNat_lt.mpr (List.length_pos_iff.mpr g))) ⟨_,rfl,t,R,_,_,rfl,rfl,aJ.of ht,l,k,_,_,_,rfl,rfl,aJ.of b,at2,_,rfl,a,_,_,_,rfl,rfl,aJ.of d,rfl,_,_,rfl,rfl,_,rfl,a,_,_,_,rfl,rfl,aJ.of d,rfl,rfl,_,rfl,fO (fun c=>?_) (fun c=>?_)⟩⟩
  .exact⟨_,rfl,qb (Q:=Q) (by rw[j,<-Jq,c];rfl) q⟩
  .exact⟨_,rfl,_,rfl,qb (Q:=Q) (by rw[j,<-Jq,c];rfl) q⟩
def zx:Sp:=fun vs H Q _ => ∃(i:Int)(t:ar)(xs:aw V),vs=[.int i,.ref t]/\H t=some (.tup xs)/\((0<=i/\i<(xs.length:Int))/\Q (.bl true) H∨¬ (0<=i/\i<(xs.length:Int))/\Q (.bl false) H)
def Ff:Sp:=fun vs H Q _ => ∃ n:Int,vs=[.int n]/\(-(10 ^ 30)<=n/\n<=10 ^ 30)/\Q (.bl true) H
def Nv:Sp:=fun vs H Q _ => ∃(v:V)(T t:ar)(d:Dd)(bs:aw Bx)(ne:Int),vs=[v,.ref T,.ref t]/\sO H v d/\qI (bs.map (·.size)) ne d/\Bs H T t bs ne/\says H Q false
def Aa:Sp:=fun vs H Q _ => ∃(v:V)(T t:ar)(D:aw Dd)(bs:aw Bx)(ne:Int),vs=[v,.ref T,.ref t]/\HS H v D/\D.length<=8/\(∀ d∈D,qI (bs.map (·.size)) ne d)/\Bs H T t bs ne/\says H Q false
def Ni:Sp:=fun vs H Q _ => ∃(v:V)(t T a:ar)(r:Ro)(xs:aw V)(zs:aw Str)(bs:aw Bx)(ne s:Int)(d:aw Int)(k:Nat),vs=[v,.ref t,.ref T,.ref a]/\qA0 H v r/\RoG (bs.map (·.size)) ne s d k r/\H t=some (.tup xs)/\eQ (S8 H) xs zs/\zs.length<=60/\r.nm∉zs/\(xs=[]/\r.depth=0 ∨ ∃ v e,xs≠[]/\mX xs (-1)=some v/\DpH H v e/\1<=r.depth/\r.depth<=e+1/\r.depth<=12)/\Bs H T a bs ne/\says H Q false
def Ig:Sp:=fun vs H Q _ => ∃(g:V)(T t:ar)(m:Nat)(b R:aw V),vs=[g,.ref T,.ref t]/\FP.Gw (b.length:Int) (R.length:Int) H m g/\m<=3/\H T=some (.tup b)/\H t=some (.tup R)/\says H Q false
def Np:Sp:=fun vs H Q _ => ∃(w:Str)(o:aE Int)(t:ar)(v:aw V)(R:aw Ro),vs=[.str w,gv o,.ref t]/\H t=some (.tup v)/\cL H v R/\((w = "stay" /\ o=none)∨((w = "to" ∨ w = "back")/\∃ j:Nat,o=some (j:Int)/\j<R.length/\(w = "back" -> ∃ r,R[j]? = some r/\r.keeps ≠ "")))/\Q (.bl false) H
def Nt:Sp:=fun vs H Q _ => ∃(v:V)(T t r:ar)(d:Dr)(bs:aw Bx)(ne:Int)(R:aw V)(s:aw Ro),vs=[v,.ref T,.ref t,.ref r]/\qJL H v d/\DrG (bs.map (·.size)) ne s d/\Bs H T t bs ne/\H r=some (.tup R)/\cL H R s/\says H Q false
def xO:aF ["number","things"] ["number","things"] (aA Fw):=cQ
def qC2(F:bO K "is_number_of" "is_number_of" Fw f fd)(C:mg "len" = none):aL P w K mg base aN 1 f fd ["number","things"] zx:=by
 refine F.ok xO ?_ ?_
 .rintro _ _ _ _⟨o,t,xs,rfl,_⟩;rfl
 intro _ A _ s H _ Q E _ h
 obtain⟨i,t,xs,rfl,ht,q⟩:=h;refine⟨_,(zG (zP (rT (bK GQ (pv 0) iw (zS _)) (gB (rR fJ mH zB (pv 0) (zT zO rfl C bj (zA (pv 1) zD))))))),?_⟩;exact⟨_,rfl,rfl,_,rfl,Hq rfl ⟨_,rfl,_,_,(xs.length:Int),rfl,rfl,⟨_,rfl,t,_,rfl,.inr (aJ.of ht),rfl,rfl⟩,q.elim (fun q=>qb (Q:=Q) ((eI _ _).symm.trans (bq q.1)) q.2) fun q=>qb (Q:=Q) ((eI _ _).symm.trans (bp q.1)) q.2⟩⟩
def Af:aF ["number"] ["number"] (aA tV):=cQ
def Ut(F:bO K "is_in_reach" "is_in_reach" tV f fd)(G:mg "GREATEST" = some (.int big tG)):aL P w K mg base aN 1 f fd ["number"] Ff:=by
 refine F.ok Af ?_ ?_
 .rintro _ _ _ _⟨n,rfl,_⟩;rfl
 intro _ A _ s H _ Q E _ h
 obtain⟨n,rfl,a,q⟩:=h;refine⟨_,(zG (zP (rR fJ fJ (Ay rH (bC (v:=.int big) rfl G ⟨_,rfl⟩)) (pv 0) (bC (v:=.int big) rfl G ⟨_,rfl⟩)))),?_⟩;exact⟨_,rfl,_,rfl,_,_,big,rfl,rfl,⟨rfl,rfl⟩,qb (Q:=Q) (dP.mpr ⟨bq a.1,bq a.2⟩) q⟩
def fZ:aF ["deed","boxes","events","kind","size"] ["deed","boxes","events"] (aA yj):=cQ
theorem V7(F:bO K "deed_has_fault" "deed_has_fault" yj f fd)(M:Dp P w K mg base aN n gw dw ["text"] zp "is_word")
  (Z:Dp P w K mg base aN n gn dn ["number","things"] zx "is_number_of")
  (L:Dp P w K mg base aN n gr dr ["number"] Ff "is_in_reach") :
  aL P w K mg base aN (n+1) f fd ["deed","boxes","events"] Nv:=by
 refine F.ok fZ ?_ ?_
 .rintro _ _ _ _⟨v,T,B,d,bs,ne,rfl,_⟩;rfl
 intro _ A _ s H _ Q E r h
 obtain⟨v,T,B,d,bs,ne,rfl,hd,j,⟨⟨_,c,g⟩,_,p,m⟩,q⟩:=h
 refine⟨_,(zE (zL (i:=3) fZ.nd rfl (bb rfl) (yC zH (pv 0) zB (fun _ _=>rfl)))
  (zE (yE (zM yH (pv 3) zQ (zS _))
  (zG (zP (gC (pC M r (zA (yC zH (pv 0) zB (fun _ _=>rfl)) zD)))))
  zU)
  (zE (yE (zM yH (pv 3) zQ (zS _))
  (zG (zP (gC (pC Z r (zA (yC zH (pv 0) zB (fun _ _=>rfl)) (zA (pv 2) zD))))))
  zU)
  (zE (yE (bY (aY (pC Z r (zA (yC zH (pv 0) zB (fun _ _=>rfl)) (zA (pv 1) zD))))) bB zU)
  (zE (yE (zM yH (pv 3) zQ (zS _))
  (zE (zL (i:=4) fZ.nd rfl (bb rfl) (yC zH (yC zH (pv 1) (yC zH (pv 0) zB (fun _ _=>rfl)) (fun _ _=>rfl)) zB (fun _ _=>rfl)))
  (zG (zP (gC (rR fJ mH zB (yC zH (pv 0) zB (fun _ _=>rfl)) (pv 4))))))
  zU)
  (zG (zP (gC (pC L r (zA (yC zH (pv 0) zB (fun _ _=>rfl)) zD)))))))))),?_⟩
 have I:=g.length;have o:=q H (aH.refl _);have C:(bs.map (·.size)).length=bs.length:=bT _
 cases hd with
 | @say a z e=>exact⟨_,rfl,a,_,_,_,rfl,rfl,aJ.of e,rfl,_,rfl,rfl,_,rfl,yP ⟨_,rfl,a,_,_,_,rfl,rfl,aJ.of e,rfl,z,rfl,j,fun G S=>⟨_,rfl,q G S⟩⟩⟩
 | @send a i e=>exact⟨_,rfl,a,_,_,_,rfl,rfl,aJ.of e,rfl,_,rfl,rfl,_,rfl,yO (by decide +kernel) ⟨_,rfl,rfl,_,rfl,yP ⟨_,rfl,a,_,_,_,rfl,rfl,aJ.of e,rfl,_,rfl,i,B,_,rfl,p,.inl ⟨by rw[m];exact j,_,rfl,o⟩⟩⟩⟩
 | @set a b n e=>
  obtain⟨⟨t,_⟩,D,u⟩:=j
  have J:b.toNat<bs.length:=by omega
  have y:=fQ J;obtain⟨_,x,a2,rfl,k⟩:=g.get y;rw[jT,dZ,y]at u;have l:=yR x;rw[fe t]at l;exact⟨_,rfl,a,_,_,_,rfl,rfl,aJ.of e,rfl,_,rfl,rfl,_,rfl,yO (by decide +kernel) ⟨_,rfl,rfl,_,rfl,yO (by decide +kernel) ⟨_,rfl,a,_,_,_,rfl,rfl,aJ.of e,rfl,_,rfl,b,T,_,rfl,c,.inl ⟨⟨t,by omega⟩,_,rfl,eE rfl ⟨_,rfl,rfl,_,rfl,yP ⟨_,rfl,_,rfl,a,_,_,_,rfl,rfl,aJ.of e,rfl,T,_,_,_,rfl,rfl,aJ.of c,l,a2,_,_,_,rfl,rfl,aJ.of k,rfl,_,rfl,a,_,_,_,rfl,rfl,aJ.of e,rfl,_,_,_,rfl,rfl,⟨_,rfl,rfl,rfl⟩,_,rfl,qb (Q:=Q) (nb2 (bq D) (bq u)) o⟩⟩⟩⟩⟩⟩
 | @add a b n e=>
  exact⟨_,rfl,a,_,_,_,rfl,rfl,aJ.of e,rfl,_,rfl,rfl,_,rfl,yO (by decide +kernel) ⟨_,rfl,rfl,_,rfl,yO (by decide +kernel) ⟨_,rfl,a,_,_,_,rfl,rfl,aJ.of e,rfl,_,rfl,b,T,_,rfl,c,.inl ⟨⟨j.1.1,by have:=j.1.2;omega⟩,_,rfl,eE rfl ⟨_,rfl,rfl,_,rfl,yO (by decide +kernel) ⟨_,rfl,a,_,_,_,rfl,rfl,aJ.of e,rfl,n,rfl,j.2,_,rfl,o⟩⟩⟩⟩⟩⟩
def qu:aF ["deeds","boxes","events"] ["deeds","boxes","events"] (aA pK):=cQ
def R1(F:bO K "deeds_have_fault" "deeds_have_fault" pK f fd)(W:Dp P w K mg base aN n gw dw ["deed","boxes","events"] Nv "deed_has_fault")
  (C:mg "len" = none) (B:mg "any" = none) (N:mg "MOST_DEEDS" = some (.int 8 tM)):aL P w K mg base aN (n+1) f fd ["deeds","boxes","events"] Aa:=by
 refine F.ok qu ?_ ?_
 .rintro _ _ _ _⟨v,T,m,o,bs,ne,rfl,_⟩;rfl
 intro _ A _ s H _ Q E r h
 obtain⟨v,T,m,o,bs,ne,rfl,⟨t,O,rfl,J,b⟩,_,D,u,q⟩:=h;refine⟨_,(zG (zP (wj (bK cY (zT zO rfl C bj (zA (pv 0) zD)) (bC (v:=.int 8) rfl N ⟨_,rfl⟩) (zS _)) (gB (zT (qi rfl) rfl B kc (zA (yU (bF:=[(1,"boxes"),(2,"events")]) rfl (show bA (aA pK) ["deeds","boxes","events"] _ _ _ from vA) (nQ (pv 0)) (fun _ _ _ _ _ _=>bQ) (fun _ _ _ _ _ _=>(pC W r (zA (pv 0) (zA (pv 1) (zA (pv 2) zD)))))) zD)))))),?_⟩;have z:=b.length;refine⟨_,rfl,t,_,rfl,.inr (aJ.of J),_,_,rfl,rfl,_,rfl,eE (bp (by omega)) ⟨_,rfl,t,rfl,⟨_,aJ.of J⟩,?_⟩⟩;refine ig (K:=K) (a:=t) (xs:=O) (fun i c e=>aH H e/\c.length=i/\∀ v∈c,v = .bl false) ⟨aH.refl _,rfl,nofun⟩ (fun i c e ⟨S,_⟩=>aJ.of (S _ _ J)) (fun i x c e k ⟨S,l,g⟩=>?_) (fun c e ⟨S,l,g⟩ p y=>?_)
 .obtain⟨d,hd,j⟩:=b.back k;have G:=(oW.mp k).1;exact⟨_,rfl,_,rfl,_,rfl,x,T,m,d,bs,ne,rfl,j.mono (aB.of S),D _ (SX hd),u.mono S,fun _ Y=>⟨zW (by omega),S.trans Y,by rw[j8,l];rfl,fun v j=>(jz.mp j).elim (g v) jA.mp⟩⟩
 .exact⟨p,_,rfl,Br g,qb (Q:=Q) (by simp) (q _ (S.trans (zF y _)))⟩
def fU:aF ["room","ahead","boxes","events","kind","lamp"] ["room","ahead","boxes","events"] (aA xu):=cQ
def Us(F:bO K "room_has_fault" "room_has_fault" xu f fd)
  (I:Dp P w K mg base aN n gm dm ["things"] (Fg K) "names_of")
  (cM:Dp P w K mg base aN n gn dn ["name","ahead"] (xj K) "name_has_fault")
  (uv:Dp P w K mg base aN n gd dd ["depth","ahead"] Il "depth_has_fault")
  (R:Dp P w K mg base aN n gk dk ["keeps","kind"] Ie "keeps_has_fault")
  (mY:Dp P w K mg base aN n gw dw ["text"] zp "is_word")
  (U:Dp P w K mg base aN n gs dds ["deeds","boxes","events"] Aa "deeds_have_fault")
  (Gv:mg "KINDS" = some (.ref aK)) (L:∀ H:Hp,aJ K H aK [.str "plain",.str "one",.str "all"]):aL P w K mg base aN (n+1) f fd ["room","ahead","boxes","events"] Ni:=by
 refine F.ok fU ?_ ?_
 .rintro _ _ _ _⟨v,t,T,l,r,xs,zs,bs,ne,sd,G,k,rfl,_⟩;rfl
 intro _ A _ s H _ Q E b h
 obtain⟨v,t,T,l,r,xs,zs,bs,ne,sd,G,k,rfl,⟨a,J,D,rfl,d,j,o⟩,g,ht,hz,_,hn,hd,B,q⟩:=h
 refine⟨_,(zE (zL (i:=4) fU.nd rfl (bb rfl) (yC zH (pv 0) zB (fun _ _=>rfl)))
  (zE (zL (i:=5) fU.nd rfl (bb rfl) (yC zH (pv 0) zB (fun _ _=>rfl)))
  (zE (yE (PW.pt (pw_or (aY (pC cM b (zA (yC zH (pv 0) zB (fun _ _=>rfl)) (zA (pC I b (zA (pv 1) zD)) zD)))) (pw_or1 (zM dq (pv 4) (bC (v:=.ref aK) rfl Gv rfl) rfl)))) bB zU)
  (zE (yE (PW.pt (pw_or (aY (pC uv b (zA (yC zH (pv 0) zB (fun _ _=>rfl)) (zA (pv 1) zD)))) (pw_or1 (aY (pC R b (zA (yC zH (pv 0) zB (fun _ _=>rfl)) (zA (pv 4) zD))))))) bB zU)
  (zE (yE (bZ (PW.pt (pw_and (zM pN (pv 5) zQ (zS _)) (yQ (bY (aY (pC mY b (zA (pv 5) zD)))))))) bB zU)
  (zG (zP (wj (pC U b (zA (yC zH (pv 0) zB (fun _ _=>rfl)) (zA (pv 2) (zA (pv 3) zD)))) (gB (pC U b (zA (yC zH (pv 0) zB (fun _ _=>rfl)) (zA (pv 2) (zA (pv 3) zD))))))))))))),?_⟩
 have m:=g.sh
 have kind:r.kind = "plain" /\ r.keeps = "" ∨ r.kind = "one" ∨ r.kind = "all" := by
  split at m
  .exact .inr m
  .exact .inl m
 refine⟨_,rfl,a,_,_,_,rfl,rfl,aJ.of d,rfl,_,rfl,a,_,_,_,rfl,rfl,aJ.of d,rfl,_,rfl,a,_,_,_,rfl,rfl,aJ.of d,rfl,_,rfl,t,xs,zs,rfl,aJ.of ht,hz,by omega,fun p hp=>?_⟩;refine⟨r.nm,p,zs,rfl,.inl (aU.of zC),by rw[g.nm];exact mJ _ _,hn,fun _ O=>⟨_,rfl,eE rfl ⟨_,rfl,aK,_,rfl,.inr (L _),rfl,rfl,_,rfl,eE (by rcases kind with ⟨z,_⟩ | z | z <;> rw[z] <;> decide +kernel) ?_⟩⟩⟩;have S:=(zF hp (.lst (zs.map V.str))).trans O;refine⟨_,rfl,a,_,_,_,rfl,rfl,aJ.of (S _ _ d),rfl,_,rfl,r.depth,t,xs,rfl,S _ _ ht,hd.imp id fun ⟨v,e,N,M,⟨W,x,y,tl,Y,h4⟩,h5⟩=>⟨v,e,N,M,⟨W,x,y,tl,Y,S _ _ h4⟩,h5⟩,_,rfl,eE rfl ⟨_,rfl,a,_,_,_,rfl,rfl,aJ.of (S _ _ d),rfl,_,rfl,r.keeps,r.kind,rfl,?_,fun _ s3=>⟨_,rfl,eE rfl ?_⟩⟩⟩
 .rcases kind with ⟨_,z⟩ | z
  .exact .inl z
  .exact g.kp.imp id (·.imp id fun e=>⟨e,z⟩)
 have u:=S.trans s3;refine⟨fun c H'=>aH H H'/\c=false,?_,?_⟩
 .refine⟨_,rfl,rfl,_,rfl,fO (fun c=>?_) fun _=>⟨u,rfl⟩⟩;exact⟨_,rfl,r.jn,rfl,(g.lp.resolve_left fun z=>by rw[z]at c;cases c),fun H5 C=>⟨_,rfl,u.trans C,rfl⟩⟩
 rintro _ H5 ⟨C,rfl⟩;exact eE rfl ⟨_,rfl,a,_,_,_,rfl,rfl,aJ.of (C _ _ d),rfl,_,rfl,_,rfl,J,T,l,r.ins,bs,ne,rfl,j.mono (aB.of C),g.l8.1,g.di,B.mono C,fun _ Z=>⟨_,rfl,eE rfl ⟨_,rfl,a,_,_,_,rfl,rfl,aJ.of ((C.trans Z) _ _ d),rfl,_,rfl,_,rfl,D,T,l,r.outs,bs,ne,rfl,o.mono (aB.of (C.trans Z)),g.l8.2,g.dO,B.mono (C.trans Z),fun H7 X=>q H7 ((C.trans Z).trans X)⟩⟩⟩
def t7:aF ["way","goal","rooms"] ["way","goal","rooms"] (aA ye):=cQ
def V2(F:bO K "goal_has_fault" "goal_has_fault" ye f fd)(Z:Dp P w K mg base aN n gn dn ["number","things"] zx "is_number_of") :
  aL P w K mg base aN (n+1) f fd ["way","goal","rooms"] Np:=by
 refine F.ok t7 ?_ ?_
 .rintro _ _ _ _⟨w,o,t,R,k,rfl,_⟩;rfl
 intro _ A _ s H _ Q E c h
 obtain⟨_,o,t,R,k,rfl,ht,b,d,q⟩:=h
 refine⟨_,(zE (yE (zM yH (pv 0) zQ (zS _))
  (zG (zP (gC (pC Z c (zA (pv 1) (zA (pv 2) zD))))))
  zU)
  (zE (yE (zM yH (pv 0) zQ (zS _))
  (zG (zP (wj (gC (pC Z c (zA (pv 1) (zA (pv 2) zD)))) (gB (bK yH (yC zH (yC zH (pv 2) (pv 1) (fun _ _=>rfl)) zB (fun _ _=>rfl)) zQ (zS _))))))
  zU)
  (zG (zP (wj (bK pN (pv 0) zQ (zS _)) (gB (bK GQ (pv 1) iw (zS _)))))))),?_⟩
 have p:=b.length;rcases d with ⟨rfl,rfl⟩ | ⟨rfl | rfl,j,rfl,G,i⟩
 .exact⟨_,rfl,rfl,_,rfl,yO (by decide +kernel) ⟨_,rfl,rfl,_,rfl,yO (by decide +kernel) ⟨_,rfl,rfl,_,rfl,eE rfl ⟨_,rfl,rfl,q⟩⟩⟩⟩
 .exact⟨_,rfl,rfl,_,rfl,yP ⟨_,rfl,_,rfl,j,t,_,rfl,ht,.inl ⟨⟨by omega,by omega⟩,_,rfl,q⟩⟩⟩
 .obtain⟨r,g,m⟩:=i rfl;obtain⟨v,l,a,_,_,rfl,e,_⟩:=b.get g;exact⟨_,rfl,rfl,_,rfl,yO (by decide +kernel) ⟨_,rfl,rfl,_,rfl,yP ⟨_,rfl,_,rfl,j,t,_,rfl,ht,.inl ⟨⟨by omega,by omega⟩,_,rfl,_,rfl,eE rfl ⟨_,rfl,_,rfl,t,_,_,_,rfl,rfl,aJ.of ht,yR l,a,_,_,_,rfl,rfl,aJ.of e,rfl,rfl,qb (Q:=Q) (by rw[Jq];exact bp m) q⟩⟩⟩⟩⟩
def jW:aF ["guard","boxes","rooms","wanted"] ["guard","boxes","rooms"] (aA je):=cQ
theorem Qt(F:bO K "guard_has_fault" "guard_has_fault" je f fd)
  (CP:Dp P w K mg base aN 22 gh dh ["guard"] (FP.lV 20) "height")
  (T:Dp P w K mg base aN 22 ga da ["guard"] FP.Nz "asked")
  (aZ:Dp P w K mg base aN 22 gn dn ["number","things"] zx "is_number_of")
  (dX:Dp P w K mg base aN 22 gp dp ["guard"] (FP.iH 20) "plain_guards")
  (lL:Dp P w K mg base aN 22 gr dr ["number"] Ff "is_in_reach")
  (J:mg "all" = none) (wA:mg "HIGHEST" = some (.int 6 tH)):aL P w K mg base aN 23 f fd ["guard","boxes","rooms"] Ig:=by
 refine F.ok jW ?_ ?_
 .rintro _ _ _ _⟨B,tb,tr,m,bv,rv,rfl,_⟩;rfl
 intro _ A _ s H _ Q E j h
 obtain⟨B,tb,tr,m,bv,rv,rfl,W,_,M,L,q⟩:=h
 refine⟨_,(zE (yE (zM cY (pC CP j (zA (pv 0) zD)) (bC (v:=.int 6) rfl wA ⟨_,rfl⟩) (zS _)) bB zU)
  (zE (zL (i:=3) jW.nd rfl (bb rfl) (pC T j (zA (pv 0) zD)))
  (zE (yE (bY (aY (zT (qj rfl) rfl J kb (zA (yU (bF:=[(1,"boxes")]) rfl (show bA (aA je) ["guard","boxes","rooms","wanted"] _ _ _ from vA) (yN (yC zH (pv 3) zB (fun _ _=>rfl))) (fun _ _ _ _ _ _=>bQ) (fun _ _ _ _ _ _=>(pC aZ j (zA (pv 0) (zA (pv 1) zD))))) zD)))) bB zU)
  (zE (yE (bY (aY (zT (qj rfl) rfl J kb (zA (yU (bF:=[(2,"rooms")]) rfl (show bA (aA je) ["guard","boxes","rooms","wanted"] _ _ _ from vA) (yN (yC zH (pv 3) zB (fun _ _=>rfl))) (fun _ _ _ _ _ _=>bQ) (fun _ _ _ _ _ _=>(pC aZ j (zA (pv 0) (zA (pv 1) zD))))) zD)))) bB zU)
  (zG (zP (gC (zT (qj rfl) rfl J kb (zA (yU (bF:=[]) rfl (show bA (aA je) ["guard","boxes","rooms","wanted"] _ _ _ from vA) (yN (pC dX j (zA (pv 0) zD))) (fun _ _ _ _ _ _=>cW (zM (r:=rIn K false) jM (yC (r:=dM K) zH (pv 0) zB (fun _ _=>rfl)) (zX (zA zQ (zA zQ zD))) rfl)) (fun _ _ _ _ _ _=>(pC lL j (zA (yC (r:=dM K) zH (pv 0) zB (fun _ _=>rfl)) zD)))) zD))))))))),?_⟩
 refine⟨_,rfl,_,_,m,B,rfl,W,by omega,fun x _ d Z=>⟨_,_,rfl,rfl,_,rfl,eE (bp (by omega)) ?_⟩⟩;refine⟨_,rfl,_,_,m,B,rfl,W.mono Z,by omega,fun t p1 p2 _ _ _ s2 ht z X _ _ hb I=>?_⟩
 have o:∀ {l:aw Int} {t:ar} {xs:aw V} {C:Hp},C t=some (.tup xs)->(∀ i∈l,0<=i/\i<(xs.length:Int))->∀ x∈l.map V.int,∀ g,aH C g->∀(Y:VK),(∀ v U,aH C U->v = .bl true->Y v U)->zx [x,.ref t] g Y E0:=fun {l t xs C} h0 z x d g s' Y y=>by
  obtain⟨i,hi,rfl⟩:=eX.mp d;exact⟨i,t,xs,rfl,s' _ _ h0,.inl ⟨z i hi,y _ _ s' rfl⟩⟩
 have D:=Z.trans s2;refine⟨_,rfl,t,_,_,_,rfl,rfl,aJ.of ht,rfl,p1,rfl,⟨_,aU.of z⟩,qg (K:=K) (· = .bl true) z (by rw[List.length_map];omega) (fun x d g s' Y N y _=>⟨_,rfl,_,rfl,o (D _ _ M) hb x d g s' Y y⟩) fun b U s3 u la p3 R=>⟨p3,_,rfl,Br u,_,rfl,eE (by simp) ?_⟩⟩;have S:=s3.trans (zF R (.lst b));refine⟨_,rfl,t,_,_,_,rfl,rfl,aJ.of (S _ _ ht),rfl,p2,rfl,⟨_,aU.of (S _ _ X)⟩,qg (K:=K) (· = .bl true) (S _ _ X) (by rw[List.length_map];omega) (fun x d g s' Y N y _=>⟨_,rfl,_,rfl,o ((D.trans S) _ _ L) I x d g s' Y y⟩) fun b _ s5 u la p5 Xu=>⟨p5,_,rfl,Br u,_,rfl,eE (by simp) ?_⟩⟩;have s6:=(D.trans S).trans (s5.trans (zF Xu (.lst b)));have p32:2 ^ m<=2 ^ 5:=iP (by decide) (by omega);refine⟨_,rfl,_,_,m,B,rfl,W.mono s6,by omega,by omega,fun p _ _ s7 _ h7 _ hu=>⟨p,rfl,⟨_,aU.of h7⟩,qg (K:=K) (· = .bl true) h7 (by omega) (fun x d g s' Y N y n=>?_) fun b _ s8 u la p8 O=>⟨p8,_,rfl,Br u,_,rfl,qb (Q:=Q) (by simp) (q _ ((s6.trans s7).trans (s8.trans (zF O _))))⟩⟩⟩
 cases (hu x d).mono s' with
 | @yes a e=>exact⟨_,rfl,a,_,_,_,rfl,rfl,aJ.of e,rfl,zJ (by show 2<=1000;decide),fun pt G=>⟨pt,_,rfl,.inr (aJ.of zC),rfl,rfl,_,rfl,eE (by decide +kernel) (n _ (s'.trans (zF G _)))⟩⟩
 | @box a i _ k c e _ h=>exact⟨_,rfl,a,_,_,_,rfl,rfl,aJ.of e,rfl,zJ (by show 2<=1000;decide),fun pt G=>⟨pt,_,rfl,.inr (aJ.of zC),rfl,rfl,_,rfl,Hq (by rcases c with rfl | rfl <;> decide +kernel) ⟨_,rfl,a,_,_,_,rfl,rfl,aJ.of ((zF G _) _ _ e),rfl,_,rfl,h,y _ _ (s'.trans (zF G _)) rfl⟩⟩⟩
 | @inn a i e h=>exact⟨_,rfl,a,_,_,_,rfl,rfl,aJ.of e,rfl,zJ (by show 2<=1000;decide),fun pt G=>⟨pt,_,rfl,.inr (aJ.of zC),rfl,rfl,_,rfl,eE (by decide +kernel) (n _ (s'.trans (zF G _)))⟩⟩
theorem qGO(x:jH H v g):∀ {n:Nat},g.ht<=n->GoodG b r g->FP.Gw b r H n v:=by
 have z:∀ {g:Gd} {n:Nat},g.ht<=n->∃ k,n=k+1:=fun {g n} h=>⟨n-1,by have:=g.Vv;omega⟩
 induction x with
 | yes e=>intro n l _;obtain⟨k,rfl⟩:=z l;exact .leaf (.yes e)
 | is e=>intro n l h;obtain⟨k,rfl⟩:=z l;exact .leaf (.box (.inl rfl) e h.1 h.2)
 | under e=>intro n l h;obtain⟨k,rfl⟩:=z l;exact .leaf (.box (.inr rfl) e h.1 h.2)
 | inn e=>intro n l h;obtain⟨k,rfl⟩:=z l;exact .leaf (.inn e h)
 | @neg _ _ g e _ i=>intro n l h;obtain⟨k,rfl⟩:=z l;exact .neg e (i (Nat.le_of_succ_le_succ l) h)
 | @both _ _ _ g j e _ _ i I=>intro n l h;obtain⟨k,rfl⟩:=z l;have l:1+max g.ht j.ht<=k+1:=l;exact .two (.inl rfl) e (i (by omega) h.1) (I (by omega) h.2)
 | @either _ _ _ g j e _ _ i I=>intro n l h;obtain⟨k,rfl⟩:=z l;have l:1+max g.ht j.ht<=k+1:=l;exact .two (.inr rfl) e (i (by omega) h.1) (I (by omega) h.2)
def t8:aF ["door","boxes","events","rooms"] ["door","boxes","events","rooms"] (aA yg):=cQ
def V5(F:bO K "door_has_fault" "door_has_fault" yg f fd)
  (Z:Dp P w K mg base aN n gn dn ["number","things"] zx "is_number_of")
  (L:Dp P w K mg base aN n G dg ["guard","boxes","rooms"] Ig "guard_has_fault")
  (U:Dp P w K mg base aN n gs dds ["deeds","boxes","events"] Aa "deeds_have_fault")
  (W:Dp P w K mg base aN n gl dl ["way","goal","rooms"] Np "goal_has_fault") :
  aL P w K mg base aN (n+1) f fd ["door","boxes","events","rooms"] Nt:=by
 refine F.ok t8 ?_ ?_
 .rintro _ _ _ _⟨v,T,o,t,d,bs,ne,R,x,rfl,_⟩;rfl
 intro _ A _ s H _ Q E r h
 obtain⟨v,T,o,t,d,bs,ne,R,x,rfl,⟨a,z,y,rfl,b,u,e⟩,g,B,k,c,q⟩:=h
 refine⟨_,(zE (yE (PW.pt (pw_or (bY (aY (pC Z r (zA (yC zH (pv 0) zB (fun _ _=>rfl)) (zA (pv 3) zD))))) (pw_or1 (bY (aY (pC Z r (zA (yC zH (pv 0) zB (fun _ _=>rfl)) (zA (pv 2) zD)))))))) bB zU)
  (zE (yE (PW.pt (pw_or (aY (pC L r (zA (yC zH (pv 0) zB (fun _ _=>rfl)) (zA (pv 1) (zA (pv 3) zD))))) (pw_or1 (aY (pC U r (zA (yC zH (pv 0) zB (fun _ _=>rfl)) (zA (pv 1) (zA (pv 2) zD)))))))) bB zU)
  (zG (zP (pC W r (zA (yC zH (pv 0) zB (fun _ _=>rfl)) (zA (yC zH (pv 0) zB (fun _ _=>rfl)) (zA (pv 3) zD)))))))),?_⟩
 obtain⟨⟨D,m,p⟩,C,j,i⟩:=id B;have I:=p.length;have l:=c.length;have G:=g.g;rw[bT,<-I,<-l]at G
 exact⟨_,rfl,a,_,_,_,rfl,rfl,aJ.of b,rfl,_,rfl,d.room,t,R,rfl,k,.inl ⟨by rw[l];exact g.rm,_,rfl,eE rfl ⟨_,rfl,a,_,_,_,rfl,rfl,aJ.of b,rfl,_,rfl,d.event,o,C,rfl,j,.inl ⟨by rw[i];exact g.ev,_,rfl,eE rfl
  ⟨_,rfl,a,_,_,_,rfl,rfl,aJ.of b,rfl,_,rfl,_,rfl,z,T,t,3,D,R,rfl,qGO u g.ht G,bD _,m,k,fun _ S=>⟨_,rfl,eE rfl
  ⟨_,rfl,a,_,_,_,rfl,rfl,aJ.of (S _ _ b),rfl,_,rfl,_,rfl,y,T,o,d.pZ,bs,ne,rfl,e.mono (aB.of S),g.l8,g.dd,B.mono S,fun J Y=>⟨_,rfl,eE rfl
  ⟨_,rfl,a,_,_,_,rfl,rfl,aJ.of ((S.trans Y) _ _ b),rfl,_,rfl,a,_,_,_,rfl,rfl,aJ.of ((S.trans Y) _ _ b),rfl,_,rfl,d.way,d.goal,t,R,x,rfl,(S.trans Y) _ _ k,cL.mono c (aB.of (S.trans Y)),g.wy,q J (S.trans Y)⟩⟩⟩⟩⟩⟩⟩⟩⟩
def tells(H:Hp)(Q:VK):Prop:=∀(p:ar)(h:Hp),aH H h->H p=none->h p=some (.lst [])->Q (.ref p) h
def Dn:Sp:=fun vs H Q _ => ∃(t:ar)(c:Ch),vs=[.ref t]/\jJ H t c/\ChG c/\tells H Q
def Nx:Sp:=fun vs H Q _ => ∃(t:ar)(B:aw V)(bs:aw Bx)(s:Int),vs=[.ref t]/\H t=some (.tup B)/\gP H B bs/\bs.length<=6/\(∀ k b,bs[k]? = some b->BxG s k b)/\tells H Q
def Tj:Sp:=fun vs H Q _ => ∃(t:ar)(e:aw Str)(s:Int),vs=[.ref t]/\H t=some (.tup (e.map V.str))/\e.length<=8/\(∀(k:Nat)(z:Str),e[k]? = some z->z=fL (k:Int) s)/\tells H Q
def IK:Sp:=fun vs H Q _ => ∃(a T t:ar)(v:aw V)(R:aw Ro)(bs:aw Bx)(ne s:Int)(d:aw Int),vs=[.ref a,.ref T,.ref t]/\H a=some (.tup v)/\cL H v R/\Bs H T t bs ne/\(Tr.Good d/\mj.Xx d/\d.length<=10/\R.length=d.length/\∀ k r,R[k]? = some r->RoG (bs.map (·.size)) ne s d k r)/\tells H Q
def Ij:Sp:=fun vs H Q _ => ∃(a T t r:ar)(O:aw V)(D:aw Dr)(bs:aw Bx)(ne:Int)(R:aw V)(s:aw Ro),vs=[.ref a,.ref T,.ref t,.ref r]/\H a=some (.tup O)/\jx H O D/\D.length<=12/\Bs H T t bs ne/\H r=some (.tup R)/\cL H R s/\(∀ d∈D,DrG (bs.map (·.size)) ne s d)/\tells H Q
def zy:Sp:=fun vs H Q _ => ∃(t:ar)(c:Ch),vs=[.ref t]/\jJ H t c/\ChG c/\tells H Q
def vX{ns:aw Str}{s:Int}{k:Nat}(h:∀(j:Nat)(z:Str),ns[j]? = some z->z=fL (j:Int) s)(l:ns.length<=26)(H:k<ns.length):fL (k:Int) s∉ns.take k:=fun c=>by
 obtain⟨j,G⟩:=gT.mp c;rw[List.getElem?_take]at G
 split at G
 .have e:=VV (h j _ G)
  have E:k%26=j%26:=by exact_mod_cast e
  omega
 .cases G
def VL{f:α->Str}{xs:aw α}{s:Int}(h:∀ (k:Nat) x,xs[k]? = some x->f x=fL (k:Int) s)(j:Nat)(z:Str)(G:(xs.map f)[j]? = some z):z=fL (j:Int) s:=by rw[dZ]at G;obtain⟨x,H,rfl⟩:=jI.mp G;exact h j x H
def oO:aF ["chart","told"] ["chart"] (aA uD):=cQ
def Ly(F:bO K "bound_faults" "bound_faults" uD f fd)(B:mg "ORDERS" = some (.ref aO))(r:∀ H:Hp,aJ K H aO [.str "inner",.str "outer"])(j:mg "MOST_LETTERS" = some (.int 12 tL))(n:mg "MOST_TURNS" = some (.int 20 tT)):aL P w K mg base aN 1 f fd ["chart"] Dn:=by
 refine F.ok oO ?_ ?_
 .rintro _ _ _ _⟨t,c,rfl,_⟩;rfl
 intro _ A _ s H _ Q E _ h
 obtain⟨t,c,rfl,⟨_,_,_,_,_,_,_,ht,_⟩,⟨od,⟨_,x,_⟩,⟨_,t1,_,_⟩,_⟩,q⟩:=h
 refine⟨_,(zE (zL (i:=1) oO.nd rfl (bb rfl) (yL zD))
  (zE (yE (zM dq (yC zH (pv 0) zB (fun _ _=>rfl)) (bC (v:=.ref aO) rfl B rfl) rfl) bB zU)
  (zE (yE (bY (Av fJ fJ zB (yC zH (pv 0) zB (fun _ _=>rfl)) (bC (v:=.int 12) rfl j ⟨_,rfl⟩))) bB zU)
  (zE (yE (bY (Av fJ fJ zB (yC zH (pv 0) zB (fun _ _=>rfl)) (bC (v:=.int 20) rfl n ⟨_,rfl⟩))) bB zU)
  (zG (zP (pv 1))))))),?_⟩
 refine⟨bo _,fun p a=>?_⟩;have d:=zF a (.lst []) _ _ ht;rw[x,t1]at d;exact⟨_,rfl,t,_,_,_,rfl,rfl,aJ.of d,rfl,aO,_,rfl,.inr (r _),rfl,rfl,_,rfl,eE (by rcases od with z | z <;> rw[z] <;> decide +kernel) ⟨_,rfl,t,_,_,_,rfl,rfl,aJ.of d,rfl,_,_,12,rfl,rfl,⟨rfl,rfl⟩,_,rfl,eE (nb2 (bq (by omega)) (bq (by omega))) ⟨_,rfl,t,_,_,_,rfl,rfl,aJ.of d,rfl,_,_,20,rfl,rfl,⟨rfl,rfl⟩,_,rfl,eE (nb2 (bq (by omega)) (bq (by omega))) ⟨_,rfl,q p _ (zF a _) a zC⟩⟩⟩⟩
def iI:aF ["boxes","told","number","box"] ["boxes"] (aA GC):=cQ
def V9(F:bO K "box_faults" "box_faults" GC f fd)(y:Dp P w K mg base aN n gb db ["box","ahead"] Tq "box_has_fault")(U:mg "len" = none)(L:mg "enumerate" = none)(N:mg "MOST_BOXES" = some (.int 6 tM)) :
  aL P w K mg base aN (n+1) f fd ["boxes"] Nx:=by
 refine F.ok iI ?_ ?_
 .rintro _ _ _ _⟨t,B,bs,M,rfl,_⟩;rfl
 intro _ A _ s H _ Q E I h
 obtain⟨t,B,bs,M,rfl,ht,g,_,o,q⟩:=h
 refine⟨_,(zE (zL (i:=1) iI.nd rfl (bb rfl) (mC (zM cY (zT zO rfl U bj (zA (pv 0) zD)) (bC (v:=.int 6) rfl N ⟨_,rfl⟩) (zS _)) uL (yL zD)))
  (zE (bf PassesOwn.never rfl (uK rfl L (zA (pv 0) zD)) (vU rfl (cX (yK (i:=2) iI.nd rfl (bb rfl)) (cX (yK (i:=3) iI.nd rfl (bb rfl)) qY)))
  (zG (yE (aY (pC y I (zA (pv 3) (zA (dN rM (pv 0) gA (fu (pv 2))) zD)))) bB zU)))
  (zG (zP (pv 1))))),?_⟩
 have hl:=g.length;refine⟨_,rfl,t,_,rfl,.inr (aJ.of ht),_,_,rfl,rfl,_,rfl,eE (bp (by omega)) ⟨bo _,fun p r=>?_⟩⟩;have c:=zF r (.lst []);refine⟨_,rfl,t,rfl,⟨_,aJ.of (c _ _ ht)⟩,pY (K:=K) (a:=t) (xs:=B) (fun i σ' d=>aH (upd H p (.lst [])) d/\∃ O G,σ'=[some (.ref t),some (.ref p),O,G]) ⟨aH.refl _,none,none,rfl⟩ (fun i σ' d _ z=>aJ.of (z.1 _ _ (c _ _ ht))) ?_ ?_⟩
 .rintro i x σ' d t1 C ⟨S,O,G,rfl⟩ J;have m:=S.trans (zF J (.tup [.int (i:Int),x]));have Y:=c.trans m;obtain⟨b,l,a,rfl,R⟩:=g.back C;obtain⟨j,Z,X⟩:=o i b l;have T:=(oW.mp l).1;refine⟨t1,_,rfl,aJ.of zC,rfl,_,_,rfl,_,_,rfl,rfl,_,rfl,_,rfl,_,rfl,_,rfl,t,_,rfl,aJ.of (Y _ _ ht),(by rw[HT.iJ];omega),fun u D=>?_⟩;rw[Wv B (by omega)]at *;have e:=zF D (.tup (B.take i));exact⟨.ref a,u,b,_,(bs.map (·.nm)).take i,rfl,⟨a,rfl,(Y.trans e) _ _ R⟩,zC,(gP.fst (gP.mono g (aB.of (Y.trans e)))).take i,by rw[iQ,bT];omega,by rw[j];exact mJ _ _,by rw[j];exact vX (VL fun k b h=>(o k b h).nm) (by rw[bT];omega) (by rw[bT];exact T),Z,X,fun _ W=>⟨_,rfl,eE rfl ⟨(m.trans e).trans W,_,_,rfl⟩⟩⟩
 .rintro σ' d ⟨S,O,G,rfl⟩;exact⟨_,rfl,q p _ (c.trans S) r (S _ _ zC)⟩
def eV:aF ["events","told","number","name"] ["events"] (aA O5):=cQ
def Yz(F:bO K "event_faults" "event_faults" O5 f fd)(C:Dp P w K mg base aN n gb db ["name","ahead"] (xj K) "name_has_fault")(I:mg "len" = none)(B:mg "enumerate" = none)(L:mg "MOST_EVENTS" = some (.int 8 tM)) :
  aL P w K mg base aN (n+1) f fd ["events"] Tj:=by
 refine F.ok eV ?_ ?_
 .rintro _ _ _ _⟨t,b,u,rfl,_⟩;rfl
 intro _ A _ s H _ Q E r h
 obtain⟨t,b,u,rfl,ht,_,g,q⟩:=h
 refine⟨_,(zE (zL (i:=1) eV.nd rfl (bb rfl) (mC (zM cY (zT zO rfl I bj (zA (pv 0) zD)) (bC (v:=.int 8) rfl L ⟨_,rfl⟩) (zS _)) uL (yL zD)))
  (zE (bf PassesOwn.never rfl (uK rfl B (zA (pv 0) zD)) (vU rfl (cX (yK (i:=2) eV.nd rfl (bb rfl)) (cX (yK (i:=3) eV.nd rfl (bb rfl)) qY)))
  (zG (yE (aY (pC C r (zA (pv 3) (zA (dN rM (pv 0) gA (fu (pv 2))) zD)))) bB zU)))
  (zG (zP (pv 1))))),?_⟩
 have N:(b.map V.str).length=b.length:=bT _;refine⟨_,rfl,t,_,rfl,.inr (aJ.of ht),_,_,rfl,rfl,_,rfl,eE (bp (by omega)) ⟨bo _,fun p m=>?_⟩⟩;have c:=zF m (.lst []);refine⟨_,rfl,t,rfl,⟨_,aJ.of (c _ _ ht)⟩,pY (K:=K) (a:=t) (xs:=b.map V.str) (fun i σ' d=>aH (upd H p (.lst [])) d/\∃ O G,σ'=[some (.ref t),some (.ref p),O,G]) ⟨aH.refl _,none,none,rfl⟩ (fun i σ' d _ z=>aJ.of (z.1 _ _ (c _ _ ht))) ?_ ?_⟩
 .rintro i x σ' d t1 j ⟨S,O,G,rfl⟩ J;have k:=S.trans (zF J (.tup [.int (i:Int),x]));rw[dZ]at j;obtain⟨z,l,rfl⟩:=jI.mp j;have y:=(oW.mp l).1;refine⟨t1,_,rfl,aJ.of zC,rfl,_,_,rfl,_,_,rfl,rfl,_,rfl,_,rfl,_,rfl,_,rfl,t,_,rfl,aJ.of ((c.trans k) _ _ ht),(by rw[HT.iJ];omega),fun o D=>?_⟩;rw[Wv _ (by omega),<-gE]at *;have e:=g i z l;exact⟨z,o,b.take i,rfl,.inr (aJ.of zC),by rw[e];exact mJ _ _,by rw[e];exact vX g (by omega) y,fun _ M=>⟨_,rfl,eE rfl ⟨(k.trans (zF D _)).trans M,_,_,rfl⟩⟩⟩
 .rintro σ' d ⟨S,O,G,rfl⟩;exact⟨_,rfl,q p _ (c.trans S) m (S _ _ zC)⟩
def fV:aF ["rooms","boxes","events","told","number","room"] ["rooms","boxes","events"] (aA xx):=cQ
def XJ(h:0<xs.length):mX xs (-1)=xs[xs.length-1]?:=by unfold mX Su;rw[cK (by decide),cS (by omega)];show xs[((-1:Int)+(xs.length:Int)).toNat]? = _;congr 1;omega
theorem Qi(F:bO K "room_faults" "room_faults" xx f fd)
  (wL:Dp P w K mg base aN n gr dr ["room","ahead","boxes","events"] Ni "room_has_fault")
  (xZ:Dp P w K mg base aN n ge de ["room","behind"] Tn "end_has_fault")
  (aP:mg "len" = none) (bw:mg "enumerate" = none) (nZ:mg "MOST_ROOMS" = some (.int 40 tM)):aL P w K mg base aN (n+1) f fd ["rooms","boxes","events"] IK:=by
 refine F.ok fV ?_ ?_
 .rintro _ _ _ _⟨t,W,te,R,rs,bs,ne,sd,N,rfl,_⟩;rfl
 intro _ A _ s H _ Q E hr h
 obtain⟨t,W,te,R,rs,bs,ne,sd,N,rfl,d,l,hB,⟨G,L,_,_,ro⟩,q⟩:=h
 refine⟨_,(zE (zL (i:=3) fV.nd rfl (bb rfl) (mC (Av fJ fJ zB (zT zO rfl aP bj (zA (pv 0) zD)) (bC (v:=.int 40) rfl nZ ⟨_,rfl⟩)) (yL zD) uL))
  (zE (bf PassesOwn.never rfl (uK rfl bw (zA (pv 0) zD)) (vU rfl (cX (yK (i:=4) fV.nd rfl (bb rfl)) (cX (yK (i:=5) fV.nd rfl (bb rfl)) qY)))
  (zG (yE (PW.pt (pw_or (aY (pC wL hr (zA (pv 5) (zA (dN rM (pv 0) gA (fu (pv 4))) (zA (pv 1) (zA (pv 2) zD)))))) (pw_or1 (aY (pC xZ hr (zA (pv 5) (zA (dN rM (pv 0) (fu (yD yG (pv 4) zB)) gA) zD))))))) bB zU)))
  (zG (zP (pv 3))))),?_⟩
 have hl:=l.length;have p0:=G.pos;refine⟨_,rfl,t,_,rfl,.inr (aJ.of d),_,_,40,rfl,rfl,⟨rfl,rfl⟩,_,rfl,Hq (dP.mpr ⟨bq (by omega),bq (by omega)⟩) ⟨bo _,fun M hp=>?_⟩⟩;have B:=zF hp (.lst []);refine⟨_,rfl,t,rfl,⟨_,aJ.of (B _ _ d)⟩,pY (K:=K) (a:=t) (xs:=R) (fun i σ' J=>aH (upd H M (.lst [])) J/\∃ o2 Z,σ'=[some (.ref t),some (.ref W),some (.ref te),some (.ref M),o2,Z]) ⟨aH.refl _,none,none,rfl⟩ (fun i σ' J _ z=>aJ.of (z.1 _ _ (B _ _ d))) ?_ ?_⟩
 .rintro i x σ' J t1 hx ⟨u,o2,Z,rfl⟩ O;have s2:=u.trans (zF O (.tup [.int (i:Int),x]));have s3:=B.trans s2;obtain⟨r,er,hv⟩:=l.back hx;have g:=ro i r er;have hi:=(oW.mp er).1
  have D:∀ {k:Nat} {v:V},R[k]? = some v->∀ {m:Hp},aH H m->DpH m v (N.getD k 0):=fun {k v} hk {m} S=>by
   obtain⟨r',e',a',vi,vo,e1,e2,_⟩:=l.back hk;rw[<-(ro k r' e').dp];exact⟨a',_,_,_,e1,S _ _ e2⟩
  have I:∀ {m:Hp},aH H m->qA0 m x r:=fun S=>by
   obtain⟨ab,vi,vo,rfl,hab,hvi,hvo⟩:=hv;exact⟨ab,vi,vo,rfl,S _ _ hab,hvi.mono (aB.of S),hvo.mono (aB.of S)⟩
  refine⟨t1,_,rfl,aJ.of zC,rfl,_,_,rfl,_,_,rfl,rfl,_,rfl,_,rfl,_,rfl,_,rfl,t,_,rfl,aJ.of (s3 _ _ d),(by rw[HT.iJ];omega),fun p1 Y=>?_⟩;rw[Wv R (by omega)]at *;have s4:=zF Y (.tup (R.take i));have C:=s3.trans s4
  have T:(R.take i).length=i:=by rw[iQ];omega
  refine⟨_,rfl,_,rfl,x,p1,W,te,r,_,(rs.map (·.nm)).take i,bs,ne,sd,N,i,rfl,I C,g,zC,(cL.fst (cL.mono l (aB.of C))).take i,by rw[iQ,bT];omega,?_,?_,hB.mono C,fun _ s6=>⟨_,rfl,eE rfl ?_⟩⟩
  .rw[g.nm];exact vX (VL fun k b h=>(ro k b h).nm) (by rw[bT];omega) (by rw[bT];exact hi)
  .rw[g.dp]
   cases i with
   | zero=>exact .inl ⟨rfl,G.first⟩
   | succ j=>
    have z:=G.next j (by omega);have w:=L (j+1) (by omega);have o:=fQ (show j<R.length by omega);exact .inr ⟨_,_,(fun e=>by rw[e]at T;cases T),by rw[XJ (by omega),T,List.getElem?_take,cS (by omega)];exact o,D o C,z.1,z.2,by omega⟩
  have U:=C.trans s6;refine⟨_,rfl,_,rfl,_,rfl,_,_,rfl,rfl,_,rfl,t,_,rfl,aJ.of (U _ _ d),?_,fun p2 X=>?_⟩
  .rw[show ((i:Int)+1)=((i+1:Nat):Int) by omega,HT.iJ];omega
  rw[Zg R (by omega)]at *;have s8:=zF X (.tup (R.drop (i+1)));refine⟨x,p2,r,_,rfl,I (U.trans s8),zC,?_,_,rfl,eE rfl ⟨((s2.trans s4).trans s6).trans s8,_,_,rfl⟩⟩;have p:=g.sh
  by_cases c:i+1<R.length
  .have o:=fQ c;refine .inr ⟨_,_,(fun e=>by have:=List.drop_eq_nil_iff.mp e;omega),yR (j:=0) (by rw[List.getElem?_drop];exact o),D o (U.trans s8),?_⟩;rw[g.dp]
   split at p
   .rename_i y
    rw[bq y.2];rcases p with e | e <;> rw[e] <;> decide +kernel
   .rename_i y
    rw[p.1,bp fun z=>y ⟨by omega,z⟩];decide +kernel
  .rw[cK (by omega)]at p;exact .inl ⟨List.drop_eq_nil_of_le (by omega),p.1⟩
 .rintro σ' J ⟨u,o2,Z,rfl⟩;exact⟨_,rfl,q M _ (B.trans u) hp (u _ _ zC)⟩
def fY:aF ["doors","boxes","events","rooms","told","number","door"] ["doors","boxes","events","rooms"] (aA yh):=cQ
def Qx(F:bO K "door_faults" "door_faults" yh f fd)
  (W:Dp P w K mg base aN n gd dd ["door","boxes","events","rooms"] Nt "door_has_fault")
  (aP:mg "len" = none) (X:mg "enumerate" = none) (N:mg "MOST_DOORS" = some (.int 60 tM)):aL P w K mg base aN (n+1) f fd ["doors","boxes","events","rooms"] Ij:=by
 refine F.ok fY ?_ ?_
 .rintro _ _ _ _⟨t,j,m,T,D,C,bs,ne,R,r,rfl,_⟩;rfl
 intro _ A _ s H _ Q E U h
 obtain⟨t,j,m,T,D,C,bs,ne,R,r,rfl,J,b,_,hB,k,l,dg,q⟩:=h
 refine⟨_,(zE (zL (i:=4) fY.nd rfl (bb rfl) (mC (zM cY (zT zO rfl aP bj (zA (pv 0) zD)) (bC (v:=.int 60) rfl N ⟨_,rfl⟩) (zS _)) uL (yL zD)))
  (zE (bf PassesOwn.never rfl (uK rfl X (zA (pv 0) zD)) (vU rfl (cX (yK (i:=5) fY.nd rfl (bb rfl)) (cX (yK (i:=6) fY.nd rfl (bb rfl)) qY)))
  (zG (yE (aY (pC W U (zA (pv 6) (zA (pv 1) (zA (pv 2) (zA (pv 3) zD)))))) bB zU)))
  (zG (zP (pv 4))))),?_⟩
 have hl:=b.length;refine⟨_,rfl,t,_,rfl,.inr (aJ.of J),_,_,rfl,rfl,_,rfl,eE (bp (by omega)) ⟨bo _,fun p u=>?_⟩⟩;have c:=zF u (.lst []);refine⟨_,rfl,t,rfl,⟨_,aJ.of (c _ _ J)⟩,pY (K:=K) (a:=t) (xs:=D) (fun i σ' e=>aH (upd H p (.lst [])) e/\∃ O G,σ'=[some (.ref t),some (.ref j),some (.ref m),some (.ref T),some (.ref p),O,G]) ⟨aH.refl _,none,none,rfl⟩ (fun i σ' e _ z=>aJ.of (z.1 _ _ (c _ _ J))) ?_ ?_⟩
 .rintro i x σ' e t1 M ⟨S,O,G,rfl⟩ g;have o:=S.trans (zF g (.tup [.int (i:Int),x]));have Y:=c.trans o;obtain⟨d,B,a,I,y,rfl,Z,hg,hd⟩:=b.back M;exact⟨t1,_,rfl,aJ.of zC,rfl,_,_,rfl,_,_,rfl,rfl,_,rfl,_,rfl,_,rfl,_,rfl,.ref a,j,m,T,d,bs,ne,R,r,rfl,⟨a,I,y,rfl,Y _ _ Z,hg.mono (aB.of Y),hd.mono (aB.of Y)⟩,dg d (SX B),hB.mono Y,Y _ _ k,cL.mono l (aB.of Y),fun _ L=>⟨_,rfl,eE rfl ⟨o.trans L,_,_,rfl⟩⟩⟩
 .rintro σ' e ⟨S,O,G,rfl⟩;exact⟨_,rfl,q p _ (c.trans S) u (S _ _ zC)⟩
def lW:aF ["chart","boxes","events","rooms","told"] ["chart"] (aA yf):=cQ
def T6(h:H a=some o):upd H a o=H:=funext fun b=>by
 by_cases e:b=a
 .rw[e,zC,h]
 .rw[zR e]
def Qv(F:bO K "faults" "faults" yf f fd)
  (CT:Dp P w K mg base aN n g1 d1 ["chart"] Dn "bound_faults")
  (Hf:Dp P w K mg base aN n g2 d2 ["boxes"] Nx "box_faults")
  (CQ:Dp P w K mg base aN n g3 d3 ["events"] Tj "event_faults")
  (DG:Dp P w K mg base aN n g4 d4 ["rooms","boxes","events"] IK "room_faults")
  (DN:Dp P w K mg base aN n g5 d5 ["doors","boxes","events","rooms"] Ij "door_faults") :
  aL P w K mg base aN (n+1) f fd ["chart"] zy:=by
 refine F.ok lW ?_ ?_
 .rintro _ _ _ _⟨t,c,rfl,_⟩;rfl
 intro _ A _ s H _ Q E r h
 obtain⟨t,c,rfl,ch,g,q⟩:=h;obtain⟨T,o,D,td,N,L,O,ht,j,m,e,k,l,J,z⟩:=id ch
 refine⟨_,(zE (zL (i:=1) lW.nd rfl (bb rfl) (yC zH (pv 0) zB (fun _ _=>rfl)))
  (zE (zL (i:=2) lW.nd rfl (bb rfl) (yC zH (pv 0) zB (fun _ _=>rfl)))
  (zE (zL (i:=3) lW.nd rfl (bb rfl) (yC zH (pv 0) zB (fun _ _=>rfl)))
  (zE (zL (i:=4) lW.nd rfl (bb rfl) (pC CT r (zA (pv 0) zD)))
  (zE (yJ (dU iu kz kC cG (pv 4) (zA (pC Hf r (zA (pv 1) zD)) zD)))
  (zE (yJ (dU iu kz kC cG (pv 4) (zA (pC CQ r (zA (pv 2) zD)) zD)))
  (zE (yJ (dU iu kz kC cG (pv 4) (zA (pC DG r (zA (pv 3) (zA (pv 1) (zA (pv 2) zD)))) zD)))
  (zE (yJ (dU iu kz kC cG (pv 4) (zA (pC DN r (zA (yC zH (pv 0) zB (fun _ _=>rfl)) (zA (pv 1) (zA (pv 2) (zA (pv 3) zD))))) zD)))
  (zG (zP (pv 4))))))))))),?_⟩
 obtain⟨X,bx⟩:=g.bx;obtain⟨Y,ev⟩:=g.ev;obtain⟨sd,W,R⟩:=g.ro;have B:Bs H T o c.oX (c.evs.length:Int):=⟨⟨N,j,m⟩,_,e,by rw[bT]⟩;refine⟨_,rfl,t,_,_,_,rfl,rfl,aJ.of ht,rfl,_,rfl,t,_,_,_,rfl,rfl,aJ.of ht,rfl,_,rfl,t,_,_,_,rfl,rfl,aJ.of ht,rfl,_,rfl,t,c,rfl,ch,g,fun p H1 S n1 a=>?_⟩;have up:∀ {u:Hp},aH H1 u->upd u p (.lst ([]++[]))=u:=fun s=>T6 (s _ _ a);refine⟨_,rfl,.inl ⟨rfl,_,aU.of a⟩,_,rfl,T,N,c.oX,X,rfl,S _ _ j,gP.mono m (aB.of S),g.b6,bx,fun p2 u d _ h2=>⟨p,p2,[],[],rfl,rfl,d _ _ a,h2,bo _,?_⟩⟩;rw[up d];have s3:=S.trans d;refine⟨_,rfl,.inl ⟨rfl,_,aU.of (d _ _ a)⟩,_,rfl,o,c.evs,Y,rfl,s3 _ _ e,g.e8,ev,fun p4 _ I _ h4=>⟨p,p4,[],[],rfl,rfl,I _ _ (d _ _ a),h4,bo _,?_⟩⟩;have C:=d.trans I;rw[up C];have Z:=S.trans C;refine⟨_,rfl,.inl ⟨rfl,_,aU.of (C _ _ a)⟩,_,rfl,_,rfl,_,rfl,D,T,o,L,c.rooms,c.oX,_,sd,W,rfl,Z _ _ k,cL.mono l (aB.of Z),B.mono Z,R,fun p7 _ G _ h7=>⟨p,p7,[],[],rfl,rfl,G _ _ (C _ _ a),h7,bo _,?_⟩⟩;have M:=C.trans G;rw[up M];have b:=S.trans M;refine⟨_,rfl,.inl ⟨rfl,_,aU.of (M _ _ a)⟩,_,rfl,t,_,_,_,rfl,rfl,aJ.of (b _ _ ht),rfl,_,rfl,_,rfl,_,rfl,td,T,o,D,O,c.mV,c.oX,_,L,c.rooms,rfl,b _ _ J,jx.mono z (aB.of b),g.d12,B.mono b,b _ _ k,cL.mono l (aB.of b),g.dr,fun v _ U _ y=>⟨p,v,[],[],rfl,rfl,U _ _ (M _ _ a),y,bo _,?_⟩⟩;have x:=M.trans U;rw[up x];exact⟨_,rfl,q p _ (S.trans x) n1 (x _ _ a)⟩
end dC
namespace XR
open PySem L2 jP lN vB Q3 xM dC Ru
open DQ (Al)
def qB7(h:H a=some o):upd H a o=H:=funext fun b=>by
 by_cases z:b=a
 .rw[z,zC,h]
 .exact zR z
def nl(s:S4):S4:=⟨s.os,s.bx,s.ks,[]⟩
noncomputable def dz(r:aw Rm)(os:aw Nat):aw Str:=(os.map fun o=>(r.map (·.jn)).getD o ("" : Str)).filter fun z => !decide (z=("" : Str))
inductive Nk(vs:List V)(H:Hp)(Q:VK)(E_:XK):Prop
 | mk (t ux rs os) (_:vs=[.ref t,.ref ux]) (_:dW H t rs) (_:H ux=some (.tup (aC os))) (_:(∀ o∈os,o<rs.length)) (_:os.length<=40) (_:rs.length<=40) (_:∀ p H',aH H H'->H' p=some (.tup ((dz rs os).map V.str))->Q (.ref p) H')
def uR{os:aw Nat}{i o:Nat}{r:Rm}(h:os[i]? = some o)(g:rs[o]? = some r):dz rs (os.take (i+1))=dz rs (os.take i)++(if (!decide (r.jn=("" : Str)))=true then [r.jn] else []):=by
 unfold dz;rw[mq,h,qz,fz];congr 1;show [(rs.map (·.jn)).getD o ("" : Str)].filter _=_
 rw[show (rs.map (·.jn)).getD o ("" : Str)=r.jn by
  rw[jT,dZ,g]
  rfl]
 rw[fA]
 split <;> rfl
def pR(r:aw Rm)(os:aw Nat):(dz r os).length<=os.length:=by unfold dz;refine br (vD _ _) ?_;rw[bT];exact bD _
def Jq(a b:Str):decide (V.str a=V.str b)=decide (a=b):=bS.mpr ⟨fun h=>by injection h,fun h=>by rw[h]⟩
def U0:aF ["rooms","opening"] ["rooms","opening"] (aA Ai):=cQ
def V0{f:ar}{v:af}(F:bO K "lamps" "lamps" Ai f v)(G:mg "tuple" = none):aL P w K mg base aN 1 f v ["rooms","opening"] Nk:=by
 refine F.ok U0 ?_ ?_
 .rintro _ _ _ _⟨t,U,R,os,rfl,_⟩;rfl
 intro _ A _ s H vs Q E _ h
 apply aW;intro _ g_;obtain⟨t,U,R,os,rfl,C,d,u,_,_,q⟩:=h;apply g_;clear g_;refine⟨_,(zG (zP (yB zY rfl G qt (zA (yU (bF:=[(0,"rooms")]) rfl (show bA (aA Ai) ["rooms","opening"] _ _ _ from vA) (nQ (pv 1)) (fun _ _ _ _ _ _=>cW (zM pN (yC (r:=dM K) zH (yC (r:=dM K) zH (pv 1) (pv 0) (fun _ _=>rfl)) zB (fun _ _=>rfl)) zQ (zS _))) (fun _ _ _ _ _ _=>(yC (r:=dM K) zH (yC (r:=dM K) zH (pv 1) (pv 0) (fun _ _=>rfl)) zB (fun _ _=>rfl)))) zD)))),?_⟩;refine⟨_,rfl,U,rfl,⟨_,aJ.of d⟩,?_⟩;refine ig (K:=K) (a:=U) (xs:=aC os) (fun i b j=>j=H/\b=(dz R (os.take i)).map V.str) ⟨rfl,rfl⟩ (fun i b j ⟨e,_⟩=>by subst e;exact aJ.of d) (fun i x b j g ⟨o,k⟩=>?_) (fun b j ⟨o,k⟩ p D=>?_)
 .subst o k
  have z:i<os.length:=by
   have:=(oW.mp g).1;rw[zV]at this;exact this
  have M:=fQ z
  obtain rfl:x = .int ((os[i]:Nat):Int):=by
   unfold aC at g;rw[dZ,M]at g;exact (kJ g).symm
  apply aW;intro _ g_;obtain⟨vs,a,r,ht,_,m,l,y⟩:=C.at (u _ (lQ z));apply g_;clear g_;have L:=pR R (os.take i);rw[iQ]at L;have S:=uR M m;refine⟨_,rfl,_,rfl,t,vs,_,_,rfl,rfl,aJ.of ht,l,aG (aJ.of y) rfl ⟨rfl,_,rfl,?_⟩⟩;refine fO (fun c=>?_) (fun c=>?_)
  .rw[Jq]at c;rw[cS c]at S;refine⟨_,rfl,_,rfl,t,vs,_,_,rfl,rfl,aJ.of ht,l,aG (aJ.of y) rfl ⟨zW (by rw[bT];lia),rfl,?_⟩⟩;rw[S,qz];rfl
  .rw[Jq]at c;rw[cK (by rw[c];decide),oY]at S;exact⟨rfl,by rw[S]⟩
 subst o k;rw[DX (by rw[zV];exact bD _)];refine⟨p,_,rfl,.inl ⟨aU.of zC,fun B n=>?_⟩⟩;exact q B _ ((zF D _).trans (zF n _)) zC
end XR
namespace wH
open PySem L2 jP lN vB Q3 xM dC Ru
open DQ (Al)
open XR (nl dz)
structure NF(fs:List (Str×V))(pc pp pb:Addr):Prop where
 ch:fs.lookup ("chart" : Str)=some (.ref pc)
 pl:fs.lookup ("place" : Str)=some (.ref pp)
 bg:fs.lookup ("beginning" : Str)=some (.ref pb)
 no:∀ x∈[("first" : Str),"run","stand","lamps"],fs.lookup x=none
 le:fs.length<=3
def xY(C:ar)(H:Hp)(p O o B:ar):Prop:=∃ d fs,H p=some (.ins C d fs)/\NF fs O o B
theorem yl(f:Str)(v:V):∀ fs:aw (Str×V),(cP f v fs).length<=fs.length+1
 | []=>bD _
 | (g,x)::fs=>by
  unfold cP
  split
  .exact ip _
  .rw[dG,dG];exact iX (yl f v fs)
def qCD(O o B:ar):NF (cP "beginning" (.ref B) (cP "place" (.ref o) (cP "chart" (.ref O) []))) O o B:=by
 refine⟨?_,?_,?_,?_,br (yl _ _ _) (iX (br (yl _ _ _) (iX (yl _ _ _))))⟩
 .rw[aV,cK (by decide +kernel),aV,cK (by decide +kernel),aV,cS rfl]
 .rw[aV,cK (by decide +kernel),aV,cS rfl]
 .rw[aV,cS rfl]
 .intro x h;rw[aV,aV,aV];simp only[List.mem_cons,List.not_mem_nil,or_false]at h;rcases h with rfl | rfl | rfl | rfl <;> rw[cK (by decide +kernel),cK (by decide +kernel),cK (by decide +kernel)] <;> rfl
theorem Ob(f:Str)(v:V):∀ {fs:aw (Str×V)} {u:V},fs.lookup f=some u->(cP f v fs).length=fs.length
 | (g,x)::fs,u,h=>by
  unfold cP
  by_cases e:g=f
  .rw[cS e];rfl
  .rw[cK e,dG,dG,Ob f v (u:=u) (by
    rw[gy]at h
    have:(f==g)=false:=by simpa using fun z=>e z.symm
    rw[this]at h
    exact h)]
def NF.put(h:NF fs pc pp pb)(p:ar):NF (cP "place" (.ref p) fs) pc p pb:=by
 obtain⟨a,l,b,j,f⟩:=h;refine⟨?_,?_,?_,fun x H=>?_,by rw[Ob _ _ l];exact f⟩
 .rw[aV,cK (by decide +kernel)];exact a
 .rw[aV,cS rfl]
 .rw[aV,cK (by decide +kernel)];exact b
 .rw[aV,cK,j x H];rintro rfl;exact eu H (by decide +kernel)
def xY.mono(h:xY C H p pc pp pb)(s:aH H H'):xY C H' p pc pp pb:=by obtain⟨d,fs,a,l⟩:=h;exact⟨d,fs,s _ _ a,l⟩
inductive Nj(C:Addr)(n:Nat)(vs:List V)(H:Hp)(Q:VK)(E_:XK):Prop
 | mk (p dx pc:Addr) (cc:gW.Ch) (c:mZ) (bs:List (Int×Int)) (ne:Nat) (_:vs=[.ref p,.ref pc]) (_:H p=some (.ins C dx [])) (_:gW.jJ H pc cc) (_:CJ.ChG cc) (_:mj.Sy H pc c bs ne) (_:mj.uw c bs) (_:3<=n)
  (_:∀(ps pw:Addr)(wv:List V)(es:List En)(s:S4)(H':Hp),Xm c bs es s->Jw c s.os s.ks->jG c s->(∀ b o,H b=some o->b≠p->H' b=some o)->xY C H' p pc ps pw->cR H' ps s->H' pw=some (.lst wv)->H pw=none->Al (iz H') wv es->es.length<=1000000->Q .non H')
inductive qAF(C:Addr)(vs:List V)(H:Hp)(Q:VK)(E_:XK):Prop
 | mk (e:Addr) (n:Int) (_:vs=[.ref e,.int n]) (_:H e=some (xQ e C none)) (_:n.natAbs.log2<1920) (_:(Str.empty++("the chart has no event " : Str)++Str.ofString (toString n)).length<=sizeLine) (_:∀ dx:Addr,H dx=none->dx≠e->Q .non (upd (upd H dx (.xd [("event",.int n)])) e (xQ e C (some dx))))
inductive Nq(C:Addr)(vs:List V)(H:Hp)(Q:VK)(E_:XK):Prop
 | mk (p pc pp pb:Addr) (wv:List V) (_:vs=[.ref p]) (_:xY C H p pc pp pb) (_:H pb=some (.lst wv)) (_:∀ q:Addr,H q=none->Q (.ref q) (upd H q (.lst wv)))
inductive Nh(C:Addr)(vs:List V)(H:Hp)(Q:VK)(E_:XK):Prop
 | mk (p pc pp pb:Addr) (_:vs=[.ref p]) (_:xY C H p pc pp pb) (_:Q (.ref pp) H)
inductive Ia(C:Addr)(vs:List V)(H:Hp)(Q:VK)(E_:XK):Prop
 | mk (p pc pp pb:Addr) (c:mZ) (s:S4) (_:vs=[.ref p]) (_:xY C H p pc pp pb) (_:jJ H pc c) (_:DP c) (_:cR H pp s) (_:jG c s) (_:∀ q H',aH H H'->H' q=some (.tup ((dz c.rs s.os).map V.str))->Q (.ref q) H')
inductive Tc(C CN:Addr)(n:Nat)(vs:List V)(H:Hp)(Q:VK)(E:XK):Prop
 | mk (p pc pp pb:Addr) (c:mZ) (bs:List (Int×Int)) (ne:Nat) (ev:Int) (s:S4) (_:vs=[.ref p,.int ev]) (_:xY C H p pc pp pb) (_:mj.Sy H pc c bs ne) (_:mj.uw c bs) (_:3<=n) (_:cR H pp s) (_:jG c s) (_:Jw c s.os s.ks) (_:s.l=[]) (_:ev.natAbs.log2<1920) (_:(Str.empty++("the chart has no event " : Str)++Str.ofString (toString ev)).length<=sizeLine)
  (_:0<=ev->ev<(ne:Int)->∀(ps' pw:Addr)(wv:List V)(es':List En)(s':S4)(H':Hp),qA9 c ev s es' s'->Jw c s'.os s'.ks->jG c s'->(∀ b o,H b=some o->b≠p->H' b=some o)->xY C H' p pc ps' pb->cR H' ps' (nl s')->H' pw=some (.lst wv)->H pw=none->Al (iz H') wv es'->wv.length<=1000000->Q (.ref pw) H')
  (_:¬ (0<=ev/\ev<(ne:Int))->∀(dx:Addr)(H':Hp),aH H H'->H dx=none->H' dx=some (.xd [("event",.int ev)])->E (.ref CN) (some dx) H')
section
variable{P:ag}{w:aI}{K:bV}{mg:Str->aE av}{base:Heap}{C CN CE:ar}
def qBI:aF ["self","event"] ["self","event"] (aA fj):=cQ
def qC3(F:bO K "__init__" "NoEvent.__init__" fj f fd)(C:sE K CN f=true)(q:HR K CN "event")(c:mg "NestError" = some (.ref CE))
  (z:PySem.W.specialIn K (.ref CE) "__getattribute__" = some (some (.builtin "type.__getattribute__"))) (d:PySem.W.readsIn K CE (.type "type")=true) (b:PySem.W.findCls K (.ref CE) (.type "type") "__init__" = some (.val (.builtin "ValueError.__init__"))) :
  aL P w K mg base aN 1 f fd ["self","event"] (qAF CN):=by
 refine F.ok qBI ?_ ?_
 .rintro _ _ _ _⟨e,n,rfl,_⟩;rfl
 intro _ A _ s H _ Q E _ h
 obtain⟨e,n,rfl,i,m,O,k⟩:=h
 refine⟨_,(zE (Yh rfl c z d b (zA (pv 0) (zA (Yk (pv 1)) zD)))
  (zG (Ye (pv 0) (pv 1) rfl))),?_⟩
 refine⟨_,rfl,⟨zJ (by decide +kernel),⟨_,rfl,n,rfl,m,O,e,CN,f,none,_,rfl,(by rw[sizeLine_eq];exact (by decide:1<=16777216)),C,i,?_⟩⟩⟩;rw[XR.qB7 i];exact⟨_,rfl,_,rfl,e,CN,rfl,i,q,fun D x a=>k D x a⟩
def Ad:aF ["self","chart","found","told"] ["self","chart"] (aA kW):=cQ
def Uv(F:bO K "__init__" "Nest.__init__" kW f fd)(I:vC K C)(nC:cA K C "chart")(nP:cA K C "place")(nB:cA K C "beginning")
  (Xj:Dp P w K mg base aN m' g1 d1 ["chart"] dC.zy "faults")
  (yw:Dp P w K mg base aN m' g2 d2 ["chart"] (Fi n) "begun")
  (aP:mg "len" = none):aL P w K mg base aN (m'+1) f fd ["self","chart"] (Nj C n):=by
 refine F.ok Ad ?_ ?_
 .rintro _ _ _ _⟨p,d,O,U,c,bs,ne,rfl,_⟩;rfl
 intro _ A _ s H _ Q E N h
 obtain⟨p,d,O,U,c,bs,ne,rfl,hp,B,gg,hX,ok,n3,k⟩:=h
 refine⟨_,(zE (zL (i:=2) Ad.nd rfl (bb rfl) (pC Xj N (zA (pv 1) zD)))
  (zE (yE (zM cY (zT zO rfl aP bj (zA (pv 2) zD)) zB (zS _)) (zG Ua) zU)
  (zE (zL (i:=3) Ad.nd rfl (bb rfl) (pC yw N (zA (pv 1) zD)))
  (zE (vP (pv 0) (pv 1) rfl)
  (zE (vP (pv 0) (yC zH (pv 3) zB (fun _ _=>rfl)) rfl)
  (zG (vP (pv 0) (yC zH (pv 3) zB (fun _ _=>rfl)) rfl))))))),?_⟩
 refine⟨_,rfl,O,U,rfl,B,gg,fun _ _ S _ y=>?_⟩;refine⟨_,rfl,xR rfl (.inl (aU.of y)) (eO ⟨_,rfl,eE rfl ?_⟩)⟩;refine⟨_,rfl,O,c,bs,ne,rfl,hX.mono (aB.of S),ok,n3,fun t ps g W es st r BR j X s2 ht hS J Z hA Y=>?_⟩;have D:=S.trans s2;have l:=D _ _ hp;have G:H g=none:=S.free Z;refine⟨_,rfl,_,rfl,p,C,d,[],rfl,l,I,nC,(by show 0<1000;decide),?_⟩;generalize m:upd r p (.ins C d (cP "chart" (.ref O) []))=x
 have p3:x p=some (.ins C d (cP "chart" (.ref O) [])):=by rw[<-m];exact zC
 have M:∀ b,b≠p->x b=r b:=fun b z=>by rw[<-m];exact zR z
 have t3:x t=some (.tup [.ref ps,.ref g]):=(M t (gU ht l nofun)).trans ht;refine⟨_,rfl,aG (aJ.of t3) rfl ⟨_,rfl,p,C,d,_,rfl,p3,I,nP,(by show 1<1000;decide),?_⟩⟩;generalize q:upd x p (.ins C d (cP "place" (.ref ps) (cP "chart" (.ref O) [])))=u
 have p4:u p=some (.ins C d (cP "place" (.ref ps) (cP "chart" (.ref O) []))):=by rw[<-q];exact zC
 have L:∀ b,b≠p->u b=r b:=fun b z=>by rw[<-q,zR z];exact M b z
 have t4:u t=some (.tup [.ref ps,.ref g]):=(L t (gU ht l nofun)).trans ht;refine⟨_,rfl,aG (aJ.of t4) rfl ⟨_,rfl,p,C,d,_,rfl,p4,I,nB,(by show 2<1000;decide),?_⟩⟩;generalize a:upd u p (.ins C d (cP "beginning" (.ref g) (cP "place" (.ref ps) (cP "chart" (.ref O) []))))=v
 have p5:v p=some (.ins C d (cP "beginning" (.ref g) (cP "place" (.ref ps) (cP "chart" (.ref O) [])))):=by rw[<-a];exact zC
 have R:∀ b,b≠p->v b=r b:=fun b z=>by rw[<-a,zR z];exact L b z
 have T:aB r v:=fun b _ e=>(R b (gU e l nofun)).trans e;exact k ps g W es st v BR j X (fun b o e z=>(R b z).trans (D b o e)) ⟨d,_,p5,qCD O ps g⟩ (hS.mono T) ((R g (gU J l nofun)).trans J) G (hA.mono fun _ _ z=>z.mono T) Y
def U3:aF ["self"] ["self"] (aA qP):=cQ
def V3(F:bO K "first" "Nest.first" qP f fd)(j:vC K C)(n:cA K C "beginning")(B:mg "list" = none):aL P w K mg base aN 1 f fd ["self"] (Nq C):=by
 refine F.ok U3 ?_ ?_
 .rintro _ _ _ _⟨p,O,o,b,W,rfl,_⟩;rfl
 intro _ A _ s H _ Q E _ h
 obtain⟨p,O,o,b,W,rfl,⟨d,_,a,l⟩,u,q⟩:=h;refine⟨_,(zG (zP (yB gO rfl B kf (zA (gq (pv 0) rfl) zD)))),?_⟩;exact⟨_,rfl,p,C,d,_,_,rfl,a,j,n,l.bg,xR rfl (.inl (aU.of u)) q⟩
def Tw:aF ["self"] ["self"] (aA qN):=cQ
def Ur(F:bO K "stand" "Nest.stand" qN f fd)(j:vC K C)(n:cA K C "place"):aL P w K mg base aN 1 f fd ["self"] (Nh C):=by
 refine F.ok Tw ?_ ?_
 .rintro _ _ _ _⟨p,O,o,B,rfl,_⟩;rfl
 intro _ A _ s H _ Q E _ h
 obtain⟨p,O,o,B,rfl,⟨d,_,a,l⟩,q⟩:=h;refine⟨_,(zG (zP (gq (pv 0) rfl))),?_⟩;exact⟨_,rfl,p,C,d,_,_,rfl,a,j,n,l.pl,q⟩
end
def QM:aF ["self"] ["self"] (aA qO):=cQ
def Qm(F:bO K "lamps" "Nest.lamps" qO f fd)(j:vC K C)(n:cA K C "chart")(N:cA K C "place")
  (a:Dp P w K mg base aN m' g1 d1 ["rooms","opening"] XR.Nk "lamps_stands"):aL P w K mg base aN (m'+1) f fd ["self"] (Ia C):=by
 refine F.ok QM ?_ ?_
 .rintro _ _ _ _⟨p,O,o,B,c,s,rfl,_⟩;rfl
 intro _ A _ s H _ Q E r h
 obtain⟨p,O,o,B,c,s,rfl,⟨d,_,b,l⟩,X,ok,g,S,q⟩:=h;refine⟨_,(zG (zP (pC a r (zA (yC zH (gq (pv 0) rfl) zB (fun _ _=>rfl)) (zA (yC zH (gq (pv 0) rfl) zB (fun _ _=>rfl)) zD))))),?_⟩;obtain⟨_,t,_,_,_,_,m,_,_,R,_⟩:=X;obtain⟨k,_,_,_,i,e,_⟩:=g;exact⟨_,rfl,p,C,d,_,_,rfl,b,j,n,l.ch,aG (aJ.of m) rfl ⟨_,rfl,p,C,d,_,_,rfl,b,j,N,l.pl,aG (aJ.of i) rfl ⟨t,k,c.rs,s.os,rfl,R,e,S.lt,S.Oi,ok.r40,q⟩⟩⟩
def Tz:aF ["self","event","told"] ["self","event"] (aA xn):=cQ
def qC1(F:bO K "run" "Nest.run" xn f fd)(r:vC K C)(U:cA K C "chart")(W:cA K C "place")
  (hN:sE K CN gi=true) (kN:KI K CN) (vZ:mg "NoEvent" = some (.ref CN)) (qJ:aL P w K mg base (Ke P w) m' gi di ["self","event"] (qAF CN)) (qF:Binds K di ["self","event"] [])
  (aZ:Dp P w K mg base aN (m'+1) g1 d1 ["number","things"] dC.zx "is_number_of")
  (Hh:Dp P w K mg base aN (m'+1) g2 d2 ["chart","stand","event"] (Fj n) "after") :
  aL P w K mg base (Ke P w) (m'+2) f fd ["self","event"] (Tc C CN n):=by
 refine F.okX Tz ?_ ?_
 .rintro _ _ _ _⟨p,O,X,pb,c,bs,ne,v,s,rfl,_⟩;rfl
 intro _ A _ s H _ Q E I h
 obtain⟨p,O,X,pb,c,bs,ne,v,st,rfl,⟨D,fs,q,l⟩,hX,ok,n3,hS,so,j,l0,f1,f2,q1,q2⟩:=h
 refine⟨_,(zE (yE (bY (aY (pC aZ I (zA (pv 1) (zA (yC zH (gq (pv 0) rfl) zB (fun _ _=>rfl)) zD))))) (zG (QS qCZ rfl rfl vZ hN kN qJ I qF .nil (zA (pv 1) zD))) zU)
  (zE (zL (i:=2) Tz.nd rfl (bb rfl) (pC Hh I (zA (gq (pv 0) rfl) (zA (gq (pv 0) rfl) (zA (pv 1) zD)))))
  (zE (vP (pv 0) (yC zH (pv 2) zB (fun _ _=>rfl)) rfl)
  (zG (zP (yC zH (pv 2) zB (fun _ _=>rfl))))))),?_⟩
 obtain⟨_,pn,t,_,_,nv,_,_,c1,_,_,c4,c5,_⟩:=id hX;refine⟨_,rfl,_,rfl,p,C,D,_,_,rfl,q,r,U,l.ch,aG (aJ.of c1) rfl ⟨v,pn,nv,rfl,c4,?_⟩⟩;rw[c5]
 by_cases k:0<=v/\v<(ne:Int)
 .refine .inl ⟨k,_,rfl,eE rfl ?_⟩;have B:All c (Jw c) n:=⟨ok.ok,wide ok.ok,fun d hd=>⟨(ok.g d hd).1,br (ok.g d hd).2 n3⟩⟩;refine⟨_,rfl,p,C,D,_,_,rfl,q,r,U,l.ch,_,rfl,p,C,D,_,_,rfl,q,r,W,l.pl,_,rfl,O,X,c,v,st,rfl,hX.ch ok,B,hS,so,j,l0,by have:=ok.t4;lia,fun _ a pw wv y s' G AR j' S M ht J L Z6 hA lw=>?_⟩;have x:=M _ _ q;refine⟨_,rfl,aG (aJ.of ht) rfl ⟨_,rfl,p,C,D,_,rfl,x,r,W,(by have:=l.le;lia),?_⟩⟩;generalize m:upd G p (.ins C D (cP "place" (.ref a) fs))=u
  have p2:u p=some (.ins C D (cP "place" (.ref a) fs)):=by rw[<-m];exact zC
  have R:∀ b,b≠p->u b=G b:=fun b z=>by rw[<-m];exact zR z
  have T:aB G u:=fun b _ e=>(R b (gU e x nofun)).trans e;exact⟨_,rfl,aG (aJ.of (T _ _ ht)) rfl (q1 k.1 k.2 a pw wv y s' u AR j' S (fun b o e z=>(R b z).trans (M b o e)) ⟨D,_,p2,l.put a⟩ ((cR.tail J []).mono T) ((R pw (gU L x nofun)).trans L) Z6 (hA.mono fun _ _ z=>z.mono T) lw)⟩
 .refine .inr ⟨k,_,rfl,Hq rfl ?_⟩;refine⟨_,rfl,(zJ (by show 1<=1000;decide)),fun e he=>⟨e,v,rfl,zC,f1,f2,fun ld g N=>⟨rfl,some ld,zC,?_⟩⟩⟩;rw[zR N]at g
  have e5:del (upd (upd (upd H e (xQ e CN none)) ld (.xd [("event",.int v)])) e (xQ e CN (some ld))) e=upd H ld (.xd [("event",.int v)]):=by
   funext b
   by_cases Z:b=e
   .subst Z;rw[uc,zR (bE N),he]
   .rw[oA Z,zR Z]
    by_cases Y:b=ld
    .subst Y;rw[zC,zC]
    .rw[zR Y,zR Y,zR Z]
  rw[e5];exact q2 k ld _ (zF g _) g zC
end wH
namespace Ru
open PySem L2 jP lN vB Q3 xM dC
open DQ (Al)
inductive DW(H:Hp):Nat->V->V->Prop where
 | str {n:Nat} (z:Str):DW H n (.str z) (.str z)
 | int {n:Nat} (m:Int):DW H n (.int m) (.int m)
 | tup {n:Nat} {a b:Addr} {xs ys:List V}:H a=some (.tup xs)->H b=some (.tup ys)->xs.length=ys.length->xs.length<=2000000->(∀(i:Nat)(x y:V),xs[i]? = some x->ys[i]? = some y->DW H n x y)->DW H (n+1) (.ref a) (.ref b)
 | lst {n:Nat} {a b:Addr} {xs ys:List V}:H a=some (.lst xs)->H b=some (.lst ys)->xs.length=ys.length->xs.length<=2000000->(∀(i:Nat)(x y:V),xs[i]? = some x->ys[i]? = some y->DW H n x y)->DW H (n+1) (.ref a) (.ref b)
theorem DW.up:∀ {n:Nat} {v u:V},DW H n v u->DW H (n+1) v u
 | _,_,_,.str z=>.str z
 | _,_,_,.int k=>.int k
 | _,_,_,.tup h l p j f=>.tup h l p j fun i x y a N=>(f i x y a N).up
 | _,_,_,.lst h l p j f=>.lst h l p j fun i x y a N=>(f i x y a N).up
def nO(v:V):Prop:=(∃ z,v = .str z) ∨ ∃ m,v = .int m
def Ax(os:aw Nat):∀ v∈aC os,nO v:=fun v H=>by
 unfold aC at H;obtain⟨o,_,rfl⟩:=eX.mp H;exact .inr ⟨_,rfl⟩
def Lg(os:aw Int):∀ v∈os.map V.int,nO v:=fun v H=>by
 obtain⟨o,_,rfl⟩:=eX.mp H;exact .inr ⟨_,rfl⟩
theorem QW(e:En):∀ v∈e.row,nO v:=by
 have s:∀ z:Str,nO (.str z):=fun z=>.inl ⟨z,rfl⟩;have i:∀ z:Int,nO (.int z):=fun z=>.inr ⟨z,rfl⟩
 have two:∀(a b:V),nO a->nO b->∀ v∈[a,b],nO v:=fun a b d c v H=>by
  rcases dD.mp H with rfl | H
  .exact d
  .rw[jA.mp H];exact c
 cases e with
 | rc r=>
  cases r with
  | say w=>exact two _ _ (s _) (s _)
  | put b n=>
   intro v H;rcases dD.mp H with rfl | H
   .exact s _
   .exact two _ _ (i _) (i _) v H
  | send e=>exact two _ _ (s _) (i _)
  | lost e=>exact two _ _ (s _) (i _)
 | inn k=>exact two _ _ (s _) (i _)
 | out k=>exact two _ _ (s _) (i _)
 | door k=>exact two _ _ (s _) (i _)
 | thr k=>exact two _ _ (s _) (i _)
 | take k=>exact two _ _ (s _) (i _)
theorem YX(e:En):e.row.length<=3:=by
 cases e with
 | rc r=>cases r <;> (first | exact (by decide:2<=3) | exact bD 3)
 | _=>exact (by decide:2<=3)
def um(e:H a=some (.tup xs))(d:H b=some (.tup xs))(l:xs.length<=2000000)(h:∀ v∈xs,nO v):DW H 1 (.ref a) (.ref b):=.tup e d rfl l fun i x y c N=>by
 obtain rfl:=kJ (c.symm.trans N);rcases h x (SX c) with ⟨z,rfl⟩ | ⟨z,rfl⟩
 .exact .str z
 .exact .int z
def qDD(E:∀(x y:V)(r:α),R x r->R y r->DW H n x y)(a:Al R xs rs)(l:Al R ys rs):xs.length=ys.length/\∀(i:Nat)(x y:V),xs[i]? = some x->ys[i]? = some y->DW H n x y:=by have L:=a.length;have j:=l.length;refine⟨by omega,fun i x y c N=>?_⟩;have g:i<xs.length:=(oW.mp c).1;have e:=fQ (show i<rs.length by omega);obtain⟨_,h,f⟩:=a.get e;obtain⟨_,b,d⟩:=l.get e;obtain rfl:=kJ (c.symm.trans h);obtain rfl:=kJ (N.symm.trans b);exact E _ _ _ f d
def HJ(e:H a=some (.lst xs))(f:H b=some (.lst ys))(c:Al (iz H) xs es)(i:Al (iz H) ys es)(l:es.length<=2000000):DW H 2 (.ref a) (.ref b):=by
 obtain⟨d,h⟩:=qDD (n:=1) (fun x y r j N=>by
  obtain⟨p,rfl,g⟩:=j;obtain⟨q,rfl,E⟩:=N
  exact um g E (by have:=YX r;omega) (QW r)) c i
 exact .lst e f d (by rw[c.length];exact l) h
theorem qDC(f:cR H p s)(l:cR H q s)(lo:s.os.length<=40)(A:s.bx.length<=40)(F:s.ks.length<=40)(L:∀ r∈s.ks,r.length<=40):DW H 3 (.ref p) (.ref q):=by
 obtain⟨w,P,J,z,a1,a2,a3,a4,a5⟩:=f;obtain⟨Q,qb,m,_,j,g,d,t,B⟩:=l;have up:∀ {v u:V},DW H 1 v u->DW H 2 v u:=fun h=>h.up;have n:DW H 2 (.ref w) (.ref Q):=up (um a2 g (by rw[zV];omega) (Ax _));have C:DW H 2 (.ref P) (.ref qb):=up (um a3 d (by rw[bT];omega) (Lg _));have D:=a5.length;have I:=B.length
 have o:DW H 2 (.ref J) (.ref m):=by
  refine .tup a4 t (by omega) (by omega) fun i x y a N=>?_;have G:i<z.length:=(oW.mp a).1;have e:=fQ (show i<s.ks.length by omega);obtain⟨_,b,_,rfl,k⟩:=a5.get e;obtain⟨_,c,_,rfl,E⟩:=B.get e;obtain rfl:=kJ (a.symm.trans b);obtain rfl:=kJ (N.symm.trans c);exact um k E (by rw[zV];have:=L _ (SX e);omega) (Ax _)
 refine .tup a1 j rfl (by show 3<=2000000;decide) fun i x y a N=>?_
 match i,a,N with
 | 0,a,N=>cases a;cases N;exact n
 | 1,a,N=>cases a;cases N;exact C
 | 2,a,N=>cases a;cases N;exact o
def ou(m:Nat):Sp:=fun vs H Q _ => ∃(v u:V)(k:Nat),vs=[v,u]/\k<m/\DW H k v u/\Q (.bl true) H
def wW:aF ["_law_found","_law_due","_law_k"] ["_law_found","_law_due"] (aA Iw):=cQ
theorem Uz(F:bO K "_law_same" "_law_same" Iw f fd)(S:Dp P w K mg base aN n f fd ["_law_found","_law_due"] (ou n) "_law_same")
  (X:mg "isinstance" = none) (R:mg "tuple" = none) (L:mg "str" = none) (U:mg "int" = none) (T:mg "bool" = none) (M:mg "list" = none) (I:mg "len" = none) (W:mg "range" = none):aL P w K mg base aN (n+1) f fd ["_law_found","_law_due"] (ou (n+1)):=by
 refine F.ok wW ?_ ?_
 .rintro _ _ _ _⟨v,u,k,rfl,_⟩;rfl
 intro _ A _ s H _ Q E Y h
 obtain⟨v,u,k,rfl,_,Z,q⟩:=h
 refine⟨_,(zE (yE (aY (zT c7 rfl X xN (zA (pv 1) (zA (iK (v:=.ty "str") rfl L PyProof.Rows.boot_str rfl) zD))))
  (zG (zP (pL (rT (zT c7 rfl X xN (zA (pv 0) (zA (iK (v:=.ty "str") rfl L PyProof.Rows.boot_str rfl) zD))) (gB (bK yH (pv 0) (pv 1) (zS _)))))))
  zU)
  (zE (yE (aY (zT c7 rfl X xN (zA (pv 1) (zA (iK (v:=.ty "int") rfl U ke rfl) zD))))
  (zG (zP (pL (rT (zT c7 rfl X xN (zA (pv 0) (zA (iK (v:=.ty "int") rfl U ke rfl) zD))) (rT (gC (zT c7 rfl X xN (zA (pv 0) (zA (iK (v:=.ty "bool") rfl T PyProof.Rows.boot_bool rfl) zD)))) (gB (bK yH (pv 0) (pv 1) (zS _))))))))
  zU)
  (zE (yE (bZ (PW.pt (pw_and (aY (zT c7 rfl X xN (zA (pv 1) (zA (iK (v:=.ty "tuple") rfl R qt rfl) zD)))) (yQ (bY (aY (zT c7 rfl X xN (zA (pv 0) (zA (iK (v:=.ty "tuple") rfl R qt rfl) zD)))))))))
  (zG (zP gG))
  zU)
  (zE (yE (bZ (PW.pt (pw_and (aY (zT c7 rfl X xN (zA (pv 1) (zA (iK (v:=.ty "list") rfl M kf rfl) zD)))) (yQ (bY (aY (zT c7 rfl X xN (zA (pv 0) (zA (iK (v:=.ty "list") rfl M kf rfl) zD)))))))))
  (zG (zP gG))
  zU)
  (zE (yE (zM pN (zT zO rfl I bj (zA (pv 0) zD)) (zT zO rfl I bj (zA (pv 1) zD)) (zS _))
  (zG (zP gG))
  zU)
  (yA (bf PassesOwn.never rfl (cg rfl W (zA (zT zO rfl I bj (zA (pv 1) zD)) zD)) (yK (i:=2) wW.nd rfl (bb rfl))
  (zG (yE (bY (aY (pC S Y (zA (yC Vr (pv 0) (pv 2) (fun _ _=>rfl)) (zA (yC Vr (pv 1) (pv 2) (fun _ _=>rfl)) zD)))))
  (zG (zP gG))
  zU)))
  (zG (zP gG)))))))),?_⟩
 have p:∀ v:V,(!decide (v=v))=false:=fun v=>by simp
 have eqT:∀ v:V,decide (v=v)=true:=fun v=>by simp
 cases Z with
 | str z=>
  refine⟨_,rfl,_,"str",_,true,rfl,.str _,by rfl,_,rfl,MT ?_⟩;refine⟨fun v d=>d=H/\v = .bl true,⟨_,rfl,_,"str",_,true,rfl,.str _,by rfl,_,rfl,MT ⟨_,rfl,_,rfl,rfl,rfl,?_⟩⟩,?_⟩
  .rw[eqT]
  rintro v r ⟨rfl,rfl⟩;exact q
 | int m=>
  refine⟨_,rfl,_,"str",_,false,rfl,.int _,by rfl,_,rfl,Bc ?_⟩;refine⟨_,rfl,_,"int",_,true,rfl,.int _,by rfl,_,rfl,MT ?_⟩;refine⟨fun v d=>d=H/\v = .bl true,⟨_,rfl,_,"int",_,true,rfl,.int _,by rfl,_,rfl,MT ⟨_,rfl,_,"bool",_,false,rfl,.int _,by rfl,_,rfl,_,rfl,MT ⟨_,rfl,_,rfl,rfl,rfl,?_⟩⟩⟩,?_⟩
  .rw[eqT]
  rintro v r ⟨rfl,rfl⟩;exact q
 | @tup j a b xs ys l e C D g=>
  refine⟨_,rfl,_,"str",_,false,rfl,.tup e,by rfl,_,rfl,Bc ?_⟩;refine⟨_,rfl,_,"int",_,false,rfl,.tup e,by rfl,_,rfl,Bc ?_⟩;refine⟨fun c d=>d=H/\c=false,?_,?_⟩
  .exact⟨_,rfl,_,"tuple",_,true,rfl,.tup e,by rfl,_,rfl,MT ⟨_,rfl,_,"tuple",_,true,rfl,.tup l,by rfl,_,rfl,rfl,rfl⟩⟩
  rintro c r ⟨rfl,rfl⟩;refine Bc ?_;refine⟨fun c d=>d=r/\c=false,?_,?_⟩
  .exact⟨_,rfl,_,"list",_,false,rfl,.tup e,by rfl,_,rfl,Bc ⟨rfl,rfl⟩⟩
  rintro c y ⟨rfl,rfl⟩;refine Bc ?_;refine⟨_,rfl,a,_,rfl,.inr (aJ.of l),_,rfl,b,_,rfl,.inr (aJ.of e),rfl,_,rfl,eE (by rw[C];exact p _) ?_⟩;refine⟨fun σ' d=>d=y/\∃ O:aE V,σ'=[some (.ref a),some (.ref b),O],?_,?_⟩
  .refine⟨_,rfl,b,_,rfl,.inr (aJ.of e),(ys.length:Int),rfl,by omega,by omega,?_⟩;refine cI (fun i σ' d=>d=y/\∃ O:aE V,σ'=[some (.ref a),some (.ref b),O]) ⟨rfl,none,rfl⟩ ?_ ?_
   .rintro i σ' t hi ⟨rfl,O,rfl⟩
    have o:i<ys.length:=by omega
    have x:=fQ (show i<xs.length by omega);have N:=fQ o;have B:=g i _ _ x N
    have J:mX xs (0+(i:Int))=some xs[i]:=by
     rw[cf];exact yR x
    have G:mX ys (0+(i:Int))=some ys[i]:=by
     rw[cf];exact yR N
    exact⟨_,rfl,_,rfl,.inr (.inl ⟨a,_,_,_,rfl,rfl,aJ.of l,J,_,rfl,_,rfl,.inr (.inl ⟨b,_,_,_,rfl,rfl,aJ.of e,G,_,_,j,rfl,by omega,B,_,rfl,eE rfl ⟨rfl,_,rfl⟩⟩)⟩)⟩
   .rintro σ' t ⟨rfl,O,rfl⟩;exact⟨rfl,O,rfl⟩
  rintro σ' t ⟨rfl,O,rfl⟩;exact q
 | @lst j a b xs ys l e C D g=>
  refine⟨_,rfl,_,"str",_,false,rfl,.lst e,by rfl,_,rfl,Bc ?_⟩;refine⟨_,rfl,_,"int",_,false,rfl,.lst e,by rfl,_,rfl,Bc ?_⟩;refine⟨fun c d=>d=H/\c=false,?_,?_⟩
  .exact⟨_,rfl,_,"tuple",_,false,rfl,.lst e,by rfl,_,rfl,Bc ⟨rfl,rfl⟩⟩
  rintro c r ⟨rfl,rfl⟩;refine Bc ?_;refine⟨fun c d=>d=r/\c=false,?_,?_⟩
  .exact⟨_,rfl,_,"list",_,true,rfl,.lst e,by rfl,_,rfl,MT ⟨_,rfl,_,"list",_,true,rfl,.lst l,by rfl,_,rfl,rfl,rfl⟩⟩
  rintro c y ⟨rfl,rfl⟩;refine Bc ?_;refine⟨_,rfl,a,_,rfl,.inl (aU.of l),_,rfl,b,_,rfl,.inl (aU.of e),rfl,_,rfl,eE (by rw[C];exact p _) ?_⟩;refine⟨fun σ' d=>d=y/\∃ O:aE V,σ'=[some (.ref a),some (.ref b),O],?_,?_⟩
  .refine⟨_,rfl,b,_,rfl,.inl (aU.of e),(ys.length:Int),rfl,by omega,by omega,?_⟩;refine cI (fun i σ' d=>d=y/\∃ O:aE V,σ'=[some (.ref a),some (.ref b),O]) ⟨rfl,none,rfl⟩ ?_ ?_
   .rintro i σ' t hi ⟨rfl,O,rfl⟩
    have o:i<ys.length:=by omega
    have x:=fQ (show i<xs.length by omega);have N:=fQ o;have B:=g i _ _ x N
    have J:mX xs (0+(i:Int))=some xs[i]:=by
     rw[cf];exact yR x
    have G:mX ys (0+(i:Int))=some ys[i]:=by
     rw[cf];exact yR N
    exact⟨_,rfl,_,rfl,(.inl ⟨a,_,_,_,rfl,rfl,aU.of l,J,_,rfl,_,rfl,(.inl ⟨b,_,_,_,rfl,rfl,aU.of e,G,_,_,j,rfl,by omega,B,_,rfl,eE rfl ⟨rfl,_,rfl⟩⟩)⟩)⟩
   .rintro σ' t ⟨rfl,O,rfl⟩;exact⟨rfl,O,rfl⟩
  rintro σ' t ⟨rfl,O,rfl⟩;exact q
def M5:aL P w K mg base aN 0 f fd ["_law_found","_law_due"] (ou 0):=by
 have n:∀ vs H Q E,¬ ou 0 vs H Q E:=fun vs H Q E h=>by
  obtain⟨v,u,k,_,_,_⟩:=h;omega
 exact⟨fun vs H Q E h=>eu h (n vs H Q E),fun A _ s H _ _ vs Q E _ _ _ _ h=>eu h (n vs H Q E)⟩
theorem Ez(F:bO K "_law_same" "_law_same" Iw f fd)(p:Binds K fd ["_law_found","_law_due"] [])(O:mg "_law_same" = some (.ref f))(X:mg "isinstance" = none)(a:mg "tuple" = none)(L:mg "str" = none)(U:mg "int" = none)(T:mg "bool" = none)(B:mg "list" = none)(C:mg "len" = none)(S:mg "range" = none):∀ n:Nat,aL P w K mg base aN n f fd ["_law_found","_law_due"] (ou n)
 | 0=>M5
 | n+1=>Uz F ⟨Ez F p O X a L U T B C S n,p,F.kp,O⟩ X a L U T B C S
end Ru
namespace wH
open PySem L2 jP lN vB Q3 xM dC Ru
open DQ (Al)
open XR (nl dz)
def gM:Int:=10 ^ 30+100
def WW{n:Int}(h:n.natAbs<10 ^ 31):(Str.ofString (toString n)).length<=40:=by
 have d:=Dig.qB5 31 n.natAbs h
 have z1:(if n<0 then [45] else ([]:aw Nat)).length<=1:=by split <;> decide
 have z2:(if n=0 then [48] else Dig.D n.natAbs).length<=31:=by
  split
  .decide
  .exact d
 rw[Dig.TV];show (Dig.ZW n).toArray.size<=40;rw[CV];unfold Dig.ZW;rw[j8];omega
def Wl{n:Int}(d : -gM<=n)(H:n<=gM):n.natAbs.log2<1920/\(Str.empty++("the chart has no event " : Str)++Str.ofString (toString n)).length<=sizeLine:=by
 have c:n.natAbs<10 ^ 31:=by unfold gM at d H;omega
 refine⟨?_,?_⟩
 .by_cases z:n.natAbs=0
  .rw[z];decide
  .exact (Nat.log2_lt z).mpr (iL c (by decide))
 .rw[strLen_append];refine br (ic (WW c) _) (zJ (by decide +kernel))
inductive Nr(K:bV)(vs:List V)(H:Hp)(Q:VK)(E_:XK):Prop
 | mk (a:Addr) (ns:List Int) (k:Int) (m:Nat) (_:vs=[.ref a,.int k,.int (m:Int)]) (_:aU K H a (ns.map V.int)) (_:ns.length<=63) (_:0<=k/\k<=1000) (_:m<=8) (_:∀(e:Int)(H':Hp),aH H H' -> -gM<=e->e<=gM->Q (.int e) H')
def t6:aF ["_law_script","_law_k","_law_events","_law_number"] ["_law_script","_law_k","_law_events"] (aA qR):=cQ
def V4(F:bO K "_law_event" "_law_event" qR f fd)
  (M:Dp P w K mg base aN m' g1 d1 ["_law_script","_law_k","_law_salt"] (jC K) "_law_mixed")
  (B:Dp P w K mg base aN m' g2 d2 ["_law_script","_law_k"] (sX K) "_law_cell_at"):aL P w K mg base aN (m'+1) f fd ["_law_script","_law_k","_law_events"] (Nr K):=by
 refine F.ok t6 ?_ ?_
 .rintro _ _ _ _⟨a,ns,k,m,rfl,_⟩;rfl
 intro _ A _ s H _ Q E g h
 obtain⟨a,ns,k,m,rfl,t,b,_,_,q⟩:=h
 refine⟨_,(zE (zL (i:=3) t6.nd rfl (bb rfl) (pC M g (zA (pv 0) (zA (pv 1) (zA zB zD)))))
  (zE (yE (bZ (PW.pt (pw_and (zM cY (pv 2) zB (zS _)) (yQ (zM cY (yD zZ (pv 3) zB) zB (zS _))))))
  (zG (zP (yD zZ (yD yM (pv 3) zB) (pv 2))))
  zU)
  (zE (yE (zM yH (yD zZ (yD yM (pv 3) zB) zB) zB (zS _))
  (zG (zP (yD lF (Ay rH zB) (yD zZ (pC B g (zA (pv 0) (zA (pv 1) zD))) (yD GP zB zB)))))
  zU)
  (zE (yE (zM yH (yD zZ (yD yM (pv 3) zB) zB) zB (zS _))
  (zG (zP (yD yG (pv 2) (yD zZ (pC B g (zA (pv 0) (zA (pv 1) zD))) (yD GP zB zB)))))
  zU)
  (zG (zP (yC yV (yL (zA (Ay rH zB) (zA (pv 2) zD))) (yD zZ (yD yM (pv 3) zB) zB) (fun _ _=>rfl)))))))),?_⟩
 have big:(10:Int) ^ (30:Int).toNat=10 ^ 30:=rfl;have C:=j7 (eF ns k) (show (10:Int) ^ 30≠0 by decide);have D:=jR (eF ns k) (show (0:Int)<10 ^ 30 by decide);refine⟨_,rfl,_,rfl,a,ns,_,_,rfl,t,b,⟨by lia,by lia⟩,⟨by decide,by decide⟩,fun x _ _=>?_⟩;refine⟨fun c n=>n=H/\(c=true->0<m),⟨_,rfl,eO ⟨_,rfl,fO (fun c=>⟨_,rfl,eO ⟨(by show (0:Int)<6;decide),eO ⟨_,rfl,rfl,fun _=>by have:=ba c;lia⟩⟩⟩) (fun c=>⟨rfl,fun z=>by cases z⟩)⟩⟩,?_⟩;rintro c _ ⟨rfl,j⟩;refine fO (fun T=>?_) (fun _=>?_)
 .have y:=j T;have r:=j7 (x/6) (show (m:Int)≠0 by lia);have u:=jR (x/6) (show (0:Int)<(m:Int) by lia);exact⟨_,rfl,eO ⟨⟨by decide,by decide⟩,_,rfl,eO ⟨(by show (0:Int)<(m:Int);lia),q _ _ (aH.refl _) (by unfold gM;omega) (by unfold gM;omega)⟩⟩⟩
 refine⟨_,rfl,eO ⟨⟨by decide,by decide⟩,eO ⟨(by show (0:Int)<3;decide),rfl,_,rfl,fO (fun _=>?_) (fun _=>?_)⟩⟩⟩
 .exact⟨_,rfl,_,rfl,_,rfl,a,ns,_,rfl,t,b,eO ⟨⟨by decide,by decide,by decide⟩,eO ⟨(by show (0:Int)<10 ^ 30;decide),eO (q _ _ (aH.refl _) (by show -gM <= -1-eF ns k%10 ^ 30;unfold gM;omega) (by show -1-eF ns k%10 ^ 30<=gM;unfold gM;omega))⟩⟩⟩
 refine⟨_,rfl,eO ⟨⟨by decide,by decide⟩,eO ⟨(by show (0:Int)<3;decide),rfl,_,rfl,fO (fun _=>?_) (fun _=>?_)⟩⟩⟩
 .exact⟨_,rfl,_,rfl,_,rfl,a,ns,_,rfl,t,b,eO ⟨⟨by decide,by decide,by decide⟩,eO ⟨(by show (0:Int)<10 ^ 30;decide),eO (q _ _ (aH.refl _) (by show -gM<=(m:Int)+eF ns k%10 ^ 30;unfold gM;omega) (by show (m:Int)+eF ns k%10 ^ 30<=gM;unfold gM;omega))⟩⟩⟩
 obtain⟨v,d,l⟩:=mj.int_at (zs:=[-1,(m:Int)]) (i:=x/18%2) (by lia) (by show _<(2:Int);lia)
 have e:v = -1∨v=(m:Int):=by simpa using d
 refine⟨_,rfl,_,rfl,zJ (by show 2<=1000;decide),fun p o=>⟨_,rfl,eO ⟨⟨by decide,by decide⟩,eO ⟨(by show (0:Int)<2;decide),gJ (aU.of zC) l (q _ _ (zF o _) (by unfold gM;omega) (by unfold gM;omega))⟩⟩⟩⟩
inductive Hv(C:Addr)(vs:List V)(H:Hp)(Q:VK)(E_:XK):Prop
 | mk (Qc p ps pc pp pb:Addr) (c0 c:mZ) (s:S4) (_:vs=[.ref Qc,.ref p,.ref ps]) (_:xY C H p pc pp pb) (_:jJ H Qc c0) (_:jJ H pc c) (_:DP c) (_:c0.rs=c.rs) (_:cR H pp s) (_:cR H ps s) (_:jG c s) (_:Jw c s.os s.ks) (_:∀ H',aH H H'->Q (.bl true) H')
def Ce:aF ["_law_chart_here","_law_nest","_law_stand"] ["_law_chart_here","_law_nest","_law_stand"] (aA jc):=cQ
def Qg(F:bO K "_law_stands" "_law_stands" jc f fd)(cl:vC K C)
  (mS:Meth K C "stand" g1) (Y:aL P w K mg base aN m' g1 d1 ["self"] (Nh C)) (Zt:Binds K d1 ["self"] [])
  (mL:Meth K C "lamps" g2) (M:aL P w K mg base aN m' g2 d2 ["self"] (Ia C)) (Zu:Binds K d2 ["self"] [])
  (cB:Dp P w K mg base aN m' g3 d3 ["_law_found","_law_due"] (ou 4) "_law_same")
  (aj:mg "tuple" = none):aL P w K mg base aN (m'+1) f fd ["_law_chart_here","_law_nest","_law_stand"] (Hv C):=by
 refine F.ok Ce ?_ ?_
 .rintro _ _ _ _⟨Qc,p,ps,O,G,T,c0,c,st,rfl,_⟩;rfl
 intro _ A _ s H vs Q E g h
 obtain⟨Qc,p,ps,O,G,T,c0,c,st,rfl,N,L,hX,ok,er,l,u,S,j,q⟩:=h
 refine⟨_,(zE (yE (bY (aY (pC cB g (zA (jg (pv 1) cl mS Y g Zt .nil yF) (zA (pv 2) zD)))))
  (zG (zP gG))
  zU)
  (zG (zP (pC cB g (zA (jg (pv 1) cl mL M g Zu .nil yF) (zA (yB zY rfl aj qt (zA (yU (bF:=[(0,"_law_chart_here")]) rfl (show bA (aA jc) ["_law_chart_here","_law_nest","_law_stand"] _ _ _ from vA) (nQ (yC zH (pv 2) zB (fun _ _=>rfl))) (fun _ _ _ _ _ _=>cW (zM pN (yC (r:=dM K) zH (yC (r:=dM K) zH (yC (r:=dM K) zH (pv 1) zB (fun _ _=>rfl)) (pv 0) (fun _ _=>rfl)) zB (fun _ _=>rfl)) zQ (zS _))) (fun _ _ _ _ _ _=>(yC (r:=dM K) zH (yC (r:=dM K) zH (yC (r:=dM K) zH (pv 1) zB (fun _ _=>rfl)) (pv 0) (fun _ _=>rfl)) zB (fun _ _=>rfl)))) zD)) zD)))))),?_⟩
 obtain⟨dx,fs,h1,h2⟩:=id N;have no:∀ x∈[("first" : Str),"run","stand","lamps"],fs.lookup x=none:=h2.no;have a1:DW H 3 (.ref G) (.ref ps):=qDC l u S.Oi (by rw[S.bx];have:=ok.b6;lia) (by rw[j.len];exact ok.r40) fun r g=>(j.row r g).2;refine⟨_,rfl,p,dx,fs,rfl,h1,no _ (by decide +kernel),p,O,G,T,rfl,N,_,rfl,_,_,3,rfl,by decide,a1,_,rfl,eE rfl ?_⟩;refine⟨_,rfl,p,dx,fs,rfl,h1,no _ (by decide +kernel),p,O,G,T,c,st,rfl,N,hX,ok,l,S,fun _ H1 d J=>?_⟩;obtain⟨_,t,_,_,_,_,c1,_,_,⟨rv,X,Z⟩,_⟩:=L;obtain⟨po,_,_,_,y,k,_⟩:=u;have lno:=zV st.os
 have hR:dW H1 t c.rs:=by rw[<-er];exact⟨rv,d _ _ X,Z.mono (aB.of d)⟩
 have m:=d _ _ c1;have n:=d _ _ k;refine⟨_,rfl,aG (aJ.of (d _ _ y)) rfl ⟨po,rfl,⟨_,aJ.of n⟩,?_⟩⟩;refine ig (K:=K) (a:=po) (xs:=aC st.os) (fun i b I=>I=H1/\b=(dz c.rs (st.os.take i)).map V.str) ⟨rfl,rfl⟩ (fun i b I ⟨e,_⟩=>by subst e;exact aJ.of n) (fun i x b I B ⟨y,k⟩=>?_) (fun b I ⟨y,k⟩ p1 W=>?_)
 .subst y k
  have hi:i<st.os.length:=by
   have:=(oW.mp B).1;rw[zV]at this;exact this
  have eo:=fQ hi
  obtain rfl:x = .int ((st.os[i]:Nat):Int):=by
   unfold aC at B;rw[dZ,eo]at B;exact (kJ B).symm
  obtain⟨vs,a,r,ht,_,R,o,ha⟩:=hR.at (S.lt _ (lQ hi));have ll:=XR.pR c.rs (st.os.take i);rw[iQ]at ll;have D:=XR.uR eo R;have Oi:=S.Oi;refine⟨_,rfl,aG (aJ.of m) rfl ⟨_,rfl,t,vs,_,_,rfl,rfl,aJ.of ht,o,aG (aJ.of ha) rfl ⟨rfl,_,rfl,?_⟩⟩⟩;refine fO (fun c=>?_) (fun c=>?_)
  .rw[XR.Jq]at c;rw[cS c]at D;refine⟨_,rfl,aG (aJ.of m) rfl ⟨_,rfl,t,vs,_,_,rfl,rfl,aJ.of ht,o,aG (aJ.of ha) rfl ⟨zW (by rw[bT];lia),rfl,?_⟩⟩⟩;rw[D,qz];rfl
  .rw[XR.Jq]at c;rw[cK (by rw[c];decide),oY]at D;exact⟨rfl,by rw[D]⟩
 subst y k;rw[lno,ib];have s2:=zF W (.lst ((dz c.rs st.os).map V.str));refine⟨p1,_,rfl,.inl ⟨aU.of zC,fun _ U=>?_⟩⟩;have s3:=s2.trans (zF U (.tup ((dz c.rs st.os).map V.str)));have ll:=XR.pR c.rs st.os;have Oi:=S.Oi;refine⟨_,_,1,rfl,by decide,um (s3 _ _ J) zC (by rw[bT];lia) fun v hv=>?_,q _ (d.trans s3)⟩;obtain⟨z,_,rfl⟩:=eX.mp hv;exact .inl ⟨z,rfl⟩
inductive Dj(C:Addr)(vs:List V)(H:Hp)(Q:VK)(E_:XK):Prop
 | mk (p pc pp pb:Addr) (c:mZ) (bs:List (Int×Int)) (ne:Nat) (ev:Int) (w:V) (s:S4) (_:vs=[.ref p,.int ev,w]) (_:xY C H p pc pp pb) (_:mj.Sy H pc c bs ne) (_:mj.uw c bs) (_:cR H pp s) (_:jG c s) (_:Jw c s.os s.ks) (_:s.l=[]) (_ : -gM<=ev) (_:ev<=gM) (_:¬ (0<=ev/\ev<(ne:Int))) (_:∀ H',aH H H'->Q (.bl true) H')
section
variable{P:ag}{w:aI}{K:bV}{mg:Str->aE av}{base:Heap}{C CN CE cb ct cw cu cr cn:ar}
def fW:aF ["_law_nest","_law_event_here","_law_way","_law_bad","e"] ["_law_nest","_law_event_here","_law_way"] (aA kY):=cQ
def Ln(F:bO K "_law_refused" "_law_refused" kY f fd)(cl:vC K C)
  (mR:Meth K C "run" g1) (T:aL P w K mg base (Ke P w) m' g1 d1 ["self","event"] (Tc C CN 3)) (M:Binds K d1 ["self","event"] [])
  (cB:Dp P w K mg base aN m' g2 d2 ["_law_found","_law_due"] (ou 4) "_law_same")
  (vZ:mg "NoEvent" = some (.ref CN)) (U:mg "NestError" = some (.ref CE)) (MK:mg "BadChart" = some (.ref cb)) (Vi:mg "NoName" = some (.ref cn)) (Z9:mg "NoRow" = some (.ref cr)) (RJ:mg "NoWords" = some (.ref cw)) (RG:mg "TooWide" = some (.ref ct)) (Vh:mg "Unread" = some (.ref cu)) (X:mg "isinstance" = none) (Gh:mg "ValueError" = none)
  (Q9:PySem.W.exmOne K (.ref CN) (.ref CN)=some true) (Hs:PySem.W.exmOne K (.ref CN) (.ref CE)=some true) (b:wJ K CN) (qS:HR K CN "event") (kt:PySem.W.kitOne K (.ref CN) (.ref CE)=some true) (kv:PySem.W.kitOne K (.ref CN) (.type "ValueError")=some true) (ka:PySem.W.kitAny K (.ref CN) ([cb,cn,cr,cw,ct,cu].map Value.ref)=some false) :
  aL P w K mg base aN (m'+1) f fd ["_law_nest","_law_event_here","_law_way"] (Dj C):=by
 refine F.ok fW ?_ ?_
 .rintro _ _ _ _⟨p,O,t,B,c,bs,ne,a,w',st,rfl,_⟩;rfl
 intro _ A _ s H _ Q E l h
 obtain⟨p,O,t,B,c,bs,ne,a,w',st,rfl,N,hX,ok,G,D,j,l0,b0,b1,n,q⟩:=h
 refine⟨_,(zE (zL (i:=3) fW.nd rfl (bb rfl) iw)
  (zE (UW (i:=4) (JG (JH (pv 0) cl mR T l M .nil (zA (pv 1) zD))) rfl vZ fW.nd rfl rfl (fun _=>(zG (zL (i:=3) fW.nd rfl (bb rfl) (pv 4)))))
  (zE (yE (bZ (PW.pt (pw_or (zM Li (pv 3) iw (zS _)) (pw_or (bY (aY (zT (r:=qAJ K) Rt rfl X xN (zA (pv 3) (zA (bC (v:=.ref CE) rfl U rfl) zD))))) (pw_or1 (bY (aY (zT (r:=qES K) X6 rfl X xN (zA (pv 3) (zA (iK (v:=.ty "ValueError") rfl Gh PyProof.Rows.Boot.«ValueError» rfl) zD))))))))))
  (zG (zP gG))
  zU)
  (zE (yE (bZ (PW.pt (pw_or (aY (zT (r:=qAI K) Rr rfl X xN (zA (pv 3) (zA (zX (zA (bC (v:=.ref cb) rfl MK rfl) (zA (bC (v:=.ref cn) rfl Vi rfl) (zA (bC (v:=.ref cr) rfl Z9 rfl) (zA (bC (v:=.ref cw) rfl RJ rfl) (zA (bC (v:=.ref ct) rfl RG rfl) (zA (bC (v:=.ref cu) rfl Vh rfl) zD))))))) zD)))) (pw_or1 (bY (aY (pC cB l (zA (show PE _ _ (qAC K (qB9 3) "event") from Yl (pv 3) rfl) (zA (pv 1) zD)))))))))
  (zG (zP gG))
  zU)
  (zE (qBU (JG (JH (pv 0) cl mR T l M .nil (zA (pv 1) zD))) rfl U (fun _=>(zG (zP gG))))
  (zG (zP gG))))))),?_⟩
 obtain⟨J,fs,L,h2⟩:=id N;obtain⟨R,f2⟩:=Wl b0 b1;have Z:fs.lookup ("run" : Str)=none:=h2.no _ (by decide +kernel);refine⟨_,rfl,p,J,fs,rfl,L,Z,_,rfl,p,O,t,B,c,bs,ne,a,st,rfl,N,hX,ok,bD _,G,D,j,l0,R,f2,fun k o=>eu ⟨k,o⟩ n,fun _ d W s1 nd g=>⟨CN,rfl,Q9,fun e z=>?_⟩⟩;have u:=zF z (wD e CN (some d));have I:upd W e (wD e CN (some d)) e=some (wD e CN (some d)):=zC;generalize upd W e (wD e CN (some d))=H2 at u I ⊢;have S:=s1.trans u;refine⟨_,rfl,?_⟩;refine⟨fun cx x=>H2=x/\cx=false,⟨_,rfl,rfl,_,rfl,eE rfl ⟨_,rfl,e,CN,CE,_,true,rfl,I,b,kt,_,rfl,eE rfl ⟨_,rfl,e,CN,_,"ValueError",true,rfl,I,b,kv,_,rfl,rfl,rfl⟩⟩⟩,?_⟩;rintro cx _ ⟨rfl,rfl⟩;refine eE rfl ?_;refine⟨fun cx x=>aH H2 x/\cx=false,⟨_,rfl,zJ (by show 6<=1000;decide),fun tp m=>?_⟩,?_⟩
 .have Y:=zF m (.tup ([cb,cn,cr,cw,ct,cu].map V.ref));exact⟨e,CN,tp,_,[cb,cn,cr,cw,ct,cu],false,rfl,Y _ _ I,b,zC,ka,_,rfl,eE rfl ⟨_,rfl,e,CN,d,_,V.int a,rfl,Y _ _ I,b,qS,(u.trans Y) _ _ g,rfl,_,rfl,_,_,0,rfl,by decide,.int a,_,rfl,Y,rfl⟩⟩
 rintro cx _ ⟨Y,rfl⟩;refine eE rfl ?_;have y:=S.trans Y;refine⟨_,rfl,p,J,fs,rfl,y _ _ L,Z,_,rfl,p,O,t,B,c,bs,ne,a,st,rfl,N.mono y,hX.mono (aB.of y),ok,bD _,G.mono (aB.of y),D,j,l0,R,f2,fun k o=>eu ⟨k,o⟩ n,fun _ _ _ s4 nd _=>⟨Hs,q _ (y.trans s4)⟩⟩
end
def qEV:Passes (Ke P w) X E0:=fun _ _ _ _ _ _ _ h=>by
 obtain⟨_,_,_,_,_,_,_,_,_,_,_,_,_,_,_,h⟩:=h;exact h.elim
def Kx(x:ar)(H h:Hp):Prop:=∀ b o,H b=some o->b≠x->h b=some o
def Kx.tup(k:Kx x H H')(N:∀ xs,H x≠some (.tup xs)):aB H H':=fun b xs e=>k b _ e fun z=>N xs (z▸e)
def VM(h:jG c s):jG c (nl s):=⟨h.inc,h.lt,h.Oi,h.bx,h.ks,bo _⟩
def NW(C:ar)(H:Hp)(O n ps B:ar)(c:mZ)(I:aw En)(s:S4):Prop:=∃ o b,xY C H n O o B/\H B=some (.lst b)/\Al (iz H) b I/\cR H o s/\cR H ps s/\jG c s/\Jw c s.os s.ks/\s.l=[]
def NW.mono(h:NW C H pc np ps pb c ie s)(k:Kx x H H')(N:∀ xs,H x≠some (.tup xs))(n:np≠x)(e:pb≠x):NW C H' pc np ps pb c ie s:=by obtain⟨o,b,⟨D,fs,a,l⟩,p,j,f,d,u⟩:=h;have T:=k.tup N;exact⟨o,b,⟨D,fs,k _ _ a n,l⟩,k _ _ p e,j.mono fun _ _ z=>z.mono T,f.mono T,d.mono T,u⟩
def NW.same(h:NW C H pc np ps pb c ie s)(k:aH H H'):NW C H' pc np ps pb c ie s:=by obtain⟨o,b,a,p,j,f,d,u⟩:=h;have T:=aB.of k;exact⟨o,b,a.mono k,k _ _ p,j.mono fun _ _ z=>z.mono T,f.mono T,d.mono T,u⟩
structure W2(C:Addr)(pc np pb:Nat->Addr)(c:Nat->mZ)(bs:List (Int×Int))(ne:Nat)(ie:Nat->List En)(s0:Nat->S4)(ps:Nat->Addr)(s:Nat->S4)(H:Hp):Prop where
 X4:∀ w,w<2->mj.Sy H (pc w) (c w) bs ne
 ok:∀ w,w<2->mj.uw (c w) bs
 rs:∀ w,w<2->(c w).rs=(c 0).rs
 beg:∀ w,w<2->Xm (c w) bs (ie w) (s0 w)/\(ie w).length<=1000000
 nw:∀ w,w<2->NW C H (pc w) (np w) (ps w) (pb w) (c w) (ie w) (s w)
 dif:np 0≠np 1
def W2.mono(h:W2 C pc np pb c bs ne ie s0 ps s H)(k:Kx x H H')(N:∀ xs,H x≠some (.tup xs))(b:∀ w,w<2->np w≠x)(n:∀ w,w<2->pb w≠x):W2 C pc np pb c bs ne ie s0 ps s H':=
 ⟨fun w a=>(h.X4 w a).mono (k.tup N),h.ok,h.rs,h.beg,fun w a=>(h.nw w a).mono k N (b w a) (n w a),h.dif⟩
def W2.same(h:W2 C pc np pb c bs ne ie s0 ps s H)(k:aH H H'):W2 C pc np pb c bs ne ie s0 ps s H':=
 ⟨fun w a=>(h.X4 w a).mono (aB.of k),h.ok,h.rs,h.beg,fun w a=>(h.nw w a).same k,h.dif⟩
def W2.lst(h:W2 C pc np pb c bs ne ie s0 ps s H)(d:H x=some (.lst xs))(N:∀ w,w<2->pb w≠x):W2 C pc np pb c bs ne ie s0 ps s (upd H x o):=by
 refine h.mono (x:=x) (fun b o e z=>by rw[zR z];exact e) (fun _ e=>by rw[d]at e;cases e) (fun w f z=>?_) N;obtain⟨_,_,⟨_,_,a,_⟩,_⟩:=h.nw w f;rw[z,d]at a
 cases a
def W2.bl(h:W2 C pc np pb c bs ne ie s0 ps s H)(b:w<2)(N:H y=none):pb w≠y:=by obtain⟨_,_,_,a,_⟩:=h.nw w b;exact zN a N
def W2.put(h:W2 C pc np pb c bs ne ie s0 ps s H)(x:NW C H (pc i) (np i) p' (pb i) (c i) (ie i) s'):W2 C pc np pb c bs ne ie s0 (fun k=>if k=i then p' else ps k) (fun k=>if k=i then s' else s k) H:=by
 refine⟨h.X4,h.ok,h.rs,h.beg,fun w a=>?_,h.dif⟩
 by_cases e:w=i
 .subst e;rw[cS rfl,cS rfl];exact x
 .rw[cK e,cK e];exact h.nw w a
theorem two{P:Nat->Prop}(d:P 0)(H:P 1):∀ w,w<2->P w:=fun w h=>by
 match w,h with
 | 0,_=>exact d
 | 1,_=>exact H
def sel{α:Type}(a b:α):Nat->α
 | 0=>a
 | _+1=>b
def cC(f:Nat->ar):aw V:=[.ref (f 0),.ref (f 1)]
theorem nR(f:Nat->ar){w:Nat}(h:w<2):mX (cC f) (w:Int)=some (.ref (f w)):=by
 match w,h with
 | 0,_=>rfl
 | 1,_=>rfl
def mD(f:Nat->ar){w:Nat}(h:w<2):mX (cC f) (0+(w:Int))=some (.ref (f w)):=by rw[cf];exact nR f h
theorem qD3{f:Nat->ar}{v u:Nat}(d:f 0≠f 1)(H:v<2)(h:u<2)(z:v≠u):f v≠f u:=
 match v,u,H,h,z with
 | 0,0,_,_,z=>eu rfl z
 | 0,1,_,_,_=>d
 | 1,0,_,_,_=>bE d
 | 1,1,_,_,z=>eu rfl z
theorem Yo(f:Nat->ar){u:Nat}(h:u<2):Su (cC f).length (u:Int)=some u:=
 match u,h with
 | 0,_=>rfl
 | 1,_=>rfl
theorem Uk(f:Nat->ar)(h:w<2)(p:ar):(cC f).set w (.ref p)=cC fun k=>if k=w then p else f k:=by
 match w,h with
 | 0,_=>rfl
 | 1,_=>rfl
def U9(f:Nat->ar)(i:Nat)(p:ar):((List.range i).map fun w=>V.ref (f w))++[.ref p]=(List.range (i+1)).map fun w=>V.ref (if w=i then p else f w):=by
 rw[List.range_succ,qz];congr 1
 .refine List.map_congr_left fun w h=>?_;have:=hJ.mp h;rw[cK (by omega)]
 .show [V.ref p]=[V.ref (if i=i then p else f i)];rw[cS rfl]
inductive Tg(K:bV)(vs:List V)(H:Hp)(Q:VK)(E_:XK):Prop
 | mk (a:Addr) (ns:List Int) (_:vs=[.ref a]) (_:aU K H a (ns.map V.int)) (_:ns.length<=63) (_:∀ H',Q (.bl true) H')
def eZ:aF ["_law_script","_law_chart_here","_law_other","_law_charts","_law_nests","_law_stands_here","_law_who","_law_due","_law_told","_law_k","_law_event_here"] ["_law_script"] (aA wX):=cQ
def qC4{f gi g1 g2 g3 g4 g5 g6 g7 g8 gF gR:ar}{fd di d1 d2 d3 d4 d5 d6 d7 d8 dF dR:af}(F:bO K "law" "law" wX f fd)(cl:vC K C)(MkN:Mk K C gi)
  (qJ:aL P w K mg base aN m' gi di ["self","chart"] (Nj C 3)) (qF:Binds K di ["self","chart"] []) (Vj:mg "Nest" = some (.ref C))
  (mF:Meth K C "first" gF) (Q7:aL P w K mg base aN (m'+1) gF dF ["self"] (Nq C)) (Px:Binds K dF ["self"] [])
  (mR:Meth K C "run" gR) (Q6:aL P w K mg base (Ke P w) (m'+1) gR dR ["self","event"] (Tc C CN 3)) (Pu:Binds K dR ["self","event"] [])
  (KH:Dp P w K mg base aN (m'+1) g1 d1 ["_law_script"] (CJ.Io K) "_law_chart")
  (yw:Dp P w K mg base aN (m'+1) g2 d2 ["chart"] (Fi 3) "begun")
  (Hh:Dp P w K mg base aN (m'+1) g3 d3 ["chart","stand","event"] (Fj 3) "after")
  (cB:Dp P w K mg base aN (m'+1) g4 d4 ["_law_found","_law_due"] (ou 4) "_law_same")
  (uo:Dp P w K mg base aN (m'+1) g5 d5 ["_law_chart_here","_law_nest","_law_stand"] (Hv C) "_law_stands")
  (aM:Dp P w K mg base aN (m'+1) g6 d6 ["_law_script","_law_k","_law_salt"] (jC K) "_law_mixed")
  (KC:Dp P w K mg base aN (m'+1) g7 d7 ["_law_script","_law_k","_law_events"] (Nr K) "_law_event")
  (DK:Dp P w K mg base aN (m'+1) g8 d8 ["_law_nest","_law_event_here","_law_way"] (Dj C) "_law_refused")
  (uQ:mg "int" = none) (aP:mg "len" = none) (Vg:mg "min" = none) (az:mg "range" = none):aL P w K mg base aN (m'+2) f fd ["_law_script"] (Tg K):=by
 refine F.ok eZ ?_ ?_
 .rintro _ _ _ _⟨a,ns,rfl,_⟩;rfl
 intro _ A _ s H _ Q E hr h
 obtain⟨a,ns,rfl,hS,h63,q⟩:=h
 refine⟨_,(zE (zL (i:=1) eZ.nd rfl (bb rfl) (pC KH hr (zA (pv 0) zD)))
  (zE (zL (i:=2) eZ.nd rfl (bb rfl) (pL (yD GR (zX (zA (yC yV (yL (zA zQ (zA zQ zD))) (yB Er rfl uQ ke (zA (bK yH (yC zH (pv 1) zB (fun _ _=>rfl)) zQ (zS _)) zD)) (fun _ _=>rfl)) (zA (yC zH (pv 1) zB (fun _ _=>rfl)) (zA (yD yG zB (yD zZ (yC zH (pv 1) zB (fun _ _=>rfl)) zB)) zD)))) (dN rM (pv 1) (fu zB) gA))))
  (zE (zL (i:=3) eZ.nd rfl (bb rfl) (yL (zA (pv 1) (zA (pv 2) zD))))
  (zE (zL (i:=4) eZ.nd rfl (bb rfl) (yL (zA (ym MkN qJ hr rfl Vj qF .nil yF (zA (pv 1) zD)) (zA (ym MkN qJ hr rfl Vj qF .nil yF (zA (pv 2) zD)) zD))))
  (zE (zL (i:=5) eZ.nd rfl (bb rfl) (yL zD))
  (yA (bf PassesOwn.never rfl (cg rfl az (zA zB zD)) (yK (i:=6) eZ.nd rfl (bb rfl))
  (zE (zL (i:=7) eZ.nd rfl (bb rfl) (pC yw hr (zA (yC yV (pv 3) (pv 6) (fun _ _=>rfl)) zD)))
  (zE (yJ (dU iu yz yx yI (pv 5) (zA (yC zH (pv 7) zB (fun _ _=>rfl)) zD)))
  (zE (zL (i:=8) eZ.nd rfl (bb rfl) (jg (yC yV (pv 4) (pv 6) (fun _ _=>rfl)) cl mF Q7 hr Px .nil yF))
  (zE (yE (bZ (PW.pt (pw_or (bY (aY (pC cB hr (zA (pv 8) (zA (yC zH (pv 7) zB (fun _ _=>rfl)) zD))))) (pw_or1 (bY (aY (pC uo hr (zA (yC yV (pv 3) (pv 6) (fun _ _=>rfl)) (zA (yC yV (pv 4) (pv 6) (fun _ _=>rfl)) (zA (yC zH (pv 7) zB (fun _ _=>rfl)) zD))))))))))
  (zG (zP gG))
  zU)
  (zG (yJ (dU iu yz yx yI (pv 8) (zA (zX (zA zQ (zA zQ zD))) zD)))))))))
  (yA (bf PassesOwn.never rfl (cg rfl az (zA (zT (Ep rfl) rfl Vg PyProof.Rows.boot_min (zA (zT zO rfl aP bj (zA (pv 0) zD)) (zA zB zD))) zD)) (yK (i:=9) eZ.nd rfl (bb rfl))
  (zE (zL (i:=6) eZ.nd rfl (bb rfl) (pL (yD zZ (pC aM hr (zA (pv 0) (zA (pv 9) (zA zB zD)))) zB)))
  (zE (zL (i:=10) eZ.nd rfl (bb rfl) (pC KC hr (zA (pv 0) (zA (pv 9) (zA (zT zO rfl aP bj (zA (yC zH (pv 1) zB (fun _ _=>rfl)) zD)) zD)))))
  (yA (yE (Av fJ mH zB (pv 10) (zT zO rfl aP bj (zA (yC zH (pv 1) zB (fun _ _=>rfl)) zD)))
  (zE (zL (i:=7) eZ.nd rfl (bb rfl) (pC Hh hr (zA (yC yV (pv 3) (pv 6) (fun _ _=>rfl)) (zA (yC yV (pv 5) (pv 6) (fun _ _=>rfl)) (zA (pv 10) zD)))))
  (zE (zL (i:=8) eZ.nd rfl (bb rfl) (Od (yC yV (pv 4) (pv 6) (fun _ _=>rfl)) cl mR Q6 hr Pu .nil qEV (zA (pv 10) zD)))
  (zE (yE (bY (aY (pC cB hr (zA (pv 8) (zA (yC zH (pv 7) zB (fun _ _=>rfl)) zD)))))
  (zG (zP gG))
  zU)
  (zE (yJ (Uh iu PySem.F.slot_list_clear PySem.F.type_list_clear Vd (pv 8)))
  (zG (Ub (yC zH (pv 7) zB (fun _ _=>rfl)) (Ud (pv 5) (pv 6) set_list)))))))
  (zG (yE (bY (aY (pC DK hr (zA (yC yV (pv 4) (pv 6) (fun _ _=>rfl)) (zA (pv 10) (zA (pv 9) zD))))))
  (zG (zP gG))
  zU)))
  (zG (yE (bY (aY (pC uo hr (zA (pv 1) (zA (yC yV (pv 4) (pv 6) (fun _ _=>rfl)) (zA (yC yV (pv 5) (pv 6) (fun _ _=>rfl)) zD))))))
  (zG (zP gG))
  zU))))))
  (yA (bf PassesOwn.never rfl (cg rfl az (zA zB zD)) (yK (i:=6) eZ.nd rfl (bb rfl))
  (zG (yE (bY (aY (pC cB hr (zA (jg (yC yV (pv 4) (pv 6) (fun _ _=>rfl)) cl mF Q7 hr Px .nil yF) (zA (yC zH (pC yw hr (zA (yC yV (pv 3) (pv 6) (fun _ _=>rfl)) zD)) zB (fun _ _=>rfl)) zD)))))
  (zG (zP gG))
  zU)))
  (zG (zP gG)))))))))),?_⟩
 refine⟨_,rfl,a,ns,rfl,hS,h63,fun Qc cc H1 s1 hcc gg t4=>?_⟩;obtain⟨c0,bs,hX0,rn⟩:=gg.runs hcc;have ok0:=rn.ok;obtain⟨tb,te,tr,td,L,rv,dv,i1,i2,i3,i4,i5,i6,i7,i8⟩:=id hcc;refine⟨fun v Hx=>aH H1 Hx/\∃(T:ar)(od:Str)(tn:Nat),v = .ref T/\Hx T=some (.tup [.str od,.int cc.letters,.int (tn:Int),.ref tb,.ref te,.ref tr,.ref td])/\(od = "inner" ∨ od = "outer")/\1<=tn/\tn<=5,?_,?_⟩
 .obtain⟨n,_,_⟩:=t4;obtain⟨_,_,_,_⟩:=gg.tn
  obtain⟨od,hat,hod⟩:∃ od:Str,mX [V.str "inner",V.str "outer"] (if decide (V.str cc.order=V.str "inner")=true then 1 else 0)=some (.str od)/\(od = "inner" ∨ od = "outer"):=by
   rcases gg.od with z | z
   .rw[z];exact⟨"outer",rfl,.inr rfl⟩
   .rw[z];exact⟨"inner",rfl,.inl rfl⟩
  refine⟨zJ (by show 2<=1000;decide),fun p1 hp1=>?_⟩;have s3:=zF hp1 (.lst [V.str "inner",V.str "outer"]);have i3':=s3 _ _ i1;have j3:upd H1 p1 (.lst [V.str "inner",V.str "outer"]) p1=some (.lst [V.str "inner",V.str "outer"]):=zC;generalize upd H1 p1 (.lst [V.str "inner",V.str "outer"])=H3 at s3 i3' j3 ⊢;refine⟨_,rfl,aG (aJ.of i3') rfl ⟨rfl,.inr ⟨_,rfl,gJ (aU.of j3) hat ⟨_,rfl,aG (aJ.of i3') rfl ⟨_,rfl,aG (aJ.of i3') rfl (eO ⟨(by show (0:Int)<20;decide),eO ⟨zJ (by show 3<=1000;decide),fun p2 hp2=>?_⟩⟩)⟩⟩⟩⟩⟩
  have et:1+cc.turns%20=((n+1:Nat):Int):=by omega
  have s4:=zF hp2 (.tup [.str od,.int cc.letters,.int (1+cc.turns%20)]);have i4':=s4 _ _ i3';have j4:upd H3 p2 (.tup [.str od,.int cc.letters,.int (1+cc.turns%20)]) p2=some (.tup [.str od,.int cc.letters,.int (1+cc.turns%20)]):=zC;refine⟨_,rfl,_,rfl,Qc,_,rfl,aJ.of i4',(by show ¬ (HT.gj 7 0 (some 3)=0/\HT.gj 7 7 none=7);decide),fun p3 hp3=>?_⟩;have s5:=zF hp3 (.tup [.ref tb,.ref te,.ref tr,.ref td]);refine⟨p2,p3,_,_,rfl,rfl,aJ.of (s5 _ _ j4),aJ.of zC,nofun,zJ (by show 7<=1000;decide),nofun,fun _ p4 hp4=>?_⟩;have s6:=zF hp4 (.tup ([.str od,.int cc.letters,.int (1+cc.turns%20)]++[.ref tb,.ref te,.ref tr,.ref td]));refine⟨((s3.trans s4).trans s5).trans s6,p4,od,n+1,rfl,?_,hod,by omega,by omega⟩;rw[<-et];exact zC
 rintro _ H2 ⟨s2,T,od2,tn2,rfl,hpo,hod,tn1,tn5⟩;have qGH:gW.jJ H2 T { cc with order:=od2,turns:=(tn2:Int) }:=⟨tb,te,tr,td,L,rv,dv,hpo,s2 _ _ i2,gW.gP.mono i3 (aB.of s2),s2 _ _ i4,s2 _ _ i5,gW.cL.mono i6 (aB.of s2),s2 _ _ i7,gW.jx.mono i8 (aB.of s2)⟩;have gg2:=gg.other hod tn1 tn5;obtain⟨ne,ene⟩:∃ ne,ne=cc.evs.length:=⟨_,rfl⟩
 have e8:ne<=8:=by rw[ene];exact gg.e8
 rw[<-ene]at hX0
 have hX2:mj.Sy H2 T { c0 with od:=od2,tn:=tn2 } bs ne:=by
  obtain⟨Oe,pn,t,pd,bv',nv',rv',dv',z1,z2,z3,z4,z5,z6,z7,z8,z9,z10⟩:=hX0;have z:=kJ (i1.symm.trans z1);simp only[HO.tup.injEq,List.cons.injEq,V.str.injEq,V.int.injEq,V.ref.injEq,and_true]at z;obtain⟨_,y2,_,rfl,rfl,rfl,rfl⟩:=z;have kt:=aB.of s2;exact⟨tb,te,tr,td,bv',nv',rv',dv',by rw[hpo,y2],kt _ _ z2,z3.mono fun _ _ y=>y.mono kt,kt _ _ z4,z5,kt _ _ z6,z7.mono kt,z8.mono kt,kt _ _ z9,z10.mono fun _ _ y=>y.mono kt⟩
 have ok2:=CJ.Um (od:=od2) ok0 tn1 tn5;have hX1:=hX0.mono (aB.of s2);have qGI:=hcc.mono (aB.of s2);have s02:=s1.trans s2;clear i1 i2 i3 i4 i5 i6 i7 i8 hX0 hcc rn;refine⟨_,rfl,_,rfl,zJ (by show 2<=1000;decide),fun Y qL6=>?_⟩;have s3:=zF qL6 (.lst [.ref Qc,.ref T]);have i3:upd H2 Y (.lst [.ref Qc,.ref T]) Y=some (.lst (cC (sel Qc T))):=zC;generalize upd H2 Y (.lst [.ref Qc,.ref T])=H3 at s3 i3 ⊢;have YT:=s02.trans s3
 have made:∀ {Hz:Hp} {x dx:ar},Hz x=none->Hz dx=none->aH Hz (upd (upd Hz dx (.own x)) x (.ins C dx [])):=fun nx nd b o e=>by rw[zR (zN e nx),zR (zN e nd)];exact e
 refine⟨_,rfl,fun x1 dx1 nx1 qKQ _=>?_⟩;have m1:=made nx1 qKQ;refine⟨x1,dx1,Qc,cc,c0,bs,ne,rfl,zC,qGI.mono (aB.of (s3.trans m1)),gg,hX1.mono (aB.of (s3.trans m1)),ok0,bD _,fun ps1 pw1 wv1 es1 st1 H4 BR1 j1 so1 k1 ns1 l qG4 qF1 hA1 le1=>⟨rfl,?_⟩⟩;have s4:aH H3 H4:=fun b o e=>k1 b o (m1 b o e) (zN e nx1);have qF0:H3 pw1=none:=m1.free qF1;have s24:=s3.trans s4;refine⟨_,rfl,fun x2 dx2 nx2 qKP _=>?_⟩;have m2:=made nx2 qKP;refine⟨x2,dx2,T,_,_,bs,ne,rfl,zC,qGH.mono (aB.of (s24.trans m2)),gg2,hX2.mono (aB.of (s24.trans m2)),ok2,bD _,fun ps2 pw2 wv2 es2 st2 H5 BR2 j2 so2 k2 ns2 G qG1 qEZ W4 le2=>⟨rfl,zJ (by show 2<=1000;decide),fun Ka qG7=>?_⟩⟩;have s5:aH H4 H5:=fun b o e=>k2 b o (m2 b o e) (zN e nx2);have qEY:H4 pw2=none:=m2.free qEZ;have s25:=s24.trans s5
 have W0:W2 C (sel Qc T) (sel x1 x2) (sel pw1 pw2) (sel c0 { c0 with od:=od2,tn:=tn2 }) bs ne (sel es1 es2) (sel st1 st2) (sel ps1 ps2) (fun w=>nl (sel st1 st2 w)) H5:=by
  refine⟨two (hX1.mono (aB.of s25)) (hX2.mono (aB.of s25)),two ok0 ok2,two rfl rfl,two ⟨BR1,le1⟩ ⟨BR2,le2⟩,two ?_ ?_,fun z=>?_⟩
  .exact NW.same ⟨ps1,wv1,ns1,qG4,hA1,cR.tail l [],cR.tail l [],VM so1,j1,rfl⟩ s5
  .exact⟨ps2,wv2,ns2,qG1,W4,cR.tail G [],cR.tail G [],VM so2,j2,rfl⟩
  .obtain⟨dx,fs,y1,_⟩:=ns1;have z':x1=x2:=z;rw[z',nx2]at y1
   cases y1
 have s05:=(YT.trans s4).trans s5;obtain⟨O,N,X,c,ie,s0,ps,W5,qCW,ex,n0,ep0⟩:∃(O N X:Nat->ar)(c:Nat->mZ)(ie:Nat->aw En)(s0:Nat->S4)(ps:Nat->ar),W2 C O N X c bs ne ie s0 ps (fun w=>nl (s0 w)) H5/\H5 Y=some (.lst (cC O))/\cC N=[.ref x1,.ref x2]/\(∀ w,w<2->H (N w)=none)/\O 0=Qc:=⟨_,_,_,_,_,_,_,W0,(s4.trans s5) _ _ i3,rfl,two (YT.free nx1) ((YT.trans s4).free nx2),rfl⟩;clear W0;subst ep0;clear i3 qGI qGH hX1 hX2 ok2 gg2 made m1 k1 ns1 l qG4 qF1 hA1 qF0 m2 k2 ns2 G qG1 qEZ W4 qEY BR1 BR2 so1 so2 j1 j2 ok0;have s6:=zF qG7 (.lst [.ref x1,.ref x2])
 have i6:upd H5 Ka (.lst [.ref x1,.ref x2]) Ka=some (.lst (cC N)):=by rw[ex];exact zC
 generalize upd H5 Ka (.lst [.ref x1,.ref x2])=H6 at s6 i6 ⊢;have W6:=W5.same s6;refine⟨bo _,fun I Jm=>?_⟩;have s7:=zF Jm (.lst []);have i7:upd H6 I (.lst []) I=some (.lst []):=zC;have nst:H I=none:=(s05.trans s6).free Jm;have qF7:∀ w,w<2->X w≠I:=fun w hw=>W6.bl hw Jm;have ncs:Y≠I:=zN (s6 _ _ qCW) Jm;have nns:Ka≠I:=zN i6 Jm;generalize upd H6 I (.lst [])=H7 at s7 i7 ⊢;have W7:=W6.same s7;have s07:=(s05.trans s6).trans s7;have qGF:=(s6.trans s7) _ _ qCW;have qGB:=s7 _ _ i6;clear W5 W6 qCW i6 s5 s6 s7 Jm qG7 s4 s24 s25 s3;refine⟨fun σ' g=>∃(ps:Nat->ar)(S:Nat->S4),W2 C O N X c bs ne ie s0 ps S g/\aH H g/\g Y=some (.lst (cC O))/\g Ka=some (.lst (cC N))/\g I=some (.lst (cC ps))/\∃ o6 W J:aE V,σ'=[some (.ref a),some (.ref (O 0)),some (.ref T),some (.ref Y),some (.ref Ka),some (.ref I),o6,W,J,none,none],?_,?_⟩
 .refine⟨_,rfl,by decide,by decide,?_⟩;refine cI (fun i σ' g=>∃(ps:Nat->ar)(S:Nat->S4),W2 C O N X c bs ne ie s0 ps S g/\(∀ w,w<2->S w=nl (s0 w))/\aH H g/\g Y=some (.lst (cC O))/\g Ka=some (.lst (cC N))/\g I=some (.lst ((List.range i).map fun w=>V.ref (ps w)))/\∃ o6 W J:aE V,σ'=[some (.ref a),some (.ref (O 0)),some (.ref T),some (.ref Y),some (.ref Ka),some (.ref I),o6,W,J,none,none]) ⟨ps,_,W7,fun _ _=>rfl,s07,qGF,qGB,i7,none,none,none,rfl⟩ ?_ (fun _ _ ⟨ps,S,h1,_,h2,h3,h4,h5,h6⟩=>⟨ps,S,h1,h2,h3,h4,h5,h6⟩);rintro i _ H8 m ⟨ps,S,W8,esv,s08,B,r,p,o6,W,J,rfl⟩;have m:i<2:=m;refine⟨_,rfl,_,rfl,gJ (aU.of B) (mD O m) ⟨O i,c i,bs,ne,rfl,W8.X4 i m,W8.ok i m,bD _,fun t D pw wv es st H9 BR j9 so9 s9 ht hS9 Ek Z6 hA9 le9=>?_⟩⟩;obtain⟨rfl,rfl⟩:=Pq BR (W8.beg i m).1;have ZJ:=s9 _ _ p;have qKD:I≠pw:=zN p Z6;refine⟨_,rfl,.inl ⟨rfl,_,aU.of ZJ⟩,_,rfl,aG (aJ.of ht) rfl ⟨I,_,_,rfl,rfl,ZJ,iA (by rw[bT,List.length_range];lia:_<=2) (by rw[sizeLine_eq];decide),?_⟩⟩;rw[U9];have K1:=(W8.same s9).lst (o:=.lst ((List.range (i+1)).map fun w=>V.ref (if w=i then D else ps w))) ZJ qF7;have GD:=bW nst (s08.trans s9) (.lst ((List.range (i+1)).map fun w=>V.ref (if w=i then D else ps w)));have qBF:upd H9 I (.lst ((List.range (i+1)).map fun w=>V.ref (if w=i then D else ps w))) I=some (.lst ((List.range (i+1)).map fun w=>V.ref (if w=i then D else ps w))):=zC;have r10:∀ b,b≠I->upd H9 I (.lst ((List.range (i+1)).map fun w=>V.ref (if w=i then D else ps w))) b=H9 b:=fun b z=>zR z;generalize upd H9 I (.lst ((List.range (i+1)).map fun w=>V.ref (if w=i then D else ps w)))=HQ at K1 GD qBF r10 ⊢;have Vn:aB H9 HQ:=fun b xs e=>(r10 b fun z=>by rw[z,ZJ]at e;cases e).trans e;have uW:=(r10 _ ncs).trans (s9 _ _ B);have pW:=(r10 _ nns).trans (s9 _ _ r);have qG3:=(r10 _ (bE qKD)).trans Ek;obtain⟨pp,L,hN,U,hAb,l,G,so,j,l0⟩:=K1.nw i m;rw[esv i m]at l so j;obtain⟨dx,fs,h1,h2⟩:=id hN;refine⟨_,rfl,_,rfl,gJ (aU.of pW) (mD N m) ⟨N i,dx,fs,rfl,h1,h2.no _ (by decide +kernel),N i,O i,pp,X i,L,rfl,hN,U,fun qf hqf=>?_⟩⟩;have Z:=zF hqf (.lst L);have R:upd HQ qf (.lst L) qf=some (.lst L):=zC;generalize upd HQ qf (.lst L)=Kd at Z R ⊢;have MN:=aB.of Z;have qGM:=(K1.X4 i m).mono MN;have ok:=K1.ok i m;refine⟨fun cx Hx=>aH Kd Hx/\cx=false,⟨_,rfl,_,rfl,aG (aJ.of (MN _ _ (Vn _ _ ht))) rfl ⟨_,_,2,rfl,by decide,HJ R (Z _ _ qG3) (hAb.mono fun _ _ z=>z.mono MN) (hA9.mono fun _ _ z=>(z.mono Vn).mono MN) (br le9 (by decide)),true,rfl,eE rfl ⟨_,rfl,_,rfl,gJ (aU.of (Z _ _ uW)) (mD O m) ⟨_,rfl,_,rfl,gJ (aU.of (Z _ _ pW)) (mD N m) ⟨_,rfl,aG (aJ.of (MN _ _ (Vn _ _ ht))) rfl ⟨O i,N i,D,O i,pp,X i,c i,c i,nl (s0 i),rfl,hN.mono Z,qGM.ch ok,qGM.ch ok,ok.ok,rfl,l.mono MN,((cR.tail hS9 []).mono Vn).mono MN,so,j,fun Hy sy=>⟨true,rfl,sy,rfl⟩⟩⟩⟩⟩⟩⟩,?_⟩;rintro cx K5 ⟨s12,rfl⟩;refine eE rfl ?_;have wY:=Z.trans s12
  have lbv:L.length<=1000000:=by rw[hAb.length];exact (K1.beg i m).2
  refine⟨_,rfl,.inl ⟨rfl,_,aU.of (s12 _ _ R)⟩,zJ (by show 2<=1000;decide),fun pm hpm=>⟨qf,_,_,rfl,rfl,(zF hpm _) _ _ (s12 _ _ R),iA lbv (by rw[sizeLine_eq];decide),?_⟩⟩;have uF:=wY.trans (zF hpm (.tup [.str "say",.str "more"]));have q13:=(s12.trans (zF hpm (.tup [.str "say",.str "more"]))) _ _ R;generalize upd K5 pm (.tup [.str "say",.str "more"])=H13 at uF q13 ⊢;have W13:=(K1.same uF).put (i:=i) (p':=D) (s':=nl (s0 i)) ⟨pp,L,hN.mono uF,uF _ _ U,hAb.mono fun _ _ z=>z.mono (aB.of uF),l.mono (aB.of uF),((cR.tail hS9 []).mono Vn).mono (aB.of uF),so,j,rfl⟩;have nq:H qf=none:=GD.free hqf;refine⟨_,_,W13.lst q13 fun w hw=>K1.bl hw hqf,fun w hw=>?_,bW nq (GD.trans uF) _,?_,?_,?_,_,_,_,rfl⟩
  .show (if w=i then nl (s0 i) else S w)=_
   split
   .subst_vars;rfl
   .exact esv w hw
  .rw[zR (zN uW hqf)];exact uF _ _ uW
  .rw[zR (zN pW hqf)];exact uF _ _ pW
  .rw[zR (zN qBF hqf)];exact uF _ _ qBF
 rintro _ H8 ⟨ps1,sv1,W8,s08,qLG,qLC,qKX,o6,W,J,rfl⟩;clear W7 i7 qGF qGB;refine⟨fun σ' g=>∃(ps:Nat->ar)(S:Nat->S4),W2 C O N X c bs ne ie s0 ps S g/\aH H g/\g Y=some (.lst (cC O))/\g Ka=some (.lst (cC N))/\g I=some (.lst (cC ps))/\∃ o6 W J o9 vV:aE V,σ'=[some (.ref a),some (.ref (O 0)),some (.ref T),some (.ref Y),some (.ref Ka),some (.ref I),o6,W,J,o9,vV],?_,?_⟩
 .have hl:(ns.map V.int).length=ns.length:=bT _;refine⟨_,rfl,xR rfl (.inl (s08.seq hS)) ⟨_,_,rfl,_,rfl,?_,?_,?_⟩⟩
  .split <;> lia
  .split <;> lia
  refine cI (fun i σ' g=>∃(ps:Nat->ar)(S:Nat->S4),W2 C O N X c bs ne ie s0 ps S g/\aH H g/\g Y=some (.lst (cC O))/\g Ka=some (.lst (cC N))/\g I=some (.lst (cC ps))/\∃ o6 W J o9 vV:aE V,σ'=[some (.ref a),some (.ref (O 0)),some (.ref T),some (.ref Y),some (.ref Ka),some (.ref I),o6,W,J,o9,vV]) ⟨ps1,sv1,W8,s08,qLG,qLC,qKX,o6,W,J,none,none,rfl⟩ ?_ (fun _ _ y=>y);rintro i _ H9 m ⟨ps,S,W9,s09,B,r,p,o6,W,J,o9,vV,rfl⟩
  have hi16:i<1000:=by
   rw[hl]at m
   split at m <;> omega
  refine⟨fun v Hx=>H9=Hx/\∃ u:Nat,v = .int (u:Int)/\u<2,⟨_,rfl,_,rfl,a,ns,_,_,rfl,s09.seq hS,h63,⟨by lia,by lia⟩,⟨by decide,by decide⟩,fun x _ x1=>eO ⟨(by show (0:Int)<2;decide),rfl,(x%2).toNat,congrArg V.int (by lia),by lia⟩⟩,?_⟩;rintro _ _ ⟨rfl,u,rfl,M⟩;obtain⟨Oe,pn,t,pd,_,nv,_,_,c1,_,_,c4,c5,_⟩:=id (W9.X4 0 (by decide));refine⟨_,rfl,_,rfl,_,rfl,aG (aJ.of c1) rfl (xR rfl (.inr (aJ.of c4)) ⟨a,ns,_,nv.length,rfl,s09.seq hS,h63,⟨by lia,by lia⟩,by rw[c5];exact e8,fun e HQ uz b0 b1=>?_⟩)⟩;have K1:=W9.same uz;have GD:=s09.trans uz;have uW:=uz _ _ B;have pW:=uz _ _ r;have Jl:=uz _ _ p;refine⟨fun σ' g=>∃(ps:Nat->ar)(S:Nat->S4),W2 C O N X c bs ne ie s0 ps S g/\aH H g/\g Y=some (.lst (cC O))/\g Ka=some (.lst (cC N))/\g I=some (.lst (cC ps))/\∃ W J:aE V,σ'=[some (.ref a),some (.ref (O 0)),some (.ref T),some (.ref Y),some (.ref Ka),some (.ref I),some (.int (u:Int)),W,J,some (.int (0+(i:Int))),some (.int e)],?_,?_⟩
  .refine⟨_,rfl,_,_,_,rfl,rfl,⟨_,rfl,aG (aJ.of (uz _ _ c1)) rfl (xR rfl (.inr (aJ.of (uz _ _ c4))) ⟨rfl,rfl⟩)⟩,_,rfl,?_⟩;rw[c5];obtain⟨pp,L,hN,U,hAb,l,G,so,j,l0⟩:=K1.nw u M;obtain⟨dx,fs,h1,h2⟩:=id hN;have ok:=K1.ok u M;have hX:=K1.X4 u M
   by_cases ce:0<=e/\e<(ne:Int)
   .refine Hq (by show (decide (0<=e)&&decide (e<(ne:Int)))=true;rw[bq ce.1,bq ce.2];rfl) ?_;have alc:All (c u) (Jw (c u)) 3:=⟨ok.ok,wide ok.ok,fun d hd=>⟨(ok.g d hd).1,(ok.g d hd).2⟩⟩;refine⟨_,rfl,_,rfl,gJ (aU.of uW) (nR O M) ⟨_,rfl,_,rfl,gJ (aU.of Jl) (nR ps M) ⟨_,rfl,O u,ps u,c u,e,S u,rfl,hX.ch ok,alc,G,so,j,l0,by have:=ok.t4;lia,fun _ psn pw wv _ s' Kd AR _ _ Z ht hSn Ek Z6 hA _=>?_⟩⟩⟩;obtain⟨f1,f2⟩:=Wl b0 b1;have Sx:=K1.same Z;have k11:=aB.of Z;refine⟨_,rfl,_,rfl,gJ (aU.of (Z _ _ pW)) (nR N M) ⟨N u,dx,fs,rfl,Z _ _ h1,h2.no _ (by decide +kernel),_,rfl,N u,O u,pp,X u,c u,bs,ne,e,S u,rfl,hN.mono Z,hX.mono k11,ok,bD _,l.mono k11,so,j,l0,f1,f2,fun _ _ psr pwr wvr _ sr K5 AR2 jr sor k12 nsr hSr ZK qC7 hAr _=>?_,fun z=>eu ⟨ce.1,ce.2⟩ z⟩⟩;obtain⟨rfl,rfl⟩:=Zy AR2 AR;have h11:=Z _ _ h1
    have nt:∀ xs,Kd (N u)≠some (.tup xs):=fun xs z=>by rw[h11]at z;cases z
    have kx:Kx (N u) Kd K5:=k12;have kt:=kx.tup nt
    have RB:∀ {b:ar} {xs:aw V},Kd b=some (.lst xs)->b≠N u:=fun z y=>by rw[y,h11]at z;cases z
    have W12:W2 C O N X c bs ne ie s0 (fun k=>if k=u then psn else ps k) (fun k=>if k=u then nl sr else S k) K5:=by
     refine⟨fun v hv=>(Sx.X4 v hv).mono kt,Sx.ok,Sx.rs,Sx.beg,fun v hv=>?_,Sx.dif⟩
     by_cases z:v=u
     .subst z;rw[cS rfl,cS rfl];exact⟨psr,L,nsr,kx _ _ (Z _ _ U) (RB (Z _ _ U)),(hAb.mono fun _ _ z=>z.mono k11).mono fun _ _ z=>z.mono kt,hSr,(cR.tail hSn []).mono kt,VM sor,jr,rfl⟩
     .rw[cK z,cK z];have nv':=Sx.nw v hv
      have nb':X v≠N u:=by
       obtain⟨_,_,_,y1,_⟩:=nv';exact RB y1
      refine nv'.mono kx nt ?_ nb';have d:=Sx.dif;exact qD3 d hv M z
    have qG2:=kx _ _ Ek (RB Ek);have qGG:=kx _ _ (Z _ _ uW) (RB (Z _ _ uW));have qGC:=kx _ _ (Z _ _ pW) (RB (Z _ _ pW));have qFZ:=kx _ _ (Z _ _ Jl) (RB (Z _ _ Jl));have qK3:aH H K5:=fun b o z=>kx _ _ ((GD.trans Z) _ _ z) (zN z (n0 u M));refine⟨_,rfl,_,rfl,aG (aJ.of (kt _ _ ht)) rfl ⟨_,_,2,rfl,by decide,HJ ZK qG2 hAr (hA.mono fun _ _ z=>z.mono kt) (by rw[<-hAr.length];lia),true,rfl,eE rfl ?_⟩⟩;have R7:H pwr=none:=(GD.trans Z).free qC7;refine⟨_,rfl,.inl ⟨rfl,_,aU.of ZK⟩,pwr,wvr,rfl,rfl,ZK,?_⟩;have W13:=W12.lst (o:=.lst []) ZK fun v hv=>Sx.bl hv qC7;have qEM:=bW R7 qK3 (.lst []);have r13:∀ {b:ar} {o:HO},Kd b=some o->upd K5 pwr (.lst []) b=K5 b:=fun z=>zR (zN z qC7);have qFY:=(r13 ht).trans (kt _ _ ht);have qAS:=(r13 (Z _ _ uW)).trans qGG;have qAR:=(r13 (Z _ _ pW)).trans qGC;have Vw:=(r13 (Z _ _ Jl)).trans qFZ;generalize upd K5 pwr (.lst [])=H13 at W13 qEM qFY qAS qAR Vw ⊢;have ix:Su (cC ps).length (u:Int)=some u:=Yo ps M;refine⟨_,rfl,aG (aJ.of qFY) rfl ⟨_,rfl,_,rfl,I,cC ps,(u:Int),u,rfl,rfl,Vw,ix,?_⟩⟩;rw[Uk ps M];refine⟨_,_,W13.lst Vw qF7,bW nst qEM _,?_,?_,zC,_,_,rfl⟩
    .rw[zR ncs];exact qAS
    .rw[zR nns];exact qAR
   .refine eE (by show (decide (0<=e)&&decide (e<(ne:Int)))=false;rw[<-eI];exact bp ce) ?_;exact⟨_,rfl,_,rfl,gJ (aU.of pW) (nR N M) ⟨_,rfl,_,rfl,N u,O u,pp,X u,c u,bs,ne,e,_,S u,rfl,hN,hX,ok,l,so,j,l0,b0,b1,ce,fun Hy sy=>⟨true,rfl,eE rfl ⟨ps,S,K1.same sy,GD.trans sy,sy _ _ uW,sy _ _ pW,sy _ _ Jl,_,_,rfl⟩⟩⟩⟩
  rintro _ _ ⟨ps,S,W15,QR,B,r,p,W,J,rfl⟩;obtain⟨pp,L,hN,U,hAb,l,G,so,j,l0⟩:=W15.nw u M;have ok:=W15.ok u M;exact⟨_,rfl,_,rfl,_,rfl,gJ (aU.of r) (nR N M) ⟨_,rfl,_,rfl,gJ (aU.of p) (nR ps M) ⟨O 0,N u,ps u,O u,pp,X u,c 0,c u,S u,rfl,hN,(W15.X4 0 (by decide)).ch (W15.ok 0 (by decide)),(W15.X4 u M).ch ok,ok.ok,(W15.rs u M).symm,l,G,so,j,fun Hy sy=>⟨true,rfl,eE rfl ⟨ps,S,W15.same sy,QR.trans sy,sy _ _ B,sy _ _ r,sy _ _ p,_,_,_,_,_,rfl⟩⟩⟩⟩⟩
 rintro _ H9 ⟨ps,S,W9,s09,B,r,p,o6,W,J,o9,vV,rfl⟩;refine⟨fun σ' g=>True,?_,fun σ' g _=>q g⟩;refine⟨_,rfl,by decide,by decide,?_⟩;refine cI (fun i σ' g=>∃(ps:Nat->ar)(S:Nat->S4),W2 C O N X c bs ne ie s0 ps S g/\aH H g/\g Y=some (.lst (cC O))/\g Ka=some (.lst (cC N))/\g I=some (.lst (cC ps))/\∃ o6 W J o9 vV:aE V,σ'=[some (.ref a),some (.ref (O 0)),some (.ref T),some (.ref Y),some (.ref Ka),some (.ref I),o6,W,J,o9,vV]) ⟨ps,S,W9,s09,B,r,p,o6,W,J,o9,vV,rfl⟩ ?_ (fun _ _ _=>trivial);rintro i _ HQ m ⟨ps,S,K1,GD,B,r,p,o6,W,J,o9,vV,rfl⟩;have m:i<2:=m;obtain⟨pp,L,hN,U,hAb,l,G,so,j,l0⟩:=K1.nw i m;obtain⟨dx,fs,h1,h2⟩:=id hN;refine⟨_,rfl,_,rfl,gJ (aU.of r) (mD N m) ⟨N i,dx,fs,rfl,h1,h2.no _ (by decide +kernel),N i,O i,pp,X i,L,rfl,hN,U,fun qf hqf=>?_⟩⟩;have Z:=zF hqf (.lst L);have R:upd HQ qf (.lst L) qf=some (.lst L):=zC;generalize upd HQ qf (.lst L)=Kd at Z R ⊢;have Sx:=K1.same Z;refine⟨_,rfl,_,rfl,gJ (aU.of (Z _ _ B)) (mD O m) ⟨O i,c i,bs,ne,rfl,Sx.X4 i m,Sx.ok i m,bD _,fun t D pw wv es st K5 BR j9 so9 s12 ht hS9 Ek Z6 hA9 le9=>?_⟩⟩;obtain⟨rfl,rfl⟩:=Pq BR (Sx.beg i m).1;have wY:=Z.trans s12;exact aG (aJ.of ht) rfl ⟨_,_,2,rfl,by decide,HJ (s12 _ _ R) Ek (hAb.mono fun _ _ z=>z.mono (aB.of wY)) hA9 (br le9 (by decide)),true,rfl,eE rfl ⟨ps,S,K1.same wY,GD.trans wY,wY _ _ B,wY _ _ r,wY _ _ p,_,_,_,_,_,rfl⟩⟩
end wH
namespace L2
open PySem
theorem aL.cx{P:ag}{w:aI}{K:bV}{mg:Str->aE av}{base:Heap}{CX:KQ}{k:Nat}{f:ar}{d:af}{ps:aw Str}{sp:Sp}(F:aL P w K mg base aN k f d ps sp):aL P w K mg base CX k f d ps sp:=
 ⟨F.len,fun A o s H a us vs Q E r e b v h=>codeAny_mono (F.run A o s H a us vs Q E r e b v h) fun R _ z=>by
  cases R with
  | error e=>exact z.elim
  | ok f=>cases f <;> exact z⟩
end L2
namespace wH
open PySem L2 jP lN vB Q3 xM dC Ru
section
variable{P:ag}{w:aI}{K:bV}{mg:Str->aE av}{base:Heap}
def Qp{f:ar}{d:af}(F:bO K "holds" "holds" pJ f d)(Y:Binds K d ["guard","opening","boxes"] [])(y:mg "holds" = some (.ref f)):aL P w K mg base aN 3 f d ["guard","opening","boxes"] (K02.n6 3):=by exact K02.FJ F Y y 3
def Qu{f:ar}{d:af}(F:bO K "_law_guard" "_law_guard" jL f d)(U:Binds K d ["_law_number","_law_rooms_here","_law_boxes","_law_high"] [])(u:mg "_law_guard" = some (.ref f)):aL P w K mg base aN 3 f d ["_law_number","_law_rooms_here","_law_boxes","_law_high"] (CJ.jV 3):=by exact CJ.By F U u 3
def Qn{f g:ar}{d b:af}(F:bO K "_law_mixed" "_law_mixed" Ah f d)(G:aL P w K mg base aN 1 g b ["_law_script","_law_k"] (sX K))(u:Binds K b ["_law_script","_law_k"] [])(n:KI K g)(M:mg "_law_cell_at" = some (.ref g))
  (j:mg "len" = none) (m:mg "max" = none):aL P w K mg base aN 2 f d ["_law_script","_law_k","_law_salt"] (jC K):=by
 exact Uy F (G.imp fun _ H Q E h=>by
  obtain⟨a,ns,k,e,c,l,q⟩:=h
  exact⟨a,ns,k,e,c,l,q _⟩) u n M j m
end
end wH
namespace wH
open PySem L2 jP lN vB Q3 xM Ru dC
def Mm(P:Params):wJ (KO P) 235:=⟨by kernel_rfl,by kernel_rfl,by kernel_rfl,by kernel_rfl,by kernel_rfl,by kernel_rfl⟩
def Bh(P:Params):sE (KO P) 235 232=true:=by kernel_rfl
def Bg(P:Params):HR (KO P) 235 "event" := ⟨by kernel_rfl,by kernel_rfl,by kernel_rfl,by kernel_rfl⟩
def law_ok{w:aI}{mg:Str->aE av}{h base:Heap}(X:(KO w.params).In h)(G:h.Ns mainGlobals mg):aL PW w (KO w.params) mg base aN 29 683 ZX ["_law_script"] (Tg (KO w.params)):=by have ap {CX:KQ} {k:Nat} {f:ar} {fd:af} {ps:aw Str} {sp:Sp} (h:aL PW w (KO w.params) mg base CX k f fd ps sp):=h;have mo {x:Str} {a:ar} (h:NS x a):=cE X G (h w.params);have mz {x:Str} (h:NZ x):=PySem.W.mg_none_of X G (h w.params);have F1:=u1 w.params;have b1:=F1.binds (ps:=["_law_script","_law_k"]) fun _ _ _ _ _ _=>jl fun _ _=>rfl;have m1:=mo a1;have F2:=u2 w.params;have b2:=F2.binds (ps:=["_law_script","_law_k","_law_salt"]) fun _ _ _ _ _ _=>iW fun _ _ _=>rfl;have m2:=mo a2;have k2:=F2.kp;have F3:=u3 w.params;have b3:=F3.binds (ps:=["guard","opening","boxes"]) fun _ _ _ _ _ _=>iW fun _ _ _=>rfl;have m3:=mo a3;have F4:=u4 w.params;have b4:=F4.binds (ps:=["guard"]) fun _ _ _ _ _ _=>lG fun _=>rfl;have m4:=mo a4;have F5:=u5 w.params;have b5:=F5.binds (ps:=["guard"]) fun _ _ _ _ _ _=>lG fun _=>rfl;have m5:=mo a5;have F6:=u6 w.params;have b6:=F6.binds (ps:=["guard"]) fun _ _ _ _ _ _=>lG fun _=>rfl;have m6:=mo a6;have F7:=u7 w.params;have b7:=F7.binds (ps:=["guard"]) fun _ _ _ _ _ _=>lG fun _=>rfl;have m7:=mo a7;have F8:=u8 w.params;have b8:=F8.binds (ps:=["text"]) fun _ _ _ _ _ _=>lG fun _=>rfl;have m8:=mo a8;have F9:=u9 w.params;have b9:=F9.binds (ps:=["number","things"]) fun _ _ _ _ _ _=>jl fun _ _=>rfl;have m9:=mo a9;have k9:=F9.kp;have A:=u10 w.params;have b10:=A.binds (ps:=["number"]) fun _ _ _ _ _ _=>lG fun _=>rfl;have m10:=mo a10;have b:=u11 w.params;have b11:=b.binds (ps:=["name","ahead"]) fun _ _ _ _ _ _=>jl fun _ _=>rfl;have Q:=mo a11;have s:=u12 w.params;have b12:=s.binds (ps:=["things"]) fun _ _ _ _ _ _=>lG fun _=>rfl;have m12:=mo a12;have F13:=u13 w.params;have b13:=F13.binds (ps:=["box","ahead"]) fun _ _ _ _ _ _=>jl fun _ _=>rfl;have m13:=mo a13;have S:=u14 w.params;have b14:=S.binds (ps:=["deed","boxes","events"]) fun _ _ _ _ _ _=>iW fun _ _ _=>rfl;have m14:=mo a14;have u:=u15 w.params;have b15:=u.binds (ps:=["deeds","boxes","events"]) fun _ _ _ _ _ _=>iW fun _ _ _=>rfl;have m15:=mo a15;have F16:=u16 w.params;have b16:=F16.binds (ps:=["depth","ahead"]) fun _ _ _ _ _ _=>jl fun _ _=>rfl;have m16:=mo a16;have O:=u17 w.params;have b17:=O.binds (ps:=["keeps","kind"]) fun _ _ _ _ _ _=>jl fun _ _=>rfl;have m17:=mo a17;have F18:=u18 w.params;have b18:=F18.binds (ps:=["room","ahead","boxes","events"]) fun _ _ _ _ _ _=>xT fun _ _ _ _=>rfl;have m18:=mo a18;have F19:=u19 w.params;have b19:=F19.binds (ps:=["room","behind"]) fun _ _ _ _ _ _=>jl fun _ _=>rfl;have m19:=mo a19;have W:=u20 w.params;have b20:=W.binds (ps:=["guard","boxes","rooms"]) fun _ _ _ _ _ _=>iW fun _ _ _=>rfl;have m20:=mo a20;have F21:=u21 w.params;have b21:=F21.binds (ps:=["way","goal","rooms"]) fun _ _ _ _ _ _=>iW fun _ _ _=>rfl;have m21:=mo a21;have F22:=u22 w.params;have b22:=F22.binds (ps:=["door","boxes","events","rooms"]) fun _ _ _ _ _ _=>xT fun _ _ _ _=>rfl;have m22:=mo a22;have J:=u23 w.params;have b23:=J.binds (ps:=["chart"]) fun _ _ _ _ _ _=>lG fun _=>rfl;have m23:=mo a23;have F24:=u24 w.params;have b24:=F24.binds (ps:=["boxes"]) fun _ _ _ _ _ _=>lG fun _=>rfl;have m24:=mo a24;have F25:=u25 w.params;have b25:=F25.binds (ps:=["events"]) fun _ _ _ _ _ _=>lG fun _=>rfl;have m25:=mo a25;have F26:=u26 w.params;have b26:=F26.binds (ps:=["rooms","boxes","events"]) fun _ _ _ _ _ _=>iW fun _ _ _=>rfl;have m26:=mo a26;have F27:=u27 w.params;have b27:=F27.binds (ps:=["doors","boxes","events","rooms"]) fun _ _ _ _ _ _=>xT fun _ _ _ _=>rfl;have m27:=mo a27;have N:=u28 w.params;have b28:=N.binds (ps:=["chart"]) fun _ _ _ _ _ _=>lG fun _=>rfl;have m28:=mo a28;have F29:=u29 w.params;have b29:=F29.binds (ps:=["chart","stand","event"]) fun _ _ _ _ _ _=>iW fun _ _ _=>rfl;have m29:=mo a29;have F:=u30 w.params;have v:=F.binds (ps:=["rooms","room"]) fun _ _ _ _ _ _=>jl fun _ _=>rfl;have C:=mo a30;have F31:=u31 w.params;have b31:=F31.binds (ps:=["rooms","room"]) fun _ _ _ _ _ _=>jl fun _ _=>rfl;have m31:=mo a31;have y:=u32 w.params;have b32:=y.binds (ps:=["rooms","one","other"]) fun _ _ _ _ _ _=>iW fun _ _ _=>rfl;have m32:=mo a32;have Z:=u33 w.params;have b33:=Z.binds (ps:=["rooms","one","other"]) fun _ _ _ _ _ _=>iW fun _ _ _=>rfl;have m33:=mo a33;have L:=u34 w.params;have b34:=L.binds (ps:=["rooms","room"]) fun _ _ _ _ _ _=>jl fun _ _=>rfl;have m34:=mo a34;have F35:=u35 w.params;have b35:=F35.binds (ps:=["rooms","room","goals"]) fun _ _ _ _ _ _=>iW fun _ _ _=>rfl;have m35:=mo a35;have F36:=u36 w.params;have b36:=F36.binds (ps:=["rooms","room","goals"]) fun _ _ _ _ _ _=>iW fun _ _ _=>rfl;have m36:=mo a36;have t:=u37 w.params;have b37:=t.binds (ps:=["rooms","under","goals"]) fun _ _ _ _ _ _=>iW fun _ _ _=>rfl;have m37:=mo a37;have q:=u38 w.params;have b38:=q.binds (ps:=["rooms","under","opening"]) fun _ _ _ _ _ _=>iW fun _ _ _=>rfl;have m38:=mo a38;have F39:=u39 w.params;have b39:=F39.binds (ps:=["rooms","told"]) fun _ _ _ _ _ _=>jl fun _ _=>rfl;have m39:=mo a39;have F40:=u40 w.params;have b40:=F40.binds (ps:=["rooms","opening","room"]) fun _ _ _ _ _ _=>iW fun _ _ _=>rfl;have m40:=mo a40;have F41:=u41 w.params;have b41:=F41.binds (ps:=["rooms","opening","left","kept"]) fun _ _ _ _ _ _=>xT fun _ _ _ _=>rfl;have m41:=mo a41;have F42:=u42 w.params;have b42:=F42.binds (ps:=["chart","room","others"]) fun _ _ _ _ _ _=>iW fun _ _ _=>rfl;have m42:=mo a42;have F43:=u43 w.params;have b43:=F43.binds (ps:=["chart","stand","event"]) fun _ _ _ _ _ _=>iW fun _ _ _=>rfl;have m43:=mo a43;have F44:=u44 w.params;have b44:=F44.binds (ps:=["deed","boxes","sizes"]) fun _ _ _ _ _ _=>iW fun _ _ _=>rfl;have m44:=mo a44;have F45:=u45 w.params;have b45:=F45.binds (ps:=["deed","boxes","letters"]) fun _ _ _ _ _ _=>iW fun _ _ _=>rfl;have m45:=mo a45;have F46:=u46 w.params;have b46:=F46.binds (ps:=["deeds","boxes","sizes","letters"]) fun _ _ _ _ _ _=>xT fun _ _ _ _=>rfl;have m46:=mo a46;have z:=u47 w.params;have b47:=z.binds (ps:=["chart"]) fun _ _ _ _ _ _=>lG fun _=>rfl;have m47:=mo a47;have F48:=u48 w.params;have b48:=F48.binds (ps:=["record"]) fun _ _ _ _ _ _=>lG fun _=>rfl;have m48:=mo a48;have r:=u49 w.params;have b49:=r.binds (ps:=["rooms","entered"]) fun _ _ _ _ _ _=>jl fun _ _=>rfl;have m49:=mo a49;have F50:=u50 w.params;have b50:=F50.binds (ps:=["rooms","left"]) fun _ _ _ _ _ _=>jl fun _ _=>rfl;have m50:=mo a50;have j:=u51 w.params;have b51:=j.binds (ps:=["steps","boxes","sizes","letters"]) fun _ _ _ _ _ _=>xT fun _ _ _ _=>rfl;have m51:=mo a51;have F52:=u52 w.params;have b52:=F52.binds (ps:=["chart","kept","door"]) fun _ _ _ _ _ _=>iW fun _ _ _=>rfl;have m52:=mo a52;have F53:=u53 w.params;have b53:=F53.binds (ps:=["chart","stand","door","letters"]) fun _ _ _ _ _ _=>xT fun _ _ _ _=>rfl;have m53:=mo a53;have o:=u54 w.params;have b54:=o.binds (ps:=["chart","stand","event","letters"]) fun _ _ _ _ _ _=>xT fun _ _ _ _=>rfl;have m54:=mo a54;have D:=u55 w.params;have b55:=D.binds (ps:=["chart","stand","record","letters"]) fun _ _ _ _ _ _=>xT fun _ _ _ _=>rfl;have m55:=mo a55;have m:=u56 w.params;have b56:=m.binds (ps:=["chart"]) fun _ _ _ _ _ _=>lG fun _=>rfl;have m56:=mo a56;have p:=u57 w.params;have b57:=p.binds (ps:=["chart","stand","event"]) fun _ _ _ _ _ _=>iW fun _ _ _=>rfl;have m57:=mo a57;have F58:=u58 w.params;have b58:=F58.binds (ps:=["rooms","opening"]) fun _ _ _ _ _ _=>jl fun _ _=>rfl;have m58:=mo a58;have e:=u59 w.params;have b59:=e.binds (ps:=["_law_k","_law_number"]) fun _ _ _ _ _ _=>jl fun _ _=>rfl;have I:=mo a59;have F60:=u60 w.params;have b60:=F60.binds (ps:=["_law_number","_law_sizes","_law_events"]) fun _ _ _ _ _ _=>iW fun _ _ _=>rfl;have m60:=mo a60;have n:=u61 w.params;have b61:=n.binds (ps:=["_law_script","_law_k","_law_salt","_law_sizes","_law_events"]) fun _ _ _ _ _ _=>qFJ fun _ _ _ _ _=>rfl;have m61:=mo a61;have U:=u62 w.params;have b62:=U.binds (ps:=["_law_number","_law_rooms_here","_law_boxes","_law_high"]) fun _ _ _ _ _ _=>xT fun _ _ _ _=>rfl;have m62:=mo a62;have F63:=u63 w.params;have b63:=F63.binds (ps:=["_law_script","_law_many"]) fun _ _ _ _ _ _=>jl fun _ _=>rfl;have m63:=mo a63;have T:=u64 w.params;have b64:=T.binds (ps:=["_law_script","_law_depths_here","_law_sizes","_law_events"]) fun _ _ _ _ _ _=>xT fun _ _ _ _=>rfl;have m64:=mo a64;have R:=u65 w.params;have b65:=R.binds (ps:=["_law_script","_law_many","_law_rooms_here","_law_sizes","_law_events"]) fun _ _ _ _ _ _=>qFJ fun _ _ _ _ _=>rfl;have m65:=mo a65;have E:=u66 w.params;have b66:=E.binds (ps:=["_law_script"]) fun _ _ _ _ _ _=>lG fun _=>rfl;have m66:=mo a66;have g:=u67 w.params;have B:=g.binds (ps:=["_law_found","_law_due"]) fun _ _ _ _ _ _=>jl fun _ _=>rfl;have M:=mo a67;have F68:=u68 w.params;have b68:=F68.binds (ps:=["_law_script","_law_k","_law_events"]) fun _ _ _ _ _ _=>iW fun _ _ _=>rfl;have m68:=mo a68;have F69:=u69 w.params;have b69:=F69.binds (ps:=["_law_nest","_law_event_here","_law_way"]) fun _ _ _ _ _ _=>iW fun _ _ _=>rfl;have m69:=mo a69;have Y:=u70 w.params;have b70:=Y.binds (ps:=["_law_chart_here","_law_nest","_law_stand"]) fun _ _ _ _ _ _=>iW fun _ _ _=>rfl;have m70:=mo a70;have F71:=u71 w.params;have qB4:=qDS w.params;have qAX:=qB4.binds (ps:=["self","most"]) fun _ _ _ _ _ _=>jl fun _ _=>rfl;have qJA:Mk (KO w.params) 406 382:=⟨(qFB w.params).1,qJ5 w.params,qFU w.params,(qFB w.params).2⟩;have Xg:=qDR w.params;have qIV:=Xg.binds (ps:=["self","event"]) fun _ _ _ _ _ _=>jl fun _ _=>rfl;have qFH:Meth (KO w.params) 406 "add" 389:=⟨qJ4 w.params,qFT w.params,Xg.kp⟩;have Xf:=qDQ w.params;have qIU:=Xf.binds (ps:=["self"]) fun _ _ _ _ _ _=>lG fun _=>rfl;have qFG:Meth (KO w.params) 406 "taken" 396:=⟨qJ3 w.params,qFS w.params,Xf.kp⟩;have Xe:=qDP w.params;have qIT:=Xe.binds (ps:=["self"]) fun _ _ _ _ _ _=>lG fun _=>rfl;have qFF:Meth (KO w.params) 406 "waiting" 403:=⟨qJ2 w.params,qFR w.params,Xe.kp⟩;have qB3:=qDO w.params;have qIS:=qB3.binds (ps:=["self","chart"]) fun _ _ _ _ _ _=>jl fun _ _=>rfl;have qLY:Mk (KO w.params) 580 549:=⟨(qFA w.params).1,qJ1 w.params,qFQ w.params,(qFA w.params).2⟩;have Xd:=qDN w.params;have qIR:=Xd.binds (ps:=["self"]) fun _ _ _ _ _ _=>lG fun _=>rfl;have qFE:Meth (KO w.params) 580 "first" 556:=⟨qJ0 w.params,qFP w.params,Xd.kp⟩;have Xc:=qDM w.params;have qAW:=Xc.binds (ps:=["self","event"]) fun _ _ _ _ _ _=>jl fun _ _=>rfl;have qAQ:Meth (KO w.params) 580 "run" 563:=⟨qIZ w.params,qFO w.params,Xc.kp⟩;have Xb:=qDL w.params;have qIQ:=Xb.binds (ps:=["self"]) fun _ _ _ _ _ _=>lG fun _=>rfl;have qFD:Meth (KO w.params) 580 "stand" 570:=⟨qIY w.params,qFN w.params,Xb.kp⟩;have Xa:=qDK w.params;have qIP:=Xa.binds (ps:=["self"]) fun _ _ _ _ _ _=>lG fun _=>rfl;have qFC:Meth (KO w.params) 580 "lamps" 577:=⟨qIX w.params,qFM w.params,Xa.kp⟩;have qB2:=qDJ w.params;have qIO:=qB2.binds (ps:=["self","event"]) fun _ _ _ _ _ _=>jl fun _ _=>rfl;have HB:=HB w.params;have mC0:=mo aC0;have qZ:=qZ w.params;have fK:=fK w.params;have Cv:=Cv w.params;have mC1:=mo aC1;have jh:=jh w.params;have iD:=iD w.params;have gH:=gH w.params;have mC2:=mo aC2;have mC3:=mo aC3;have mC4:=mo aC4;have mC5:=mo aC5;have mC6:=mo aC6;have mC7:=mo aC7;have mC8:=mo aC8;have mC9:=mo aC9;have c:=mz z1;have qAL:=mz z2;have qAK:=mz z3;have i:=mz z4;have vY:=mz z5;have d:=mz z6;have uN:=mz z7;have Va:=mz z8;have qCF:=mz z9;have mK:=mz z10;have Vb:=mz z11;have iV:=mz z12;have qF8:=mz z13;have qAM:=mz z14;have qF9:=mz z15;have Gf:=mz z16;have Be:=mo vT1;have Ar:∀ H:Hp,aJ (KO w.params) H 51 [.str "inner",.str "outer"]:=fun H=>.inr ⟨_,_,_,show (KO w.params).lookup 51=some (Obj.mk (.type "tuple") none (.seq #[.str "inner" 242,.str "outer" 243] 0) #[]) by kernel_rfl,rfl,rfl,zJ (by show 2<=1000;decide),(.cons ⟨_,rfl⟩ (.cons ⟨_,rfl⟩ .nil))⟩;have Gv:=mo vT2;have GJ:∀ H:Hp,aJ (KO w.params) H 52 [.str "plain",.str "one",.str "all"]:=fun H=>.inr ⟨_,_,_,show (KO w.params).lookup 52=some (Obj.mk (.type "tuple") none (.seq #[.str "plain" 245,.str "one" 246,.str "all" 247] 0) #[]) by kernel_rfl,rfl,rfl,zJ (by show 3<=1000;decide),(.cons ⟨_,rfl⟩ (.cons ⟨_,rfl⟩ (.cons ⟨_,rfl⟩ .nil)))⟩;have iy:=cE X G (v1 w.params);have w6:=cE X G (v2 w.params);have jo:=cE X G (v3 w.params);have nY:=cE X G (v4 w.params);have nu:=cE X G (v5 w.params);have lH:=cE X G (v6 w.params);have nZ:=cE X G (v7 w.params);have ni:=cE X G (v8 w.params);have nj:=cE X G (v9 w.params);have wB:=cE X G (v10 w.params);have wA:=cE X G (v11 w.params);have fG:=cE X G (v12 w.params);have mLS:=mo fLS;have qB0:=ap (dC.Yx qB4 HB qZ fK);have qJK:=ap (dC.qC6 Xg HB qZ fK c);have qJJ:=ap (dC.Uq Xf HB fK c);have qJI:=ap (dC.Lj Xe HB fK vY);have qJD:=ap (wH.qC3 qB2 (Bh w.params) (Bg w.params) mC3 (fE1 w.params) (fE2 w.params) (fE3 w.params));have G1:=ap (V8 F1 c);have G2:=ap (Qn F2 G1 b1 F1.kp m1 c qAL);have G3:=ap (Qp F3 b3 m3);have G4:=ap (FP.Qf F4);have GA5:=FP.Bw (P:=PW) (w:=w) (base:=base) (mg:=mg) F5 b5 m5 ⟨G4,b4,F4.kp,m4⟩ qAL;have G5:=GA5 20;have GA6:=FP.all_plain (P:=PW) (w:=w) (base:=base) (mg:=mg) F6 b6 m6 ⟨G4,b4,F4.kp,m4⟩ c;have G6:=GA6 20;have G7:=ap (FP.VF F7 ⟨G6,b6,F6.kp,m6⟩ mK qF9);have G8:=ap (dC.Lw F8 c qAM w6 iy);have G9:=ap (dC.qC2 F9 c);have G10:=ap (dC.Ut A fG);have G11:=ap (dC.Yu b ⟨G8,b8,F8.kp,m8⟩);have G12:=ap (dC.Uw s);have G13:=ap (dC.Z2 F13 ⟨(G12.mono (show 1<=2 by decide)),b12,s.kp,m12⟩ ⟨G11,b11,b.kp,Q⟩ fG);have G14:=ap (dC.V7 S ⟨G8,b8,F8.kp,m8⟩ ⟨G9,b9,k9,m9⟩ ⟨G10,b10,A.kp,m10⟩);have G15:=ap (dC.R1 u ⟨G14,b14,S.kp,m14⟩ c Vb nj);have G16:=ap (dC.Qz F16 c wB);have G17:=ap (dC.Qo O);have G18:=ap (dC.Us F18 ⟨(G12.mono (show 1<=3 by decide)),b12,s.kp,m12⟩ ⟨(G11.mono (show 2<=3 by decide)),b11,b.kp,Q⟩ ⟨(G16.mono (show 1<=3 by decide)),b16,F16.kp,m16⟩ ⟨(G17.mono (show 1<=3 by decide)),b17,O.kp,m17⟩ ⟨(G8.mono (show 1<=3 by decide)),b8,F8.kp,m8⟩ ⟨G15,b15,u.kp,m15⟩ Gv GJ);have G19:=ap (dC.Z0 F19 c);have G20:=ap (dC.Qt W ⟨(G5.mono (show 21<=22 by decide)),b5,F5.kp,m5⟩ ⟨G7,b7,F7.kp,m7⟩ ⟨(G9.mono (show 1<=22 by decide)),b9,k9,m9⟩ ⟨(G6.mono (show 21<=22 by decide)),b6,F6.kp,m6⟩ ⟨(G10.mono (show 1<=22 by decide)),b10,A.kp,m10⟩ qAM wA);have G21:=ap (dC.V2 F21 ⟨G9,b9,k9,m9⟩);have G22:=ap (dC.V5 F22 ⟨(G9.mono (show 1<=23 by decide)),b9,k9,m9⟩ ⟨G20,b20,W.kp,m20⟩ ⟨(G15.mono (show 3<=23 by decide)),b15,u.kp,m15⟩ ⟨(G21.mono (show 2<=23 by decide)),b21,F21.kp,m21⟩);have G23:=ap (dC.Ly J Be Ar jo nY);have G24:=ap (dC.V9 F24 ⟨G13,b13,F13.kp,m13⟩ c iV nu);have G25:=ap (dC.Yz F25 ⟨G11,b11,b.kp,Q⟩ c iV lH);have G26:=ap (dC.Qi F26 ⟨G18,b18,F18.kp,m18⟩ ⟨(G19.mono (show 1<=4 by decide)),b19,F19.kp,m19⟩ c iV nZ);have G27:=ap (dC.Qx F27 ⟨G22,b22,F22.kp,m22⟩ c iV ni);have G28:=ap (dC.Qv N ⟨(G23.mono (show 1<=25 by decide)),b23,J.kp,m23⟩ ⟨(G24.mono (show 4<=25 by decide)),b24,F24.kp,m24⟩ ⟨(G25.mono (show 3<=25 by decide)),b25,F25.kp,m25⟩ ⟨(G26.mono (show 5<=25 by decide)),b26,F26.kp,m26⟩ ⟨G27,b27,F27.kp,m27⟩);have G29:=ap (DQ.Lz F29 ⟨G3,b3,F3.kp,m3⟩ iV);have l:=ap (dC.qC5 F i c);have G31:=ap (dC.Ql F31 i);have G32:=ap (dC.Yv y ⟨l,v,F.kp,C⟩);have G33:=ap (dC.Yy Z ⟨(G31.mono (show 1<=2 by decide)),b31,F31.kp,m31⟩ ⟨G32,b32,y.kp,m32⟩);have G34:=ap (dC.Yw L ⟨l,v,F.kp,C⟩ i);have G35:=ap (dC.Cp F35 ⟨l,v,F.kp,C⟩ Vb);have G36:=ap (dC.Lq F36 ⟨G34,b34,L.kp,m34⟩ ⟨G35,b35,F35.kp,m35⟩);have G37:=ap (dC.Ga t ⟨G36,b36,F36.kp,m36⟩ c mK);have G38:=ap (dC.Cm q ⟨l,v,F.kp,C⟩ mK);have G39:=ap (dC.Ck F39 d);have G40:=ap (dC.Lr F40 ⟨G38,b38,q.kp,m38⟩ ⟨(G39.mono (show 1<=2 by decide)),b39,F39.kp,m39⟩ mK d);have G41:=ap (dC.Ls F41 ⟨G40,b40,F40.kp,m40⟩ vY d);have G42:=ap (DQ.Lp F42 ⟨G32,b32,y.kp,m32⟩ Vb);have G43:=ap (DQ.R3 F43 ⟨G29,b29,F29.kp,m29⟩ ⟨(G42.mono (show 3<=4 by decide)),b42,F42.kp,m42⟩ mK);have G44:=ap (dC.Lx F44);have G45:=ap (dC.JP F45 HB qFH qJK qIV);have G46:=ap (dC.Z1 F46 ⟨(G44.mono (show 1<=2 by decide)),b44,F44.kp,m44⟩ ⟨G45,b45,F45.kp,m45⟩);have G47:=ap (Ru.JN z d);have G48:=ap (Ru.Cj F48);have G49:=ap (Ru.JM r);have G50:=ap (Ru.GZ F50);have G51:=ap (Ru.Lk j ⟨G46,b46,F46.kp,m46⟩);have G52:=ap (Ru.JQ F52 c vY);have G53:=ap (Ru.Qk F53 ⟨(G33.mono (show 3<=4 by decide)),b33,Z.kp,m33⟩ ⟨(G38.mono (show 2<=4 by decide)),b38,q.kp,m38⟩ ⟨G41,b41,F41.kp,m41⟩ ⟨G37,b37,t.kp,m37⟩ ⟨(G52.mono (show 1<=4 by decide)),b52,F52.kp,m52⟩ ⟨(G50.mono (show 1<=4 by decide)),b50,F50.kp,m50⟩ ⟨(G49.mono (show 1<=4 by decide)),b49,r.kp,m49⟩ ⟨G51,b51,j.kp,m51⟩ ⟨(G47.mono (show 1<=4 by decide)),b47,z.kp,m47⟩ d mK);have G54:=ap (Ru.Yt o ⟨G43,b43,F43.kp,m43⟩ ⟨G53,b53,F53.kp,m53⟩ ⟨(G48.mono (show 1<=5 by decide)),b48,F48.kp,m48⟩);have G55:=ap (Ru.Qj D HB qFG (qJJ.mono (show 1<=6 by decide)) qIU qFF (qJI.mono (show 1<=6 by decide)) qIT ⟨G54,b54,o.kp,m54⟩ c vY);have G56:=ap (Ru.VD m qJA (qB0.mono (show 1<=6 by decide)) qAX mC0 ⟨(G37.mono (show 4<=7 by decide)),b37,t.kp,m37⟩ ⟨(G51.mono (show 4<=7 by decide)),b51,j.kp,m51⟩ ⟨(G49.mono (show 1<=7 by decide)),b49,r.kp,m49⟩ ⟨(G47.mono (show 1<=7 by decide)),b47,z.kp,m47⟩ ⟨G55,b55,D.kp,m55⟩ d c);have G57:=ap (Ru.VG p HB qJA (qB0.mono (show 1<=6 by decide)) qAX mC0 ⟨(G54.mono (show 6<=7 by decide)),b54,o.kp,m54⟩ ⟨G55,b55,D.kp,m55⟩);have G58:=ap (XR.V0 F58 d);have G59:=ap (CJ.Ux e c);have G60:=ap (CJ.V6 F60 ⟨G59,b59,e.kp,I⟩ c);have G61:=ap (CJ.R0 n ⟨G2,b2,k2,m2⟩ ⟨G60,b60,F60.kp,m60⟩ i d);have G62:=ap (Qu U b62 m62);have G63:=ap (mj.Qy F63 ⟨G2,b2,k2,m2⟩ i qAK);have G64:=ap (CJ.Qh T ⟨(G2.mono (show 2<=3 by decide)),b2,k2,m2⟩ ⟨(G59.mono (show 1<=3 by decide)),b59,e.kp,I⟩ ⟨G61,b61,n.kp,m61⟩ ⟨(G1.mono (show 1<=3 by decide)),b1,F1.kp,m1⟩ i c d);have G65:=ap (CJ.Qw R ⟨(G2.mono (show 2<=3 by decide)),b2,k2,m2⟩ ⟨G62,b62,U.kp,m62⟩ ⟨G61,b61,n.kp,m61⟩ i c d Va);have G66:=ap (CJ.R4 E ⟨(G2.mono (show 2<=4 by decide)),b2,k2,m2⟩ ⟨(G1.mono (show 1<=4 by decide)),b1,F1.kp,m1⟩ ⟨(G59.mono (show 1<=4 by decide)),b59,e.kp,I⟩ ⟨(G63.mono (show 3<=4 by decide)),b63,F63.kp,m63⟩ ⟨G64,b64,T.kp,m64⟩ ⟨G65,b65,R.kp,m65⟩ i d);have qJH:=ap (wH.Uv qB3 Cv jh iD gH ⟨G28,b28,N.kp,m28⟩ ⟨(G56.mono (show 8<=26 by decide)),b56,m.kp,m56⟩ c);have qJG:=ap (wH.V3 Xd Cv gH vY);have qJF:=ap (wH.Ur Xb Cv iD);have qJE:=ap (wH.Qm Xa Cv jh iD ⟨G58,b58,F58.kp,mLS⟩);have qAZ:=ap (wH.qC1 Xc Cv jh iD (Bh w.params) (Mp w.params) mC2 (qJD.mono (show 1<=7 by decide)).cx qIO ⟨(G9.mono (show 1<=8 by decide)),b9,k9,m9⟩ ⟨G57,b57,p.kp,m57⟩);have qLZ:=Ru.Ez (P:=PW) (w:=w) (base:=base) (mg:=mg) g B M uN d qF8 Va qCF vY c i;have G67:=qLZ 4;have G68:=ap (V4 F68 ⟨G2,b2,k2,m2⟩ ⟨(G1.mono (show 1<=2 by decide)),b1,F1.kp,m1⟩);have G69:=ap (Ln F69 Cv qAQ qAZ qAW ⟨(G67.mono (show 4<=9 by decide)),B,g.kp,M⟩ mC2 mC3 mC4 mC5 mC6 mC7 mC8 mC9 uN Gf (Ml w.params) (Gy w.params) (Mm w.params) (Bg w.params) (fV2 w.params) (fV1 w.params) (fV3 w.params));have G70:=ap (Qg Y Cv qFD (qJF.mono (show 1<=4 by decide)) qIQ qFC (qJE.mono (show 2<=4 by decide)) qIP ⟨G67,B,g.kp,M⟩ d);exact qC4 (m':=27) F71 Cv qLY qJH qIS mC1 qFE (qJG.mono (show 1<=28 by decide)) qIR qAQ (qAZ.mono (show 9<=28 by decide)) qAW ⟨(G66.mono (show 5<=28 by decide)),b66,E.kp,m66⟩ ⟨(G56.mono (show 8<=28 by decide)),b56,m.kp,m56⟩ ⟨(G57.mono (show 8<=28 by decide)),b57,p.kp,m57⟩ ⟨(G67.mono (show 4<=28 by decide)),B,g.kp,M⟩ ⟨(G70.mono (show 5<=28 by decide)),b70,Y.kp,m70⟩ ⟨(G2.mono (show 2<=28 by decide)),b2,k2,m2⟩ ⟨(G68.mono (show 3<=28 by decide)),b68,F68.kp,m68⟩ ⟨(G69.mono (show 10<=28 by decide)),b69,F69.kp,m69⟩ Va c qAK i
def walk:PySem.W.WalkO QV LS (PySem.W.XL QV []) HK.says PySem.Challenge.rw_nesthall_k30_a_nest_keeps_its_stand.row.toRowW Mu [] (fun f vs=>PySem.call f vs):=by
 refine L2.Xz (l:=PySem.Challenge.rw_nesthall_k30_a_nest_keeps_its_stand) (n:=63) (k:=29) (x := "_law_script") (K:=KO) (CX:=fun _=>aN) (sp:=fun w=>Tg (KO w.params)) rfl (by decide) rfl ⟨rfl,by decide,by decide⟩ (fun w h Y=>Y) ?_ (fun _ _ a ns H _ t=>⟨a,ns,rfl,t,H,fun _=>rfl⟩) fun _ _ _ _ _ z=>z;intro w _ _ h Z G g;have e:=g.symm.trans (cE Z G (a71 w.params))
 cases e
 exact⟨ZX,fun s v=>.of_eq rfl,fun _ _ _=>law_ok Z G⟩
end wH
open PySem PySem.W PyProof.Rows
theorem PySem.Challenge.cw_nesthall_k30_a_nest_keeps_its_stand_holds : PySem.Challenge.rw_nesthall_k30_a_nest_keeps_its_stand.Holds := by
 refine holds_law wH.said fun said=>?_;refine PySem.W.holds_open (r:=PySem.Challenge.rw_nesthall_k30_a_nest_keeps_its_stand.row) wH.left wH.HK.of wH.HK.keeps
  (fun s e=>xl_of s (dP.mp e).1) XL.keeps wH.hdef wH.hthe wH.hkw
  (fun s e=>recFacts_of (dP.mp e).2) rfl said wH.hok wH.hbare ?hw wH.walk
 case hw=>w_witness2
